/-
  The contract of Keys of package lru: the keys, the first one first, in new memory.
-/
import Derived.Test.YthnmnohhhakjbaaIOps
import Derived.Test.YthnmnohhhakjbaaPure2
import Derived.Deep.LoopGhost
namespace Go.Proofs.Ythnmnohhhakjbaa.I
open Go.RowKit Go.Maps

theorem infoKT : (Try.prog.info? 3).map (fun i => (i.zero, i.size, i.bytes)) = some (some ((Value.int .i64) (0 : Int)), 1, 8) := by kernel_rfl

theorem MapIs.le {w : World} {m N n : Nat} {M : Int → Nat} (h : MapIs w m N n M) : n ≤ N := by
  obtain ⟨D, c, h1, h2, h3, _⟩ := h
  have := h2.size_le
  omega

theorem Lst.At.le {l : Lst} {w : World} {ks : List Int} {N : Nat} (h : l.At w ks N) : ks.length ≤ N := by
  obtain ⟨b, rest⟩ := l
  cases rest with
  | none => rw [h.2]; simp
  | some r =>
    obtain ⟨P, sp, M, ix, fr, h1, h2, h3⟩ := h
    exact h2.le

theorem below_append {base : Nat} {e : TypeId} {size : Nat} {wr w2 : World} {o : Obj} {v : Value} {n : Nat} {xs : List Value} (hrow : wr.ownsRow base e size v n xs) (hB : base ≤ wr.heap.size) (hg : (wr.alloc o).grownBy w2 v.ownBlock) : Below base wr w2 := by
  refine ((Below.refl base wr).alloc hB o).trans ⟨hg.os, hg.tape, hg.output, hg.size, fun i hi => hg.block i (by simp; omega) ?_⟩
  intro e
  have := (hrow.lt i e.symm).1
  omega

def sliceLen : Value → Nat
  | .slice _ n _ => n
  | _ => 0
theorem sliceLen_of {w : World} {base : Nat} {e : TypeId} {size : Nat} {v : Value} {n : Nat} {xs : List Value} (h : w.ownsRow base e size v n xs) : sliceLen v = n := by
  rcases h.2 with ⟨rfl, rfl⟩ | ⟨g, cap, cur, rfl, _⟩
  · rfl
  · rfl
theorem take_snoc {α : Type} {l : List α} {j : Nat} {x : α} (h : l[j]? = some x) : l.take (j + 1) = l.take j ++ [x] := by
  obtain ⟨h1, rfl⟩ := List.getElem?_eq_some_iff.1 h
  exact List.take_succ_eq_append_getElem h1

set_option maxHeartbeats 2000000 in
theorem keys_any (l : Lst) (w : World) (ks : List Int) (N : Nat) (h : l.At w ks N) (hN : N < 1000) :
    Calls Try.prog 16 #[.pointer (some ⟨l.b, 0, none⟩)] w fun e w' => ∃ v, e = .returned v ∧ w'.ownsRow w.heap.size 3 1 v ks.length (ks.map (Value.int .i64)) ∧ Below w.heap.size w w' := by
  have hlen := len_any l w ks N h
  have HL := Lib.hid hlen
  clear hlen
  obtain ⟨b, rest⟩ := l
  by_cases hks : ks = []
  · subst hks
    clear h
    go_enter Try.func16, Try.ntmps16
    go_wp2_with (go_at_call 17; refine HL.out.mono ?_; rintro e w' ⟨rfl, rfl⟩)
    go_ret
    exact ⟨_, rfl, World.ownsRow_nil _ _ _ _, Below.refl _ _⟩
  cases rest with
  | none => exact absurd h.2 hks
  | some r =>
    obtain ⟨m, g, cap⟩ := r
    obtain ⟨P, sp, M, ix, fr, hc, hm, hi, hpl, hok⟩ := h
    simp only at HL ⊢
    have hkl : ks.length ≠ 0 := fun e => hks (List.eq_nil_of_length_eq_zero e)
    have hil := hi.length
    have hixP : ks.length < 1000 := by have := hm.le; omega
    obtain ⟨⟨a0, h0, ht0⟩, hnext⟩ := hi.tail
    have hp0 : 0 < P.length := Lnk_lt _ hi.lnk 0 (by rw [← List.cons_append, List.dropLast_concat]; simp)
    obtain ⟨p0, hq0⟩ : ∃ p, P[0]? = some p := ⟨_, List.getElem?_eq_getElem hp0⟩
    have hb0 : p0.bh = a0 := by simpa [bhAt, hq0] using h0
    obtain ⟨i0, hinf, hz0, hz1, hz2⟩ := info_parts infoKT
    obtain ⟨w1, hrun, hown1, hgrow1⟩ := run_make_own (P := Try.prog) w w.heap.size 22 3 i0 _ 1 Try.underlying22 hinf hz0 hz1 .i64 .i64 ks.length (by rw [hz2]; omega) (by unfold maxLen; omega) (Nat.le_refl _)
    have k1 : KeptBut (fun _ => False) w w1 := ⟨hgrow1.os, hgrow1.tape, hgrow1.output, hgrow1.size, fun i hi _ => hgrow1.block i hi (by simp)⟩
    have hc1 := hc.kept k1 id id
    have c1 := hc1.cell1
    have d0 : w1.cell? ⟨g, 2, none⟩ = some (.int .i64 a0) := by have := (hc1.place hq0).2.2; rw [hb0] at this; simpa using this
    simp only at c1
    have hl0 : (0 : Int) < (P.length : Int) := by omega
    have hkl1 : ¬ (ks.length : Int) = 0 := by omega
    have hkl2 : ((ks.length : Int) == 0) = false := by simpa using hkl
    go_enter Try.func16, Try.ntmps16
    go_wp2_with (go_at_call 17; refine HL.out.mono ?_; rintro e w' ⟨rfl, rfl⟩)
    have HC := Lib.hid hc
    have HNX := Lib.hid hnext
    have hB1 : Below w.heap.size w w1 := ⟨hgrow1.os, hgrow1.tape, hgrow1.output, hgrow1.size, fun i hi => hgrow1.block i hi (by simp)⟩
    clear hc hc1 hm hi hok hnext h0 hq0 hb0 hrun hgrow1 k1 c1 d0 HL hpl
    go_loopw [4, 5] (fun s4 s5 wr => ∃ (j : Nat) (a : Int), s5 = .int .i64 a ∧ j ≤ ks.length ∧ Tail P ix ks j a ∧ wr.ownsRow w.heap.size 3 1 s4 j ((ks.take j).map (Value.int .i64)) ∧ Below w.heap.size w wr) (fun s4 _ _ => ks.length - sliceLen s4)
    case atStart => exact ⟨0, a0, rfl, Nat.zero_le _, ht0, by simpa using hown1, hB1⟩
    case round =>
      obtain ⟨j, a, rfl, hj, ht, hrow, hB⟩ := hrel
      rcases ht with ⟨hje, rfl⟩ | ⟨x, k, hx, hkx, rfl, hx0, hxl, hkey⟩
      · have hjk : j = ks.length := by omega
        have HR := Lib.hid hrow
        clear hrow
        go_wp2
        go_ret
        refine ⟨_, rfl, ?_, hB⟩
        have := HR.out
        rw [hjk, List.take_length] at this
        exact this
      · have hjl : j < ks.length := (List.getElem?_eq_some_iff.1 hkx).1
        obtain ⟨px, hpx⟩ : ∃ p, P[x]? = some p := ⟨_, List.getElem?_eq_getElem hxl⟩
        have hkk : px.key = k := by simpa [keyAt, hpx] using hkey
        obtain ⟨a', ha', ht'⟩ := HNX.out j x hx
        have hbb : px.bh = a' := by simpa [bhAt, hpx] using ha'
        have hcr := HC.out.kept (KeptBut.of_below hB (fun _ => False)) id id
        have c1 := hcr.cell1
        have d1 := (hcr.place hpx).1
        rw [hkk] at d1
        simp only at c1 d1
        have hxz : ¬ (x : Int) = 0 := by omega
        have hxp : (x : Int) < (P.length : Int) := by omega
        have hws := hB.size
        have HPX := Lib.hid hpx
        have HBB := Lib.hid hbb
        have HT := Lib.hid ht'
        have HKX := Lib.hid hkx
        clear hpx hbb ht' hkx hx hkey hkk ha' hcr
        go_wp2_with (at_builtin; go_must (refine wpList_append_own_at _ rfl _ _ 22 rfl w.heap.size 3 i0 ((Value.int .i64) (0 : Int)) 1 8 Try.underlying22 hinf hz0 hz1 hz2 rfl (by decide) _ _ _ rfl (hrow.alloc _) ⟨wr.heap.size, 0, none⟩ 1 1 [(Value.int .i64) k] rfl rfl (cell_one_new _ _ _) (by simp [Value.oneCell']) (by unfold maxLen; omega) (by omega) (by simp; omega) ?_; intro v' w2 hown' hgrow hnil hloc; clear hnil hloc; have hb2 := below_append hrow hws hgrow; have hB2 := hB.trans hb2; have hc2 := HC.out.kept (KeptBut.of_below hB2 (fun _ => False)) id id; have e1 := hc2.cell1; have e2 := (hc2.place HPX.out).2.2; rw [HBB.out] at e2; simp only at e1 e2; have HO := Lib.hid hown'; clear hc2 hown' hgrow hb2))
        go_roundw
        case rel =>
          refine ⟨j + 1, a', rfl, by omega, HT.out, ?_, hB2⟩
          have := HO.out
          rw [← List.map_singleton, ← List.map_append, ← take_snoc HKX.out] at this
          exact this
        case measure =>
          rw [sliceLen_of HO.out, sliceLen_of hrow]
          omega

end Go.Proofs.Ythnmnohhhakjbaa.I

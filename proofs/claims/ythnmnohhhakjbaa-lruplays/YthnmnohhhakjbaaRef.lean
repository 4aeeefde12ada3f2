/-
  The contracts of the document's own list of layer 3: Without, Has, Use, Same.
-/
import Derived.Test.YthnmnohhhakjbaaIIs
import Derived.Test.YthnmnohhhakjbaaIn
import Derived.Laws.AppendOwnNone
namespace Go.Proofs.Ythnmnohhhakjbaa
open Go.RowKit Go.Maps

theorem info3 : (Try.prog.info? 3).map (fun i => (i.zero, i.size, i.bytes)) = some (some (.int .i64 0), 1, 8) := by kernel_rfl

/-- A slice of numbers that can be read. -/
def RI (w : World) (a : Option Addr) (zs : List Int) : Prop :=
  ∀ (i : Nat) (z : Int), zs[i]? = some z → ∃ b off, a = some ⟨b, off, none⟩ ∧ b < w.heap.size ∧ w.cell? ⟨b, off + i, none⟩ = some (.int .i64 z)

theorem RI.below {w w' : World} {a : Option Addr} {zs : List Int} (h : RI w a zs) (hb : Below w.heap.size w w') : RI w' a zs := by
  intro i z hz
  obtain ⟨b, off, h1, h2, h3⟩ := h i z hz
  exact ⟨b, off, h1, Nat.lt_of_lt_of_le h2 hb.size, (hb.cell (p := ⟨b, off + i, none⟩) h2).trans h3⟩
theorem RI.of_reads {w : World} {a : Option Addr} {zs : List Int} (h : Reads w a (zs.map (Value.int .i64))) : RI w a zs := by
  intro i z hz
  obtain ⟨g, h1, h2, h3⟩ := h.row (by have := (List.getElem?_eq_some_iff.1 hz).1; simp; omega)
  exact ⟨g, 0, h1, h2, by have := h3 i (.int .i64 z) (by simp [hz]); simpa using this⟩
theorem RI.of_ints {w : World} {a : Option Addr} {zs : List Int} (h : Ints .i64 w w.heap.size a zs) : RI w a zs := h.cell

abbrev not (k : Int) : Int → Bool := fun x => decide (x ≠ k)

set_option maxHeartbeats 2000000 in
theorem without_any (a : Option Addr) (zs : List Int) (c : Nat) (k : Int) (w : World) (h : RI w a zs) (hl : zs.length ≤ 300) :
    Calls Try.prog 14 #[.slice a zs.length c, .int .i64 k] w fun e w' => ∃ v, e = .returned v ∧ w'.ownsRow w.heap.size 3 1 v (zs.filter (not k)).length ((zs.filter (not k)).map (Value.int .i64)) ∧ Below w.heap.size w w' := by
  obtain ⟨i0, hinf, hz0, hz1, hz2⟩ := info_parts info3
  have HR := Lib.hid h
  clear h
  go_enter Try.func14, Try.ntmps14
  go_wp2_with fail
  go_loopw [5, 6] (fun s5 s6 wr => ∃ (i : Nat), s6 = .int .i64 (i : Nat) ∧ i ≤ zs.length ∧ wr.ownsRow w.heap.size 3 1 s5 ((zs.take i).filter (not k)).length (((zs.take i).filter (not k)).map (Value.int .i64)) ∧ Below w.heap.size w wr) (fun _ s6 _ => zs.length - (intOf s6).toNat)
  case atStart => exact ⟨0, rfl, Nat.zero_le _, World.ownsRow_nil _ _ _ _, Below.refl _ _⟩
  case round =>
    obtain ⟨i, rfl, hi, hrow, hB⟩ := hrel
    by_cases hil : i < zs.length
    · obtain ⟨z, hz⟩ : ∃ z, zs[i]? = some z := ⟨_, List.getElem?_eq_getElem hil⟩
      obtain ⟨b, off, rfl, hbl, hc⟩ := HR.out i z hz
      have hcr := (hB.cell (p := ⟨b, off + i, none⟩) hbl).trans hc
      have hil' : (i : Int) < (zs.length : Int) := by omega
      have HTK : Hid (zs.take (i + 1) = zs.take i ++ [z]) := I.take_snoc hz
      have hfl : ((zs.take i).filter (not k)).length ≤ i := by
        refine Nat.le_trans (List.length_filter_le _ _) ?_
        rw [List.length_take]; omega
      have hws := hB.size
      clear hz hc
      by_cases hzk : z = k
      · subst hzk
        have HRW := Lib.hid hrow
        clear hrow
        go_wp2
        go_roundw
        case rel => exact ⟨i + 1, by simp, by omega, by rw [HTK.out, List.filter_append]; simpa [not] using HRW.out, hB⟩
        case measure => simp [intOf]; omega
      · have hzk1 : (z == k) = false := by simpa using hzk
        obtain ⟨F, hF⟩ : ∃ F, F = (zs.take i).filter (not k) := ⟨_, rfl⟩
        rw [← hF] at hrow hfl
        have HF := Lib.hid hF
        clear hF
        go_wp2_with (at_builtin; go_must (refine wpList_append_own_at _ rfl _ _ 22 rfl w.heap.size 3 i0 (.int .i64 0) 1 8 Try.underlying22 hinf hz0 hz1 hz2 rfl (by decide) _ _ _ rfl (hrow.alloc _) ⟨wr.heap.size, 0, none⟩ 1 1 [.int .i64 z] rfl rfl (cell_one_new _ _ _) (by simp [Value.oneCell']) (by unfold maxLen; omega) (by omega) (by simp; omega) ?_; intro v' w2 hown' hgrow hnil hloc; clear hnil hloc; have hb2 := I.below_append hrow hws hgrow; have hB2 := hB.trans hb2; have HO := Lib.hid hown'; clear hown' hgrow hb2))
        go_roundw
        case rel =>
          refine ⟨i + 1, by simp, by omega, ?_, hB2⟩
          rw [HTK.out, List.filter_append, ← HF.out]
          simpa [not, hzk] using HO.out
        case measure => simp [intOf]; omega
    · have hil' : decide ((i : Int) < (zs.length : Int)) = false := by simp; omega
      have hie : i = zs.length := by omega
      have HRW := Lib.hid hrow
      clear hrow
      go_wp2
      go_ret
      refine ⟨_, rfl, ?_, hB⟩
      have := HRW.out
      rw [hie, List.take_length] at this
      exact this

theorem without_length (zs : List Int) (k : Int) : decide ((zs.filter (not k)).length < zs.length) = decide (k ∈ zs) := by
  by_cases hk : k ∈ zs
  · rw [decide_eq_true hk]
    refine decide_eq_true ?_
    refine Nat.lt_of_le_of_ne (List.length_filter_le _ _) (fun e => ?_)
    have := List.length_filter_eq_length_iff.1 e k hk
    simp [not] at this
  · rw [decide_eq_false hk]
    refine decide_eq_false ?_
    have : zs.filter (not k) = zs := List.filter_eq_self.2 (fun x hx => by simp [not]; rintro rfl; exact hk hx)
    rw [this]
    omega

set_option maxHeartbeats 1000000 in
theorem refHas_any (a : Option Addr) (zs : List Int) (c : Nat) (k : Int) (w : World) (h : RI w a zs) (hl : zs.length ≤ 300) :
    Calls Try.prog 13 #[.slice a zs.length c, .int .i64 k] w fun e w' => e = .returned (.bool (decide (k ∈ zs))) ∧ Below w.heap.size w w' := by
  go_enter Try.func13, Try.ntmps13
  go_wp2_with fail
  refine (without_any a zs c k w h hl).mono ?_
  rintro e w1 ⟨v, rfl, hrow, hb⟩
  obtain ⟨a1, c1, rfl, _⟩ := reads_of hrow
  have e1 := without_length zs k
  obtain ⟨f, hf⟩ : ∃ f, f = (zs.filter (not k)).length := ⟨_, rfl⟩
  rw [← hf] at e1
  rw [← hf]
  have e2 : decide ((f : Int) < (zs.length : Int)) = decide (k ∈ zs) := by rw [← e1]; simp
  clear hrow
  go_wp2
  go_ret
  refine ⟨?_, hb⟩
  rw [← e1]
  rfl

set_option maxHeartbeats 2000000 in
theorem refUse_any (a : Option Addr) (zs : List Int) (c : Nat) (k : Int) (w : World) (h : RI w a zs) (hl : zs.length ≤ 300) :
    Calls Try.prog 11 #[.slice a zs.length c, .int .i64 k] w fun e w' => ∃ v, e = .returned v ∧ w'.ownsRow w.heap.size 3 1 v (k :: zs.filter (not k)).length ((k :: zs.filter (not k)).map (Value.int .i64)) ∧ Below w.heap.size w w' := by
  obtain ⟨i0, hinf, hz0, hz1, hz2⟩ := info_parts info3
  have hfl : (zs.filter (not k)).length ≤ 300 := Nat.le_trans (List.length_filter_le _ _) hl
  have hk0 : Below w.heap.size w (w.alloc (.cells #[.int .i64 k] 3)) := (Below.refl _ _).alloc (Nat.le_refl _) _
  have hr0 : (w.alloc (.cells #[.int .i64 k] 3)).ownsRow w.heap.size 3 1 (.slice (some ⟨w.heap.size, 0, none⟩) 1 1) 1 [.int .i64 k] := World.ownsRow_lit w #[.int .i64 k] 1 (Nat.le_refl _) (by unfold maxLen; omega) rfl
  have HR := Lib.hid (h.below hk0)
  have HK0 := Lib.hid hk0
  clear h hk0
  go_enter Try.func11, Try.ntmps11
  go_wp2_with fail
  refine (without_any a zs c k _ HR.out hl).mono ?_
  rintro e w1 ⟨v, rfl, hrow, hb⟩
  obtain ⟨F, hF⟩ : ∃ F, F = zs.filter (not k) := ⟨_, rfl⟩
  rw [← hF] at hrow hfl
  have HF := Lib.hid hF
  have hr1 : w1.ownsRow w.heap.size 3 1 (.slice (some ⟨w.heap.size, 0, none⟩) 1 1) 1 [.int .i64 k] := ownsRow_kept hr0 (KeptBut.of_below hb (fun _ => False)) (fun _ _ e => e)
  have HB1 : Hid (Below w.heap.size w w1) := HK0.out.trans (hb.mono HK0.out.size)
  have hsz : w.heap.size ≤ w1.heap.size := HB1.out.size
  clear hb hr0 HR hF
  have hrow0 := hrow
  rcases hrow.2 with ⟨rfl, hn⟩ | ⟨g1, c1, cur, rfl, _, _⟩
  · have hFn : F = [] := List.eq_nil_of_length_eq_zero hn
    subst hFn
    clear hrow hrow0 hn
    go_wp2_with (at_builtin; go_must (refine wpList_append_own_none rfl _ _ 22 rfl w.heap.size 3 i0 1 Try.underlying22 hinf (.slice (some ⟨w.heap.size, 0, none⟩) 1 1) _ _ rfl hr1 rfl ?_))
    go_ret
    refine ⟨_, rfl, ?_, HB1.out⟩
    rw [← HF.out]
    exact hr1
  · have hcell' : ∀ j u, (F.map (Value.int .i64))[j]? = some u → w1.cell? ((⟨g1, 0, none⟩ : Addr).add j) = some u := hrow0.cells (g := g1) rfl
    have hone : ∀ u ∈ F.map (Value.int .i64), u.oneCell' = true := by intro u hu; simp at hu; obtain ⟨x, _, rfl⟩ := hu; rfl
    have HC := Lib.hid hcell'
    have HN := Lib.hid hone
    clear hcell' hone hrow hrow0
    go_wp2_with (at_builtin; go_must (refine wpList_append_own_at _ rfl _ _ 22 rfl w.heap.size 3 i0 (.int .i64 0) 1 8 Try.underlying22 hinf hz0 hz1 hz2 rfl (by decide) (.slice (some ⟨w.heap.size, 0, none⟩) 1 1) _ _ rfl hr1 ⟨g1, 0, none⟩ F.length c1 (F.map (Value.int .i64)) rfl (by simp) HC.out HN.out (by unfold maxLen; omega) (by omega) (by omega) ?_; intro v' w2 hown' hgrow hnil hloc; clear hnil hloc; have HO := Lib.hid hown'; have HG := Lib.hid hgrow; clear hown' hgrow))
    go_ret
    refine ⟨_, rfl, ?_, ?_⟩
    · rw [← HF.out]
      have := HO.out
      rw [show 1 + F.length = (k :: F).length by simp; omega] at this
      simpa using this
    · refine HB1.out.trans ⟨HG.out.os, HG.out.tape, HG.out.output, HG.out.size, fun i hi => HG.out.block i (by omega) ?_⟩
      intro e
      simp [Value.ownBlock] at e
      omega

end Go.Proofs.Ythnmnohhhakjbaa

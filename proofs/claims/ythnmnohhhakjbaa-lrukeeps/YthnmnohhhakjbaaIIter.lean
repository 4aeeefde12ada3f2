/-
  The contracts of fromLast of package lru and of the iterator that it hands back: the keys, the last one first.
-/
import Derived.Test.YthnmnohhhakjbaaIKeys
import Derived.RangeFuncNested
import Derived.RangeFuncBound
import Derived.RangeFuncCalls
import Derived.RangeFuncLeaves
import Derived.RangeFuncFrom
import Derived.RangeFuncBox
import Derived.Shelf.Abstract
import Derived.Shelf.AbstractIn
import Derived.Shelf.RegionOpen
import Derived.OwnWalkIn
import Derived.TacticsInMore
import Derived.LoopNIn
import Derived.LoopIn
namespace Go.Proofs.Ythnmnohhhakjbaa.I
open Go.RowKit Go.Maps Go.Shelf
attribute [local go_sem] Oper.semAt_some

/-- What a round may turn: nothing below n₀, no place, no pointer to a list. -/
structure Kp (n₀ : Nat) (W W' : World) : Prop where
  below : Below n₀ W W'
  own : ∀ (k : Nat) (c : Array Value) (t : TypeId) (fz : Nat × Nat), t = 66 ∨ t = 24 → W.heap[k]? = some (.cells c t fz) → W'.heap[k]? = some (.cells c t fz)

theorem Kp.refl (n₀ : Nat) (W : World) : Kp n₀ W W := ⟨Below.refl _ _, fun _ _ _ _ _ h => h⟩
theorem Kp.trans {n₀ : Nat} {A B C : World} (h : Kp n₀ A B) (k : Kp n₀ B C) : Kp n₀ A C := ⟨h.below.trans k.below, fun i c t fz ht hi => k.own i c t fz ht (h.own i c t fz ht hi)⟩
theorem Kp.put {n₀ : Nat} {w : World} (hn : n₀ ≤ w.heap.size) (W : World) (l : Nat) (o o' : Obj) (hl : w.heap.size ≤ l) (h : W.heap[l]? = some o) (hc : o.isCells = false) (hw : o.isWalk = false) : Kp n₀ W (W.putObj l o') := by
  refine ⟨belowK_b hn W l o o' hl h hc hw, fun k c t fz _ hk => ?_⟩
  have hne : k ≠ l := by
    rintro rfl
    rw [h] at hk
    cases hk
    simp [Obj.isCells] at hc
  exact (World.putObj_heap_other hne).trans hk
theorem Kp.of_below {n₀ : Nat} {W W' : World} (h : Below W.heap.size W W') (hn : n₀ ≤ W.heap.size) : Kp n₀ W W' :=
  ⟨h.mono hn, fun k _ _ _ _ hk => (h.block k (Array.getElem?_eq_some_iff.1 hk).1).trans hk⟩
theorem Kp.alloc {n₀ : Nat} {w W : World} (h : Kp n₀ w W) (hn : n₀ ≤ W.heap.size) (o : Obj) : Kp n₀ w (W.alloc o) :=
  h.trans (Kp.of_below ((Below.refl _ _).alloc (Nat.le_refl _) _) hn)

/-- A key that can be one. -/
abbrev KK : Type := { k : Int // kok k }

theorem lift_keys : ∀ (l : List Int), (∀ k ∈ l, kok k) → ∃ lα : List KK, lα.map Subtype.val = l
  | [], _ => ⟨[], rfl⟩
  | x :: r, h => by
    obtain ⟨lα, e⟩ := lift_keys r (fun k hk => h k (by simp [hk]))
    exact ⟨⟨x, h x (by simp)⟩ :: lα, by simp [e]⟩

theorem cell_of_block {W : World} {b : Nat} {v : Value} {t : TypeId} (h : W.heap[b]? = some (.cells #[v] t (0, 0))) : W.cell? ⟨b, 0, none⟩ = some v ∧ W.frozen? ⟨b, 0, none⟩ = false :=
  ⟨by simp [World.cell?, h], by simp [World.frozen?, h]⟩

theorem KeptBut.of_kp {n₀ : Nat} {W W' : World} (h : Kp n₀ W W') : KeptBut (fun i => n₀ ≤ i) W W' :=
  ⟨h.below.os, h.below.tape, h.below.output, h.below.size, fun i _ hn => h.below.block i (by omega)⟩

set_option maxRecDepth 100000 in
set_option maxHeartbeats 4000000 in
theorem from1_made (n : Nat) (hn : 1 ≤ n) (l Bs n₀ b m g cap N : Nat) (ks : List Int) (P : List (Pl Int)) (sp : Int) (M : Int → Nat) (ix fr : List Nat) (hks : ks ≠ []) (hN : N < 1000) (hbn : b < n₀) (hgn : g < n₀)
    (kα : List KK) (hα : kα.map Subtype.val = ks.reverse) (J Jx : List KK → World → Prop) (B0 : Nat) (hJ : AbidesFrom B0 J)
    (hY : ∀ pre x W, J pre W → pre.length < ks.length → YieldAt Fence.wide (n - 1) Try.prog l #[(Value.int .i64) x.1] W fun e W' =>
      (e = .returned (.bool true) ∧ J (pre ++ [x]) W' ∧ Kp n₀ W W') ∨ (e = .returned (.bool false) ∧ Jx (pre ++ [x]) W'))
    (W : World) (hBs : W.heap[Bs]? = some (.cells #[.pointer (some ⟨b, 0, none⟩)] 24 (0, 0))) (hc : Loc.Cells ⟨b, m, g, cap⟩ W P sp) (hm : MapIs W m N ks.length M) (hi : Inv P sp ks M ix fr) (hW : n₀ ≤ W.heap.size) (h0 : J [] W) :
    CallsIn Fence.wide n Try.prog 56 #[.func (.yield l) #[] #[], .pointer (some ⟨Bs, 0, none⟩)] W fun e W' => (∃ v, e = .returned v) ∧
      ((∃ ys, ys = kα ∧ J ys W') ∨ (∃ pre, pre <+: kα ∧ Jx pre W')) := by
  have hlen : ks.length ≤ N := hm.le
  have hkl : ks.length ≠ 0 := fun e => hks (List.eq_nil_of_length_eq_zero e)
  have hil := hi.length
  have hαl : kα.length = ks.length := by have := congrArg List.length hα; simpa using this
  have hlm := len_made b m N ks.length M W hc.cell0 hm
  obtain ⟨⟨a0, h0a, ht0⟩, hnext⟩ := hi.tailA
  have hp0 : 0 < P.length := Lnk_lt _ hi.lnk 0 (by rw [← List.cons_append, List.dropLast_concat]; simp)
  obtain ⟨p0, hq0⟩ : ∃ p, P[0]? = some p := ⟨_, List.getElem?_eq_getElem hp0⟩
  have hb0 : p0.ah = a0 := by simpa [ahAt, hq0] using h0a
  have c1 := hc.cell1
  have d0 : W.cell? ⟨g, 1, none⟩ = some (.int .i64 a0) := by have := (hc.place hq0).2.1; rw [hb0] at this; simpa using this
  simp only at c1
  have hl0 : (0 : Int) < (P.length : Int) := by omega
  have hkl1 : ¬ (ks.length : Int) = 0 := by omega
  have hkl2 : ((ks.length : Int) == 0) = false := by simpa using hkl
  have hcb := (cell_of_block hBs).1
  have HB := Lib.hid hBs
  have HC := Lib.hid hc
  have HNX := Lib.hid hnext
  have HLM := Lib.hid hlm
  clear hc hm hi hnext h0a hq0 hb0 hBs hlm hks
  have hfl : Fence.wide.fn 17 := trivial
  refine callsIn_of_wp Try.func56 rfl trivial ?_ rfl
  simp only [Try.ntmps56, List.size_toArray, List.length_cons, List.length_nil, Nat.reduceAdd, Nat.reduceSub, Array.replicate_succ, Array.replicate_zero, List.push_toArray, List.append_toArray, List.nil_append, List.cons_append]
  gi_wp2_with (gi_at_call 17; refine (callsIn_wide.2 HLM.out).mono ?_; rintro e w' ⟨rfl, rfl⟩)
  gi_loopw [4, 18] (fun s4 s18 wr => ∃ (j : Nat) (a : Int), s4 = .int .i64 a ∧ s18 = .int .i64 (j : Nat) ∧ j ≤ ks.length ∧ Tail P ix.reverse ks.reverse j a ∧ J (kα.take j) wr ∧ Kp n₀ W wr) (fun _ s18 _ => ks.length - (intOf s18).toNat)
  case atStart => exact ⟨0, a0, rfl, rfl, Nat.zero_le _, ht0, by simpa using h0, Kp.refl _ _⟩
  case round =>
    obtain ⟨j, a, rfl, rfl, hj, ht, hJj, hK⟩ := hrel
    by_cases hlt : j < ks.length
    · rcases ht with ⟨hje, rfl⟩ | ⟨x, k, hx, hkx, rfl, hx0, hxl, hkey⟩
      · simp at hje
        omega
      · obtain ⟨y, hy1, rfl⟩ : ∃ y : KK, kα[j]? = some y ∧ y.1 = k := by
          rw [← hα, List.getElem?_map] at hkx
          exact Option.map_eq_some_iff.1 hkx
        obtain ⟨px, hpx⟩ : ∃ p, P[x]? = some p := ⟨_, List.getElem?_eq_getElem hxl⟩
        have hkk : px.key = y.1 := by simpa [keyAt, hpx] using hkey
        obtain ⟨a', ha', ht'⟩ := HNX.out j x hx
        have hbb : px.ah = a' := by simpa [ahAt, hpx] using ha'
        have ha1 : ¬ a' = -1 := by
          rcases ht' with ⟨_, rfl⟩ | ⟨_, _, _, _, rfl, _⟩ <;> omega
        have hcr := HC.out.kept (KeptBut.of_kp hK) (by simp; omega) (by simp; omega)
        have c1 := hcr.cell1
        obtain ⟨d1, d2, d3⟩ := hcr.place hpx
        rw [hkk] at d1
        rw [hbb] at d2
        simp only at c1 d1 d2 d3
        have hcb := (cell_of_block (hK.own Bs _ _ _ (.inr rfl) HB.out)).1
        have hxz : ¬ (x : Int) = 0 := by omega
        have hxp : (x : Int) < (P.length : Int) := by omega
        have hxz2 : ((x : Int) == 0) = false := by simpa using hx0
        have ha2 : (a' == -1) = false := by simpa using ha1
        have hwr : n₀ ≤ wr.heap.size := Nat.le_trans hW hK.below.size
        have htk : kα.take (j + 1) = kα.take j ++ [y] := take_snoc hy1
        have hJ1 : J (kα.take j) (wr.alloc (.cells #[(Value.int .i64) y.1, .int .i64 a', .int .i64 px.bh] 66)) := hJ _ _ _ none hJj (World.grownBy_alloc _ _ none) (by simp)
        obtain ⟨fn, tmps, assign, body, hy, hR⟩ := hY _ y _ hJ1 (by rw [List.length_take]; omega)
        have HT := Lib.hid ht'
        have HTK := Lib.hid htk
        have HR := Lib.hid hR
        clear ht' htk hpx hkk hbb hcr hkx hx hkey ha' hJ1 hR hy1
        gi_wp2
        refine HR.out.mono ?_
        rintro e W3 (⟨rfl, hJ3, hk3⟩ | ⟨rfl, hJx3⟩)
        · have hp3 := hk3.own wr.heap.size _ _ _ (.inl rfl) (heap_alloc_new wr (.cells #[(Value.int .i64) y.1, .int .i64 a', .int .i64 px.bh] 66))
          have u1 : W3.cell? ⟨wr.heap.size, 1, none⟩ = some (.int .i64 a') := by simp [World.cell?, hp3]
          have HK3 := Lib.hid ((hK.alloc hwr (.cells #[(Value.int .i64) y.1, .int .i64 a', .int .i64 px.bh] 66)).trans hk3)
          clear hp3 hk3
          gi_wp2
          go_roundw
          case rel => exact ⟨j + 1, a', rfl, by simp, by omega, HT.out, by rw [HTK.out]; exact hJ3, HK3.out⟩
          case measure => simp [intOf]; omega
        · gi_wp2
          refine bodyPost_ret (results_none rfl _ _ _) rfl ?_
          exact ⟨⟨_, rfl⟩, .inr ⟨_, by rw [← HTK.out]; exact List.take_prefix _ _, hJx3⟩⟩
    · obtain rfl : j = ks.length := by omega
      gi_wp2
      go_end0
      refine ⟨⟨_, rfl⟩, .inl ⟨_, ?_, hJj⟩⟩
      rw [List.take_of_length_le (by omega)]

set_option maxRecDepth 100000 in
set_option maxHeartbeats 4000000 in
theorem from1_empty (n : Nat) (hn : 1 ≤ n) (l Bs : Nat) (p : Option Addr) (J : List KK → World → Prop) (W : World) (hBs : W.cell? ⟨Bs, 0, none⟩ = some (.pointer p)) (hlm : Calls Try.prog 17 #[.pointer p] W fun e w' => e = .returned (.int .i64 0) ∧ W = w') (h0 : J [] W) :
    CallsIn Fence.wide n Try.prog 56 #[.func (.yield l) #[] #[], .pointer (some ⟨Bs, 0, none⟩)] W fun e W' => (∃ v, e = .returned v) ∧ J [] W' := by
  have HLM := Lib.hid hlm
  clear hlm
  have hfl : Fence.wide.fn 17 := trivial
  refine callsIn_of_wp Try.func56 rfl trivial ?_ rfl
  simp only [Try.ntmps56, List.size_toArray, List.length_cons, List.length_nil, Nat.reduceAdd, Nat.reduceSub, Array.replicate_succ, Array.replicate_zero, List.push_toArray, List.append_toArray, List.nil_append, List.cons_append]
  gi_wp2_with (gi_at_call 17; refine (callsIn_wide.2 HLM.out).mono ?_; rintro e w' ⟨rfl, rfl⟩)
  refine bodyPost_ret (results_none rfl _ _ _) rfl ?_
  exact ⟨⟨_, rfl⟩, h0⟩

theorem from_in (n : Nat) (p : Option Addr) (w : World) :
    CallsIn Fence.wide n Try.prog 43 #[.pointer p] w fun e w' => e = .returned (.func (.func 56) #[] #[.pointer (some ⟨w.heap.size, 0, none⟩)]) ∧ w' = w.alloc (.cells #[.pointer p] 24) := by
  refine callsIn_of_wp Try.func43 rfl trivial ?_ rfl
  simp only [Try.ntmps43, List.size_toArray, List.length_cons, List.length_nil, Nat.reduceAdd, Nat.reduceSub, Array.replicate_succ, Array.replicate_zero, List.push_toArray, List.append_toArray, List.nil_append, List.cons_append]
  gi_wp2
  go_ret
  exact ⟨rfl, rfl⟩

/-- Nobody, or a list whose memory lies below n₀. -/
def Seen (n₀ : Nat) (W : World) (p : Option Addr) (ks : List Int) : Prop := (p = none ∧ ks = []) ∨ ∃ (l : Lst) (N : Nat), p = some ⟨l.b, 0, none⟩ ∧ N < 1000 ∧ l.At W ks N ∧ ∀ i, l.foot i → i < n₀
theorem Seen.below {n₀ : Nat} {p : Option Addr} {A B : World} {ks : List Int} (h : Below n₀ A B) (hr : Seen n₀ A p ks) : Seen n₀ B p ks := by
  rcases hr with hr | ⟨l, N, h1, h2, h3, h4⟩
  · exact .inl hr
  · refine .inr ⟨l, N, h1, h2, h3.kept (S := fun i => n₀ ≤ i) ⟨h.os, h.tape, h.output, h.size, fun i _ hn => h.block i (by omega)⟩ (fun i hi => ?_), h4⟩
    have := h4 i hi
    omega

theorem from_stops (n : Nat) (hn : 1 ≤ n) (Bs n₀ : Nat) (p : Option Addr) (ks : List Int) (kα : List KK) (hα : kα.map Subtype.val = ks.reverse) (w : World) (hBs : w.heap[Bs]? = some (.cells #[.pointer p] 24 (0, 0))) (hn₀ : n₀ ≤ w.heap.size) (hr : Seen n₀ w p ks) :
    SeqStopsK Fence.wide n Try.prog 56 #[.pointer (some ⟨Bs, 0, none⟩)] (fun x : KK => #[(Value.int .i64) x.1]) (Kp n₀) (fun ys => ys = kα) (fun pre => pre <+: kα) ks.length w := fun l J Jx W hW hJ _ hY h0 => by
  have hlt : Bs < w.heap.size := (Array.getElem?_eq_some_iff.1 hBs).1
  have hBs' := (hW.block Bs hlt).trans hBs
  have hc := (cell_of_block hBs').1
  rcases Seen.below (hW.mono hn₀) hr with ⟨rfl, rfl⟩ | ⟨ls, N, rfl, h2, h3, h4⟩
  · exact (from1_empty n hn l Bs none J W hc (len_nil W) h0).mono fun e W' ⟨he, hj⟩ => ⟨he, .inl ⟨_, (List.map_eq_nil_iff.1 hα).symm, hj⟩⟩
  · by_cases hks : ks = []
    · subst hks
      exact (from1_empty n hn l Bs _ J W hc (len_any ls W [] N h3) h0).mono fun e W' ⟨he, hj⟩ => ⟨he, .inl ⟨_, (List.map_eq_nil_iff.1 hα).symm, hj⟩⟩
    · obtain ⟨b, rest⟩ := ls
      cases rest with
      | none => exact absurd h3.2 hks
      | some r =>
        obtain ⟨m, g, cap⟩ := r
        obtain ⟨P, sp, M, ix, fr, hcc, hm, hi, hpl, hok⟩ := h3
        exact from1_made n hn l Bs n₀ b m g cap N ks P sp M ix fr hks h2 (h4 b (.inl rfl)) (h4 g (.inr ⟨m, g, cap, rfl, .inr rfl⟩)) kα hα J Jx W.heap.size hJ hY W hBs' hcc hm hi (Nat.le_trans hn₀ hW.size) h0

end Go.Proofs.Ythnmnohhhakjbaa.I

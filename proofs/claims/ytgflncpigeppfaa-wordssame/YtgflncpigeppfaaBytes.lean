/-
  The contract of (*Table).Bytes: the sum of the texts' bytes, told one by one by the iterator inside.
-/
import Derived.Test.YtgflncpigeppfaaAlive
import Derived.RangeFuncNested
import Derived.RangeFuncBound
import Derived.RangeFuncCalls
import Derived.RangeFuncLeaves
import Derived.RangeFuncFrom
import Derived.RangeFuncBox
import Derived.Shelf.Abstract
import Derived.Shelf.RegionOpen
import Derived.OwnWalkIn
import Derived.TacticsInMore
import Derived.LoopNIn
import Derived.LoopIn
namespace Go.Proofs.Ytgflncpigeppfaa
open Go.RowKit Go.Shelf
attribute [local go_sem] Oper.semAt_some

theorem cell_of_block {W : World} {b : Nat} {v : Value} {t : TypeId} (h : W.heap[b]? = some (.cells #[v] t (0, 0))) : W.cell? ⟨b, 0, none⟩ = some v ∧ W.frozen? ⟨b, 0, none⟩ = false :=
  ⟨by simp [World.cell?, h], by simp [World.frozen?, h]⟩
theorem cell_new_b (W : World) (v : Value) (t : TypeId) : (W.alloc (.cells #[v] t)).cell? ⟨W.heap.size, 0, none⟩ = some v ∧ (W.alloc (.cells #[v] t)).frozen? ⟨W.heap.size, 0, none⟩ = false :=
  cell_of_block (heap_alloc_new W _)
theorem cell_alloc_b {W : World} {a : Addr} {v : Value} (o : Obj) (h : W.cell? a = some v) : (W.alloc o).cell? a = some v := cell_kept h (World.grownBy_alloc W o none) (fun r e => by cases e)
theorem frozen_alloc_b {W : World} {a : Addr} {v : Value} (o : Obj) (h : W.cell? a = some v) (hf : W.frozen? a = false) : (W.alloc o).frozen? a = false := (frozen_kept h (World.grownBy_alloc W o none) (fun r e => by cases e)).trans hf

/-- The sum as Go reckons it. -/
def sumW (L : List ByteArray) : Int := L.foldl (fun a s => wrap64 (a + (s.size : Int))) 0
theorem sumW_snoc (L : List ByteArray) (s : ByteArray) : sumW (L ++ [s]) = wrap64 (sumW L + (s.size : Int)) := by simp [sumW]

/-- What the iterator reads: the row that the table leads to. -/
def Row (n₀ : Nat) (W : World) (b : Nat) (L : List ByteArray) : Prop :=
  b < n₀ ∧ ((W.cell? ⟨b, 1, none⟩ = some (.slice none 0 0) ∧ L = []) ∨
    ∃ g cap, W.cell? ⟨b, 1, none⟩ = some (.slice (some ⟨g, 0, none⟩) L.length cap) ∧ g < n₀ ∧ ∀ (i : Nat) (s : ByteArray), L[i]? = some s → W.cell? ⟨g, i, none⟩ = some (.string s))
theorem Row.below {n₀ b : Nat} {A B : World} {L : List ByteArray} (h : Below n₀ A B) (hr : Row n₀ A b L) : Row n₀ B b L := by
  obtain ⟨hb, hr⟩ := hr
  refine ⟨hb, ?_⟩
  rw [h.cell (p := ⟨b, 1, none⟩) hb]
  rcases hr with hr | ⟨g, cap, h1, h2, h3⟩
  · exact .inl hr
  · exact .inr ⟨g, cap, h1, h2, fun i s hs => (h.cell (p := ⟨g, i, none⟩) h2).trans (h3 i s hs)⟩
theorem Tab.At.toRow {τ : Tab} {w : World} {L : List ByteArray} (h : τ.At w L) : Row w.heap.size w τ.b L := by
  refine ⟨h.lt _ (.inl rfl), ?_⟩
  rcases row_cases h with ⟨hv, hL⟩ | ⟨g, cap, hv, _, _, hc⟩
  · exact .inl ⟨by rw [cell1 h, hv], hL⟩
  · exact .inr ⟨g, cap, by rw [cell1 h, hv], h.lt g (.inr (.inr (by rw [hv]; rfl))), hc⟩

set_option maxRecDepth 100000 in
set_option maxHeartbeats 2000000 in
theorem each1_in (F : Fence) (n : Nat) (h19 : F.fn 19) (hro : F.round = none) (hn : 1 ≤ n) (l Bs n₀ b : Nat) (L : List ByteArray) (hreach : L.length < 1000) (J Jx : List ByteArray → World → Prop)
    (hY : ∀ pre x W, J pre W → pre.length < L.length → YieldAt F (n - 1) Try.prog l #[.string x] W fun e W' =>
      (e = .returned (.bool true) ∧ J (pre ++ [x]) W' ∧ Below n₀ W W') ∨ (e = .returned (.bool false) ∧ Jx (pre ++ [x]) W'))
    (W : World) (hBs : W.cell? ⟨Bs, 0, none⟩ = some (.pointer (some ⟨b, 0, none⟩))) (hr : Row n₀ W b L) (h0 : J [] W) :
    CallsIn F n Try.prog 19 #[.func (.yield l) #[] #[], .pointer (some ⟨Bs, 0, none⟩)] W fun e W' => (∃ v, e = .returned v) ∧
      ((∃ ys, ys = L ∧ J ys W') ∨ (∃ pre, pre <+: L ∧ Jx pre W')) := by
  obtain ⟨hb, hr⟩ := hr
  rcases hr with ⟨hc1, rfl⟩ | ⟨g, cap, hc1, hg, hcs⟩
  · refine callsIn_of_wp Try.func19 rfl h19 ?_ hro
    simp only [Try.ntmps19, List.size_toArray, List.length_cons, List.length_nil, Nat.reduceAdd, Nat.reduceSub, Array.replicate_succ, Array.replicate_zero, List.push_toArray, List.append_toArray, List.nil_append, List.cons_append]
    gi_wp2
    gi_loopw [12] (fun i wr => i = .int .i64 0 ∧ J [] wr) (fun _ _ => 0)
    case atStart => exact ⟨rfl, h0⟩
    case round =>
      obtain ⟨rfl, hJs⟩ := hrel
      gi_wp2
      go_end0
      exact ⟨⟨_, rfl⟩, .inl ⟨[], rfl, hJs⟩⟩
  · have HC := Lib.hid hcs
    clear hcs
    refine callsIn_of_wp Try.func19 rfl h19 ?_ hro
    simp only [Try.ntmps19, List.size_toArray, List.length_cons, List.length_nil, Nat.reduceAdd, Nat.reduceSub, Array.replicate_succ, Array.replicate_zero, List.push_toArray, List.append_toArray, List.nil_append, List.cons_append]
    gi_wp2
    gi_loopw [12] (fun i wr => ∃ k : Nat, k ≤ L.length ∧ i = .int .i64 k ∧ J (L.take k) wr ∧ Below n₀ W wr) (fun i _ => L.length - (intOf i).toNat)
    case atStart => exact ⟨0, Nat.zero_le _, rfl, h0, Below.refl _ _⟩
    case round =>
      obtain ⟨k, hk, rfl, hJs, hnx⟩ := hrel
      by_cases hlt : k < L.length
      · obtain ⟨x, hx⟩ : ∃ x, L[k]? = some x := ⟨_, List.getElem?_eq_getElem hlt⟩
        have hcx := (hnx.cell (p := ⟨g, k, none⟩) hg).trans (HC.out k x hx)
        have ht : L.take (k + 1) = L.take k ++ [x] := by
          obtain ⟨h1, rfl⟩ := List.getElem?_eq_some_iff.1 hx
          exact List.take_succ_eq_append_getElem h1
        have HT := Lib.hid ht
        clear ht hx
        obtain ⟨fn, tmps, assign, body, hy, hR⟩ := hY _ x wr hJs (by rw [List.length_take]; omega)
        gi_wp2
        refine hR.mono ?_
        rintro e W3 (⟨rfl, hJ3, hk3⟩ | ⟨rfl, hJx3⟩)
        · gi_wp2
          go_roundw
          case rel => exact ⟨k + 1, by omega, by simp, by rw [HT.out]; exact hJ3, hnx.trans hk3⟩
          case measure => simp [intOf]; omega
        · gi_wp2
          refine bodyPost_ret (results_none rfl _ _ _) rfl ?_
          exact ⟨⟨_, rfl⟩, .inr ⟨_, by rw [← HT.out]; exact List.take_prefix _ _, hJx3⟩⟩
      · obtain rfl : k = L.length := by omega
        gi_wp2
        go_end0
        exact ⟨⟨_, rfl⟩, .inl ⟨_, List.take_length, hJs⟩⟩

theorem each_in (F : Fence) (n : Nat) (h17 : F.fn 17) (hro : F.round = none) (p : Option Addr) (w : World) :
    CallsIn F n Try.prog 17 #[.pointer p] w fun e w' => e = .returned (.func (.func 19) #[] #[.pointer (some ⟨w.heap.size, 0, none⟩)]) ∧ w' = w.alloc (.cells #[.pointer p] 24) := by
  refine callsIn_of_wp Try.func17 rfl h17 ?_ hro
  simp only [Try.ntmps17, List.size_toArray, List.length_cons, List.length_nil, Nat.reduceAdd, Nat.reduceSub, Array.replicate_succ, Array.replicate_zero, List.push_toArray, List.append_toArray, List.nil_append, List.cons_append]
  gi_wp2
  go_ret
  exact ⟨rfl, rfl⟩

set_option maxRecDepth 100000 in
set_option maxHeartbeats 2000000 in
theorem each1_nil (F : Fence) (n : Nat) (h19 : F.fn 19) (hro : F.round = none) (l Bs : Nat) (J : List ByteArray → World → Prop) (W : World) (hBs : W.cell? ⟨Bs, 0, none⟩ = some (.pointer none)) (h0 : J [] W) :
    CallsIn F n Try.prog 19 #[.func (.yield l) #[] #[], .pointer (some ⟨Bs, 0, none⟩)] W fun e W' => (∃ v, e = .returned v) ∧ J [] W' := by
  refine callsIn_of_wp Try.func19 rfl h19 ?_ hro
  simp only [Try.ntmps19, List.size_toArray, List.length_cons, List.length_nil, Nat.reduceAdd, Nat.reduceSub, Array.replicate_succ, Array.replicate_zero, List.push_toArray, List.append_toArray, List.nil_append, List.cons_append]
  gi_wp2
  refine bodyPost_ret (results_none rfl _ _ _) rfl ?_
  exact ⟨⟨_, rfl⟩, h0⟩

/-- Nobody, or a table's row. -/
def RowP (n₀ : Nat) (W : World) (p : Option Addr) (L : List ByteArray) : Prop := (p = none ∧ L = []) ∨ ∃ b, p = some ⟨b, 0, none⟩ ∧ Row n₀ W b L
theorem RowP.below {n₀ : Nat} {p : Option Addr} {A B : World} {L : List ByteArray} (h : Below n₀ A B) (hr : RowP n₀ A p L) : RowP n₀ B p L := by
  rcases hr with hr | ⟨b, hb, hr⟩
  · exact .inl hr
  · exact .inr ⟨b, hb, hr.below h⟩

theorem each_stops (F : Fence) (n : Nat) (h19 : F.fn 19) (hro : F.round = none) (hn : 1 ≤ n) (Bs n₀ : Nat) (p : Option Addr) (L : List ByteArray) (hreach : L.length < 1000) (w : World) (hBs : Bs < w.heap.size) (hn₀ : n₀ ≤ w.heap.size)
    (hc : w.cell? ⟨Bs, 0, none⟩ = some (.pointer p)) (hr : RowP n₀ w p L) :
    SeqStopsK F n Try.prog 19 #[.pointer (some ⟨Bs, 0, none⟩)] (fun x : ByteArray => #[Value.string x]) (Below n₀) (fun ys => ys = L) (fun pre => pre <+: L) L.length w := fun l J Jx W hW _ _ hY h0 => by
  have hc' := (hW.cell (p := ⟨Bs, 0, none⟩) hBs).trans hc
  rcases hr with ⟨rfl, rfl⟩ | ⟨b, rfl, hr⟩
  · exact (each1_nil F n h19 hro l Bs J W hc' h0).mono fun e W' ⟨he, hj⟩ => ⟨he, .inl ⟨_, rfl, hj⟩⟩
  · exact each1_in F n h19 hro hn l Bs n₀ b L hreach J Jx hY W hc' (hr.below (hW.mono hn₀)) h0

set_option maxRecDepth 100000 in
set_option maxHeartbeats 2000000 in
theorem bytes_in (F : Fence) (n : Nat) (h15 : F.fn 15) (h17 : F.fn 17) (h19 : F.fn 19) (hro : F.round = none) (hn : 3 ≤ n) (p : Option Addr) (L : List ByteArray) (hreach : L.length < 1000) (w : World) (hr : RowP w.heap.size w p L) :
    CallsIn F n Try.prog 15 #[.pointer p] w fun e W' => e = .returned (.int .i64 (sumW L)) ∧ Below w.heap.size w W' := by
  have h1 : 1 ≤ n := by omega
  refine callsIn_of_wp_marks Try.func15 rfl h15 ?_ hro
  simp only [Try.ntmps15, List.size_toArray, List.length_cons, List.length_nil, Nat.reduceAdd, Nat.reduceSub, Array.replicate_succ, Array.replicate_zero, List.push_toArray, List.append_toArray, List.nil_append, List.cons_append]
  gi_wp2_with (gi_at_call 17; refine (each_in F (n - 1) h17 hro _ _).mono ?_; rintro e w' ⟨rfl, rfl⟩)
  have hs := cell_new_b w (.int .i64 0) 3
  have hb := cell_new_b (w.alloc (.cells #[.int .i64 0] 3)) (.pointer p) 24
  rw [World.size_alloc] at hb
  have hB0 : Below w.heap.size w ((w.alloc (.cells #[.int .i64 0] 3)).alloc (.cells #[.pointer p] 24)) := ((Below.refl _ w).alloc (Nat.le_refl _) _).alloc (by simp) _
  refine wpIn_rangeFunc_ownF hro h1 (gf := 19) (lb := #[.pointer (some ⟨w.heap.size + 1, 0, none⟩)]) rfl h19 (enters_of Try.func19 (by kernel_rfl) rfl)
    (each_stops F (n - 1) h19 hro (by omega) (w.heap.size + 1) w.heap.size p L hreach _ (by simp) (by simp; omega) hb.1 (hr.below hB0)) belowK_t (belowK_b (by simp; omega)) (Below.refl _ _) (fun _ => rfl)
    (fun pre W => (W.cell? ⟨w.heap.size, 0, none⟩ = some (.int .i64 (sumW pre)) ∧ W.frozen? ⟨w.heap.size, 0, none⟩ = false) ∧ Below w.heap.size w W)
    (fun _ _ _ => False)
    (OwnFrom.and (Own.from (fun s A B row hs hg hr => ⟨cell_kept hs.1 hg hr, (frozen_kept hs.1 hg hr).trans hs.2⟩) _) (ownFrom_below (Nat.le_refl _) (by simp; omega)))
    (fun _ _ _ _ _ hs _ _ => hs)
    ⟨⟨cell_alloc_b _ hs.1, frozen_alloc_b _ hs.1 hs.2⟩, hB0⟩
    (fun x => { tmps := #[.pointer p, undef, .int .i64 0, .pointer (some ⟨w.heap.size, 0, none⟩), .string x, .pointer p, .func (.func 19) #[] #[.pointer (some ⟨w.heap.size + 1, 0, none⟩)], .string x, undef, undef, undef, undef, undef], defers := [] }) ?assign ?body ?done ?stop
  case assign =>
    intro l x W K hK
    gi_wp2
    exact hK
  case body =>
    rintro l pre x W ⟨⟨hc, hf⟩, hB⟩ _
    gi_wp2
    exact ⟨KeepsOthers.setCell _ _ _, (Below.refl w.heap.size W).setCell (p := ⟨w.heap.size, 0, none⟩) (Nat.le_refl _) _, ⟨by rw [sumW_snoc]; exact World.cell?_setCell_same' _ _ _ (by rw [hc]; rfl), by rw [World.frozen?_setCell]; exact hf⟩, hB.setCell (p := ⟨w.heap.size, 0, none⟩) (Nat.le_refl _) _⟩
  case done =>
    rintro D ys W hD rfl ⟨⟨hc, _⟩, hB⟩ hK
    gi_wp2
    refine ⟨by simp, .inl ⟨_, _, rfl, run_takeDeferred hK, ?_⟩⟩
    exact ⟨_, results_tmp rfl _ _ _, rfl, hB.trans (belowK_b (w := w) (Nat.le_refl _) W D _ _ (by simp at hD; omega) hK rfl rfl)⟩
  case stop =>
    rintro D c pre W _ _ h _
    exact h.elim

/-- The bytes of all texts together. -/
def total (L : List ByteArray) : Nat := (L.map ByteArray.size).sum
theorem total_snoc (L : List ByteArray) (s : ByteArray) : total (L ++ [s]) = total L + s.size := by simp [total]
theorem total_le (L : List ByteArray) (h : ∀ s ∈ L, s.size ≤ 281474976710656) : total L ≤ L.length * 281474976710656 := by
  induction L with
  | nil => simp [total]
  | cons s r ih =>
    have h1 := ih (fun x hx => h x (by simp [hx]))
    have h2 := h s (by simp)
    simp only [total, List.map_cons, List.sum_cons, List.length_cons] at h1 ⊢
    omega

theorem sumW_go : ∀ (L : List ByteArray) (a : Nat), (∀ s ∈ L, s.size ≤ 281474976710656) → a + L.length * 281474976710656 ≤ 9223372036854775807 → L.foldl (fun a s => wrap64 (a + (s.size : Int))) (a : Int) = ((a + total L : Nat) : Int)
  | [], a, _, _ => by simp [total]
  | s :: r, a, h, hb => by
    have hs := h s (by simp)
    simp only [List.length_cons] at hb
    have e : wrap64 ((a : Int) + (s.size : Int)) = ((a + s.size : Nat) : Int) := by
      rw [show (a : Int) + (s.size : Int) = ((a + s.size : Nat) : Int) by simp]
      exact IntWalk.wrap64_in _ (by omega)
    rw [List.foldl_cons, e, sumW_go r (a + s.size) (fun x hx => h x (by simp [hx])) (by omega)]
    simp [total, Nat.add_assoc]

theorem sumW_eq (L : List ByteArray) (h : ∀ s ∈ L, s.size ≤ 281474976710656) (hl : L.length < 1000) : sumW L = (total L : Nat) := by
  have := sumW_go L 0 h (by omega)
  simpa [sumW] using this

/-- Bytes of a table. -/
theorem bytes_any (τ : Tab) (L : List ByteArray) (w : World) (h : τ.At w L) (hl : L.length < 1000) (hs : ∀ s ∈ L, s.size ≤ 281474976710656) :
    Calls Try.prog 15 #[.pointer (some ⟨τ.b, 0, none⟩)] w fun e w' => e = .returned (.int .i64 (total L : Nat)) ∧ Below w.heap.size w w' := by
  rw [← sumW_eq L hs hl]
  exact callsIn_wide.1 (bytes_in Fence.wide 3 trivial trivial trivial rfl (by omega) _ L hl w (.inr ⟨_, rfl, h.toRow⟩))

theorem bytes_nil (w : World) : Calls Try.prog 15 #[.pointer none] w fun e w' => e = .returned (.int .i64 0) ∧ Below w.heap.size w w' :=
  callsIn_wide.1 (bytes_in Fence.wide 3 trivial trivial trivial rfl (by omega) _ [] (by simp) w (.inl ⟨rfl, rfl⟩))

/-- A table stays what it is while nothing that was there turns. -/
theorem IsTab.below {B b : Nat} {w w' : World} {L : List ByteArray} (h : IsTab B b w L) (hb : Below w.heap.size w w') : IsTab B b w' L := by
  obtain ⟨τ, h1, h2, h3⟩ := h
  exact ⟨τ, h1, h2.kept (KeptBut.of_below hb (fun _ => False)) (fun _ _ e => e), h3⟩

theorem bytes_tab (B b : Nat) (L : List ByteArray) (w : World) (h : IsTab B b w L) (hl : L.length < 1000) (hs : ∀ s ∈ L, s.size ≤ 281474976710656) :
    Calls Try.prog 15 #[.pointer (some ⟨b, 0, none⟩)] w fun e w' => e = .returned (.int .i64 (total L : Nat)) ∧ Below w.heap.size w w' := by
  obtain ⟨τ, rfl, h2, h3⟩ := h
  exact bytes_any τ L w h2 hl hs

end Go.Proofs.Ytgflncpigeppfaa

/-
  The function that LruKeeps hands to LastBut: it notes each key that it is asked of, and keeps those whose bit is set.
-/
import Derived.Test.YthnmnohhhakjbaaBIs
import Derived.Test.YthnmnohhhakjbaaIn
namespace Go.Proofs.Ythnmnohhhakjbaa
open Go.RowKit Go.Maps

theorem info5 : (Try.prog.info? 5).map (fun i => (i.zero, i.size, i.bytes)) = some (some (.int .u8 0), 1, 1) := by kernel_rfl

/-- Is the bit of a key set? -/
def bit (bits x : Int) : Bool := (bits / 2 ^ min x.toNat 16).tmod 2 == 1

/-- What was asked of so far lies in a row of its own, to which the variable in block A leads; s: where LastBut's own blocks begin. -/
def Noted (A bb base s : Nat) (bits : Int) (pre : List Int) (W : World) : Prop :=
  ∃ v, W.heap[A]? = some (.cells #[v] 48 (0, 0)) ∧ W.heap[bb]? = some (.cells #[.int .u16 bits] 49 (0, 0)) ∧ W.ownsRow base 5 1 v pre.length (pre.map (Value.int .u8)) ∧ base ≤ W.heap.size ∧ ∀ g, v.ownBlock = some g → g < s ∨ s + 4 ≤ g

theorem row_cells {W : World} {base : Nat} {v : Value} {n : Nat} {xs : List Value} (h : W.ownsRow base 5 1 v n xs) : ∀ g, v.ownBlock = some g → ∃ c, W.heap[g]? = some (.cells c 5 (0, 0)) := by
  intro g hg
  rcases h.2 with ⟨rfl, _⟩ | ⟨g', cap, cur, rfl, _, hb, _⟩
  · cases hg
  · simp only [Value.ownBlock, Option.some.injEq] at hg
    subst hg
    exact ⟨cur, hb⟩

theorem Noted.own (A bb base s : Nat) (bits : Int) : Own (Noted A bb base s bits) := by
  intro pre W W' row h hg hr
  obtain ⟨v, h1, h2, h3, h4, h5⟩ := h
  refine ⟨v, B.block_kept h1 hg hr, B.block_kept h2 hg hr, h3.kept hg ?_, Nat.le_trans h4 hg.size, h5⟩
  cases hv : v.ownBlock with
  | none => exact .inl rfl
  | some g =>
    right
    intro e
    obtain ⟨c, hc⟩ := row_cells h3 g hv
    obtain ⟨o, ho, hco⟩ := hr g e.symm
    rw [hc] at ho
    cases ho
    simp [Obj.isCells] at hco

theorem Noted.set (A bb base s : Nat) (bits : Int) (hA : A < s) (hb : bb < s) : ∀ pre W i u, (i = s + 1 ∨ i = s + 2) → Noted A bb base s bits pre W → Noted A bb base s bits pre (W.setCell ⟨i, 0, none⟩ u) := by
  intro pre W i u hi h
  obtain ⟨v, h1, h2, h3, h4, h5⟩ := h
  refine ⟨v, ?_, ?_, ownsRow_setCell_other h3 (fun e => ?_) u, ?_, h5⟩
  · rw [heap_setCell_other W ⟨i, 0, none⟩ A u (by show A ≠ i; omega)]; exact h1
  · rw [heap_setCell_other W ⟨i, 0, none⟩ bb u (by show bb ≠ i; omega)]; exact h2
  · have := h5 i e
    omega
  · simpa [World.setCell] using h4

set_option maxHeartbeats 2000000 in
theorem clo_any (x bits : Int) (x0 : 0 ≤ x) (_x1 : x ≤ 255) (_b0 : 0 ≤ bits) (_b1 : bits ≤ 65535) (A bb base s n₀ : Nat) (pre : List Int) (W : World) (h : Noted A bb base s bits pre W) (hpl : pre.length < 1000) (hAn : n₀ ≤ A) (hAs : A < s) (hbn : n₀ ≤ base) (hW : s + 4 ≤ W.heap.size) (_hns : n₀ ≤ s) :
    Calls Try.prog 35 #[.int .u8 x, .pointer (some ⟨A, 0, none⟩), .pointer (some ⟨bb, 0, none⟩)] W fun e W' => e = .returned (.bool (bit bits x)) ∧ Noted A bb base s bits (pre ++ [x]) W' ∧ B.KeepFrame n₀ s W W' := by
  obtain ⟨v, hA, hbb, hrow, hbase, hg5⟩ := h
  obtain ⟨i0, hinf, hz0, hz1, hz2⟩ := info_parts info5
  obtain ⟨cA1, cA2⟩ := B.cell_of_block hA
  obtain ⟨cb1, cb2⟩ := B.cell_of_block hbb
  have hab : A ≠ bb := by
    rintro rfl
    rw [hA] at hbb
    cases hbb
  have hAv : some A ≠ v.ownBlock := by
    intro e
    obtain ⟨c, hc⟩ := row_cells hrow A e.symm
    rw [hA] at hc
    cases hc
  have hbv : some bb ≠ v.ownBlock := by
    intro e
    obtain ⟨c, hc⟩ := row_cells hrow bb e.symm
    rw [hbb] at hc
    cases hc
  have HA := Lib.hid hA
  have HBB := Lib.hid hbb
  have HG5 := Lib.hid hg5
  clear hA hbb hg5
  go_enter Try.func35, Try.ntmps35
  go_wp2_with (at_builtin; go_must (refine wpList_append_own_at _ rfl _ _ 48 rfl base 5 i0 (.int .u8 0) 1 1 Try.underlying48 hinf hz0 hz1 hz2 rfl (by decide) v _ _ rfl (hrow.alloc _) ⟨W.heap.size, 0, none⟩ 1 1 [.int .u8 x] rfl rfl (cell_one_new _ _ _) (by simp [Value.oneCell']) (by unfold maxLen; omega) (by omega) (by simp; omega) ?_; intro v' w2 hown' hgrow hnil hloc; clear hnil; have hA2 := B.block_behind HA.out hgrow hAv; have hb2 := B.block_behind HBB.out hgrow hbv; obtain ⟨q1, q2⟩ := B.cell_of_block hA2; obtain ⟨q3, q4⟩ := B.cell_of_block hb2; obtain ⟨g', cap', rfl⟩ := ownsRow_succ hown'; have HO := Lib.hid hown'; have HA2 := Lib.hid hA2; have HB2 := Lib.hid hb2; have HG := Lib.hid hgrow; have HL := Lib.hid hloc; clear hown' hA2 hb2 hgrow hloc))
  go_ret
  have hAg : A ≠ g' := by
    rintro rfl
    obtain ⟨c, hc⟩ := row_cells HO.out _ rfl
    rw [HA2.out] at hc
    cases hc
  have hgg : g' < s ∨ s + 4 ≤ g' := by
    rcases HL.out with e | e
    · exact HG5.out g' e.symm
    · simp [Value.ownBlock] at e
      omega
  have hsz2 : W.heap.size + 1 ≤ w2.heap.size := by have := HG.out.size; simpa using this
  refine ⟨rfl, ⟨.slice (some ⟨g', 0, none⟩) (pre.length + 1) cap', ?_, ?_, ?_, ?_, ?_⟩, ?_, ?_, ?_⟩
  · rw [heap_setCell_same w2 A 0 _ _ _ HA2.out]; rfl
  · rw [heap_setCell_other w2 ⟨A, 0, none⟩ bb _ (Ne.symm hab)]; exact HB2.out
  · have := ownsRow_setCell_other HO.out (a := ⟨A, 0, none⟩) (fun e => hAg (by simpa [Value.ownBlock] using e.symm)) (.slice (some ⟨g', 0, none⟩) (pre.length + 1) cap')
    simpa using this
  · simp [World.setCell]; omega
  · intro g hg
    simp only [Value.ownBlock, Option.some.injEq] at hg
    subst hg
    exact hgg
  · refine ((KeepsOthers.alloc W _).trans (KeepsOthers.of_grownBy HG.out ?_)).trans (KeepsOthers.setCell _ _ _)
    intro j o hj ho
    obtain ⟨c, hc⟩ := row_cells (hrow.alloc (.cells #[.int .u8 x] 5)) j hj
    rw [hc] at ho
    cases ho
    rfl
  · have hvb : ∀ g, v.ownBlock = some g → n₀ ≤ g := fun g hg => Nat.le_trans hbn (hrow.lt g hg).1
    have hblk : ∀ i, i < W.heap.size → some i ≠ v.ownBlock → i ≠ A → (w2.setCell ⟨A, 0, none⟩ (.slice (some ⟨g', 0, none⟩) (pre.length + 1) cap')).heap[i]? = W.heap[i]? := by
      intro i hi h1 h2
      rw [heap_setCell_other w2 ⟨A, 0, none⟩ i _ h2, HG.out.block i (by simp; omega) h1]
      exact Below.heap_alloc W _ i hi
    refine ⟨⟨HG.out.os, HG.out.tape, HG.out.output, by simp [World.setCell]; omega, fun i hi => hblk i (by omega) (fun e => ?_) (by omega)⟩, fun k c t fz ht hk => ?_⟩
    · have := hvb i e.symm
      omega
    · refine (hblk k (Array.getElem?_eq_some_iff.1 hk).1 (fun e => ?_) (fun e => ?_)).trans hk
      · obtain ⟨c', hc'⟩ := row_cells hrow k e.symm
        rw [hk] at hc'
        cases hc'
        exact absurd ht (by decide)
      · subst e
        rw [HA.out] at hk
        cases hk
        exact absurd ht (by decide)
  · intro i hi1 hi2
    rw [heap_setCell_other w2 ⟨A, 0, none⟩ i _ (by show i ≠ A; omega), HG.out.block i (by simp; omega) (fun e => ?_)]
    · exact Below.heap_alloc W _ i (by omega)
    · have := HG5.out i e.symm
      omega

end Go.Proofs.Ythnmnohhhakjbaa

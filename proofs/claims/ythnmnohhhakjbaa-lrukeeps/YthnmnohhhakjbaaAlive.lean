/-
  The third law file's 'alive': it returns true; of what was there nothing has turned.
-/
import Derived.Test.YthnmnohhhakjbaaIIs
namespace Go.Proofs.Ythnmnohhhakjbaa
open Go.RowKit Go.Maps

set_option maxHeartbeats 1000000 in
theorem alive_any (w : World) : Calls Try.prog 8 #[] w fun e w' => e = .returned (.bool true) ∧ Below w.heap.size w w' := by
  go_enter Try.func8, Try.ntmps8
  go_wp2_with fail
  refine (I.new_l _).mono ?_
  rintro e w1 ⟨rfl, h1, b1⟩
  go_wp2_with fail
  refine (I.use_l _ _ [] 0 1 _ h1 b1.size (by unfold I.kok; omega) (by omega)).mono ?_
  rintro e w2 ⟨rfl, h2, b2⟩
  have s2 : w.heap.size ≤ w2.heap.size := Nat.le_trans b1.size b2.size
  go_wp2_with fail
  refine (I.use_l _ _ _ 1 2 _ h2 s2 (by unfold I.kok; omega) (by omega)).mono ?_
  rintro e w3 ⟨rfl, h3, b3⟩
  have s3 : w.heap.size ≤ w3.heap.size := Nat.le_trans s2 b3.size
  go_wp2_with fail
  refine (I.use_l _ _ _ 2 1 _ h3 s3 (by unfold I.kok; omega) (by omega)).mono ?_
  rintro e w4 ⟨rfl, h4, b4⟩
  have s4 : w.heap.size ≤ w4.heap.size := Nat.le_trans s3 b4.size
  go_wp2_with fail
  refine (I.last_l _ _ _ _ _ h4 (by omega)).mono ?_
  rintro e w5 ⟨r, ok, rfl, hl, h5, b5⟩
  have hr : r = 2 ∧ ok = true := by
    rcases hl with ⟨rfl, hl⟩ | ⟨_, hl, _⟩
    · exact ⟨(Option.some.inj hl).symm, rfl⟩
    · cases hl
  obtain ⟨rfl, rfl⟩ := hr
  go_wp2_with fail
  refine (I.len_l _ _ _ _ _ h5).mono ?_
  rintro e w6 ⟨rfl, rfl⟩
  have e1 : ((1 :: (2 :: (1 :: ([] : List Int).erase 1).erase 2).erase 1).length : Nat) = 2 := rfl
  go_wp2
  go_ret
  refine ⟨?_, (((b1.trans b2).trans b3).trans b4).trans (b5.mono s4)⟩
  simp
end Go.Proofs.Ythnmnohhhakjbaa

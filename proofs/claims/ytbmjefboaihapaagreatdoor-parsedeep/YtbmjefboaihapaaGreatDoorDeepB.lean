/-
  The six forms of how deep parts may be, one by one, by reckoning. No walk.
-/
import Derived.Test.YtbmjefboaihapaaGreatDoorDeepA
namespace Go.Proofs.YtbmjefboaihapaaGreatDoor
set_option maxRecDepth 100000
theorem chk0_0 : (List.range' 0 15).all (deepChk 0) = true := by kernel_rfl
theorem chk0_15 : (List.range' 15 15).all (deepChk 0) = true := by kernel_rfl
theorem chk0_30 : (List.range' 30 15).all (deepChk 0) = true := by kernel_rfl
theorem chk0_45 : (List.range' 45 15).all (deepChk 0) = true := by kernel_rfl
theorem chk0_60 : (List.range' 60 15).all (deepChk 0) = true := by kernel_rfl
theorem chk0_75 : (List.range' 75 15).all (deepChk 0) = true := by kernel_rfl
theorem chk0 {k : Nat} (hk : k < 90) : deepChk 0 k = true := by
  have h : k < 15 ∨ (15 ≤ k ∧ k < 30) ∨ (30 ≤ k ∧ k < 45) ∨ (45 ≤ k ∧ k < 60) ∨ (60 ≤ k ∧ k < 75) ∨ 75 ≤ k := by omega
  rcases h with h | h | h | h | h | h
  · exact List.all_eq_true.1 chk0_0 k (by simp [List.mem_range'_1]; omega)
  · exact List.all_eq_true.1 chk0_15 k (by simp [List.mem_range'_1]; omega)
  · exact List.all_eq_true.1 chk0_30 k (by simp [List.mem_range'_1]; omega)
  · exact List.all_eq_true.1 chk0_45 k (by simp [List.mem_range'_1]; omega)
  · exact List.all_eq_true.1 chk0_60 k (by simp [List.mem_range'_1]; omega)
  · exact List.all_eq_true.1 chk0_75 k (by simp [List.mem_range'_1]; omega)
theorem chk1_0 : (List.range' 0 15).all (deepChk 1) = true := by kernel_rfl
theorem chk1_15 : (List.range' 15 15).all (deepChk 1) = true := by kernel_rfl
theorem chk1_30 : (List.range' 30 15).all (deepChk 1) = true := by kernel_rfl
theorem chk1_45 : (List.range' 45 15).all (deepChk 1) = true := by kernel_rfl
theorem chk1_60 : (List.range' 60 15).all (deepChk 1) = true := by kernel_rfl
theorem chk1_75 : (List.range' 75 15).all (deepChk 1) = true := by kernel_rfl
theorem chk1 {k : Nat} (hk : k < 90) : deepChk 1 k = true := by
  have h : k < 15 ∨ (15 ≤ k ∧ k < 30) ∨ (30 ≤ k ∧ k < 45) ∨ (45 ≤ k ∧ k < 60) ∨ (60 ≤ k ∧ k < 75) ∨ 75 ≤ k := by omega
  rcases h with h | h | h | h | h | h
  · exact List.all_eq_true.1 chk1_0 k (by simp [List.mem_range'_1]; omega)
  · exact List.all_eq_true.1 chk1_15 k (by simp [List.mem_range'_1]; omega)
  · exact List.all_eq_true.1 chk1_30 k (by simp [List.mem_range'_1]; omega)
  · exact List.all_eq_true.1 chk1_45 k (by simp [List.mem_range'_1]; omega)
  · exact List.all_eq_true.1 chk1_60 k (by simp [List.mem_range'_1]; omega)
  · exact List.all_eq_true.1 chk1_75 k (by simp [List.mem_range'_1]; omega)
theorem chk2_0 : (List.range' 0 15).all (deepChk 2) = true := by kernel_rfl
theorem chk2_15 : (List.range' 15 15).all (deepChk 2) = true := by kernel_rfl
theorem chk2_30 : (List.range' 30 15).all (deepChk 2) = true := by kernel_rfl
theorem chk2_45 : (List.range' 45 15).all (deepChk 2) = true := by kernel_rfl
theorem chk2_60 : (List.range' 60 15).all (deepChk 2) = true := by kernel_rfl
theorem chk2_75 : (List.range' 75 15).all (deepChk 2) = true := by kernel_rfl
theorem chk2 {k : Nat} (hk : k < 90) : deepChk 2 k = true := by
  have h : k < 15 ∨ (15 ≤ k ∧ k < 30) ∨ (30 ≤ k ∧ k < 45) ∨ (45 ≤ k ∧ k < 60) ∨ (60 ≤ k ∧ k < 75) ∨ 75 ≤ k := by omega
  rcases h with h | h | h | h | h | h
  · exact List.all_eq_true.1 chk2_0 k (by simp [List.mem_range'_1]; omega)
  · exact List.all_eq_true.1 chk2_15 k (by simp [List.mem_range'_1]; omega)
  · exact List.all_eq_true.1 chk2_30 k (by simp [List.mem_range'_1]; omega)
  · exact List.all_eq_true.1 chk2_45 k (by simp [List.mem_range'_1]; omega)
  · exact List.all_eq_true.1 chk2_60 k (by simp [List.mem_range'_1]; omega)
  · exact List.all_eq_true.1 chk2_75 k (by simp [List.mem_range'_1]; omega)
end Go.Proofs.YtbmjefboaihapaaGreatDoor

/-
  The six forms of how deep parts may be, one by one, by reckoning. No walk.
-/
import Derived.Test.YtbmjefboaihapaaGreatDoorDeepA
namespace Go.Proofs.YtbmjefboaihapaaGreatDoor
set_option maxRecDepth 100000
theorem chk3_0 : (List.range' 0 15).all (deepChk 3) = true := by kernel_rfl
theorem chk3_15 : (List.range' 15 15).all (deepChk 3) = true := by kernel_rfl
theorem chk3_30 : (List.range' 30 15).all (deepChk 3) = true := by kernel_rfl
theorem chk3_45 : (List.range' 45 15).all (deepChk 3) = true := by kernel_rfl
theorem chk3_60 : (List.range' 60 15).all (deepChk 3) = true := by kernel_rfl
theorem chk3_75 : (List.range' 75 15).all (deepChk 3) = true := by kernel_rfl
theorem chk3 {k : Nat} (hk : k < 90) : deepChk 3 k = true := by
  have h : k < 15 ∨ (15 ≤ k ∧ k < 30) ∨ (30 ≤ k ∧ k < 45) ∨ (45 ≤ k ∧ k < 60) ∨ (60 ≤ k ∧ k < 75) ∨ 75 ≤ k := by omega
  rcases h with h | h | h | h | h | h
  · exact List.all_eq_true.1 chk3_0 k (by simp [List.mem_range'_1]; omega)
  · exact List.all_eq_true.1 chk3_15 k (by simp [List.mem_range'_1]; omega)
  · exact List.all_eq_true.1 chk3_30 k (by simp [List.mem_range'_1]; omega)
  · exact List.all_eq_true.1 chk3_45 k (by simp [List.mem_range'_1]; omega)
  · exact List.all_eq_true.1 chk3_60 k (by simp [List.mem_range'_1]; omega)
  · exact List.all_eq_true.1 chk3_75 k (by simp [List.mem_range'_1]; omega)
theorem chk4_0 : (List.range' 0 15).all (deepChk 4) = true := by kernel_rfl
theorem chk4_15 : (List.range' 15 15).all (deepChk 4) = true := by kernel_rfl
theorem chk4_30 : (List.range' 30 15).all (deepChk 4) = true := by kernel_rfl
theorem chk4_45 : (List.range' 45 15).all (deepChk 4) = true := by kernel_rfl
theorem chk4_60 : (List.range' 60 15).all (deepChk 4) = true := by kernel_rfl
theorem chk4_75 : (List.range' 75 15).all (deepChk 4) = true := by kernel_rfl
theorem chk4 {k : Nat} (hk : k < 90) : deepChk 4 k = true := by
  have h : k < 15 ∨ (15 ≤ k ∧ k < 30) ∨ (30 ≤ k ∧ k < 45) ∨ (45 ≤ k ∧ k < 60) ∨ (60 ≤ k ∧ k < 75) ∨ 75 ≤ k := by omega
  rcases h with h | h | h | h | h | h
  · exact List.all_eq_true.1 chk4_0 k (by simp [List.mem_range'_1]; omega)
  · exact List.all_eq_true.1 chk4_15 k (by simp [List.mem_range'_1]; omega)
  · exact List.all_eq_true.1 chk4_30 k (by simp [List.mem_range'_1]; omega)
  · exact List.all_eq_true.1 chk4_45 k (by simp [List.mem_range'_1]; omega)
  · exact List.all_eq_true.1 chk4_60 k (by simp [List.mem_range'_1]; omega)
  · exact List.all_eq_true.1 chk4_75 k (by simp [List.mem_range'_1]; omega)
theorem chk5_0 : (List.range' 0 15).all (deepChk 5) = true := by kernel_rfl
theorem chk5_15 : (List.range' 15 15).all (deepChk 5) = true := by kernel_rfl
theorem chk5_30 : (List.range' 30 15).all (deepChk 5) = true := by kernel_rfl
theorem chk5_45 : (List.range' 45 15).all (deepChk 5) = true := by kernel_rfl
theorem chk5_60 : (List.range' 60 15).all (deepChk 5) = true := by kernel_rfl
theorem chk5_75 : (List.range' 75 15).all (deepChk 5) = true := by kernel_rfl
theorem chk5 {k : Nat} (hk : k < 90) : deepChk 5 k = true := by
  have h : k < 15 ∨ (15 ≤ k ∧ k < 30) ∨ (30 ≤ k ∧ k < 45) ∨ (45 ≤ k ∧ k < 60) ∨ (60 ≤ k ∧ k < 75) ∨ 75 ≤ k := by omega
  rcases h with h | h | h | h | h | h
  · exact List.all_eq_true.1 chk5_0 k (by simp [List.mem_range'_1]; omega)
  · exact List.all_eq_true.1 chk5_15 k (by simp [List.mem_range'_1]; omega)
  · exact List.all_eq_true.1 chk5_30 k (by simp [List.mem_range'_1]; omega)
  · exact List.all_eq_true.1 chk5_45 k (by simp [List.mem_range'_1]; omega)
  · exact List.all_eq_true.1 chk5_60 k (by simp [List.mem_range'_1]; omega)
  · exact List.all_eq_true.1 chk5_75 k (by simp [List.mem_range'_1]; omega)
end Go.Proofs.YtbmjefboaihapaaGreatDoor

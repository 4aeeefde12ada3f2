/-
  The walk of the law WordsMany.
-/
import Derived.Test.YtgflncpigeppfaaSame
namespace Go.Proofs.Ytgflncpigeppfaa
open Go.RowKit Go.Maps

/-- s and i letters q behind it. -/
def ext (s : ByteArray) : Nat → ByteArray
  | 0 => s
  | i + 1 => ext s i ++ ⟨#[113]⟩

def exts (s : ByteArray) (k : Nat) : List ByteArray := (List.range k).map (ext s)

theorem ext_size (s : ByteArray) : ∀ i, (ext s i).size = s.size + i
  | 0 => rfl
  | i + 1 => by
    have e : (⟨#[113]⟩ : ByteArray).size = 1 := rfl
    rw [ext, ByteArray.size_append, ext_size s i, e]
    omega

theorem exts_succ (s : ByteArray) (k : Nat) : exts s (k + 1) = exts s k ++ [ext s k] := by simp [exts, List.range_succ]
theorem exts_length (s : ByteArray) (k : Nat) : (exts s k).length = k := by simp [exts]

theorem ext_ne (s : ByteArray) {i j : Nat} (h : i ≠ j) : ext s i ≠ ext s j := by
  intro e
  have := congrArg ByteArray.size e
  rw [ext_size, ext_size] at this
  omega

theorem num_exts_new (s : ByteArray) (i : Nat) : ∀ k, k ≤ i → num (exts s k) (ext s i) = 0
  | 0, _ => rfl
  | k + 1, h => by rw [exts_succ, num_snoc_other _ _ _ (ext_ne s (by omega)), num_exts_new s i k (by omega)]

theorem num_exts (s : ByteArray) (i : Nat) : ∀ k, i < k → num (exts s k) (ext s i) = i + 1
  | 0, h => by omega
  | k + 1, h => by
    rw [exts_succ]
    by_cases e : i = k
    · subst e
      rw [num_snoc_same _ _ (num_exts_new s i i (Nat.le_refl _)), exts_length]
    · have := num_exts s i k (by omega)
      rw [num_snoc_there _ _ _ (by omega), this]

theorem put_exts (s : ByteArray) (k : Nat) : put (exts s k) (ext s k) = exts s (k + 1) := by
  rw [exts_succ, put, if_pos (num_exts_new s k k (Nat.le_refl _))]

theorem total_exts (s : ByteArray) (k : Nat) : total (exts s (k + 1)) = total (exts s k) + (ext s k).size := by rw [exts_succ, total_snoc]

theorem exts_small (s : ByteArray) (k : Nat) (hs : s.size ≤ 60) (hk : k < 60) : ∀ x ∈ exts s k, x.size ≤ 281474976710656 := by
  intro x hx
  simp only [exts, List.mem_map, List.mem_range] at hx
  obtain ⟨i, hi, rfl⟩ := hx
  rw [ext_size]
  omega

theorem total_exts_le (s : ByteArray) (hs : s.size ≤ 60) : ∀ k, k ≤ 60 → total (exts s k) ≤ k * 120
  | 0, _ => by simp [exts, total]
  | k + 1, h => by
    have := total_exts_le s hs k (by omega)
    rw [total_exts, ext_size]
    omega

set_option maxHeartbeats 2000000 in
theorem many_walk (n : Int) (s : ByteArray) (w : World) (hn0 : 0 ≤ n) (hn1 : n ≤ 255) (hs : s.size ≤ 281474976710656) :
    Calls Try.prog 6 #[.int .u8 n, .string s] w fun e w' => e = .returned (.bool true) ∧ Below w.heap.size w w' := by
  by_cases hbig : 60 < s.size
  · go_enter Try.func6, Try.ntmps6
    go_wp2_with fail
    refine (alive_any _).mono ?_
    rintro e w1 ⟨rfl, b1⟩
    go_wp2_with fail
    go_ret
    exact ⟨rfl, b1⟩
  · have hbig' : s.size ≤ 60 := by omega
    have hd : decide (60 < (s.size : Int)) = false := by simp; omega
    clear hbig
    obtain ⟨k, hk, hk60⟩ : ∃ k : Nat, n.tmod 60 = (k : Int) ∧ k < 60 := by
      rw [Int.tmod_eq_emod_of_nonneg hn0]
      exact ⟨(n % 60).toNat, by omega, by omega⟩
    go_enter Try.func6, Try.ntmps6
    go_wp2_with fail
    refine (alive_any _).mono ?_
    rintro e w1 ⟨rfl, b1⟩
    go_wp2_with fail
    refine (new_tab _).mono ?_
    rintro e w2 ⟨rfl, h2, b2⟩
    have h2' : IsTab w.heap.size w1.heap.size w2 [] := h2.mono b1.size
    have b02 : Below w.heap.size w w2 := b1.trans (b2.mono b1.size)
    clear h2 b2 hd
    go_wp2_with fail
    clear hk
    have htl := total_exts_le s hbig' k (by omega)
    have hel := exts_length s k
    have HEL := Lib.hid hel
    clear hel
    go_loopw [7, 8, 9] (fun x by_ rd wr => Below w.heap.size w wr ∧ ((rd = .int .i64 0 ∧ by_ = .int .i64 0 ∧ IsTab w.heap.size w1.heap.size wr []) ∨ ((rd = .int .i64 1 ∨ rd = .int .i64 2) ∧ by_ = .int .i64 (total (exts s k) : Nat) ∧ x = .string (ext s k) ∧ IsTab w.heap.size w1.heap.size wr (exts s k)))) (fun _ _ rd _ => 2 - (intOf rd).toNat)
    case atStart => exact ⟨b02, .inl ⟨rfl, rfl, h2'⟩⟩
    case round =>
      clear h2' b02
      obtain ⟨hB, hcase⟩ := hrel
      rcases hcase with ⟨rfl, rfl, hT⟩ | ⟨hr1, rfl, rfl, hT⟩
      · -- the first round
        go_wp2_with fail
        go_loopw [7, 8, 10] (fun x by_ iv wr => ∃ i : Nat, i ≤ k ∧ iv = .int .i64 i ∧ x = .string (ext s i) ∧ by_ = .int .i64 (total (exts s i) : Nat) ∧ IsTab w.heap.size w1.heap.size wr (exts s i) ∧ Below w.heap.size w wr) (fun _ _ iv _ => k - (intOf iv).toNat)
        case atStart => exact ⟨0, Nat.zero_le _, rfl, rfl, rfl, hT, hB⟩
        case round =>
          clear hT hB
          obtain ⟨i, hi, rfl, rfl, rfl, hT, hB⟩ := hrel
          have hti := total_exts_le s hbig' i (by omega)
          have hes := ext_size s i
          by_cases hlt : i < k
          · have e1 : num (put (exts s i) (ext s i)) (ext s i) = i + 1 := by rw [put_exts, num_exts _ _ _ (Nat.lt_succ_self i)]
            have E1 := Lib.hid e1
            have HES := Lib.hid hes
            have hes' : (ext s i).size ≤ 120 := by omega
            clear e1 hes
            go_wp2_with fail
            refine (of_tab _ _ _ _ _ hT hB.size (by omega) (by rw [exts_length]; omega)).mono ?_
            rintro e w3 ⟨rfl, hT3, hB3⟩
            rw [E1.out]
            rw [put_exts] at hT3
            go_wp2_with fail
            go_roundw
            case rel => exact ⟨i + 1, by omega, by go_num, rfl, by rw [total_exts]; go_num, hT3, hB.trans hB3⟩
            case measure => simp [intOf]; omega
          · obtain rfl : i = k := by omega
            clear hes
            go_wp2_with fail
            go_roundw
            case rel => exact ⟨hB, .inr ⟨.inl rfl, rfl, rfl, hT⟩⟩
            case measure => simp [intOf]
      · rcases hr1 with rfl | rfl
        rotate_left
        · have hsm := exts_small s k hbig' hk60
          have HSM := Lib.hid hsm
          have hnk := num_exts_new s k k (Nat.le_refl _)
          have hhas : has (exts s k) (ext s k) = false := by simp [has, hnk]
          have HH := Lib.hid hhas
          have hes : (ext s k).size ≤ maxLen := by rw [ext_size]; unfold maxLen; omega
          clear hsm hnk hhas
          go_wp2_with fail
          refine (known_tab _ _ _ _ _ hT hes).mono ?_
          rintro e w3 ⟨rfl, rfl⟩
          rw [HH.out]
          go_wp2_with fail
          refine (len_tab _ _ _ _ hT).mono ?_
          rintro e w3 ⟨rfl, rfl⟩
          rw [HEL.out]
          go_wp2_with fail
          refine (bytes_tab _ _ _ _ hT (by rw [HEL.out]; omega) HSM.out).mono ?_
          rintro e w3 ⟨rfl, hB3⟩
          go_wp2_with fail
          go_ret
          exact ⟨rfl, hB.trans (hB3.mono hB.size)⟩
        · go_wp2_with fail
          go_loopw [7, 8, 10] (fun x by_ iv wr => ∃ i : Nat, i ≤ k ∧ iv = .int .i64 i ∧ x = .string (ext s i) ∧ by_ = .int .i64 (total (exts s k) : Nat) ∧ IsTab w.heap.size w1.heap.size wr (exts s k) ∧ Below w.heap.size w wr) (fun _ _ iv _ => k - (intOf iv).toNat)
          case atStart => exact ⟨0, Nat.zero_le _, rfl, rfl, rfl, hT, hB⟩
          case round =>
            clear hT hB
            obtain ⟨i, hi, rfl, rfl, rfl, hT, hB⟩ := hrel
            have hes := ext_size s i
            by_cases hlt : i < k
            · have e0 := num_exts s i k hlt
              have e2 : put (exts s k) (ext s i) = exts s k := put_there (by omega)
              have E2 := Lib.hid e2
              have E0 := Lib.hid e0
              have hes' : (ext s i).size ≤ 120 := by omega
              clear e0 e2 hes
              go_wp2_with fail
              refine (of_tab _ _ _ _ _ hT hB.size (by omega) (by rw [exts_length]; omega)).mono ?_
              rintro e w3 ⟨rfl, hT3, hB3⟩
              rw [E2.out] at hT3 ⊢
              rw [E0.out]
              go_wp2_with fail
              go_roundw
              case rel => exact ⟨i + 1, by omega, by go_num, rfl, rfl, hT3, hB.trans hB3⟩
              case measure => simp [intOf]; omega
            · obtain rfl : i = k := by omega
              clear hes
              go_wp2_with fail
              go_roundw
              case rel => exact ⟨hB, .inr ⟨.inr rfl, rfl, rfl, hT⟩⟩
              case measure => simp [intOf]

end Go.Proofs.Ytgflncpigeppfaa

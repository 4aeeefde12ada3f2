/-
  The contract of the document's own 'Do': a call on a ledger of three numbers.
-/
import Derived.Test.YtgifjakblcfpnaaDo
import Derived.Handy
namespace Go.Proofs.Ytgifjakblcfpnaa
open Go.RowKit

/-- What one call comes to, in numbers. -/
structure Act1 (k B C H n B' C' H' f : Int) : Prop where
  b : doB k B C n = B'
  c : doC k B C n = C'
  h : doH k B C H n = H'
  e : doE k B C n = f

theorem act1_0 {B C H n : Int} : (n < 0 ∧ Act1 0 B C H n B C H 1) ∨ (0 ≤ n ∧ B - C < n ∧ Act1 0 B C H n B C H 4) ∨ (0 ≤ n ∧ n ≤ B - C ∧ H < C + n ∧ Act1 0 B C H n B (C + n) (C + n) 0) ∨ (0 ≤ n ∧ n ≤ B - C ∧ C + n ≤ H ∧ Act1 0 B C H n B (C + n) H 0) := by
  by_cases h0 : n < 0
  · have e : why B C n = 1 := by simp [why, h0]
    exact .inl ⟨h0, by simp [doB], by simp [doC, chC, e], by simp [doH, chH, e], by simp [doE, e]⟩
  · by_cases h1 : B - C < n
    · have e : why B C n = 4 := why_four (by omega) h1
      exact .inr (.inl ⟨by omega, h1, by simp [doB], by simp [doC, chC, e], by simp [doH, chH, e], by simp [doE, e]⟩)
    · have e : why B C n = 0 := why_zero (by omega) (by omega)
      by_cases h2 : H < C + n
      · exact .inr (.inr (.inl ⟨by omega, by omega, h2, by simp [doB], by simp [doC, chC, e], by simp [doH, chH, e]; omega, by simp [doE, e]⟩))
      · exact .inr (.inr (.inr ⟨by omega, by omega, by omega, by simp [doB], by simp [doC, chC, e], by simp [doH, chH, e]; omega, by simp [doE, e]⟩))

theorem act1_1 {B C H n : Int} : (n < 0 ∧ Act1 1 B C H n B C H 1) ∨ (0 ≤ n ∧ C < n ∧ Act1 1 B C H n B C H 1) ∨ (0 ≤ n ∧ n ≤ C ∧ Act1 1 B C H n B (C - n) H 0) := by
  by_cases h0 : n < 0
  · exact .inl ⟨h0, by simp [doB], by simp [doC, reC, h0], by simp [doH], by simp [doE, reE, h0]⟩
  · by_cases h1 : C < n
    · exact .inr (.inl ⟨by omega, h1, by simp [doB], by simp [doC, reC, h1], by simp [doH], by simp [doE, reE, h1]⟩)
    · exact .inr (.inr ⟨by omega, by omega, by simp [doB], by simp [doC, reC, h0, h1], by simp [doH], by simp [doE, reE, h0, h1]⟩)

theorem act1_2 {B C H n : Int} : (n < 0 ∧ Act1 2 B C H n B C H 1) ∨ (0 ≤ n ∧ 1099511627776 < n ∧ Act1 2 B C H n B C H 1) ∨ (0 ≤ n ∧ n ≤ 1099511627776 ∧ n < C ∧ Act1 2 B C H n B C H 4) ∨ (0 ≤ n ∧ n ≤ 1099511627776 ∧ C ≤ n ∧ Act1 2 B C H n n C H 0) := by
  by_cases h0 : n < 0
  · exact .inl ⟨h0, by simp [doB, seB, h0], by simp [doC], by simp [doH], by simp [doE, seE, h0]⟩
  · by_cases h1 : 1099511627776 < n
    · exact .inr (.inl ⟨by omega, h1, by simp [doB, seB, h1], by simp [doC], by simp [doH], by simp [doE, seE, h1]⟩)
    · by_cases h2 : n < C
      · exact .inr (.inr (.inl ⟨by omega, by omega, h2, by simp [doB, seB, h0, h1, h2], by simp [doC], by simp [doH], by simp [doE, seE, h0, h1, h2]⟩))
      · exact .inr (.inr (.inr ⟨by omega, by omega, by omega, by simp [doB, seB, h0, h1, h2], by simp [doC], by simp [doH], by simp [doE, seE, h0, h1, h2]⟩))

theorem below3 (w : World) (a b c : Obj) : Below w.heap.size w (((w.alloc a).alloc b).alloc c) :=
  (((Below.refl _ _).alloc (Nat.le_refl _) a).alloc (by simp) b).alloc (by simp; omega) c

set_option maxHeartbeats 1000000 in
theorem ref_0 (B C H n : Int) (w : World) (hs : Sane B C H) :
    Calls Try.prog 10 #[.agg #[.int .i64 B, .int .i64 C, .int .i64 H], .agg #[.int .i64 0, .int .i64 n]] w fun e w' => e = .returned (.tuple #[.agg #[.int .i64 (doB 0 B C n), .int .i64 (doC 0 B C n), .int .i64 (doH 0 B C H n)], .int .i64 (doE 0 B C n)]) ∧ Below w.heap.size w w' := by
  obtain ⟨b0, b1, b2, h0, h1⟩ := hs
  rcases act1_0 (B := B) (C := C) (H := H) (n := n) with ⟨g1, a1, a2, a3, a4⟩ | ⟨g1, g2, a1, a2, a3, a4⟩ | ⟨g1, g2, g3, a1, a2, a3, a4⟩ | ⟨g1, g2, g3, a1, a2, a3, a4⟩
  all_goals
    rw [a1, a2, a3, a4]
    clear a1 a2 a3 a4
    go_enter Try.func10, Try.ntmps10
    go_wp2
    go_returns
    exact ⟨rfl, below3 _ _ _ _⟩

set_option maxHeartbeats 1000000 in
theorem ref_1 (B C H n : Int) (w : World) (hs : Sane B C H) :
    Calls Try.prog 10 #[.agg #[.int .i64 B, .int .i64 C, .int .i64 H], .agg #[.int .i64 1, .int .i64 n]] w fun e w' => e = .returned (.tuple #[.agg #[.int .i64 (doB 1 B C n), .int .i64 (doC 1 B C n), .int .i64 (doH 1 B C H n)], .int .i64 (doE 1 B C n)]) ∧ Below w.heap.size w w' := by
  obtain ⟨b0, b1, b2, h0, h1⟩ := hs
  rcases act1_1 (B := B) (C := C) (H := H) (n := n) with ⟨g1, a1, a2, a3, a4⟩ | ⟨g1, g2, a1, a2, a3, a4⟩ | ⟨g1, g2, a1, a2, a3, a4⟩
  all_goals
    rw [a1, a2, a3, a4]
    clear a1 a2 a3 a4
    go_enter Try.func10, Try.ntmps10
    go_wp2
    go_returns
    exact ⟨rfl, below3 _ _ _ _⟩

set_option maxHeartbeats 1000000 in
theorem ref_2 (B C H n : Int) (w : World) (hs : Sane B C H) :
    Calls Try.prog 10 #[.agg #[.int .i64 B, .int .i64 C, .int .i64 H], .agg #[.int .i64 2, .int .i64 n]] w fun e w' => e = .returned (.tuple #[.agg #[.int .i64 (doB 2 B C n), .int .i64 (doC 2 B C n), .int .i64 (doH 2 B C H n)], .int .i64 (doE 2 B C n)]) ∧ Below w.heap.size w w' := by
  obtain ⟨b0, b1, b2, h0, h1⟩ := hs
  rcases act1_2 (B := B) (C := C) (H := H) (n := n) with ⟨g1, a1, a2, a3, a4⟩ | ⟨g1, g2, a1, a2, a3, a4⟩ | ⟨g1, g2, g3, a1, a2, a3, a4⟩ | ⟨g1, g2, g3, a1, a2, a3, a4⟩
  all_goals
    rw [a1, a2, a3, a4]
    clear a1 a2 a3 a4
    go_enter Try.func10, Try.ntmps10
    go_wp2
    go_returns
    exact ⟨rfl, below3 _ _ _ _⟩

theorem ref_any (B C H k n : Int) (w : World) (hs : Sane B C H) (k0 : 0 ≤ k) (k2 : k ≤ 2) :
    Calls Try.prog 10 #[.agg #[.int .i64 B, .int .i64 C, .int .i64 H], .agg #[.int .i64 k, .int .i64 n]] w fun e w' => e = .returned (.tuple #[.agg #[.int .i64 (doB k B C n), .int .i64 (doC k B C n), .int .i64 (doH k B C H n)], .int .i64 (doE k B C n)]) ∧ Below w.heap.size w w' := by
  rcases (show k = 0 ∨ k = 1 ∨ k = 2 by omega) with rfl | rfl | rfl
  · exact ref_0 B C H n w hs
  · exact ref_1 B C H n w hs
  · exact ref_2 B C H n w hs

end Go.Proofs.Ytgifjakblcfpnaa

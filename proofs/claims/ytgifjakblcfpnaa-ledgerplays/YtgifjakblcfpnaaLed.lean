/-
  What a ledger is in memory, and the contracts of package ledger's functions.
-/
import Derived.Test.YtgifjakblcfpnaaRows
import Derived.WalkKit
import Derived.WalkSpells
import Derived.WalkLawsBesides
import Derived.Lib.Hide
import Derived.Deep.QuietTactic
import Derived.BigQuiet
import Derived.RegionTactic
namespace Go.Proofs.Ytgifjakblcfpnaa
open Go.RowKit

/-- Of what was there nothing has turned but block b. -/
structure KeptBut (b : Nat) (w w' : World) : Prop where
  os : w'.os = w.os
  tape : w'.tape = w.tape
  output : w'.output = w.output
  size : w.heap.size ≤ w'.heap.size
  block : ∀ k, k < w.heap.size → k ≠ b → w'.heap[k]? = w.heap[k]?

theorem KeptBut.refl (b : Nat) (w : World) : KeptBut b w w := ⟨rfl, rfl, rfl, Nat.le_refl _, fun _ _ _ => rfl⟩
theorem KeptBut.trans {x : Nat} {a b c : World} (h : KeptBut x a b) (k : KeptBut x b c) : KeptBut x a c :=
  ⟨k.os.trans h.os, k.tape.trans h.tape, k.output.trans h.output, Nat.le_trans h.size k.size, fun i hi hn => (k.block i (Nat.lt_of_lt_of_le hi h.size) hn).trans (h.block i hi hn)⟩
theorem KeptBut.below {b : Nat} {w w' : World} (h : KeptBut b w w') {B : Nat} (hB : B ≤ w.heap.size) (hb : B ≤ b) : Below B w w' :=
  ⟨h.os, h.tape, h.output, h.size, fun i hi => h.block i (by omega) (by omega)⟩

/-- Block b is a ledger: its budget, what is charged, the most that ever was. -/
def LedAt (w : World) (b : Nat) (B C H : Int) : Prop := w.heap[b]? = some (.cells #[.int .i64 B, .int .i64 C, .int .i64 H] 49 (0, 0))

theorem LedAt.lt {w : World} {b : Nat} {B C H : Int} (h : LedAt w b B C H) : b < w.heap.size := (Array.getElem?_eq_some_iff.1 h).1
theorem LedAt.c0 {w : World} {b : Nat} {B C H : Int} (h : LedAt w b B C H) : w.cell? ⟨b, 0, none⟩ = some (.int .i64 B) := by unfold LedAt at h; simp [World.cell?, h]
theorem LedAt.c1 {w : World} {b : Nat} {B C H : Int} (h : LedAt w b B C H) : w.cell? ⟨b, 1, none⟩ = some (.int .i64 C) := by unfold LedAt at h; simp [World.cell?, h]
theorem LedAt.c2 {w : World} {b : Nat} {B C H : Int} (h : LedAt w b B C H) : w.cell? ⟨b, 2, none⟩ = some (.int .i64 H) := by unfold LedAt at h; simp [World.cell?, h]
theorem LedAt.f {w : World} {b i : Nat} {B C H : Int} (h : LedAt w b B C H) : w.frozen? ⟨b, i, none⟩ = false := by unfold LedAt at h; simp [World.frozen?, h]
theorem LedAt.below {w w' : World} {b N : Nat} {B C H : Int} (h : LedAt w b B C H) (k : Below N w w') (hb : b < N) : LedAt w' b B C H := (k.block b hb).trans h
theorem LedAt.kept {w w' : World} {b x : Nat} {B C H : Int} (h : LedAt w b B C H) (k : KeptBut x w w') (hb : b ≠ x) : LedAt w' b B C H := (k.block b h.lt hb).trans h

/-- The numbers that a ledger may have. -/
structure Sane (B C H : Int) : Prop where
  b0 : 0 ≤ C
  b1 : C ≤ B
  b2 : B ≤ 1099511627776
  h0 : C ≤ H
  h1 : H ≤ 1099511627776

def isBudget (n : Int) : Bool := decide (0 ≤ n ∧ n ≤ 1099511627776)

set_option maxHeartbeats 400000 in
theorem isBudget_any (n : Int) (w : World) : Calls Try.prog 17 #[.int .i64 n] w fun e w' => e = .returned (.bool (isBudget n)) ∧ w = w' := by
  by_cases h0 : n < 0
  · have e : isBudget n = false := by simp [isBudget]; omega
    rw [e]
    have hd : decide (0 ≤ n) = false := by simp; omega
    go_enter Try.func17, Try.ntmps17
    go_wp2
    go_ret
    exact ⟨rfl, rfl⟩
  · by_cases h1 : 1099511627776 < n
    · have e : isBudget n = false := by simp [isBudget]; omega
      rw [e]
      have h0' : 0 ≤ n := by omega
      have hd : decide (n ≤ 1099511627776) = false := by simp; omega
      go_enter Try.func17, Try.ntmps17
      go_wp2
      go_ret
      exact ⟨rfl, rfl⟩
    · have e : isBudget n = true := by simp [isBudget]; omega
      rw [e]
      have h0' : 0 ≤ n := by omega
      have h1' : n ≤ 1099511627776 := by omega
      clear h0 h1
      go_enter Try.func17, Try.ntmps17
      go_wp2
      go_ret
      exact ⟨rfl, rfl⟩

set_option maxHeartbeats 400000 in
theorem new_bad (n : Int) (w : World) (h : isBudget n = false) : Calls Try.prog 9 #[.int .i64 n] w fun e w' => e = .returned (.tuple #[.pointer none, .int .i64 1]) ∧ w = w' := by
  go_enter Try.func9, Try.ntmps9
  go_wp2_with fail
  refine (isBudget_any _ _).mono ?_
  rintro e w1 ⟨rfl, rfl⟩
  rw [h]
  go_wp2
  go_ret2
  exact ⟨rfl, rfl⟩

set_option maxHeartbeats 400000 in
theorem new_good (n : Int) (w : World) (h : isBudget n = true) : Calls Try.prog 9 #[.int .i64 n] w fun e w' => e = .returned (.tuple #[.pointer (some ⟨w.heap.size, 0, none⟩), .int .i64 0]) ∧ LedAt w' w.heap.size n 0 0 ∧ Below w.heap.size w w' := by
  have h9 : 0 ≤ n ∧ n ≤ 1099511627776 := by simpa [isBudget] using h
  go_enter Try.func9, Try.ntmps9
  go_wp2_with fail
  refine (isBudget_any _ _).mono ?_
  rintro e w1 ⟨rfl, rfl⟩
  rw [h]
  go_wp2
  go_ret2
  exact ⟨rfl, heap_alloc_new _ _, (Below.refl _ _).alloc (Nat.le_refl _) _⟩

/-- Why n more can't be charged. -/
def why (B C n : Int) : Int := if n < 0 then 1 else if B - C < n then 4 else 0

set_option maxHeartbeats 400000 in
theorem refusal_any (b : Nat) (B C H n : Int) (w : World) (h : LedAt w b B C H) (hs : Sane B C H) : Calls Try.prog 18 #[.pointer (some ⟨b, 0, none⟩), .int .i64 n] w fun e w' => e = .returned (.int .i64 (why B C n)) ∧ LedAt w' b B C H ∧ Below w.heap.size w w' := by
  have c0 := h.c0
  have c1 := h.c1
  have hh := Lib.hid h
  obtain ⟨b0, b1, b2, h0, h1⟩ := hs
  clear h h0 h1
  by_cases hn : n < 0
  · have e : why B C n = 1 := by simp [why, hn]
    rw [e]
    go_enter Try.func18, Try.ntmps18
    go_wp2
    go_ret
    exact ⟨rfl, hh.out, Below.refl _ _⟩
  · by_cases hf : B - C < n
    · have e : why B C n = 4 := by simp [why, hn, hf]
      rw [e]
      clear e
      go_enter Try.func18, Try.ntmps18
      go_wp2
      go_quiet (fail)
      go_wp2
      go_ret
      exact ⟨rfl, hh.out, ⟨rfl, rfl, rfl, Nat.le_refl _, fun _ _ => rfl⟩⟩
    · have e : why B C n = 0 := by simp [why, hn, hf]
      rw [e]
      clear e
      go_enter Try.func18, Try.ntmps18
      go_wp2
      go_quiet (fail)
      go_wp2
      go_ret
      exact ⟨rfl, hh.out, ⟨rfl, rfl, rfl, Nat.le_refl _, fun _ _ => rfl⟩⟩

set_option maxHeartbeats 400000 in
theorem refusal_nil (n : Int) (w : World) : Calls Try.prog 18 #[.pointer none, .int .i64 n] w fun e w' => e = .returned (.int .i64 2) ∧ w = w' := by
  go_enter Try.func18, Try.ntmps18
  go_wp2
  go_ret
  exact ⟨rfl, rfl⟩

end Go.Proofs.Ytgifjakblcfpnaa

/-
  The contracts of (*Ledger).Numbers, Fits, Charge, Refund and Set, and of no ledger.
-/
import Derived.Test.YtgifjakblcfpnaaLed
namespace Go.Proofs.Ytgifjakblcfpnaa
open Go.RowKit

def chC (B C n : Int) : Int := if why B C n = 0 then C + n else C
def chH (B C H n : Int) : Int := if why B C n = 0 then max H (C + n) else H
def reE (C n : Int) : Int := if n < 0 ∨ C < n then 1 else 0
def reC (C n : Int) : Int := if n < 0 ∨ C < n then C else C - n
def seE (C n : Int) : Int := if n < 0 ∨ 1099511627776 < n then 1 else if n < C then 4 else 0
def seB (B C n : Int) : Int := if n < 0 ∨ 1099511627776 < n then B else if n < C then B else n

theorem why_ok {B C n : Int} (h : why B C n = 0) : 0 ≤ n ∧ n ≤ B - C := by
  unfold why at h
  split at h
  · omega
  · split at h
    · omega
    · omega

theorem Sane.charge {B C H n : Int} (h : Sane B C H) : Sane B (chC B C n) (chH B C H n) := by
  obtain ⟨b0, b1, b2, h0, h1⟩ := h
  unfold chC chH
  by_cases e : why B C n = 0
  · have := why_ok e
    simp only [e, if_true]
    refine ⟨?_, ?_, ?_, ?_, ?_⟩ <;> omega
  · simp only [e, if_false]
    exact ⟨b0, b1, b2, h0, h1⟩

theorem Sane.refund {B C H n : Int} (h : Sane B C H) : Sane B (reC C n) H := by
  obtain ⟨b0, b1, b2, h0, h1⟩ := h
  unfold reC
  split
  · exact ⟨b0, b1, b2, h0, h1⟩
  · refine ⟨?_, ?_, ?_, ?_, ?_⟩ <;> omega

theorem Sane.set {B C H n : Int} (h : Sane B C H) : Sane (seB B C n) C H := by
  obtain ⟨b0, b1, b2, h0, h1⟩ := h
  unfold seB
  split
  · exact ⟨b0, b1, b2, h0, h1⟩
  · split
    · exact ⟨b0, b1, b2, h0, h1⟩
    · refine ⟨?_, ?_, ?_, ?_, ?_⟩ <;> omega

theorem Sane.new {n : Int} (h : isBudget n = true) : Sane n 0 0 := by
  have h9 : 0 ≤ n ∧ n ≤ 1099511627776 := by simpa [isBudget] using h
  refine ⟨?_, ?_, ?_, ?_, ?_⟩ <;> omega

set_option maxHeartbeats 400000 in
theorem numbers_any (b : Nat) (B C H : Int) (w : World) (h : LedAt w b B C H) : Calls Try.prog 12 #[.pointer (some ⟨b, 0, none⟩)] w fun e w' => e = .returned (.tuple #[.int .i64 B, .int .i64 C, .int .i64 H]) ∧ LedAt w' b B C H ∧ Below w.heap.size w w' := by
  have c0 := h.c0
  have c1 := h.c1
  have c2 := h.c2
  have hh := Lib.hid h
  clear h
  go_enter Try.func12, Try.ntmps12
  go_wp2
  go_quiet (fail)
  go_wp2
  go_ret3
  exact ⟨rfl, hh.out, ⟨rfl, rfl, rfl, Nat.le_refl _, fun _ _ => rfl⟩⟩

set_option maxHeartbeats 400000 in
theorem numbers_nil (w : World) : Calls Try.prog 12 #[.pointer none] w fun e w' => e = .returned (.tuple #[.int .i64 0, .int .i64 0, .int .i64 0]) ∧ w = w' := by
  go_enter Try.func12, Try.ntmps12
  go_wp2
  go_ret3
  exact ⟨rfl, rfl⟩

set_option maxHeartbeats 400000 in
theorem fits_any (b : Nat) (B C H n : Int) (w : World) (h : LedAt w b B C H) (hs : Sane B C H) : Calls Try.prog 13 #[.pointer (some ⟨b, 0, none⟩), .int .i64 n] w fun e w' => e = .returned (.bool (decide (0 ≤ n ∧ n ≤ B - C))) ∧ LedAt w' b B C H ∧ Below w.heap.size w w' := by
  have e0 : decide (0 ≤ n ∧ n ≤ B - C) = decide (why B C n = 0) := by
    by_cases e : why B C n = 0
    · have := why_ok e
      simp [e]; omega
    · simp only [e, decide_false]
      unfold why at e
      simp only [decide_eq_false_iff_not]
      intro h
      rw [if_neg (by omega), if_neg (by omega)] at e
      exact e rfl
  rw [e0]
  clear e0
  by_cases e : why B C n = 0
  · have HE := Lib.hid e
    simp only [e, decide_true]
    clear e
    go_enter Try.func13, Try.ntmps13
    go_wp2_with fail
    refine (refusal_any b B C H n _ h hs).mono ?_
    rintro e w1 ⟨rfl, h1, b1⟩
    rw [HE.out]
    go_wp2
    go_ret
    exact ⟨rfl, h1, b1⟩
  · have hd : (why B C n == 0) = false := by simp [e]
    simp only [e, decide_false]
    go_enter Try.func13, Try.ntmps13
    go_wp2_with fail
    refine (refusal_any b B C H n _ h hs).mono ?_
    rintro e w1 ⟨rfl, h1, b1⟩
    go_wp2
    go_ret
    exact ⟨rfl, h1, b1⟩

set_option maxHeartbeats 400000 in
theorem fits_nil (n : Int) (w : World) : Calls Try.prog 13 #[.pointer none, .int .i64 n] w fun e w' => e = .returned (.bool false) ∧ w = w' := by
  go_enter Try.func13, Try.ntmps13
  go_wp2_with fail
  refine (refusal_nil _ _).mono ?_
  rintro e w1 ⟨rfl, rfl⟩
  go_wp2
  go_ret
  exact ⟨rfl, rfl⟩

theorem set1 {w : World} {b : Nat} {B C H n : Int} (h : LedAt w b B C H) : LedAt (w.setCell ⟨b, 1, none⟩ (.int .i64 n)) b B n H := by
  unfold LedAt at h ⊢
  rw [heap_setCell_same w b 1 _ _ _ h]; rfl
theorem set2 {w : World} {b : Nat} {B C H n : Int} (h : LedAt w b B C H) : LedAt (w.setCell ⟨b, 2, none⟩ (.int .i64 n)) b B C n := by
  unfold LedAt at h ⊢
  rw [heap_setCell_same w b 2 _ _ _ h]; rfl
theorem set0 {w : World} {b : Nat} {B C H n : Int} (h : LedAt w b B C H) : LedAt (w.setCell ⟨b, 0, none⟩ (.int .i64 n)) b n C H := by
  unfold LedAt at h ⊢
  rw [heap_setCell_same w b 0 _ _ _ h]; rfl
theorem KeptBut.set (w : World) (b i : Nat) (u : Value) : KeptBut b w (w.setCell ⟨b, i, none⟩ u) := ⟨rfl, rfl, rfl, by simp [World.setCell], fun k _ hn => Below.heap_setCell w ⟨b, i, none⟩ u k hn⟩
theorem KeptBut.of_below {b : Nat} {w w' : World} (h : Below w.heap.size w w') : KeptBut b w w' := ⟨h.os, h.tape, h.output, h.size, fun i hi _ => h.block i hi⟩

theorem LedAt.drew {w : World} {b : Nat} {B C H : Int} (h : LedAt w b B C H) : LedAt w.drew b B C H := h
theorem KeptBut.drew {b : Nat} {w w' : World} (h : KeptBut b w w') : KeptBut b w w'.drew := ⟨h.os, h.tape, h.output, h.size, h.block⟩

set_option maxHeartbeats 400000 in
theorem charge_any (b : Nat) (B C H n : Int) (w : World) (h : LedAt w b B C H) (hs : Sane B C H) :
    Calls Try.prog 14 #[.pointer (some ⟨b, 0, none⟩), .int .i64 n] w fun e w' => e = .returned (.int .i64 (why B C n)) ∧ LedAt w' b B (chC B C n) (chH B C H n) ∧ KeptBut b w w' := by
  by_cases e : why B C n = 0
  · obtain ⟨n0, n1⟩ := why_ok e
    have e1 : chC B C n = C + n := by simp [chC, e]
    have e2 : chH B C H n = max H (C + n) := by simp [chH, e]
    rw [e1, e2]
    clear e1 e2
    have HE := Lib.hid e
    clear e
    go_enter Try.func14, Try.ntmps14
    go_wp2_with fail
    refine (refusal_any b B C H n _ h hs).mono ?_
    rintro e w1 ⟨rfl, h1, b1⟩
    rw [HE.out]
    obtain ⟨b0, b1', b2, h0, h1'⟩ := hs
    have c0 := h1.c0
    have c1 := h1.c1
    have c2 := h1.c2
    have f1 := h1.f (i := 1)
    have f2 := h1.f (i := 2)
    have hh := Lib.hid h1
    clear h1 h
    go_wp2
    go_region
    all_goals go_wp2
    all_goals go_ret
    all_goals refine ⟨by rw [HE.out]; rfl, ?_, (KeptBut.of_below b1).trans ((KeptBut.set w1 b 1 _).trans (KeptBut.drew (KeptBut.set _ b 2 _)))⟩
    all_goals first
      | (rw [show max H (C + n) = C + n by omega]; exact LedAt.drew (set2 (set1 hh.out)))
      | (rw [show max H (C + n) = H by omega]; exact LedAt.drew (set2 (set1 hh.out)))
  · have hd : (why B C n == 0) = false := by simp [e]
    have e1 : chC B C n = C := by simp [chC, e]
    have e2 : chH B C H n = H := by simp [chH, e]
    rw [e1, e2]
    clear e1 e2
    go_enter Try.func14, Try.ntmps14
    go_wp2_with fail
    refine (refusal_any b B C H n _ h hs).mono ?_
    rintro e w1 ⟨rfl, h1, b1⟩
    go_wp2
    go_ret
    exact ⟨rfl, h1, KeptBut.of_below b1⟩

set_option maxHeartbeats 400000 in
theorem charge_nil (n : Int) (w : World) : Calls Try.prog 14 #[.pointer none, .int .i64 n] w fun e w' => e = .returned (.int .i64 2) ∧ w = w' := by
  go_enter Try.func14, Try.ntmps14
  go_wp2_with fail
  refine (refusal_nil _ _).mono ?_
  rintro e w1 ⟨rfl, rfl⟩
  go_wp2
  go_ret
  exact ⟨rfl, rfl⟩

set_option maxHeartbeats 400000 in
theorem refund_any (b : Nat) (B C H n : Int) (w : World) (h : LedAt w b B C H) (hs : Sane B C H) :
    Calls Try.prog 15 #[.pointer (some ⟨b, 0, none⟩), .int .i64 n] w fun e w' => e = .returned (.int .i64 (reE C n)) ∧ LedAt w' b B (reC C n) H ∧ KeptBut b w w' := by
  have c1 := h.c1
  have f1 := h.f (i := 1)
  have hh := Lib.hid h
  clear h
  obtain ⟨b0, b1', b2, h0, h1'⟩ := hs
  by_cases hn : n < 0
  · have e1 : reE C n = 1 := by simp [reE, hn]
    have e2 : reC C n = C := by simp [reC, hn]
    rw [e1, e2]
    clear e1 e2
    go_enter Try.func15, Try.ntmps15
    go_wp2
    go_ret
    exact ⟨rfl, hh.out, KeptBut.refl _ _⟩
  · by_cases hc : C < n
    · have e1 : reE C n = 1 := by simp [reE, hc]
      have e2 : reC C n = C := by simp [reC, hc]
      rw [e1, e2]
      clear e1 e2
      have hd : decide (n < 0) = false := by simp; omega
      go_enter Try.func15, Try.ntmps15
      go_wp2
      go_ret
      exact ⟨rfl, hh.out, KeptBut.refl _ _⟩
    · have e1 : reE C n = 0 := by simp [reE, hc, hn]
      have e2 : reC C n = C - n := by simp [reC, hc, hn]
      rw [e1, e2]
      clear e1 e2
      have hd : decide (n < 0) = false := by simp; omega
      have hd2 : decide (C < n) = false := by simp; omega
      go_enter Try.func15, Try.ntmps15
      go_wp2
      go_ret
      exact ⟨rfl, set1 hh.out, KeptBut.set _ _ _ _⟩

set_option maxHeartbeats 400000 in
theorem refund_nil (n : Int) (w : World) : Calls Try.prog 15 #[.pointer none, .int .i64 n] w fun e w' => e = .returned (.int .i64 2) ∧ w = w' := by
  go_enter Try.func15, Try.ntmps15
  go_wp2
  go_ret
  exact ⟨rfl, rfl⟩

set_option maxHeartbeats 400000 in
theorem set_any (b : Nat) (B C H n : Int) (w : World) (h : LedAt w b B C H) :
    Calls Try.prog 16 #[.pointer (some ⟨b, 0, none⟩), .int .i64 n] w fun e w' => e = .returned (.int .i64 (seE C n)) ∧ LedAt w' b (seB B C n) C H ∧ KeptBut b w w' := by
  have c0 := h.c0
  have c1 := h.c1
  have f1 := h.f (i := 0)
  have hh := Lib.hid h
  clear h
  by_cases hn : n < 0 ∨ 1099511627776 < n
  · have e1 : seE C n = 1 := by simp [seE, hn]
    have e2 : seB B C n = B := by simp [seB, hn]
    have e3 : isBudget n = false := by simp [isBudget]; omega
    rw [e1, e2]
    clear e1 e2 hn
    go_enter Try.func16, Try.ntmps16
    go_wp2_with fail
    refine (isBudget_any _ _).mono ?_
    rintro e w1 ⟨rfl, rfl⟩
    rw [e3]
    go_wp2
    go_ret
    exact ⟨rfl, hh.out, KeptBut.refl _ _⟩
  · have e3 : isBudget n = true := by simp [isBudget]; omega
    by_cases hc : n < C
    · have e1 : seE C n = 4 := by simp [seE, hn, hc]
      have e2 : seB B C n = B := by simp [seB, hn, hc]
      rw [e1, e2]
      clear e1 e2 hn
      go_enter Try.func16, Try.ntmps16
      go_wp2_with fail
      refine (isBudget_any _ _).mono ?_
      rintro e w1 ⟨rfl, rfl⟩
      rw [e3]
      go_wp2
      go_ret
      exact ⟨rfl, hh.out, KeptBut.refl _ _⟩
    · have e1 : seE C n = 0 := by simp [seE, hn, hc]
      have e2 : seB B C n = n := by simp [seB, hn, hc]
      rw [e1, e2]
      clear e1 e2 hn
      go_enter Try.func16, Try.ntmps16
      go_wp2_with fail
      refine (isBudget_any _ _).mono ?_
      rintro e w1 ⟨rfl, rfl⟩
      rw [e3]
      go_wp2
      go_ret
      exact ⟨rfl, set0 hh.out, KeptBut.set _ _ _ _⟩

set_option maxHeartbeats 400000 in
theorem set_nil (n : Int) (w : World) : Calls Try.prog 16 #[.pointer none, .int .i64 n] w fun e w' => e = .returned (.int .i64 2) ∧ w = w' := by
  go_enter Try.func16, Try.ntmps16
  go_wp2
  go_ret
  exact ⟨rfl, rfl⟩

set_option maxHeartbeats 400000 in
theorem alive_any (w : World) : Calls Try.prog 8 #[] w fun e w' => e = .returned (.bool true) ∧ Below w.heap.size w w' := by
  go_enter Try.func8, Try.ntmps8
  go_wp2_with fail
  refine (new_good _ _ (by decide)).mono ?_
  rintro e w1 ⟨rfl, h1, b1⟩
  go_wp2_with fail
  refine (charge_any _ _ _ _ _ _ h1 (Sane.new (by decide))).mono ?_
  rintro e w2 ⟨rfl, h2, k2⟩
  have s2 : Sane 3 (chC 3 0 2) (chH 3 0 0 2) := (Sane.new (by decide)).charge
  have b2 := k2.below b1.size (Nat.le_refl _)
  have e1 : why 3 0 2 = 0 := by decide
  rw [e1]
  go_wp2_with fail
  refine (charge_any _ _ _ _ _ _ h2 s2).mono ?_
  rintro e w3 ⟨rfl, h3, k3⟩
  have b3 := k3.below (B := w.heap.size) (Nat.le_trans b1.size b2.size) (Nat.le_refl _)
  have e2 : why 3 (chC 3 0 2) 2 = 4 := by decide
  rw [e2]
  go_wp2_with fail
  refine (new_bad _ _ (by decide)).mono ?_
  rintro e w4 ⟨rfl, rfl⟩
  go_wp2
  go_ret
  exact ⟨rfl, (b1.trans b2).trans b3⟩

end Go.Proofs.Ytgifjakblcfpnaa

/-
  The contract of the law file's 'do': one call on a ledger.
-/
import Derived.Test.YtgifjakblcfpnaaTwo
namespace Go.Proofs.Ytgifjakblcfpnaa
open Go.RowKit

def doE (k B C n : Int) : Int := if k = 0 then why B C n else if k = 1 then reE C n else seE C n
def doB (k B C n : Int) : Int := if k = 0 ∨ k = 1 then B else seB B C n
def doC (k B C n : Int) : Int := if k = 0 then chC B C n else if k = 1 then reC C n else C
def doH (k B C H n : Int) : Int := if k = 0 then chH B C H n else H

theorem Sane.act {B C H : Int} (k n : Int) (h : Sane B C H) : Sane (doB k B C n) (doC k B C n) (doH k B C H n) := by
  unfold doB doC doH
  by_cases k0 : k = 0
  · rw [if_pos (.inl k0), if_pos k0, if_pos k0]; exact h.charge
  · by_cases k1 : k = 1
    · rw [if_pos (.inr k1), if_neg k0, if_pos k1, if_neg k0]; exact h.refund
    · rw [if_neg (by omega), if_neg k0, if_neg k1, if_neg k0]; exact h.set

theorem LedAt.alloc {w : World} {b : Nat} {B C H : Int} (h : LedAt w b B C H) (o : Obj) : LedAt (w.alloc o) b B C H := (Below.heap_alloc w o b h.lt).trans h
theorem KeptBut.alloc (b : Nat) (w : World) (o : Obj) : KeptBut b w (w.alloc o) := ⟨rfl, rfl, rfl, by simp, fun k hk _ => Below.heap_alloc w o k hk⟩

set_option maxHeartbeats 400000 in
theorem do_any (b : Nat) (B C H k n : Int) (w : World) (h : LedAt w b B C H) (hs : Sane B C H) :
    Calls Try.prog 11 #[.pointer (some ⟨b, 0, none⟩), .agg #[.int .i64 k, .int .i64 n]] w fun e w' => e = .returned (.int .i64 (doE k B C n)) ∧ LedAt w' b (doB k B C n) (doC k B C n) (doH k B C H n) ∧ KeptBut b w w' := by
  have hA := LedAt.alloc h (.cells #[.int .i64 k, .int .i64 n] 31)
  have hK := KeptBut.alloc b w (.cells #[.int .i64 k, .int .i64 n] 31)
  unfold doE doB doC doH
  by_cases k0 : k = 0
  · rw [if_pos k0, if_pos (.inl k0), if_pos k0, if_pos k0]
    subst k0
    go_enter Try.func11, Try.ntmps11
    go_wp2_with fail
    refine (charge_any _ _ _ _ _ _ hA hs).mono ?_
    rintro e w1 ⟨rfl, h1, k1⟩
    go_wp2
    go_ret
    exact ⟨rfl, h1, hK.trans k1⟩
  · by_cases k1 : k = 1
    · rw [if_neg k0, if_pos k1, if_pos (.inr k1), if_neg k0, if_pos k1, if_neg k0]
      subst k1
      go_enter Try.func11, Try.ntmps11
      go_wp2_with fail
      refine (refund_any _ _ _ _ _ _ hA hs).mono ?_
      rintro e w1 ⟨rfl, h1, k1⟩
      go_wp2
      go_ret
      exact ⟨rfl, h1, hK.trans k1⟩
    · rw [if_neg k0, if_neg k1, if_neg (by omega), if_neg k0, if_neg k1, if_neg k0]
      have d0 : (k == 0) = false := by simp [k0]
      have d1 : (k == 1) = false := by simp [k1]
      go_enter Try.func11, Try.ntmps11
      go_wp2_with fail
      refine (set_any _ _ _ _ _ _ hA).mono ?_
      rintro e w1 ⟨rfl, h1, k1⟩
      go_wp2
      go_ret
      exact ⟨rfl, h1, hK.trans k1⟩

end Go.Proofs.Ytgifjakblcfpnaa

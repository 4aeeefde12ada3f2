/-
  LedgerTwo returns true for every three numbers. No condition beside the form's own.
-/
import Derived.Test.YtgifjakblcfpnaaOps
import Derived.ProofKit
import Derived.OpenShut
namespace Go.Proofs.Ytgifjakblcfpnaa
open Go.ChangeShapes Go.WideShapes Go.ChangeAt Go.RowKit

/-- What the four charges of LedgerTwo come to, in numbers. -/
structure TwoNums (B p q one e f c want : Int) : Prop where
  hone : why B 0 (p + q) = one
  he : why B 0 p = e
  hc : chC B 0 p = c
  hf : why B c q = f
  hwant : chC B c q = want
  fit : 0 ≤ want ∧ want ≤ B

theorem why_zero {B C n : Int} (h0 : 0 ≤ n) (h : n ≤ B - C) : why B C n = 0 := by unfold why; rw [if_neg (by omega), if_neg (by omega)]
theorem why_four {B C n : Int} (h0 : 0 ≤ n) (h : B - C < n) : why B C n = 4 := by unfold why; rw [if_neg (by omega), if_pos h]
theorem chC_zero {B C n : Int} (h0 : 0 ≤ n) (h : n ≤ B - C) : chC B C n = C + n := by unfold chC; rw [if_pos (why_zero h0 h)]
theorem chC_four {B C n : Int} (h0 : 0 ≤ n) (h : B - C < n) : chC B C n = C := by unfold chC; rw [why_four h0 h]; rfl

theorem sane_of_charge {w : World} {b : Nat} {B C H n : Int} (_ : LedAt w b B (chC B C n) (chH B C H n)) (h : Sane B C H) : Sane B (chC B C n) (chH B C H n) := h.charge

set_option maxHeartbeats 1000000 in
theorem two_walk (B p q : Int) (B0 : 0 ≤ B) (B1 : B ≤ 65535) (p0 : 0 ≤ p) (p1 : p ≤ 65535) (q0 : 0 ≤ q) (q1 : q ≤ 65535) (w : World) :
    Calls Try.prog 6 #[.int .u16 B, .int .u16 p, .int .u16 q] w fun e w' => e = .returned (.bool true) ∧ Below w.heap.size w w' := by
  have hb : isBudget B = true := by simp [isBudget]; omega
  have hcases : (p + q ≤ B ∧ TwoNums B p q 0 0 0 p (p + q)) ∨ (B < p + q ∧ p ≤ B ∧ TwoNums B p q 4 0 4 p p) ∨ (B < p + q ∧ B < p ∧ q ≤ B ∧ TwoNums B p q 4 4 0 0 q) ∨ (B < p + q ∧ B < p ∧ B < q ∧ TwoNums B p q 4 4 4 0 0) := by
    by_cases h1 : p + q ≤ B
    · exact .inl ⟨h1, why_zero (by omega) (by omega), why_zero (by omega) (by omega), (chC_zero (by omega) (by omega)).trans (by omega), why_zero (by omega) (by omega), chC_zero (by omega) (by omega), by omega⟩
    · by_cases h2 : p ≤ B
      · exact .inr (.inl ⟨by omega, h2, why_four (by omega) (by omega), why_zero (by omega) (by omega), (chC_zero (by omega) (by omega)).trans (by omega), why_four (by omega) (by omega), chC_four (by omega) (by omega), by omega⟩)
      · by_cases h3 : q ≤ B
        · exact .inr (.inr (.inl ⟨by omega, by omega, h3, why_four (by omega) (by omega), why_four (by omega) (by omega), chC_four (by omega) (by omega), why_zero (by omega) (by omega), (chC_zero (by omega) (by omega)).trans (by omega), by omega⟩))
        · exact .inr (.inr (.inr ⟨by omega, by omega, by omega, why_four (by omega) (by omega), why_four (by omega) (by omega), chC_four (by omega) (by omega), why_four (by omega) (by omega), chC_four (by omega) (by omega), by omega⟩))
  rcases hcases with ⟨g1, hN⟩ | ⟨g1, g2, hN⟩ | ⟨g1, g2, g3, hN⟩ | ⟨g1, g2, g3, hN⟩
  all_goals
    obtain ⟨E1, E2, E3, E4, E5, E6⟩ := hN
    have E1 := Lib.hid E1
    have E2 := Lib.hid E2
    have E3 := Lib.hid E3
    have E4 := Lib.hid E4
    have E5 := Lib.hid E5
    have S0 := Lib.hid (Sane.new hb)
    have S1 := Lib.hid (Sane.charge (n := p) S0.out)
    have S2 := Lib.hid (Sane.charge (n := q) S1.out)
    rw [E3.out] at S1 S2
    rw [E5.out] at S2
    go_enter Try.func6, Try.ntmps6
    go_wp2_with fail
    refine (alive_any _).mono ?_
    rintro e w1 ⟨rfl, b1⟩
    go_wp2_with fail
    refine (new_good _ _ hb).mono ?_
    rintro e w2 ⟨rfl, x2, b2⟩
    go_wp2_with fail
    refine (new_good _ _ hb).mono ?_
    rintro e w3 ⟨rfl, y3, b3⟩
    have hxy : w2.heap.size ≠ w1.heap.size := Nat.ne_of_gt x2.lt
    have x3 := x2.below b3 x2.lt
    clear x2
    have b02 : Below w.heap.size w w2 := b1.trans (b2.mono b1.size)
    have b03 : Below w.heap.size w w3 := b02.trans (b3.mono b02.size)
    go_wp2_with fail
    refine (charge_any _ _ _ _ _ _ x3 S0.out).mono ?_
    rintro e w4 ⟨rfl, x4, k4⟩
    rw [E1.out]
    have y4 := y3.kept k4 hxy
    have b04 := b03.trans (k4.below b03.size b1.size)
    clear x3 y3 x4 k4 b3 hxy
    go_wp2_with fail
    refine (charge_any _ _ _ _ _ _ y4 S0.out).mono ?_
    rintro e w5 ⟨rfl, y5, k5⟩
    rw [E2.out]
    rw [E3.out] at y5
    have b05 := b04.trans (k5.below b04.size b02.size)
    clear y4 k5
    go_wp2_with fail
    refine (charge_any _ _ _ _ _ _ y5 S1.out).mono ?_
    rintro e w6 ⟨rfl, y6, k6⟩
    rw [E4.out]
    rw [E5.out] at y6
    have b06 := b05.trans (k6.below b05.size b02.size)
    clear y5 k6
    go_wp2_with fail
    refine (numbers_any _ _ _ _ _ y6).mono ?_
    rintro e w7 ⟨rfl, y7, k7⟩
    have b07 := b06.trans (k7.mono b06.size)
    clear y6 k7
    go_wp2_with fail
    refine (fits_any _ _ _ _ _ _ y7 S2.out).mono ?_
    rintro e w8 ⟨rfl, y8, k8⟩
    rw [decide_eq_true (by omega)]
    have b08 := b07.trans (k8.mono b07.size)
    clear y7 k8
    go_wp2_with fail
    refine (fits_any _ _ _ _ _ _ y8 S2.out).mono ?_
    rintro e w9 ⟨rfl, y9, k9⟩
    rw [decide_eq_false (by omega)]
    have b09 := b08.trans (k9.mono b08.size)
    clear y8 k9
    go_wp2_with fail
    refine (charge_any _ _ _ _ _ _ y9 S2.out).mono ?_
    rintro e w10 ⟨rfl, y10, k10⟩
    have S3 := Lib.hid (sane_of_charge y10 S2.out)
    rw [why_zero (by omega) (by omega)]
    rw [chC_zero (by omega) (by omega)] at y10 S3
    have b10 := b09.trans (k10.below b09.size b02.size)
    clear y9 k10
    go_wp2_with fail
    refine (fits_any _ _ _ _ _ _ y10 S3.out).mono ?_
    rintro e w11 ⟨rfl, y11, k11⟩
    rw [decide_eq_false (by omega)]
    have b11 := b10.trans (k11.mono b10.size)
    clear y10 k11
    go_wp2_with fail
    refine (fits_any _ _ _ _ _ _ y11 S3.out).mono ?_
    rintro e w12 ⟨rfl, y12, k12⟩
    rw [decide_eq_true (by omega)]
    have b12 := b11.trans (k12.mono b11.size)
    clear y11 k12
    go_wp2_with fail
    go_ret
    exact ⟨rfl, b12⟩

theorem own : ownKnob Try.prog.godebug = none := by kernel_rfl

set_option maxRecDepth 100000 in
theorem two_lifted (os : Os) (started : os.Started) (H : Type) (enc : TypeId × Value → H) :
    ReturnsInHanded {} Try.checked os 6 .any (Rows.ledgerTwoSpec.pre6 enc Try.prog Try.f6 Rows.ledgerTwoRow.domain false) (Rows.ledgerTwoSpec.post enc Try.prog Try.f6 false true false false) := by
  refine returnsInHanded_of_change (C := Try.checked) own started (by kernel_rfl) Try.func6
    (ChangeSpec.witness6 (enc := enc) (C := Try.checked) false ⟨#[], #[.int .u16 0, .int .u16 0, .int .u16 0], []⟩ 8 (by kernel_rfl) (by kernel_rfl) (by kernel_rfl) (by kernel_rfl)) ?_
  intro W base args ds gs before hval0 hW _ _
  have hval : ∀ (j : Nat) t v, Try.f6.params[j]? = some t → args[j]? = some v → Value.okWide Try.prog W .any base t v := hval0
  have hW' := hW
  obtain ⟨p, q, hA0, hV, rfl, _, _⟩ := hW
  have hA : DataW.TrodAll enc Try.prog W 0 (fun _ => true) true Try.f6.params.toList args.toList ds p := hA0
  rw [Try.params6] at hA hval
  obtain ⟨v0, vs0, d0, ds0, p0, q0, hargs, rfl, rfl, h0, r0⟩ := trodAll_cons hA
  obtain ⟨v1, vs1, d1, ds1, p1, q1, rfl, rfl, rfl, h1, r1⟩ := trodAll_cons r0
  obtain ⟨v2, vs2, d2, ds2, p2, q2, rfl, rfl, rfl, h2, r2⟩ := trodAll_cons r1
  obtain ⟨rfl, rfl, rfl⟩ := trodAll_nil r2
  obtain rfl : args = #[v0, v1, v2] := by cases args; simp_all
  obtain ⟨rfl, rfl⟩ := trodVars_none hV
  obtain ⟨a0, rfl, rfl, rfl, w0⟩ := open_int Try.underlying39 (hval 0 39 v0 rfl rfl) h0
  obtain ⟨a1, rfl, rfl, rfl, w1⟩ := open_int Try.underlying39 (hval 1 39 v1 rfl rfl) h1
  obtain ⟨a2, rfl, rfl, rfl, w2⟩ := open_int Try.underlying39 (hval 2 39 v2 rfl rfl) h2
  clear hA0 hval0
  have n0 := bounds_u16 w0
  have n1 := bounds_u16 w1
  have n2 := bounds_u16 w2
  refine (two_walk a0 a1 a2 n0.1 n0.2 n1.1 n1.2 n2.1 n2.2 W).mono fun e W' ⟨he, bel⟩ => ?_
  subst he
  exact ⟨_, rfl, _, _, _, [], _, [], hW', trodAll_mk1 (shut_bool Try.underlying4 _), (trodAll_cons_mk (shut_int Try.underlying39 w0) (trodAll_cons_mk (shut_int Try.underlying39 w1) (trodAll_cons_mk (shut_int Try.underlying39 w2) trodAll_mk0))), rfl, bel.frame _, fun h => by cases h⟩

theorem ledgerTwo_holds : Rows.LedgerTwoSaid :=
  OpenClaim.holds_of_wide 6 Try.f6 rfl rfl rfl rfl rfl rfl rfl ⟨rfl, rfl, rfl, rfl, rfl⟩ rfl rfl rfl rfl rfl (by kernel_rfl) Try.func6 (by kernel_rfl)
    (of_decide_eq_true (by kernel_rfl)) (by unfold Func.isWrapper; first | (rw [if_pos (by decide +kernel)]; kernel_rfl) | (rw [if_neg (by decide +kernel)]; exact ⟨rfl, rfl⟩))
    (fun os started H enc _ => two_lifted os started H enc)

#print axioms ledgerTwo_holds

end Go.Proofs.Ytgifjakblcfpnaa

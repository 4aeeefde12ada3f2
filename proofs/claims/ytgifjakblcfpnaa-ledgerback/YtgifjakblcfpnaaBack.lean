/-
  LedgerBack returns true for every slice of bytes and every byte, and leaves them as they were. No condition beside the form's own.
-/
import Derived.Test.YtgifjakblcfpnaaHigh
namespace Go.Proofs.Ytgifjakblcfpnaa
open Go.ChangeShapes Go.WideShapes Go.ChangeAt Go.RowKit

def tot (zs : List Int) (k : Nat) : Int := (zs.take k).sum

theorem tot_zero (zs : List Int) : tot zs 0 = 0 := rfl
theorem tot_succ {zs : List Int} {k : Nat} {z : Int} (h : zs[k]? = some z) : tot zs (k + 1) = tot zs k + z := by
  unfold tot
  rw [List.take_add_one, h]
  simp [List.sum_append]
theorem tot_le {zs : List Int} (h : ∀ (i : Nat) (z : Int), zs[i]? = some z → 0 ≤ z ∧ z ≤ 255) : ∀ k, k ≤ zs.length → 0 ≤ tot zs k ∧ tot zs k ≤ 255 * k
  | 0, _ => by simp [tot_zero]
  | k + 1, hk => by
    have ih := tot_le h k (by omega)
    obtain ⟨z, hz⟩ : ∃ z, zs[k]? = some z := ⟨_, List.getElem?_eq_getElem (by omega)⟩
    have := h k z hz
    rw [tot_succ hz]
    omega
theorem tot_mono {zs : List Int} (h : ∀ (i : Nat) (z : Int), zs[i]? = some z → 0 ≤ z ∧ z ≤ 255) {n : Nat} : ∀ k, k + n ≤ zs.length → tot zs k ≤ tot zs (k + n) := by
  induction n with
  | zero => intro k _; exact Int.le_refl _
  | succ n ih =>
    intro k hk
    obtain ⟨z, hz⟩ : ∃ z, zs[k + n]? = some z := ⟨_, List.getElem?_eq_getElem (by omega)⟩
    have := h _ z hz
    have := ih k (by omega)
    rw [show k + (n + 1) = k + n + 1 by omega, tot_succ hz]
    omega

set_option maxHeartbeats 1000000 in
theorem back_walk (a : Option Addr) (zs : List Int) (cap : Nat) (kk : Int) (w : World) (hzs : Ints .u8 w w.heap.size a zs) (k0 : 0 ≤ kk) (k1 : kk ≤ 255) :
    Calls Try.prog 5 #[.slice a zs.length cap, .int .u8 kk] w fun e w' => e = .returned (.bool true) ∧ Below w.heap.size w w' := by
  have hlen := hzs.len
  have hr : ∀ (i : Nat) (z : Int), zs[i]? = some z → 0 ≤ z ∧ z ≤ 255 := fun i z hz => bounds_u8 (hzs.wf i z hz)
  by_cases hbig : 100 < zs.length
  · go_enter Try.func5, Try.ntmps5
    go_wp2_with fail
    refine (alive_any _).mono ?_
    rintro e w1 ⟨rfl, b1⟩
    go_wp2_with fail
    go_ret
    exact ⟨rfl, b1⟩
  · have hbig' : zs.length ≤ 100 := by omega
    have hd : decide (100 < (zs.length : Int)) = false := by simp; omega
    clear hbig hlen
    have HR := Lib.hid hr
    clear hr
    go_enter Try.func5, Try.ntmps5
    go_wp2_with fail
    refine (alive_any _).mono ?_
    rintro e w1 ⟨rfl, b1⟩
    go_wp2_with fail
    refine (new_good _ _ (by decide)).mono ?_
    rintro e w2 ⟨rfl, h2, b2⟩
    have b02 : Below w.heap.size w w2 := b1.trans (b2.mono b1.size)
    clear b2 hd
    go_wp2_with fail
    go_loopw [7, 8] (fun sum i wr => ∃ k : Nat, k ≤ zs.length ∧ i = .int .i64 k ∧ sum = .int .i64 (tot zs k) ∧ LedAt wr w1.heap.size 1048576 (tot zs k) (tot zs k) ∧ Below w.heap.size w wr) (fun _ i _ => zs.length - (intOf i).toNat)
    case atStart => exact ⟨0, Nat.zero_le _, rfl, rfl, h2, b02⟩
    case round =>
      clear h2 b02
      obtain ⟨k, hk, rfl, rfl, hT, hB⟩ := hrel
      obtain ⟨t0, t1⟩ := tot_le HR.out k hk
      have hS : Sane 1048576 (tot zs k) (tot zs k) := by refine ⟨?_, ?_, ?_, ?_, ?_⟩ <;> omega
      by_cases hlt : k < zs.length
      · obtain ⟨z, hz⟩ : ∃ z, zs[k]? = some z := ⟨_, List.getElem?_eq_getElem hlt⟩
        obtain ⟨b, off, rfl, hbl, hc⟩ := hzs.cell k z hz
        have hc' := (hB.cell (p := ⟨b, off + k, none⟩) hbl).trans hc
        obtain ⟨z0, z1⟩ := HR.out k z hz
        have HT := Lib.hid (tot_succ hz)
        clear hz hc
        go_wp2_with fail
        refine (charge_any _ _ _ _ _ _ hT hS).mono ?_
        rintro e w3 ⟨rfl, h3, k3⟩
        rw [why_zero (by omega) (by omega)]
        rw [chC_zero (by omega) (by omega), chH_zero (by omega) (by omega), show max (tot zs k) (tot zs k + z) = tot zs k + z by omega] at h3
        have b3 := hB.trans (k3.below hB.size b1.size)
        have hc3 := (b3.cell (p := ⟨b, off + k, none⟩) hbl)
        have hc3' := hc3.trans ((hB.cell (p := ⟨b, off + k, none⟩) hbl).symm.trans hc')
        clear hc3
        go_wp2_with fail
        go_roundw
        case rel => exact ⟨k + 1, by omega, by go_num, by rw [HT.out], by rw [HT.out]; exact h3, b3⟩
        case measure => simp [intOf]; omega
      · obtain rfl : k = zs.length := by omega
        obtain ⟨S, hSd⟩ : ∃ S, S = tot zs zs.length := ⟨_, rfl⟩
        rw [← hSd] at hT hS t0 t1 ⊢
        have HSD := Lib.hid hSd
        clear hSd hk hlt
        have e1 : seE S S = 0 := by unfold seE; rw [if_neg (by omega), if_neg (by omega)]
        have e2 : seB 1048576 S S = S := by unfold seB; rw [if_neg (by omega), if_neg (by omega)]
        have hcases : ∃ f : Int, seE S (S - 1) = f ∧ ((S = 0 ∧ f = 1) ∨ (0 < S ∧ f = 4)) := by
          by_cases hz : S = 0
          · exact ⟨1, by unfold seE; rw [if_pos (by omega)], .inl ⟨hz, rfl⟩⟩
          · exact ⟨4, by unfold seE; rw [if_neg (by omega), if_pos (by omega)], .inr ⟨by omega, rfl⟩⟩
        obtain ⟨f, e3, hf⟩ := hcases
        have e4 : seB S S (S - 1) = S := by
          unfold seB
          by_cases hz : S = 0
          · rw [if_pos (by omega)]
          · rw [if_neg (by omega), if_pos (by omega)]
        have S2 : Sane S S S := by refine ⟨?_, ?_, ?_, ?_, ?_⟩ <;> omega
        go_wp2_with fail
        refine (set_any _ _ _ _ _ _ hT).mono ?_
        rintro e w3 ⟨rfl, h3, k3⟩
        rw [e1]
        rw [e2] at h3
        have b3 := hB.trans (k3.below hB.size b1.size)
        go_wp2_with fail
        refine (set_any _ _ _ _ _ _ h3).mono ?_
        rintro e w4 ⟨rfl, h4, k4⟩
        rw [e3]
        rw [e4] at h4
        have b4 := b3.trans (k4.below b3.size b1.size)
        go_wp2_with fail
        refine (fits_any _ _ _ _ _ _ h4 S2).mono ?_
        rintro e w5 ⟨rfl, h5, k5⟩
        rw [decide_eq_false (by omega)]
        have b5 := b4.trans (k5.mono b4.size)
        clear e1 e2 e3 e4 h3 h4 k3 k4 k5 b3 b4 hT hS hB
        go_wp2_with fail
        go_loopw [12] (fun i wr => ∃ j : Nat, j ≤ zs.length ∧ i = .int .i64 ((j : Int) - 1) ∧ LedAt wr w1.heap.size S (tot zs j) S ∧ Below w.heap.size w wr) (fun i _ => (intOf i + 1).toNat)
        case atStart => exact ⟨zs.length, Nat.le_refl _, by go_num, by rw [← HSD.out]; exact h5, b5⟩
        case round =>
          clear h5 b5
          obtain ⟨j, hj, rfl, hT, hB⟩ := hrel
          have hm := tot_mono HR.out (n := zs.length - j) j (by omega)
          rw [show j + (zs.length - j) = zs.length by omega, ← HSD.out] at hm
          obtain ⟨j0, j1⟩ := tot_le HR.out j hj
          have hS : Sane S (tot zs j) S := by refine ⟨?_, ?_, ?_, ?_, ?_⟩ <;> omega
          cases j with
          | succ j =>
            obtain ⟨z, hz⟩ : ∃ z, zs[j]? = some z := ⟨_, List.getElem?_eq_getElem (by omega)⟩
            obtain ⟨b, off, rfl, hbl, hc⟩ := hzs.cell j z hz
            have hc' := (hB.cell (p := ⟨b, off + j, none⟩) hbl).trans hc
            obtain ⟨z0, z1⟩ := HR.out j z hz
            obtain ⟨q0, q1⟩ := tot_le HR.out j (by omega)
            rw [tot_succ hz] at hT hS hm j0 j1
            have e1 : reE (tot zs j + z) z = 0 := by unfold reE; rw [if_neg (by omega)]
            have e2 : reC (tot zs j + z) z = tot zs j := by unfold reC; rw [if_neg (by omega)]; omega
            have hi : ((j + 1 : Nat) : Int) - 1 = (j : Int) := by omega
            rw [hi]
            clear hz hc hi
            have hj' : j < zs.length := by omega
            go_wp2_with fail
            refine (refund_any _ _ _ _ _ _ hT hS).mono ?_
            rintro e w6 ⟨rfl, h6, k6⟩
            rw [e1]
            rw [e2] at h6
            have b6 := hB.trans (k6.below hB.size b1.size)
            go_wp2_with fail
            go_roundw
            case rel => exact ⟨j, by omega, by go_num, h6, b6⟩
            case measure => simp [intOf]
          | zero =>
            rw [tot_zero] at hT hS
            have e1 : reE 0 (1 + kk) = 1 := by unfold reE; rw [if_pos (by omega)]
            rcases hf with ⟨hf1, rfl⟩ | ⟨hf1, rfl⟩
            · subst hf1
              go_wp2_with fail
              refine (numbers_any _ _ _ _ _ hT).mono ?_
              rintro e w7 ⟨rfl, h7, k7⟩
              have b7 := hB.trans (k7.mono hB.size)
              go_wp2_with fail
              refine (refund_any _ _ _ _ _ _ h7 hS).mono ?_
              rintro e w8 ⟨rfl, h8, k8⟩
              rw [e1]
              have b8 := b7.trans (k8.below b7.size b1.size)
              go_wp2_with fail
              go_ret
              exact ⟨rfl, b8⟩
            · have hd : (S == 0) = false := by simp; omega
              go_wp2_with fail
              refine (numbers_any _ _ _ _ _ hT).mono ?_
              rintro e w7 ⟨rfl, h7, k7⟩
              have b7 := hB.trans (k7.mono hB.size)
              go_wp2_with fail
              refine (refund_any _ _ _ _ _ _ h7 hS).mono ?_
              rintro e w8 ⟨rfl, h8, k8⟩
              rw [e1]
              have b8 := b7.trans (k8.below b7.size b1.size)
              go_wp2_with fail
              go_ret
              exact ⟨rfl, b8⟩

theorem cells5 : Try.prog.cellsOf 5 = 1 := by kernel_rfl

set_option maxRecDepth 100000 in
theorem back_lifted (os : Os) (started : os.Started) (H : Type) (enc : TypeId × Value → H) :
    ReturnsInHanded {} Try.checked os 5 .any (Rows.ledgerBackSpec.pre6 enc Try.prog Try.f5 Rows.ledgerBackRow.domain false) (Rows.ledgerBackSpec.post enc Try.prog Try.f5 false true false false) := by
  refine returnsInHanded_of_change (C := Try.checked) own started (by kernel_rfl) Try.func5
    (ChangeSpec.witness6 (enc := enc) (C := Try.checked) false ⟨#[], #[.slice none 0 0, .int .u8 0], []⟩ 8 (by kernel_rfl) (by kernel_rfl) (by kernel_rfl) (by kernel_rfl)) ?_
  intro W base args ds gs before hval0 hW _ _
  have hval : ∀ (j : Nat) t v, Try.f5.params[j]? = some t → args[j]? = some v → Value.okWide Try.prog W .any base t v := hval0
  have hW' := hW
  obtain ⟨p, q, hA0, hV, rfl, _, _⟩ := hW
  have hA : DataW.TrodAll enc Try.prog W 0 (fun _ => true) true Try.f5.params.toList args.toList ds p := hA0
  rw [Try.params5] at hA hval
  obtain ⟨v0, v1, d0, d1, p0, p1, rfl, rfl, rfl, h0, h1⟩ := trodAll_two hA
  obtain ⟨rfl, rfl⟩ := trodVars_none hV
  obtain ⟨a0, len, cap, rfl⟩ := okWide_slice Try.underlying42 (hval 0 42 v0 rfl rfl)
  obtain ⟨n, rfl, rfl, rfl, wn⟩ := open_int Try.underlying5 (hval 1 5 v1 rfl rfl) h1
  clear hA0 hval0
  simp only [List.append_nil] at hW'
  have hlt : ∀ x ∈ p0, x.block < W.heap.size := fun x hx => by simpa using hW'.lt x hx
  obtain ⟨zs, rfl, hzs⟩ := ints_of Try.underlying42 Try.underlying5 cells5 h0 hlt
  have bn := bounds_u8 wn
  refine (back_walk a0 zs cap n W hzs bn.1 bn.2).mono fun e W' ⟨he, bel⟩ => ?_
  subst he
  exact ⟨_, rfl, _, _, _, [], _, [], hW', trodAll_mk1 (shut_bool Try.underlying4 _), trodAll_mk2 (Below.trod laidOut (by kernel_rfl) (of_decide_eq_true (by kernel_rfl)) h0 bel hlt) (shut_int Try.underlying5 wn), rfl, bel.frame _, fun h => by cases h⟩

theorem ledgerBack_holds : Rows.LedgerBackSaid :=
  OpenClaim.holds_of_wide 5 Try.f5 rfl rfl rfl rfl rfl rfl rfl ⟨rfl, rfl, rfl, rfl, rfl⟩ rfl rfl rfl rfl rfl (by kernel_rfl) Try.func5 (by kernel_rfl)
    (of_decide_eq_true (by kernel_rfl)) (by unfold Func.isWrapper; first | (rw [if_pos (by decide +kernel)]; kernel_rfl) | (rw [if_neg (by decide +kernel)]; exact ⟨rfl, rfl⟩))
    (fun os started H enc _ => back_lifted os started H enc)

#print axioms ledgerBack_holds

end Go.Proofs.Ytgifjakblcfpnaa

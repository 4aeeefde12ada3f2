/-
  LedgerHigh returns true for every slice of numbers, and leaves it as it was. No condition beside the form's own.
-/
import Derived.Test.YtgifjakblcfpnaaTwo
import Derived.SizedLaws
import Derived.ChangeOld
namespace Go.Proofs.Ytgifjakblcfpnaa
open Go.ChangeShapes Go.WideShapes Go.ChangeAt Go.RowKit

/-- What the walk is told of a slice of integers that came in: its elements are zs, and each lies in its cell, below block B. -/
structure Ints (k : IntKind) (w : World) (B : Nat) (a : Option Addr) (zs : List Int) : Prop where
  cell : ∀ (i : Nat) (z : Int), zs[i]? = some z → ∃ b off, a = some ⟨b, off, none⟩ ∧ b < B ∧ w.cell? ⟨b, off + i, none⟩ = some (.int k z)
  wf : ∀ (i : Nat) (z : Int), zs[i]? = some z → (Lit.int k z).wf = true
  len : zs.length ≤ 9223372036854775807

/-- A slice of integers that was read, as the walk is told of it. -/
theorem ints_of {H : Type} {enc : TypeId × Value → H} {W : World} {a0 : Option Addr} {len cap : Nat} {d : DataW H} {p : List MemPlace} {t e : TypeId} {k : IntKind} (ht : Try.prog.underlying t = some (.slice e)) (he : Try.prog.underlying e = some (.int k)) (hc : Try.prog.cellsOf e = 1)
    (h : DataW.Trod enc Try.prog W 0 (fun _ => true) true t (.slice a0 len cap) d p)
    (hlt : ∀ x ∈ p, x.block < W.heap.size) : ∃ zs : List Int, zs.length = len ∧ Ints k W W.heap.size a0 zs := by
  obtain ⟨fuel, hf⟩ := h
  rcases open_ints ht he hc hf with ⟨hcs, hx⟩ | ⟨a, len', cap', zs, hcs, _, hl, hm, hz, hx, hcell, hwf⟩
  · simp [Value.cells] at hcs
    obtain ⟨rfl, rfl, rfl⟩ := hcs
    exact ⟨[], rfl, ⟨fun i s hs => by simp at hs, fun i s hs => by simp at hs, by simp⟩⟩
  · simp [Value.cells] at hcs
    obtain ⟨rfl, rfl, rfl⟩ := hcs
    simp only [Prod.mk.injEq] at hx
    obtain ⟨rfl, rfl⟩ := hx
    simp only [if_true] at hz
    have hlen : (zs.take len).length = len := by rw [List.length_take]; omega
    refine ⟨zs.take len, hlen, ⟨fun i s hs => ?_, fun i s hs => ?_, ?_⟩⟩
    · have hi : i < len := by have := (List.getElem?_eq_some_iff.1 hs).1; omega
      have hs' : zs.getD i 0 = s := by
        rw [List.getElem?_take, if_pos hi] at hs
        simp [List.getD, hs]
      obtain ⟨b, off, rfl, hcell'⟩ := ints_at hcell (by omega)
      have hc := hcell' i (by omega)
      rw [hs'] at hc
      exact ⟨b, off, rfl, hlt (.cell b off) (MemPlace.mem_row.2 ⟨0, by omega, by simp⟩), hc⟩
    · exact hwf s (List.mem_of_mem_take (List.mem_of_getElem? hs))
    · rw [hlen]; simp only [maxLen] at hm; omega

theorem chH_zero {B C H n : Int} (h0 : 0 ≤ n) (h : n ≤ B - C) : chH B C H n = max H (C + n) := by unfold chH; rw [if_pos (why_zero h0 h)]

/-- The numbers of LedgerHigh behind k rounds. -/
structure HighNums (k : Nat) (nw hi : Int) : Prop where
  a : 0 ≤ nw
  b : nw ≤ hi
  c : hi ≤ 127 * k

theorem HighNums.sane {k : Nat} {nw hi : Int} (h : HighNums k nw hi) (hk : k ≤ 200) : Sane 1073741824 nw hi := by
  obtain ⟨a, b, c⟩ := h
  refine ⟨?_, ?_, ?_, ?_, ?_⟩ <;> omega

set_option maxHeartbeats 1000000 in
theorem high_walk (a : Option Addr) (zs : List Int) (cap : Nat) (w : World) (hzs : Ints .i8 w w.heap.size a zs) :
    Calls Try.prog 7 #[.slice a zs.length cap] w fun e w' => e = .returned (.bool true) ∧ Below w.heap.size w w' := by
  have hlen := hzs.len
  by_cases hbig : 200 < zs.length
  · go_enter Try.func7, Try.ntmps7
    go_wp2_with fail
    refine (alive_any _).mono ?_
    rintro e w1 ⟨rfl, b1⟩
    go_wp2_with fail
    go_ret
    exact ⟨rfl, b1⟩
  · have hbig' : zs.length ≤ 200 := by omega
    have hd : decide (200 < (zs.length : Int)) = false := by simp; omega
    clear hbig hlen
    go_enter Try.func7, Try.ntmps7
    go_wp2_with fail
    refine (alive_any _).mono ?_
    rintro e w1 ⟨rfl, b1⟩
    go_wp2_with fail
    refine (new_good _ _ (by decide)).mono ?_
    rintro e w2 ⟨rfl, h2, b2⟩
    have b02 : Below w.heap.size w w2 := b1.trans (b2.mono b1.size)
    clear b2 hd
    go_wp2_with fail
    go_loopw [5, 6, 7] (fun now high i wr => ∃ (k : Nat) (nw hi : Int), k ≤ zs.length ∧ i = .int .i64 k ∧ now = .int .i64 nw ∧ high = .int .i64 hi ∧ LedAt wr w1.heap.size 1073741824 nw hi ∧ HighNums k nw hi ∧ Below w.heap.size w wr) (fun _ _ i _ => zs.length - (intOf i).toNat)
    case atStart => exact ⟨0, 0, 0, Nat.zero_le _, rfl, rfl, rfl, h2, ⟨by omega, by omega, by omega⟩, b02⟩
    case round =>
      clear h2 b02
      obtain ⟨k, nw, hi, hk, rfl, rfl, rfl, hT, hN, hB⟩ := hrel
      have hS := hN.sane (by omega)
      obtain ⟨n0, n1, n2⟩ := hN
      by_cases hlt : k < zs.length
      · obtain ⟨z, hz⟩ : ∃ z, zs[k]? = some z := ⟨_, List.getElem?_eq_getElem hlt⟩
        obtain ⟨b, off, rfl, hbl, hc⟩ := hzs.cell k z hz
        have hc' := (hB.cell (p := ⟨b, off + k, none⟩) hbl).trans hc
        obtain ⟨z0, z1⟩ := bounds_i8 (hzs.wf k z hz)
        clear hz hc
        have hcases : (0 ≤ z ∧ hi < nw + z) ∨ (0 ≤ z ∧ nw + z ≤ hi) ∨ (z < 0 ∧ nw < -z) ∨ (z < 0 ∧ -z ≤ nw) := by omega
        rcases hcases with ⟨g1, g2⟩ | ⟨g1, g2⟩ | ⟨g1, g2⟩ | ⟨g1, g2⟩
        · go_wp2_with fail
          refine (charge_any _ _ _ _ _ _ hT hS).mono ?_
          rintro e w3 ⟨rfl, h3, k3⟩
          rw [why_zero (by omega) (by omega)]
          rw [chC_zero (by omega) (by omega), chH_zero (by omega) (by omega), show max hi (nw + z) = nw + z by omega] at h3
          have b3 := hB.trans (k3.below hB.size b1.size)
          go_wp2_with fail
          refine (numbers_any _ _ _ _ _ h3).mono ?_
          rintro e w4 ⟨rfl, h4, k4⟩
          have b4 := b3.trans (k4.mono b3.size)
          go_wp2_with fail
          go_roundw
          case rel => exact ⟨k + 1, nw + z, nw + z, by omega, by go_num, rfl, rfl, h4, ⟨by omega, by omega, by omega⟩, b4⟩
          case measure => simp [intOf]; omega
        · go_wp2_with fail
          refine (charge_any _ _ _ _ _ _ hT hS).mono ?_
          rintro e w3 ⟨rfl, h3, k3⟩
          rw [why_zero (by omega) (by omega)]
          rw [chC_zero (by omega) (by omega), chH_zero (by omega) (by omega), show max hi (nw + z) = hi by omega] at h3
          have b3 := hB.trans (k3.below hB.size b1.size)
          go_wp2_with fail
          refine (numbers_any _ _ _ _ _ h3).mono ?_
          rintro e w4 ⟨rfl, h4, k4⟩
          have b4 := b3.trans (k4.mono b3.size)
          go_wp2_with fail
          go_roundw
          case rel => exact ⟨k + 1, nw + z, hi, by omega, by go_num, rfl, rfl, h4, ⟨by omega, by omega, by omega⟩, b4⟩
          case measure => simp [intOf]; omega
        · have e1 : reE nw (-z) = 1 := by unfold reE; rw [if_pos (by omega)]
          have e2 : reC nw (-z) = nw := by unfold reC; rw [if_pos (by omega)]
          have hd : decide (-z ≤ nw) = false := by simp; omega
          go_wp2_with fail
          refine (refund_any _ _ _ _ _ _ hT hS).mono ?_
          rintro e w3 ⟨rfl, h3, k3⟩
          rw [e1]
          rw [e2] at h3
          have b3 := hB.trans (k3.below hB.size b1.size)
          go_wp2_with fail
          refine (numbers_any _ _ _ _ _ h3).mono ?_
          rintro e w4 ⟨rfl, h4, k4⟩
          have b4 := b3.trans (k4.mono b3.size)
          go_wp2_with fail
          go_roundw
          case rel => exact ⟨k + 1, nw, hi, by omega, by go_num, rfl, rfl, h4, ⟨by omega, by omega, by omega⟩, b4⟩
          case measure => simp [intOf]; omega
        · have e1 : reE nw (-z) = 0 := by unfold reE; rw [if_neg (by omega)]
          have e2 : reC nw (-z) = nw + z := by unfold reC; rw [if_neg (by omega)]; omega
          go_wp2_with fail
          refine (refund_any _ _ _ _ _ _ hT hS).mono ?_
          rintro e w3 ⟨rfl, h3, k3⟩
          rw [e1]
          rw [e2] at h3
          have b3 := hB.trans (k3.below hB.size b1.size)
          go_wp2_with fail
          refine (numbers_any _ _ _ _ _ h3).mono ?_
          rintro e w4 ⟨rfl, h4, k4⟩
          have b4 := b3.trans (k4.mono b3.size)
          go_wp2_with fail
          go_roundw
          case rel => exact ⟨k + 1, nw + z, hi, by omega, by go_num, rfl, rfl, h4, ⟨by omega, by omega, by omega⟩, b4⟩
          case measure => simp [intOf]; omega
      · go_wp2_with fail
        go_ret
        exact ⟨rfl, hB⟩

theorem laidOut : laidOutB Try.prog = true := by kernel_rfl
theorem cells46 : Try.prog.cellsOf 46 = 1 := by kernel_rfl

set_option maxRecDepth 100000 in
theorem high_lifted (os : Os) (started : os.Started) (H : Type) (enc : TypeId × Value → H) :
    ReturnsInHanded {} Try.checked os 7 .any (Rows.ledgerHighSpec.pre6 enc Try.prog Try.f7 Rows.ledgerHighRow.domain false) (Rows.ledgerHighSpec.post enc Try.prog Try.f7 false true false false) := by
  refine returnsInHanded_of_change (C := Try.checked) own started (by kernel_rfl) Try.func7
    (ChangeSpec.witness6 (enc := enc) (C := Try.checked) false ⟨#[], #[.slice none 0 0], []⟩ 8 (by kernel_rfl) (by kernel_rfl) (by kernel_rfl) (by kernel_rfl)) ?_
  intro W base args ds gs before hval0 hW _ _
  have hval : ∀ (j : Nat) t v, Try.f7.params[j]? = some t → args[j]? = some v → Value.okWide Try.prog W .any base t v := hval0
  have hW' := hW
  obtain ⟨p, q, hA0, hV, rfl, _, _⟩ := hW
  have hA : DataW.TrodAll enc Try.prog W 0 (fun _ => true) true Try.f7.params.toList args.toList ds p := hA0
  rw [Try.params7] at hA hval
  obtain ⟨v0, d0, rfl, rfl, h0⟩ := trodAll_one hA
  obtain ⟨rfl, rfl⟩ := trodVars_none hV
  obtain ⟨a0, len, cap, rfl⟩ := okWide_slice Try.underlying45 (hval 0 45 v0 rfl rfl)
  clear hA0 hval0
  simp only [List.append_nil] at hW'
  have hlt : ∀ x ∈ p, x.block < W.heap.size := fun x hx => by simpa using hW'.lt x hx
  obtain ⟨zs, rfl, hzs⟩ := ints_of Try.underlying45 Try.underlying46 cells46 h0 hlt
  refine (high_walk a0 zs cap W hzs).mono fun e W' ⟨he, bel⟩ => ?_
  subst he
  exact ⟨_, rfl, _, _, _, [], p, [], hW', trodAll_mk1 (shut_bool Try.underlying4 _), trodAll_mk1 (Below.trod laidOut (by kernel_rfl) (of_decide_eq_true (by kernel_rfl)) h0 bel hlt), rfl, bel.frame _, fun h => by cases h⟩

theorem ledgerHigh_holds : Rows.LedgerHighSaid :=
  OpenClaim.holds_of_wide 7 Try.f7 rfl rfl rfl rfl rfl rfl rfl ⟨rfl, rfl, rfl, rfl, rfl⟩ rfl rfl rfl rfl rfl (by kernel_rfl) Try.func7 (by kernel_rfl)
    (of_decide_eq_true (by kernel_rfl)) (by unfold Func.isWrapper; first | (rw [if_pos (by decide +kernel)]; kernel_rfl) | (rw [if_neg (by decide +kernel)]; exact ⟨rfl, rfl⟩))
    (fun os started H enc _ => high_lifted os started H enc)

#print axioms ledgerHigh_holds

end Go.Proofs.Ytgifjakblcfpnaa

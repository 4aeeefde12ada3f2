/-
  LruAgain: what was dropped and used again is as new. No condition.
-/
import Derived.Test.YthnmnohhhakjbaaAlive
import Derived.Test.YthnmnohhhakjbaaRows2
import Derived.ProofKit
import Derived.OpenShut
namespace Go.Proofs.Ythnmnohhhakjbaa
open Go.ChangeShapes Go.WideShapes Go.ChangeAt Go.RowKit Go.Maps

theorem desc_length : ∀ (l : List Int) (n : Nat), l.Pairwise (· > ·) → (∀ x ∈ l, 0 ≤ x ∧ x < n) → l.length ≤ n
  | [], _, _, _ => Nat.zero_le _
  | x :: r, n, h, hb => by
    have hx := hb x (by simp)
    have h1 := List.pairwise_cons.1 h
    have := desc_length r x.toNat h1.2 (fun y hy => by
      have h2 := h1.1 y hy
      have h3 := hb y (by simp [hy])
      omega)
    simp
    omega

theorem desc_get {l : List Int} (h : l.Pairwise (· > ·)) {j : Nat} {x y : Int} (hx : l[j]? = some x) (hy : l[j + 1]? = some y) : y < x := by
  obtain ⟨h1, rfl⟩ := List.getElem?_eq_some_iff.1 hx
  obtain ⟨h2, rfl⟩ := List.getElem?_eq_some_iff.1 hy
  exact List.pairwise_iff_getElem.1 h j (j + 1) h1 h2 (by omega)

theorem used_step {A R : List Int} {i s : Nat} (hn : (A ++ R).Nodup) (hA : A.Pairwise (· > ·)) (hA2 : ∀ a ∈ A, 0 ≤ a ∧ a < i) (hR : ∀ x ∈ R, (i : Int) ≤ x ∧ x < s) :
    (i : Int) :: (A ++ R).erase i = ((i : Int) :: A) ++ R.erase i ∧ ((i : Int) :: A).Pairwise (· > ·) ∧ (∀ a ∈ (i : Int) :: A, 0 ≤ a ∧ a < ((i + 1 : Nat) : Int)) ∧ ∀ x ∈ R.erase (i : Int), ((i + 1 : Nat) : Int) ≤ x ∧ x < s := by
  have hi : (i : Int) ∉ A := fun e => by have := hA2 _ e; omega
  refine ⟨by rw [List.erase_append_right _ hi]; rfl, List.pairwise_cons.2 ⟨fun a ha => (hA2 a ha).2, hA⟩, ?_, ?_⟩
  · intro a ha
    simp at ha
    rcases ha with rfl | ha
    · omega
    · have := hA2 a ha; omega
  · intro x hx
    have hnR : R.Nodup := (List.nodup_append.1 hn).2.1
    have hne : x ≠ i := by
      rintro rfl
      exact hnR.not_mem_erase hx
    have := hR x (List.mem_of_mem_erase hx)
    omega

set_option maxRecDepth 20000 in
set_option maxHeartbeats 4000000 in
theorem again_walk (n k : Int) (n0 : 0 ≤ n) (n1 : n ≤ 255) (k0 : 0 ≤ k) (k1 : k ≤ 255) (w : World) :
    Calls Try.prog 5 #[.int .u8 n, .int .u8 k] w fun e w' => e = .returned (.bool true) ∧ Below w.heap.size w w' := by
  go_enter Try.func5, Try.ntmps5
  go_wp2_with fail
  refine (alive_any _).mono ?_
  rintro e w1 ⟨rfl, b1⟩
  go_wp2_with fail
  refine (I.new_l _).mono ?_
  rintro e w2 ⟨rfl, x2, b2⟩
  go_wp2_with fail
  obtain ⟨s, hs⟩ : ∃ s : Nat, 1 + n % 20 = (s : Int) := ⟨(1 + n % 20).toNat, by omega⟩
  have hs1 : s ≤ 20 := by omega
  rw [hs]
  go_loopw [7] (fun s7 wr => ∃ (r : Nat) (ks : List Int), s7 = .int .i64 (r : Nat) ∧ r ≤ 5 ∧ I.IsL w1.heap.size w1.heap.size wr ks (20 * r) ∧ (∀ x ∈ ks, 0 ≤ x ∧ x < s) ∧ Below w1.heap.size w1 wr) (fun s7 _ => 6 - (intOf s7).toNat)
  case atStart => exact ⟨0, [], rfl, by omega, x2, by simp, b2⟩
  case round =>
    obtain ⟨r, ks, rfl, hr, hx, hks, hB⟩ := hrel
    have HB1 := Lib.hid b1
    clear b1 b2 x2
    by_cases hlt : (r : Int) < k % 6
    · go_wp2_with fail
      go_loopw [8] (fun s8 w' => ∃ (i : Nat) (A R : List Int), s8 = .int .i64 (i : Nat) ∧ i ≤ s ∧ I.IsL w1.heap.size w1.heap.size w' (A ++ R) (20 * r + i) ∧ A.Pairwise (· > ·) ∧ (∀ a ∈ A, 0 ≤ a ∧ a < i) ∧ (∀ x ∈ R, (i : Int) ≤ x ∧ x < s) ∧ Below w1.heap.size w1 w') (fun s8 _ => s - (intOf s8).toNat)
      case atStart => exact ⟨0, [], ks, rfl, by omega, hx, List.Pairwise.nil, by simp, hks, hB⟩
      case round =>
        obtain ⟨i, A, R, rfl, hi, hx8, hA, hA2, hR, hB8⟩ := hrel
        by_cases hil : i < s
        · have hnd := hx8.nodup
          obtain ⟨u1, u2, u3, u4⟩ := used_step hnd hA hA2 hR
          have hil' : (i : Int) < (s : Int) := by omega
          go_wp2_with fail
          refine (I.use_l _ _ _ _ (i : Int) _ hx8 hB8.size (by unfold I.kok; omega) (by omega)).mono ?_
          rintro e w9 ⟨rfl, hx9, hb9⟩
          rw [u1] at hx9
          have HX := Lib.hid hx9
          clear hx9
          go_wp2
          go_roundw
          case rel => exact ⟨i + 1, _, _, by simp, by omega, HX.out, u2, u3, u4, hB8.trans hb9⟩
          case measure => simp [intOf]; omega
        · have his : i = s := by omega
          have hRn : R = [] := by
            cases R with
            | nil => rfl
            | cons x _ => have := hR x (by simp); omega
          subst hRn
          rw [List.append_nil] at hx8
          have hil' : decide ((i : Int) < (s : Int)) = false := by simp; omega
          have HX8 : Hid (I.IsL w1.heap.size w1.heap.size wr A (20 * r + s)) := by rw [← his]; exact hx8
          have hA3 : ∀ a ∈ A, 0 ≤ a ∧ a < s := fun a ha => by have := hA2 a ha; omega
          clear hx8 hA2 hR hx hks hB his
          go_wp2_with fail
          go_loopw [9] (fun s9 w' => ∃ (j : Nat) (C : List Int), s9 = .int .i64 (j : Nat) ∧ j ≤ s ∧ I.IsL w1.heap.size w1.heap.size w' C (20 * r + s) ∧ C.Pairwise (· > ·) ∧ (∀ a ∈ C, 0 ≤ a ∧ a < s) ∧ Below w1.heap.size w1 w') (fun s9 _ => s - (intOf s9).toNat)
          case atStart => exact ⟨0, A, rfl, by omega, HX8.out, hA, hA3, hB8⟩
          case round =>
            obtain ⟨j, C, rfl, hj, hx10, hC, hC2, hB10⟩ := hrel
            clear hA hA3 HX8 hB8
            by_cases hjs : j < s
            · have hjs' : (j : Int) < (s : Int) := by omega
              by_cases hpar : (j : Int) % 2 = (r : Int) % 2
              · have hpar2 : ((j : Int) % 2 == (r : Int) % 2) = true := by simpa using hpar
                clear hpar
                go_wp2_with fail
                refine (I.drop_l _ _ _ _ (j : Int) _ hx10 hB10.size (by unfold I.kok; omega)).mono ?_
                rintro e w11 ⟨rfl, hx11, hb11⟩
                have HX := Lib.hid hx11
                clear hx11
                go_wp2
                go_roundw
                case rel => exact ⟨j + 1, C.erase (j : Int), by simp, by omega, HX.out, hC.erase _, fun a ha => hC2 a (List.mem_of_mem_erase ha), hB10.trans hb11⟩
                case measure => simp [intOf]; omega
              · have hpar' : decide ((j : Int) % 2 = (r : Int) % 2) = false := by simp; omega
                have hpar2 : ((j : Int) % 2 == (r : Int) % 2) = false := by simpa using hpar
                go_wp2
                go_roundw
                case rel => exact ⟨j + 1, C, by simp, by omega, hx10, hC, hC2, hB10⟩
                case measure => simp [intOf]; omega
            · have hjs' : decide ((j : Int) < (s : Int)) = false := by simp; omega
              have hCl := desc_length C s hC hC2
              go_wp2_with fail
              refine (I.keys_l _ _ _ _ _ hx10 (by omega)).mono ?_
              rintro e w12 ⟨v, rfl, hrow, hx12, hb12⟩
              obtain ⟨a, c, rfl, hrd⟩ := reads_of hrow
              have HX := Lib.hid hx12
              have HRD := Lib.hid hrd
              have hB12 : Below w1.heap.size w1 w12 := hB10.trans (hb12.mono hB10.size)
              clear hx12 hrd hx10 hrow hB10 hb12
              go_wp2_with fail
              go_loopw [11] (fun s11 w' => ∃ (q : Nat), s11 = .int .i64 ((q : Int) + 1) ∧ (q ≤ C.length) ∧ Below w12.heap.size w12 w') (fun s11 _ => 100 - (intOf s11).toNat)
              case atStart => exact ⟨0, rfl, by omega, Below.refl _ _⟩
              case round =>
                obtain ⟨q, rfl, hq, hBq⟩ := hrel
                by_cases hql : q + 1 < C.length
                · obtain ⟨x, hxq⟩ : ∃ x, C[q]? = some x := ⟨_, List.getElem?_eq_getElem (by omega)⟩
                  obtain ⟨y, hyq⟩ : ∃ y, C[q + 1]? = some y := ⟨_, List.getElem?_eq_getElem hql⟩
                  have hgt := desc_get hC hxq hyq
                  obtain ⟨g, rfl, _, hcell⟩ := (HRD.out.below hBq).row (by simp; omega)
                  have c1 := hcell q (.int .i64 x) (by simp [hxq])
                  have c2 := hcell (q + 1) (.int .i64 y) (by simp [hyq])
                  have i1 : (q : Int) + 1 < (C.length : Int) := by omega
                  have i2 : (q : Int) < (C.length : Int) := by omega
                  have i3 : (q : Int) + 1 - 1 = (q : Int) := by omega
                  have t1 : ((q : Int) + 1).toNat = q + 1 := by omega
                  have d1 : decide (x ≤ y) = false := by simp; omega
                  clear hcell hxq hyq
                  go_wp2
                  go_quiet (fail)
                  go_wp2
                  go_roundw
                  case rel => exact ⟨q + 1, by simp, by omega, ⟨hBq.os, hBq.tape, hBq.output, hBq.size, hBq.block⟩⟩
                  case measure => simp [intOf]; omega
                · have i1 : decide ((q : Int) + 1 < (C.length : Int)) = false := by simp; omega
                  have hxq := HX.out.below hBq
                  have hCs : decide ((s : Int) < (C.length : Int)) = false := by simp; omega
                  go_wp2_with fail
                  refine (I.len_l _ _ _ _ _ hxq).mono ?_
                  rintro e w14 ⟨rfl, rfl⟩
                  have HXQ := Lib.hid hxq
                  have HB14 : Hid (Below w1.heap.size w1 wr) := hB12.trans (hBq.mono hB12.size)
                  clear hxq hBq hB12 HX HRD hq hql
                  go_wp2
                  go_roundw
                  case rel => exact ⟨r + 1, C, by simp, by omega, HXQ.out.mono (by omega), hC2, HB14.out⟩
                  case measure => simp [intOf]; omega
    · have hd : decide ((r : Int) < k % 6) = false := by simp; omega
      go_wp2
      go_ret
      exact ⟨rfl, HB1.out.trans (hB.mono HB1.out.size)⟩

theorem own : ownKnob Try.prog.godebug = none := by kernel_rfl

set_option maxRecDepth 100000 in
theorem again_lifted (os : Os) (started : os.Started) (H : Type) (enc : TypeId × Value → H) :
    ReturnsInHanded {} Try.checked os 5 .any (Rows.lruAgainSpec.pre6 enc Try.prog Try.f5 Rows.lruAgainRow.domain false) (Rows.lruAgainSpec.post enc Try.prog Try.f5 false true false false) := by
  refine returnsInHanded_of_change (C := Try.checked) own started (by kernel_rfl) Try.func5
    (ChangeSpec.witness6 (enc := enc) (C := Try.checked) false ⟨#[], #[.int .u8 0, .int .u8 0], []⟩ 8 (by kernel_rfl) (by kernel_rfl) (by kernel_rfl) (by kernel_rfl)) ?_
  intro W base args ds gs before hval0 hW _ _
  have hval : ∀ (j : Nat) t v, Try.f5.params[j]? = some t → args[j]? = some v → Value.okWide Try.prog W .any base t v := hval0
  have hW' := hW
  obtain ⟨p, q, hA0, hV, rfl, _, _⟩ := hW
  have hA : DataW.TrodAll enc Try.prog W 0 (fun _ => true) true Try.f5.params.toList args.toList ds p := hA0
  rw [Try.params5] at hA hval
  obtain ⟨v0, vs0, d0, ds0, p0, q0, hargs, rfl, rfl, h0, r0⟩ := trodAll_cons hA
  obtain ⟨v1, vs1, d1, ds1, p1, q1, rfl, rfl, rfl, h1, r1⟩ := trodAll_cons r0
  obtain ⟨rfl, rfl, rfl⟩ := trodAll_nil r1
  obtain rfl : args = #[v0, v1] := by cases args; simp_all
  obtain ⟨rfl, rfl⟩ := trodVars_none hV
  obtain ⟨a0, rfl, rfl, rfl, w0⟩ := open_int Try.underlying5 (hval 0 5 v0 rfl rfl) h0
  obtain ⟨a1, rfl, rfl, rfl, w1⟩ := open_int Try.underlying5 (hval 1 5 v1 rfl rfl) h1
  clear hA0 hval0
  have n0 := bounds_u8 w0
  have n1 := bounds_u8 w1
  refine (again_walk a0 a1 n0.1 n0.2 n1.1 n1.2 W).mono fun e W' ⟨he, bel⟩ => ?_
  subst he
  exact ⟨_, rfl, _, _, _, [], _, [], hW', trodAll_mk1 (shut_bool Try.underlying4 _), (trodAll_cons_mk (shut_int Try.underlying5 w0) (trodAll_cons_mk (shut_int Try.underlying5 w1) trodAll_mk0)), rfl, bel.frame _, fun h => by cases h⟩

theorem lruAgain_holds : Rows.LruAgainSaid :=
  OpenClaim.holds_of_wide 5 Try.f5 rfl rfl rfl rfl rfl rfl rfl ⟨rfl, rfl, rfl, rfl, rfl⟩ rfl rfl rfl rfl rfl (by kernel_rfl) Try.func5 (by kernel_rfl)
    (of_decide_eq_true (by kernel_rfl)) (by unfold Func.isWrapper; first | (rw [if_pos (by decide +kernel)]; kernel_rfl) | (rw [if_neg (by decide +kernel)]; exact ⟨rfl, rfl⟩))
    (fun os started H enc _ => again_lifted os started H enc)

#print axioms lruAgain_holds

end Go.Proofs.Ythnmnohhhakjbaa

/-
  The walk of ParseJoins.
-/
import Derived.Test.YtbmjefboaihapaaGreatDoorJoinsA
namespace Go.Proofs.YtbmjefboaihapaaGreatDoor
set_option maxRecDepth 20000
open Go.RowKit Go.Shelf

theorem meas {i nd : Nat} (h : i < nd) : nd - (intOf (.int .i64 ((i + 1 : Nat) : Int))).toNat < nd - (intOf (.int .i64 ((i : Nat) : Int))).toNat := by
  simp [intOf]
  omega
theorem wrap_i {i nd : Nat} (h : nd ≤ maxLen) (hi : i < nd) : wrap64 ((i : Int) + 1) = ((i + 1 : Nat) : Int) := by
  unfold maxLen at h
  rw [IntWalk.wrap64_in _ (by omega)]
  omega
theorem sum_ne {y x n : Nat} (h : y = x + (n + 1)) : ((y : Int) != (x : Int) + (n : Int) + 1) = false := by
  simp only [bne_eq_false_iff_eq]
  omega
theorem sum_wrap {y x n : Nat} (h : y = x + (n + 1)) (h1 : x ≤ 1000) (h2 : n ≤ 1000) : ((y : Int) != IntKind.i64.wrap (IntKind.i64.wrap ((x : Int) + (n : Int)) + 1)) = false := by
  have hw1 : IntKind.i64.wrap ((x : Int) + (n : Int)) = (x : Int) + (n : Int) := by rw [IntKind.wrap_i64]; omega
  have hw2 : IntKind.i64.wrap ((x : Int) + (n : Int) + 1) = (x : Int) + (n : Int) + 1 := by rw [IntKind.wrap_i64]; omega
  rw [hw1, hw2]
  exact sum_ne h
theorem row_max {w : World} {base : Nat} {e : TypeId} {size : Nat} {v : Value} {n : Nat} {xs : List Value} (h : w.ownsRow base e size v n xs) : n ≤ maxLen := by
  rcases h.2 with ⟨hv, hn⟩ | ⟨g, cap, cur, hv, hb, hg, hc, hm, hs, ht⟩
  · rw [hn]; exact Nat.zero_le _
  · exact Nat.le_trans hc hm

set_option maxHeartbeats 1000000 in
theorem joins_walk (a b : ByteArray) (w : World) : Calls Tryz.prog 6 #[.string a, .string b] w (Tells w) := by
  have HAL := Lib.hid (alive_any w)
  go_enter Tryz.func6, Tryz.ntmps6
  go_wp2_with fail
  refine HAL.out.mono ?_
  rintro e w1 ⟨rfl, b1⟩
  have B1 := Lib.hid b1
  clear b1 HAL
  by_cases ha : 1000 < a.size
  · have hb1 : decide ((1000 : Int) < (a.size : Int)) = true := by simp only [decide_eq_true_eq]; omega
    go_wp2_with fail
    go_ret
    exact ⟨rfl, B1.out⟩
  have hale : a.size ≤ 1000 := by omega
  have hb1 : decide ((1000 : Int) < (a.size : Int)) = false := by simp only [decide_eq_false_iff_not]; omega
  by_cases hb : 1000 < b.size
  · have hb2 : decide ((1000 : Int) < (b.size : Int)) = true := by simp only [decide_eq_true_eq]; omega
    go_wp2_with fail
    go_ret
    exact ⟨rfl, B1.out⟩
  have hble : b.size ≤ 1000 := by omega
  have hb2 : decide ((1000 : Int) < (b.size : Int)) = false := by simp only [decide_eq_false_iff_not]; omega
  clear ha hb
  obtain ⟨PA, hPA⟩ : ∃ P, P = parseAll a.data.toList := ⟨_, rfl⟩
  obtain ⟨PB, hPB⟩ : ∃ P, P = parseAll b.data.toList := ⟨_, rfl⟩
  have HPA := Lib.hid (fun W => parse_any a (by omega) W)
  have HPB := Lib.hid (fun W => parse_any b (by omega) W)
  have s1 : szDs PA.1 ≤ 1001 := by rw [hPA]; have := all_sb a.data.toList; rw [Lib.size_eq] at hale; omega
  have s2 : szDs PB.1 ≤ 1001 := by rw [hPB]; have := all_sb b.data.toList; rw [Lib.size_eq] at hble; omega
  have HAT : Hid (∀ d ∈ PB.2, d.a ≤ 1000) := fun d hd => by
    rw [hPB] at hd
    have := all_at b.data.toList d hd
    rw [Lib.size_eq] at hble
    omega
  have HX : Hid ((a ++ ⟨#[10]⟩ ++ b : ByteArray).data.toList = a.data.toList ++ 10 :: b.data.toList) := by
    show _ = _
    simp
  have HXS : Hid ((a ++ ⟨#[10]⟩ ++ b : ByteArray).size ≤ 100000) := by
    show _ ≤ _
    rw [Lib.size_eq, HX.out, List.length_append, List.length_cons]
    rw [Lib.size_eq] at hale hble
    omega
  have HPX := Lib.hid (fun W => parse_any _ HXS.out W)
  rw [HX.out] at HPX
  have HJ := Lib.hid (joins_pure a.data.toList b.data.toList)
  rw [← hPA, ← hPB, ← Lib.size_eq] at HJ
  rw [← hPA] at HPA
  rw [← hPB] at HPB
  have L1 := Lib.hid (Nat.le_trans (szDs_len PA.1) s1)
  have L2 := Lib.hid (Nat.le_trans (szDs_len PB.1) s2)
  have S1 := Lib.hid s1
  have S2 := Lib.hid s2
  clear s1 s2 hPA hPB HX HXS
  go_wp2_with fail
  refine (HPA.out _).mono ?_
  rintro e w2 ⟨vl, vd, rfl, b2, hl, hd⟩
  obtain ⟨_, rl, -, -⟩ := hl.unrow
  obtain ⟨al, cl, rfl⟩ := row_slice rl
  obtain ⟨ad, cd, rfl⟩ := row_slice hd
  have B2 := Lib.hid b2
  have HL := Lib.hid (Sub.of_row hl (flat_length (encD_length 39 49) PA.1))
  clear hl rl b2 hd HPA
  by_cases hD : PA.2 = []
  · have HJ := Lib.hid (HJ.out hD)
    obtain ⟨n1, hn1⟩ : ∃ n, n = PA.1.length := ⟨_, rfl⟩
    rw [hD, List.length_nil, ← hn1]
    have HN1 := Lib.hid hn1
    have hn1' : n1 ≤ 1001 := by rw [hn1]; exact L1.out
    clear hD hn1
    go_wp2_with fail
    refine (HPB.out _).mono ?_
    rintro e w3 ⟨vm, ve, rfl, b3, hm, he⟩
    obtain ⟨_, rm, -, -⟩ := hm.unrow
    obtain ⟨am, cm, rfl⟩ := row_slice rm
    obtain ⟨ae, ce, rfl⟩ := row_slice he
    have B3 := Lib.hid b3
    have HM := Lib.hid (Sub.of_row hm (flat_length (encD_length 39 49) PB.1))
    have HEE := Lib.hid he
    clear hm rm b3 he HPB
    obtain ⟨n2, hn2⟩ : ∃ n, n = PB.1.length := ⟨_, rfl⟩
    obtain ⟨nd, hnd⟩ : ∃ n, n = PB.2.length := ⟨_, rfl⟩
    rw [← hn2, ← hnd]
    have HN2 := Lib.hid hn2
    have HND := Lib.hid hnd
    have hn2' : n2 ≤ 1001 := by rw [hn2]; exact L2.out
    clear hn2 hnd
    go_wp2_with fail
    refine (HPX.out _).mono ?_
    rw [HJ.out]
    rintro e w4 ⟨vb, vf, rfl, b4, hbt, hf⟩
    dsimp only at hbt hf
    obtain ⟨_, rb, -, -⟩ := hbt.unrow
    obtain ⟨ab, cb, rfl⟩ := row_slice rb
    obtain ⟨af, cf, rfl⟩ := row_slice hf
    have hcb := row_cap rb
    have B4 := Lib.hid b4
    have HBT := Lib.hid (Sub.of_row hbt (flat_length (encD_length 39 49) (PA.1 ++ PB.1.map (PD.pl fun x => x + (a.size + 1)))))
    have hnb : (PA.1 ++ PB.1.map (PD.pl fun x => x + (a.size + 1))).length = n1 + n2 := by rw [List.length_append, List.length_map, ← HN1.out, ← HN2.out]
    have hnf : (PB.2.map (Dn.pl fun x => x + (a.size + 1))).length = nd := by rw [List.length_map, ← HND.out]
    obtain ⟨nb, hnb2⟩ : ∃ nb, nb = n1 + n2 := ⟨_, rfl⟩
    rw [hnb, ← hnb2] at HBT hcb ⊢
    rw [hnf] at hf ⊢
    have HF := Lib.hid hf
    have HD1 := Lib.hid (dsOk PA.1 (by have := S1.out; omega))
    have HD2 := Lib.hid (dsOk (PB.1.map (PD.pl fun x => x + (a.size + 1))) (by rw [szDs_pl]; have := S2.out; omega))
    have HD3 := Lib.hid (dsOk PB.1 (by have := S2.out; omega))
    have HS1 := Lib.hid (sdOk true PA.1 PA.1 ⟨rfl, fun _ => rfl⟩ (by have := S1.out; omega))
    have HS2 := Lib.hid (sdOk false (PB.1.map (PD.pl fun x => x + (a.size + 1))) PB.1 (eqD_pl _ _) (by rw [szDs_pl]; have := S2.out; omega))
    unfold DsOk at HD1 HD2 HD3
    unfold SdOk at HS1 HS2
    rw [← HN1.out] at HD1 HS1 HL
    rw [List.length_map, ← HN2.out] at HD2 HS2
    rw [← HN2.out] at HD3 HM
    rw [← HND.out] at HEE
    have HMX := Lib.hid (row_max HEE.out)
    have BW := Lib.hid (B1.out.trans ((B2.out.trans ((B3.out.trans (B4.out.mono B3.out.size)).mono B2.out.size)).mono B1.out.size))
    have HL := Lib.hid (HL.out)
    have heqn : ((nb : Int) == (n1 : Int) + (n2 : Int)) = true := by simp only [beq_iff_eq]; omega
    have heqn2 : (nb : Int) = (n1 : Int) + (n2 : Int) := by omega
    have HNB := Lib.hid hnb2
    have hle1 : n1 ≤ nb := by omega
    have hc1 : ¬ (cb : Int) < (n1 : Int) := by omega
    have hc2 : decide ((cb : Int) < (n1 : Int)) = false := by simp only [decide_eq_false_iff_not]; exact hc1
    have hc3 : ¬ (nb : Int) < (n1 : Int) := by omega
    have hc4 : decide ((nb : Int) < (n1 : Int)) = false := by simp only [decide_eq_false_iff_not]; exact hc3
    have hcase := rb.2
    clear hbt hf b4 hnb hnf rb hnb2
    have e1 : (PA.1 ++ (PB.1.map (PD.pl fun x => x + (a.size + 1)))).take n1 = PA.1 := by rw [HN1.out]; exact List.take_left
    have e2 : (PA.1 ++ (PB.1.map (PD.pl fun x => x + (a.size + 1)))).drop n1 = (PB.1.map (PD.pl fun x => x + (a.size + 1))) := by rw [HN1.out]; exact List.drop_left
    have hSB1 := HBT.out.take n1 hle1
    rw [e1] at hSB1
    have SB1 := Lib.hid hSB1
    have E2 := Lib.hid e2
    have HLE := Lib.hid hle1
    have HCB := Lib.hid hcb
    have HCASE := Lib.hid hcase
    clear e1 e2 hSB1 hcase
    go_wp2_with fail
    refine (HD1.out _ w4 _ SB1.out).mono ?_
    rintro e w5 ⟨u1, rfl, b5, i5⟩
    obtain ⟨_, r5, -, -⟩ := i5.unrow
    obtain ⟨z5, y5, rfl⟩ := row_slice r5
    have B5 := Lib.hid b5
    have I5 := Lib.hid (Sub.of_row i5 (by rw [HN1.out]; exact flat_length (encD_length 44 54) PA.1))
    clear b5 i5 r5
    go_wp2_with fail
    refine (HD1.out _ w5 _ (((HL.out.below B3.out).below B4.out).below B5.out)).mono ?_
    rintro e w6 ⟨u2, rfl, b6, i6⟩
    obtain ⟨_, r6, -, -⟩ := i6.unrow
    obtain ⟨z6, y6, rfl⟩ := row_slice r6
    have B6 := Lib.hid (B5.out.trans (b6.mono B5.out.size))
    have I6 := Lib.hid (Sub.of_row i6 (by rw [HN1.out]; exact flat_length (encD_length 44 54) PA.1))
    have I5' := Lib.hid (I5.out.below b6)
    clear b6 i6 r6
    go_wp2_with fail
    refine (HS1.out _ _ w6 _ _ I5'.out I6.out).mono ?_
    rintro e w7 ⟨rfl, b7⟩
    have B7 := Lib.hid (B6.out.trans (b7.mono B6.out.size))
    clear b7
    rcases HCASE.out with ⟨hv, hn0⟩ | ⟨g, cap, cur, hv, -⟩
    · injection hv with hv1 hv2 hv3
      subst hv1
      obtain rfl : n1 = 0 := by have := HLE.out; omega
      obtain rfl : n2 = 0 := by have := HNB.out; omega
      obtain rfl : nb = 0 := by omega
      subst hv3
      have e3 : PB.1 = [] := List.eq_nil_of_length_eq_zero HN2.out.symm
      have HSB : Hid (∀ x y W, Sub (fun b => w3.heap.size ≤ b) W (encDs 39 49 (PB.1.map (PD.pl fun x => x + (a.size + 1)))) 0 (.slice x 0 y)) := fun x y W => ⟨_, _, [], rfl, (by rw [e3]; exact IsCs.nil _ _), fun h => absurd rfl h⟩
      clear e3 hv2 heqn heqn2 hc1 hc2 hc3 hc4 hle1 hcb hn1' hn2' hn0
      go_wp2_with fail
      refine (HD2.out _ w7 _ (HSB.out _ _ _)).mono ?_
      rintro e w8 ⟨u3, rfl, b8, i8⟩
      obtain ⟨_, r8, -, -⟩ := i8.unrow
      obtain ⟨z8, y8, rfl⟩ := row_slice r8
      have B8 := Lib.hid (B7.out.trans (b8.mono B7.out.size))
      have I8 := Lib.hid (Sub.of_row i8 (by rw [HN2.out, ← List.length_map (f := PD.pl fun x => x + (a.size + 1))]; exact flat_length (encD_length 44 54) (PB.1.map (PD.pl fun x => x + (a.size + 1)))))
      clear b8 i8 r8
      go_wp2_with fail
      refine (HD3.out _ w8 _ ((HM.out.below B4.out).below B8.out)).mono ?_
      rintro e w9 ⟨u4, rfl, b9, i9⟩
      obtain ⟨_, r9, -, -⟩ := i9.unrow
      obtain ⟨z9, y9, rfl⟩ := row_slice r9
      have B9 := Lib.hid (B8.out.trans (b9.mono B8.out.size))
      have I9 := Lib.hid (Sub.of_row i9 (by rw [HN2.out]; exact flat_length (encD_length 44 54) PB.1))
      have I8' := Lib.hid (I8.out.below b9)
      clear b9 i9 r9
      go_wp2_with fail
      refine (HS2.out _ _ w9 _ _ I8'.out I9.out).mono ?_
      rintro e w10 ⟨rfl, b10⟩
      have B10 := Lib.hid (B9.out.trans (b10.mono B9.out.size))
      clear b10
      go_wp2_with fail
      go_loopw [11] (fun s11 wr => ∃ i : Nat, s11 = .int .i64 (i : Nat) ∧ i ≤ nd ∧ Hid (Below w4.heap.size w4 wr)) (fun s11 _ => nd - (intOf s11).toNat)
      case atStart => exact ⟨0, rfl, Nat.zero_le _, B10⟩
      case round =>
        obtain ⟨i, rfl, hil, hB⟩ := hrel
        by_cases hi2 : i < nd
        · have hlt : decide ((i : Int) < (nd : Int)) = true := by simp only [decide_eq_true_eq]; omega
          have hltn : decide (i < nd) = true := by simp only [decide_eq_true_eq]; exact hi2
          obtain ⟨x, hx⟩ : ∃ x, PB.2[i]? = some x := ⟨_, List.getElem?_eq_getElem (by rw [← HND.out]; exact hi2)⟩
          have hxa : x.a ≤ 1000 := HAT.out x (List.mem_of_getElem? hx)
          have hx' : (PB.2.map (Dn.pl fun x => x + (a.size + 1)))[i]? = some (x.pl fun x => x + (a.size + 1)) := by rw [List.getElem?_map, hx]; rfl
          obtain ⟨g1, rfl, hg1, d0, d1, d2⟩ := row_dn (row_below (row_below HEE.out B4.out) hB.out) HND.out hx
          obtain ⟨g2, rfl, hg2, f0', f1', f2'⟩ := row_dn (row_below HF.out hB.out) (by rw [List.length_map]; exact HND.out) hx'
          obtain ⟨y, hy⟩ : ∃ y, y = x.a + (a.size + 1) := ⟨_, rfl⟩
          have f0 : wr.cell? ⟨g2, i * 3, none⟩ = some (.int .i64 (y : Nat)) := by rw [hy]; exact f0'
          have f1 : wr.cell? ⟨g2, i * 3 + 1, none⟩ = some (.int .i64 (x.d : Nat)) := f1'
          have f2 : wr.cell? ⟨g2, i * 3 + 2, none⟩ = some (.string ⟨x.n.toArray⟩) := f2'
          have hne : ((y : Int) != (x.a : Int) + (a.size : Int) + 1) = false := sum_ne hy
          have hne2 : ((y : Int) != IntKind.i64.wrap (IntKind.i64.wrap ((x.a : Int) + (a.size : Int)) + 1)) = false := sum_wrap hy hxa hale
          clear hx hx' hy f0' f1' f2'
          go_wp2_with fail
          go_quiet (fail)
          go_wp2_with fail
          have hwi := wrap_i HMX.out hi2
          refine ⟨⟨i + 1, by rw [hwi], Nat.succ_le_of_lt hi2, Lib.hid (hB.out.trans ⟨rfl, rfl, rfl, Nat.le_refl _, fun _ _ => rfl⟩)⟩, ?_⟩
          rw [hwi]; exact meas hi2
        · have hlt : decide ((i : Int) < (nd : Int)) = false := by simp only [decide_eq_false_iff_not]; omega
          have hltn : decide (i < nd) = false := by simp only [decide_eq_false_iff_not]; exact hi2
          go_wp2_with fail
          go_ret
          exact ⟨rfl, BW.out.trans (hB.out.mono BW.out.size)⟩
    · cases hv
      by_cases hcn : cb = n1
      · obtain rfl : n2 = 0 := by have := HNB.out; have := HCB.out; omega
        obtain rfl : nb = n1 := by have := HNB.out; omega
        subst hcn
        have e3 : PB.1 = [] := List.eq_nil_of_length_eq_zero HN2.out.symm
        have HSB : Hid (∀ x y W, Sub (fun b => w3.heap.size ≤ b) W (encDs 39 49 (PB.1.map (PD.pl fun x => x + (a.size + 1)))) 0 (.slice x 0 y)) := fun x y W => ⟨_, _, [], rfl, (by rw [e3]; exact IsCs.nil _ _), fun h => absurd rfl h⟩
        clear e3 heqn heqn2 hc1 hc2 hc3 hc4 hle1 hn2' hcb
        go_wp2_with fail
        refine (HD2.out _ w7 _ (HSB.out _ _ _)).mono ?_
        rintro e w8 ⟨u3, rfl, b8, i8⟩
        obtain ⟨_, r8, -, -⟩ := i8.unrow
        obtain ⟨z8, y8, rfl⟩ := row_slice r8
        have B8 := Lib.hid (B7.out.trans (b8.mono B7.out.size))
        have I8 := Lib.hid (Sub.of_row i8 (by rw [HN2.out, ← List.length_map (f := PD.pl fun x => x + (a.size + 1))]; exact flat_length (encD_length 44 54) (PB.1.map (PD.pl fun x => x + (a.size + 1)))))
        clear b8 i8 r8
        go_wp2_with fail
        refine (HD3.out _ w8 _ ((HM.out.below B4.out).below B8.out)).mono ?_
        rintro e w9 ⟨u4, rfl, b9, i9⟩
        obtain ⟨_, r9, -, -⟩ := i9.unrow
        obtain ⟨z9, y9, rfl⟩ := row_slice r9
        have B9 := Lib.hid (B8.out.trans (b9.mono B8.out.size))
        have I9 := Lib.hid (Sub.of_row i9 (by rw [HN2.out]; exact flat_length (encD_length 44 54) PB.1))
        have I8' := Lib.hid (I8.out.below b9)
        clear b9 i9 r9
        go_wp2_with fail
        refine (HS2.out _ _ w9 _ _ I8'.out I9.out).mono ?_
        rintro e w10 ⟨rfl, b10⟩
        have B10 := Lib.hid (B9.out.trans (b10.mono B9.out.size))
        clear b10
        go_wp2_with fail
        go_loopw [11] (fun s11 wr => ∃ i : Nat, s11 = .int .i64 (i : Nat) ∧ i ≤ nd ∧ Hid (Below w4.heap.size w4 wr)) (fun s11 _ => nd - (intOf s11).toNat)
        case atStart => exact ⟨0, rfl, Nat.zero_le _, B10⟩
        case round =>
          obtain ⟨i, rfl, hil, hB⟩ := hrel
          by_cases hi2 : i < nd
          · have hlt : decide ((i : Int) < (nd : Int)) = true := by simp only [decide_eq_true_eq]; omega
            have hltn : decide (i < nd) = true := by simp only [decide_eq_true_eq]; exact hi2
            obtain ⟨x, hx⟩ : ∃ x, PB.2[i]? = some x := ⟨_, List.getElem?_eq_getElem (by rw [← HND.out]; exact hi2)⟩
            have hxa : x.a ≤ 1000 := HAT.out x (List.mem_of_getElem? hx)
            have hx' : (PB.2.map (Dn.pl fun x => x + (a.size + 1)))[i]? = some (x.pl fun x => x + (a.size + 1)) := by rw [List.getElem?_map, hx]; rfl
            obtain ⟨g1, rfl, hg1, d0, d1, d2⟩ := row_dn (row_below (row_below HEE.out B4.out) hB.out) HND.out hx
            obtain ⟨g2, rfl, hg2, f0', f1', f2'⟩ := row_dn (row_below HF.out hB.out) (by rw [List.length_map]; exact HND.out) hx'
            obtain ⟨y, hy⟩ : ∃ y, y = x.a + (a.size + 1) := ⟨_, rfl⟩
            have f0 : wr.cell? ⟨g2, i * 3, none⟩ = some (.int .i64 (y : Nat)) := by rw [hy]; exact f0'
            have f1 : wr.cell? ⟨g2, i * 3 + 1, none⟩ = some (.int .i64 (x.d : Nat)) := f1'
            have f2 : wr.cell? ⟨g2, i * 3 + 2, none⟩ = some (.string ⟨x.n.toArray⟩) := f2'
            have hne : ((y : Int) != (x.a : Int) + (a.size : Int) + 1) = false := sum_ne hy
            have hne2 : ((y : Int) != IntKind.i64.wrap (IntKind.i64.wrap ((x.a : Int) + (a.size : Int)) + 1)) = false := sum_wrap hy hxa hale
            clear hx hx' hy f0' f1' f2'
            go_wp2_with fail
            go_quiet (fail)
            go_wp2_with fail
            have hwi := wrap_i HMX.out hi2
            refine ⟨⟨i + 1, by rw [hwi], Nat.succ_le_of_lt hi2, Lib.hid (hB.out.trans ⟨rfl, rfl, rfl, Nat.le_refl _, fun _ _ => rfl⟩)⟩, ?_⟩
            rw [hwi]; exact meas hi2
          · have hlt : decide ((i : Int) < (nd : Int)) = false := by simp only [decide_eq_false_iff_not]; omega
            have hltn : decide (i < nd) = false := by simp only [decide_eq_false_iff_not]; exact hi2
            go_wp2_with fail
            go_ret
            exact ⟨rfl, BW.out.trans (hB.out.mono BW.out.size)⟩
      · have hSB2 := HBT.out.drop (encD_length 39 49) n1 (by rw [List.length_append, ← HN1.out]; omega) n2 (cb - n1) (by have := HNB.out; omega)
        rw [E2.out, Nat.zero_add] at hSB2
        have SB2 := Lib.hid hSB2
        have hsub : nb - n1 = n2 := by have := HNB.out; omega
        clear hSB2
        go_wp2_with fail
        refine (HD2.out _ w7 _ (SB2.out.below B7.out)).mono ?_
        rintro e w8 ⟨u3, rfl, b8, i8⟩
        obtain ⟨_, r8, -, -⟩ := i8.unrow
        obtain ⟨z8, y8, rfl⟩ := row_slice r8
        have B8 := Lib.hid (B7.out.trans (b8.mono B7.out.size))
        have I8 := Lib.hid (Sub.of_row i8 (by rw [HN2.out, ← List.length_map (f := PD.pl fun x => x + (a.size + 1))]; exact flat_length (encD_length 44 54) (PB.1.map (PD.pl fun x => x + (a.size + 1)))))
        clear b8 i8 r8
        go_wp2_with fail
        refine (HD3.out _ w8 _ ((HM.out.below B4.out).below B8.out)).mono ?_
        rintro e w9 ⟨u4, rfl, b9, i9⟩
        obtain ⟨_, r9, -, -⟩ := i9.unrow
        obtain ⟨z9, y9, rfl⟩ := row_slice r9
        have B9 := Lib.hid (B8.out.trans (b9.mono B8.out.size))
        have I9 := Lib.hid (Sub.of_row i9 (by rw [HN2.out]; exact flat_length (encD_length 44 54) PB.1))
        have I8' := Lib.hid (I8.out.below b9)
        clear b9 i9 r9
        go_wp2_with fail
        refine (HS2.out _ _ w9 _ _ I8'.out I9.out).mono ?_
        rintro e w10 ⟨rfl, b10⟩
        have B10 := Lib.hid (B9.out.trans (b10.mono B9.out.size))
        clear b10
        go_wp2_with fail
        go_loopw [11] (fun s11 wr => ∃ i : Nat, s11 = .int .i64 (i : Nat) ∧ i ≤ nd ∧ Hid (Below w4.heap.size w4 wr)) (fun s11 _ => nd - (intOf s11).toNat)
        case atStart => exact ⟨0, rfl, Nat.zero_le _, B10⟩
        case round =>
          obtain ⟨i, rfl, hil, hB⟩ := hrel
          by_cases hi2 : i < nd
          · have hlt : decide ((i : Int) < (nd : Int)) = true := by simp only [decide_eq_true_eq]; omega
            have hltn : decide (i < nd) = true := by simp only [decide_eq_true_eq]; exact hi2
            obtain ⟨x, hx⟩ : ∃ x, PB.2[i]? = some x := ⟨_, List.getElem?_eq_getElem (by rw [← HND.out]; exact hi2)⟩
            have hxa : x.a ≤ 1000 := HAT.out x (List.mem_of_getElem? hx)
            have hx' : (PB.2.map (Dn.pl fun x => x + (a.size + 1)))[i]? = some (x.pl fun x => x + (a.size + 1)) := by rw [List.getElem?_map, hx]; rfl
            obtain ⟨g1, rfl, hg1, d0, d1, d2⟩ := row_dn (row_below (row_below HEE.out B4.out) hB.out) HND.out hx
            obtain ⟨g2, rfl, hg2, f0', f1', f2'⟩ := row_dn (row_below HF.out hB.out) (by rw [List.length_map]; exact HND.out) hx'
            obtain ⟨y, hy⟩ : ∃ y, y = x.a + (a.size + 1) := ⟨_, rfl⟩
            have f0 : wr.cell? ⟨g2, i * 3, none⟩ = some (.int .i64 (y : Nat)) := by rw [hy]; exact f0'
            have f1 : wr.cell? ⟨g2, i * 3 + 1, none⟩ = some (.int .i64 (x.d : Nat)) := f1'
            have f2 : wr.cell? ⟨g2, i * 3 + 2, none⟩ = some (.string ⟨x.n.toArray⟩) := f2'
            have hne : ((y : Int) != (x.a : Int) + (a.size : Int) + 1) = false := sum_ne hy
            have hne2 : ((y : Int) != IntKind.i64.wrap (IntKind.i64.wrap ((x.a : Int) + (a.size : Int)) + 1)) = false := sum_wrap hy hxa hale
            clear hx hx' hy f0' f1' f2'
            go_wp2_with fail
            go_quiet (fail)
            go_wp2_with fail
            have hwi := wrap_i HMX.out hi2
            refine ⟨⟨i + 1, by rw [hwi], Nat.succ_le_of_lt hi2, Lib.hid (hB.out.trans ⟨rfl, rfl, rfl, Nat.le_refl _, fun _ _ => rfl⟩)⟩, ?_⟩
            rw [hwi]; exact meas hi2
          · have hlt : decide ((i : Int) < (nd : Int)) = false := by simp only [decide_eq_false_iff_not]; omega
            have hltn : decide (i < nd) = false := by simp only [decide_eq_false_iff_not]; exact hi2
            go_wp2_with fail
            go_ret
            exact ⟨rfl, BW.out.trans (hB.out.mono BW.out.size)⟩
  · have hpos : 0 < PA.2.length := List.length_pos_iff.2 hD
    have hp1 : decide ((0 : Int) < (PA.2.length : Int)) = true := by simp only [decide_eq_true_eq]; omega
    go_wp2_with fail
    go_ret
    exact ⟨rfl, B1.out.trans (B2.out.mono B1.out.size)⟩
end Go.Proofs.YtbmjefboaihapaaGreatDoor

/-
  The walk of PrintBack: it tells true.
-/
import Derived.Test.YthpoffklhpbdoaaGreatDoorLinW
namespace Go.Proofs.YthpoffklhpbdoaaGreatDoor
set_option maxRecDepth 100000
open Go.RowKit Go.Shelf Go.Sort

set_option maxHeartbeats 4000000 in
theorem back_walk (s : ByteArray) (w : World) (hT : Tab w.heap.size w) : Calls Tryz.prog 6 #[.string s] w (Tells w) := by
  have HA := Lib.hid (alive06 w)
  have HT := Lib.hid hT
  by_cases hb : s.size ≤ 2000
  · have e1 : decide ((2000 : Int) < (s.size : Int)) = false := by simp only [decide_eq_false_iff_not]; omega
    have hls : s.data.toList.length = s.size := Array.length_toList
    have H1 := Lib.hid (fun W => p_any s.data.toList (by omega) s rfl W)
    have hdok := dok_of s.data.toList 2000 (by omega) (by decide)
    have hsz := all_sb s.data.toList
    obtain ⟨l, hl⟩ : ∃ l, l = (parseAll s.data.toList).1 := ⟨_, rfl⟩
    obtain ⟨nd, hnd⟩ : ∃ nd, nd = (parseAll s.data.toList).2.length := ⟨_, rfl⟩
    rw [← hl, ← hnd] at H1
    rw [← hl] at hdok hsz
    have hsz' : szDs l ≤ 1000000 := by omega
    obtain ⟨t1, t2⟩ := text_back l hdok.gd
    have hFl := hdok.len
    obtain ⟨F, hF⟩ : ∃ F : ByteArray, F = ⟨(prF l).toArray⟩ := ⟨_, rfl⟩
    have hFL : F.data.toList = prF l := by rw [hF]
    have H2 := Lib.hid (fun W => p_any (prF l) (by omega) F hFL W)
    have hdok2 := dok_of (prF l) 6002 hFl (by decide)
    have hsz2 := all_sb (prF l)
    obtain ⟨m, hm⟩ : ∃ m, m = (parseAll (prF l)).1 := ⟨_, rfl⟩
    rw [← hm, t1] at H2
    rw [← hm] at hdok2 hsz2 t2
    have hsz2' : szDs m ≤ 1000000 := by omega
    have hpm : prF m = prF l := prF_eq t2
    have DK := Lib.hid hdok
    have DK2 := Lib.hid hdok2
    have HSZ := Lib.hid hsz'
    have HSZ2 := Lib.hid hsz2'
    have HEQ := Lib.hid t2
    have HPM := Lib.hid hpm
    have HML := Lib.hid (show m.length = l.length by have := congrArg List.length t2; simpa using this)
    have HFF := Lib.hid hF
    clear hb hls hl hnd hT hdok hdok2 hsz hsz' hsz2 hsz2' hm hF hFL t1 t2 hpm hFl
    go_enter Tryz.func6, Tryz.ntmps6
    go_wp2_with fail
    refine HA.out.mono ?_
    rintro e w1 ⟨rfl, b1⟩
    have B1 := Lib.hid b1
    clear b1
    go_wp2_with fail
    refine (H1.out _).mono ?_
    rintro e w2 ⟨al, cl, ad, cd, rfl, b2, hs2, -, -⟩
    have B2 := Lib.hid (B1.out.trans (b2.mono B1.out.size))
    have HS := Lib.hid hs2
    have HP := Lib.hid (printF_any l DK.out.nd _ _ w2 hs2 (Tab.up (Lib.TabBelow.on HT.out B2.out) B2.out.size) (by have := DK.out.len; omega) DK.out.sz)
    rw [← HFF.out] at HP
    clear b2 hs2
    go_wp2_with fail
    refine HP.out.mono ?_
    rintro e w3 ⟨rfl, b3⟩
    have B3 := Lib.hid (B2.out.trans (b3.mono B2.out.size))
    have HS3 := Lib.hid (HS.out.below b3)
    clear b3 HP
    go_wp2_with fail
    refine (H2.out _).mono ?_
    rintro e w4 ⟨bl, cl', bd, cd', rfl, b4, hs4, -, -⟩
    have B4 := Lib.hid (B3.out.trans (b4.mono B3.out.size))
    have HS4 := Lib.hid (HS3.out.below b4)
    have HM4 := Lib.hid hs4
    have HD1 := Lib.hid (dsOk l HSZ.out _ w4 _ HS4.out)
    clear b4 hs4
    go_wp2_with fail
    refine HD1.out.mono ?_
    rintro e w5 ⟨u1, rfl, b5, i5⟩
    have B5 := Lib.hid (B4.out.trans (b5.mono B4.out.size))
    have HM5 := Lib.hid (HM4.out.below b5)
    have HU1 := Lib.hid (Sub.of_row i5 (by rw [encDs]; exact flat_length (encD_length 31 41) l))
    have HD2 := Lib.hid (dsOk m HSZ2.out _ w5 _ HM5.out)
    obtain ⟨_, r5, -, -⟩ := i5.unrow
    obtain ⟨x1, y1, rfl⟩ := row_slice r5
    clear b5 i5 r5 HD1
    go_wp2_with fail
    refine HD2.out.mono ?_
    rintro e w6 ⟨u2, rfl, b6, i6⟩
    have B6 := Lib.hid (B5.out.trans (b6.mono B5.out.size))
    have HM6 := Lib.hid (HM5.out.below b6)
    have hu2 := Sub.of_row i6 (by rw [encDs]; exact flat_length (encD_length 31 41) m)
    rw [HML.out] at hu2
    have HU2 := Lib.hid hu2
    clear hu2
    have HSD := Lib.hid (sdOk false l m ⟨HEQ.out.symm, fun h => by cases h⟩ HSZ.out _ _ w6 _ _ (HU1.out.below b6) HU2.out)
    obtain ⟨_, r6, -, -⟩ := i6.unrow
    obtain ⟨x2, y2, rfl⟩ := row_slice r6
    clear b6 i6 r6 HD2
    go_wp2_with fail
    refine HSD.out.mono ?_
    rintro e w7 ⟨rfl, b7⟩
    have B7 := Lib.hid (B6.out.trans (b7.mono B6.out.size))
    have HP := Lib.hid (printF_any m DK2.out.nd _ _ w7 (HM6.out.below b7) (Tab.up (Lib.TabBelow.on HT.out B7.out) B7.out.size) (by have := DK2.out.len; omega) DK2.out.sz)
    rw [HPM.out, ← HFF.out] at HP
    clear b7 HSD
    go_wp2_with fail
    refine HP.out.mono ?_
    rintro e w8 ⟨rfl, b8⟩
    have B8 := Lib.hid (B7.out.trans (b8.mono B7.out.size))
    clear b8 HP
    go_wp2_with fail
    go_ret
    exact ⟨by first | rfl | simp, B8.out⟩
  · have e1 : decide ((2000 : Int) < (s.size : Int)) = true := by simp only [decide_eq_true_eq]; omega
    go_enter Tryz.func6, Tryz.ntmps6
    go_wp2_with fail
    refine HA.out.mono ?_
    rintro e w1 ⟨rfl, b1⟩
    go_wp2_with fail
    go_ret
    exact ⟨rfl, b1⟩

end Go.Proofs.YthpoffklhpbdoaaGreatDoor

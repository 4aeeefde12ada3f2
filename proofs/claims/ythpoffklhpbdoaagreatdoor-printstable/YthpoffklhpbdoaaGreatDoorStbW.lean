/-
  The walk of PrintStable: it tells true.
-/
import Derived.Test.YthpoffklhpbdoaaGreatDoorLwA
namespace Go.Proofs.YthpoffklhpbdoaaGreatDoor
set_option maxRecDepth 100000
open Go.RowKit Go.Shelf Go.Sort

theorem size_wT {l : Bs} {t : PT} (h : wT l = some t) : szT t ≤ l.length + 1 := by
  obtain ⟨-, h2⟩ := whole_inv (fun ts => (lvT_eats 64).1 ts) h
  have h1 := (lvT_sb 64).1 _ _ _ _ h2
  have h3 := toks_len l
  omega
theorem size_wE {l : Bs} {x : PE} (h : wE l = some x) : szE x ≤ l.length + 1 := by
  obtain ⟨-, h2⟩ := whole_inv (fun ts => exp_eats 64 ts) h
  have h1 := exp_sb 64 _ _ _ _ h2
  have h3 := toks_len l
  omega
/-- Worlds that are alike but for how often was drawn. -/
def Alk (W X : World) : Prop := X.heap = W.heap ∧ X.os = W.os ∧ X.tape = W.tape ∧ X.output = W.output
theorem Alk.below {W X : World} (h : Alk W X) : Below W.heap.size W X := ⟨h.2.1, h.2.2.1, h.2.2.2, by rw [h.1]; exact Nat.le_refl _, fun k _ => by rw [h.1]⟩
theorem Alk.size {W X : World} (h : Alk W X) : X.heap.size = W.heap.size := by rw [h.1]
theorem printT_alk {t : PT} {A : Nat → Prop} {cs : List Value} {w : World} (hC : IsCs A w (encT 26 t) cs) (hlen : (prT 0 t).length ≤ 100000000000000) (W X : World) (hW : Below w.heap.size w W) (hX : Alk W X) :
    Calls Tryz.prog 26 #[.agg cs.toArray] X fun e w' => e = .returned (.string ⟨(prT 0 t).toArray⟩) ∧ Below W.heap.size W w' := by
  refine (printT_any t A cs X ((hC.below hW).below hX.below) hlen).mono ?_
  rintro e w' ⟨q1, q2⟩
  rw [hX.size] at q2
  exact ⟨q1, hX.below.trans q2⟩
theorem to_alk {t : PT} (hs : szT t ≤ 1000000) {A : Nat → Prop} {cs : List Value} {w : World} (hC : IsCs A w (encT 26 t) cs) (W X : World) (hW : Below w.heap.size w W) (hX : Alk W X) :
    Calls Tryz.prog 16 #[.agg cs.toArray] X fun e w' => ∃ u0 u1 u2 u3, e = .returned (.agg #[u0, u1, u2, u3]) ∧ Below W.heap.size W w' ∧ IsCs (fun _ => True) w' (encT 31 t) [u0, u1, u2, u3] := by
  refine (toOk t hs A X cs ((hC.below hW).below hX.below)).mono ?_
  rintro e w' ⟨us, q1, q2, q3⟩
  rw [hX.size] at q2
  obtain ⟨u0, u1, u2, u3, rfl⟩ := four q3
  exact ⟨u0, u1, u2, u3, q1, hX.below.trans q2, q3.mono (fun _ _ _ => trivial)⟩
theorem same_alk {t : PT} (hs : szT t ≤ 1000000) {A A' : Nat → Prop} {cs cs' : List Value} {w : World} (hC : IsCs A w (encT 31 t) cs) (hC' : IsCs A' w (encT 31 t) cs') (X : World) (hX : Alk w X) :
    Calls Tryz.prog 15 #[.agg cs.toArray, .agg cs'.toArray] X fun e w' => e = .returned (.bool true) ∧ Below w.heap.size w w' := by
  refine (smOk t hs A A' X cs cs' (hC.below hX.below) (hC'.below hX.below)).mono ?_
  rintro e w' ⟨q1, q2⟩
  rw [hX.size] at q2
  exact ⟨q1, hX.below.trans q2⟩

set_option maxHeartbeats 4000000 in
theorem stable_walk (s : ByteArray) (w : World) (hT : Tab w.heap.size w) : Calls Tryz.prog 9 #[.string s] w (Tells w) := by
  have HA := Lib.hid (alive06 w)
  have HT := Lib.hid hT
  obtain ⟨l, hl⟩ : ∃ l, l = s.data.toList := ⟨_, rfl⟩
  have hls : l.length = s.size := by rw [hl]; exact Array.length_toList
  have HL := Lib.hid hl.symm
  have HLS := Lib.hid hls
  clear hl hls hT
  by_cases hb : s.size ≤ 1000
  · have e1 : decide ((1000 : Int) < (s.size : Int)) = false := by simp only [decide_eq_false_iff_not]; omega
    have H1 := Lib.hid (fun W => t_opt l (by have := HLS.out; omega) s HL.out W)
    have H2 := Lib.hid (fun W => x_opt l (by have := HLS.out; omega) s HL.out W)
    have HBG := Lib.hid hb
    clear hb
    go_enter Tryz.func9, Tryz.ntmps9
    go_wp2_with fail
    refine HA.out.mono ?_
    rintro e w1 ⟨rfl, b1⟩
    have B1 := Lib.hid b1
    clear b1
    go_wp2_with fail
    refine (H1.out _).mono ?_
    rintro e w2 ⟨b2, k, n, a2, n2, c2, a3, n3, c3, ok, rfl, h⟩
    obtain ⟨W3, hW3⟩ : ∃ W3, w2.alloc (.cells #[.int .i64 k, .string n, .slice a2 n2 c2, .slice a3 n3 c3] 26) = W3 := ⟨_, rfl⟩
    have hA3 : W3.heap[w2.heap.size]? = some (.cells #[.int .i64 k, .string n, .slice a2 n2 c2, .slice a3 n3 c3] 26 (0, 0)) := by rw [← hW3]; exact heap_alloc_new w2 _
    have hb3 : Below w2.heap.size w2 W3 := by rw [← hW3]; exact (Below.refl _ _).alloc (Nat.le_refl _) _
    have B3 := Lib.hid (B1.out.trans ((b2.trans (hb3.mono b2.size)).mono B1.out.size))
    have HW3 := Lib.hid hW3
    obtain ⟨h, rfl⟩ | ⟨t, ht, rfl, hc⟩ := h
    · clear h hA3 hb3 hW3 b2
      have HBW := B3
      go_upto_region 10 with fail
      rw [HW3.out]
      go_wp2_with fail
      refine (H2.out _).mono ?_
      rintro e x1 ⟨b1, i0, i1, t2, i3, a4, n4, c4, a5, n5, c5, a6, n6, c6, ok, rfl, h⟩
      have D1 := Lib.hid (HBW.out.trans (b1.mono HBW.out.size))
      have HTH := Lib.hid (there_of (heap_alloc_new x1 zE) (n := 7) rfl)
      obtain ⟨h, rfl⟩ | ⟨x, hx, rfl, hc⟩ := h
      · clear h b1
        go_wp2_with (first | (refine wpList_store_put rfl 36 (.tmp 7) (.tmp 48) rfl x1.heap.size _ rfl rfl HTH.out size49 (all_oneCell_toArray (by simp [Value.oneCell'])) ?_; intro X2 hX2))
        have e9 : X2 = putL (x1.alloc zE) x1.heap.size [.int .i64 i0, .int .i64 i1, .string t2, .int .i64 i3, .slice a4 n4 c4, .slice a5 n5 c5, .slice a6 n6 c6] := hX2.out
        go_ret
        exact ⟨rfl, by rw [e9]; exact D1.out.trans ((Below.putL ((Below.refl _ _).alloc (Nat.le_refl _) _) (Nat.le_refl _) _ : Below x1.heap.size x1 _).mono D1.out.size)⟩
      · obtain ⟨gx, hlx⟩ := wE_inv hx
        have hpl : (prE 0 x).length ≤ 3100 := by have := HLS.out; have := HBG.out; omega
        have HPL := Lib.hid hpl
        have hne := ve_ne gx.ve
        obtain ⟨y, hy, hyx⟩ := text_E gx
        have HY := Lib.hid hy
        have HC1 := Lib.hid hc
        go_upto_region 11 with (first | (refine wpList_store_put rfl 36 (.tmp 7) (.tmp 48) rfl x1.heap.size _ rfl rfl HTH.out size49 (all_oneCell_toArray (by simp [Value.oneCell'])) ?_; intro X2 hX2))
        have e9 : X2 = putL (x1.alloc zE) x1.heap.size [.int .i64 i0, .int .i64 i1, .string t2, .int .i64 i3, .slice a4 n4 c4, .slice a5 n5 c5, .slice a6 n6 c6] := hX2.out
        have hA2 : X2.heap[x1.heap.size]? = some (.cells #[.int .i64 i0, .int .i64 i1, .string t2, .int .i64 i3, .slice a4 n4 c4, .slice a5 n5 c5, .slice a6 n6 c6] 36 (0, 0)) := by rw [e9]; exact putL_at (vs := [.int .i64 i0, .int .i64 i1, .string t2, .int .i64 i3, .slice a4 n4 c4, .slice a5 n5 c5, .slice a6 n6 c6]) (heap_alloc_new x1 zE) rfl
        have hb2 : Below x1.heap.size x1 X2 := by rw [e9]; exact Below.putL ((Below.refl _ _).alloc (Nat.le_refl _) _) (Nat.le_refl _) _
        have D2 := Lib.hid (D1.out.trans (hb2.mono D1.out.size))
        have HC2 := Lib.hid (HC1.out.below hb2)
        have A2 := Lib.hid hA2
        have HTB := Lib.hid (Tab.up (Lib.TabBelow.on HT.out D2.out) D2.out.size)
        have HP := Lib.hid (printE_any x hne _ _ X2 HC2.out HTB.out (by omega))
        have NEX := Lib.hid hne
        have HYX := Lib.hid hyx
        obtain ⟨⟨q0, q1, q2, q3, q4, q5, q6⟩, -⟩ := sev_of (t := 36) hA2
        clear hc b1 e9 hX2 hA2 hb2 hne gx hlx hpl hy hyx hx HTH
        go_wp2_with fail
        refine HP.out.mono ?_
        rintro e x3 ⟨rfl, b3⟩
        have HX3 := Lib.hid (x_opt (prE 0 x) (by have := HPL.out; omega) ⟨(prE 0 x).toArray⟩ rfl x3)
        have D3 := Lib.hid b3
        clear b3 HP q0 q1 q2 q3 q4 q5 q6
        go_wp2_with fail
        refine HX3.out.mono ?_
        rintro e x4 ⟨b4, j0, j1, u2, j3, d4, m4, f4, d5, m5, f5, d6, m6, f6, ok, rfl, h⟩
        rw [HY.out] at h
        obtain ⟨h, -⟩ | ⟨y', hy', rfl, hc⟩ := h
        · cases h
        cases hy'
        have HCY := Lib.hid hc
        have HTH := Lib.hid (there_of (heap_alloc_new x4 zE) (n := 7) rfl)
        have D4 := Lib.hid b4
        clear hc b4
        go_upto_region 13 with (first | (refine wpList_store_put rfl 36 (.tmp 9) (.tmp 55) rfl x4.heap.size _ rfl rfl HTH.out size49 (all_oneCell_toArray (by simp [Value.oneCell'])) ?_; intro X5 hX5))
        have e9 : X5 = putL (x4.alloc zE) x4.heap.size [.int .i64 j0, .int .i64 j1, .string u2, .int .i64 j3, .slice d4 m4 f4, .slice d5 m5 f5, .slice d6 m6 f6] := hX5.out
        have hA5 : X5.heap[x4.heap.size]? = some (.cells #[.int .i64 j0, .int .i64 j1, .string u2, .int .i64 j3, .slice d4 m4 f4, .slice d5 m5 f5, .slice d6 m6 f6] 36 (0, 0)) := by rw [e9]; exact putL_at (vs := [.int .i64 j0, .int .i64 j1, .string u2, .int .i64 j3, .slice d4 m4 f4, .slice d5 m5 f5, .slice d6 m6 f6]) (heap_alloc_new x4 zE) rfl
        have hb5 : Below x4.heap.size x4 X5 := by rw [e9]; exact Below.putL ((Below.refl _ _).alloc (Nat.le_refl _) _) (Nat.le_refl _) _
        have hb25 : Below X2.heap.size X2 X5 := D3.out.trans ((D4.out.trans (hb5.mono D4.out.size)).mono D3.out.size)
        have D5 := Lib.hid (D2.out.trans (hb25.mono D2.out.size))
        have HC5 := Lib.hid (HC2.out.below hb25)
        have HCY5 := Lib.hid (HCY.out.below hb5)
        have hA25 := (hb25.block _ (Array.getElem?_eq_some_iff.1 A2.out).1).trans A2.out
        have NEY := Lib.hid (ve_ne (wE_inv HY.out).1.ve)
        obtain ⟨⟨q0, q1, q2, q3, q4, q5, q6⟩, -⟩ := sev_of (t := 36) hA25
        obtain ⟨⟨r0, r1, r2, r3, r4, r5, r6⟩, -⟩ := sev_of (t := 36) hA5
        have HTB5 := Lib.hid (Lib.TabBelow.on HT.out D5.out)
        have cX : ∀ p : Regrown, Calls Tryz.prog 28 #[.agg #[.int .i64 i0, .int .i64 i1, .string t2, .int .i64 i3, .slice a4 n4 c4, .slice a5 n5 c5, .slice a6 n6 c6]] (grow (redrawn X5 p.d) p.os) fun e w'' => e = .returned (.string ⟨(prE 0 x).toArray⟩) ∧ ∃ p : Regrown, w'' = grow (redrawn X5 p.d) p.os := by
          intro p
          refine Calls.regrown_of ?_
          exact printE_any x NEX.out _ [.int .i64 i0, .int .i64 i1, .string t2, .int .i64 i3, .slice a4 n4 c4, .slice a5 n5 c5, .slice a6 n6 c6] _ (HC5.out.below (below_regrown X5 p.d p.os)) (Tab.up (Lib.TabBelow.on HTB5.out ((below_regrown X5 p.d p.os).mono D5.out.size)) (Nat.le_trans D5.out.size (below_regrown X5 p.d p.os).size)) (by have := HPL.out; omega)
        have cY : ∀ p : Regrown, Calls Tryz.prog 28 #[.agg #[.int .i64 j0, .int .i64 j1, .string u2, .int .i64 j3, .slice d4 m4 f4, .slice d5 m5 f5, .slice d6 m6 f6]] (grow (redrawn X5 p.d) p.os) fun e w'' => e = .returned (.string ⟨(prE 0 x).toArray⟩) ∧ ∃ p : Regrown, w'' = grow (redrawn X5 p.d) p.os := by
          intro p
          refine Calls.regrown_of ?_
          rw [← prE_z HYX.out 0]
          exact printE_any y NEY.out _ [.int .i64 j0, .int .i64 j1, .string u2, .int .i64 j3, .slice d4 m4 f4, .slice d5 m5 f5, .slice d6 m6 f6] _ (HCY5.out.below (below_regrown X5 p.d p.os)) (Tab.up (Lib.TabBelow.on HTB5.out ((below_regrown X5 p.d p.os).mono D5.out.size)) (Nat.le_trans D5.out.size (below_regrown X5 p.d p.os).size)) (by have := HPL.out; rw [prE_z HYX.out 0]; omega)
        have s0 : ∀ p : Regrown, (grow (redrawn X5 p.d) p.os).cell? ⟨x1.heap.size, 0, none⟩ = some (.int .i64 i0) := fun p => cell_regrown q0 p.d p.os
        have s1 : ∀ p : Regrown, (grow (redrawn X5 p.d) p.os).cell? ⟨x1.heap.size, 1, none⟩ = some (.int .i64 i1) := fun p => cell_regrown q1 p.d p.os
        have s2 : ∀ p : Regrown, (grow (redrawn X5 p.d) p.os).cell? ⟨x1.heap.size, 2, none⟩ = some (.string t2) := fun p => cell_regrown q2 p.d p.os
        have s3 : ∀ p : Regrown, (grow (redrawn X5 p.d) p.os).cell? ⟨x1.heap.size, 3, none⟩ = some (.int .i64 i3) := fun p => cell_regrown q3 p.d p.os
        have s4 : ∀ p : Regrown, (grow (redrawn X5 p.d) p.os).cell? ⟨x1.heap.size, 4, none⟩ = some (.slice a4 n4 c4) := fun p => cell_regrown q4 p.d p.os
        have s5 : ∀ p : Regrown, (grow (redrawn X5 p.d) p.os).cell? ⟨x1.heap.size, 5, none⟩ = some (.slice a5 n5 c5) := fun p => cell_regrown q5 p.d p.os
        have s6 : ∀ p : Regrown, (grow (redrawn X5 p.d) p.os).cell? ⟨x1.heap.size, 6, none⟩ = some (.slice a6 n6 c6) := fun p => cell_regrown q6 p.d p.os
        have y0 : ∀ p : Regrown, (grow (redrawn X5 p.d) p.os).cell? ⟨x4.heap.size, 0, none⟩ = some (.int .i64 j0) := fun p => cell_regrown r0 p.d p.os
        have y1 : ∀ p : Regrown, (grow (redrawn X5 p.d) p.os).cell? ⟨x4.heap.size, 1, none⟩ = some (.int .i64 j1) := fun p => cell_regrown r1 p.d p.os
        have y2 : ∀ p : Regrown, (grow (redrawn X5 p.d) p.os).cell? ⟨x4.heap.size, 2, none⟩ = some (.string u2) := fun p => cell_regrown r2 p.d p.os
        have y3 : ∀ p : Regrown, (grow (redrawn X5 p.d) p.os).cell? ⟨x4.heap.size, 3, none⟩ = some (.int .i64 j3) := fun p => cell_regrown r3 p.d p.os
        have y4 : ∀ p : Regrown, (grow (redrawn X5 p.d) p.os).cell? ⟨x4.heap.size, 4, none⟩ = some (.slice d4 m4 f4) := fun p => cell_regrown r4 p.d p.os
        have y5 : ∀ p : Regrown, (grow (redrawn X5 p.d) p.os).cell? ⟨x4.heap.size, 5, none⟩ = some (.slice d5 m5 f5) := fun p => cell_regrown r5 p.d p.os
        have y6 : ∀ p : Regrown, (grow (redrawn X5 p.d) p.os).cell? ⟨x4.heap.size, 6, none⟩ = some (.slice d6 m6 f6) := fun p => cell_regrown r6 p.d p.os
        clear hA25 hA5 hb5 hb25 e9 hX5 q0 q1 q2 q3 q4 q5 q6 r0 r1 r2 r3 r4 r5 r6
        refine wp_region_quiet_below (by kernel_rfl) (by kernel_rfl) ?_
        repeat (go_big_quiet_step (first | exact cX _ | exact cY _))
        refine wpQuiet_nil ?_
        intro x6 hx6
        have b6 : Below X5.heap.size X5 x6 := by
          obtain ⟨p, rfl⟩ := hx6
          exact below_regrown X5 p.d p.os
        have D6 := Lib.hid (D5.out.trans (b6.mono D5.out.size))
        clear hx6 b6
        go_wp2_with fail
        go_ret
        exact ⟨rfl, D6.out⟩
    · obtain ⟨gt, hlt⟩ := wT_inv ht
      have HGT := Lib.hid gt
      have hpl : (prT 0 t).length ≤ 3100 := by have := HLS.out; have := HBG.out; omega
      have HPL := Lib.hid hpl
      have HSZ := Lib.hid (show szT t ≤ 1000000 by have := size_wT ht; have := HLS.out; have := HBG.out; omega)
      have HC3 := Lib.hid (hc.below hb3)
      have HP1 := Lib.hid (printT_any t _ _ W3 HC3.out (by omega))
      have HTX := Lib.hid (text_T gt)
      obtain ⟨⟨q0, q1, q2, q3⟩, -⟩ := fou_of (t := 26) hA3
      have HA3 := Lib.hid hA3
      clear hc gt hlt hpl hA3 hb3 hW3 b2 ht
      go_upto_region 7 with fail
      rw [HW3.out]
      go_wp2_with fail
      refine HP1.out.mono ?_
      rintro e w4 ⟨rfl, b4⟩
      have H4 := Lib.hid (t_opt (prT 0 t) (by have := HPL.out; omega) ⟨(prT 0 t).toArray⟩ rfl w4)
      have B4 := Lib.hid b4
      clear b4 HP1
      go_wp2_with fail
      refine H4.out.mono ?_
      rintro e w5 ⟨b5, k', n', a2', n2', c2', a3', n3', c3', ok, rfl, h⟩
      rw [HTX.out] at h
      obtain ⟨h, -⟩ | ⟨t', ht, rfl, hc⟩ := h
      · cases h
      cases ht
      obtain ⟨W6, hW6⟩ : ∃ W6, w5.alloc (.cells #[.int .i64 k', .string n', .slice a2' n2' c2', .slice a3' n3' c3'] 26) = W6 := ⟨_, rfl⟩
      have hA6 : W6.heap[w5.heap.size]? = some (.cells #[.int .i64 k', .string n', .slice a2' n2' c2', .slice a3' n3' c3'] 26 (0, 0)) := by rw [← hW6]; exact heap_alloc_new w5 _
      have hb6 : Below w5.heap.size w5 W6 := by rw [← hW6]; exact (Below.refl _ _).alloc (Nat.le_refl _) _
      have hb36 : Below W3.heap.size W3 W6 := B4.out.trans ((b5.trans (hb6.mono b5.size)).mono B4.out.size)
      have hA36 := (hb36.block _ (Array.getElem?_eq_some_iff.1 HA3.out).1).trans HA3.out
      have HC6 := Lib.hid (hc.below hb6)
      have HC36 := Lib.hid (HC3.out.below hb36)
      have B6 := Lib.hid (B3.out.trans (hb36.mono B3.out.size))
      have L1 := Lib.hid (Array.getElem?_eq_some_iff.1 hA6).1
      have L2 := Lib.hid (Array.getElem?_eq_some_iff.1 hA36).1
      clear q0 q1 q2 q3
      obtain ⟨⟨q0, q1, q2, q3⟩, -⟩ := fou_of (t := 26) hA6
      obtain ⟨⟨r0, r1, r2, r3⟩, -⟩ := fou_of (t := 26) hA36
      have HW6 := Lib.hid hW6
      clear hc hA6 hA36 hb6 hb36 hW6 b5
      go_upto_region 8 with fail
      rw [HW6.out]
      have HPU := Lib.hid (fun (W X : World) (hW : Below W6.heap.size W6 W) (hX : Alk W X) => printT_alk HC6.out (by have := HPL.out; omega) W X hW hX)
      have HPT := Lib.hid (fun (W X : World) (hW : Below W6.heap.size W6 W) (hX : Alk W X) => printT_alk HC36.out (by have := HPL.out; omega) W X hW hX)
      have HTU := Lib.hid (fun (W X : World) (hW : Below W6.heap.size W6 W) (hX : Alk W X) => to_alk HSZ.out HC6.out W X hW hX)
      have HTT := Lib.hid (fun (W X : World) (hW : Below W6.heap.size W6 W) (hX : Alk W X) => to_alk HSZ.out HC36.out W X hW hX)

      go_region_held3 (fun w' => w'.cell? ⟨w5.heap.size, 0, none⟩ = some (.int .i64 k') ∧ w'.cell? ⟨w5.heap.size, 1, none⟩ = some (.string n') ∧ w'.cell? ⟨w5.heap.size, 2, none⟩ = some (.slice a2' n2' c2') ∧ w'.cell? ⟨w5.heap.size, 3, none⟩ = some (.slice a3' n3' c3') ∧ w'.cell? ⟨w2.heap.size, 0, none⟩ = some (.int .i64 k) ∧ w'.cell? ⟨w2.heap.size, 1, none⟩ = some (.string n) ∧ w'.cell? ⟨w2.heap.size, 2, none⟩ = some (.slice a2 n2 c2) ∧ w'.cell? ⟨w2.heap.size, 3, none⟩ = some (.slice a3 n3 c3)) (go_keep)
        (first
          | (go_at_call 15; refine (same_alk HSZ.out J9.out I10.out _ ?_).mono ?_; exact ⟨rfl, rfl, rfl, rfl⟩; rintro e w11 ⟨rfl, b11⟩; (have hB := B10.out.trans (b11.mono B10.out.size)); (have s0 := (hB.cell (p := ⟨w5.heap.size, 0, none⟩) L1.out).trans q0); (have s1 := (hB.cell (p := ⟨w5.heap.size, 1, none⟩) L1.out).trans q1); (have s2 := (hB.cell (p := ⟨w5.heap.size, 2, none⟩) L1.out).trans q2); (have s3 := (hB.cell (p := ⟨w5.heap.size, 3, none⟩) L1.out).trans q3); (have s4 := (hB.cell (p := ⟨w2.heap.size, 0, none⟩) L2.out).trans r0); (have s5 := (hB.cell (p := ⟨w2.heap.size, 1, none⟩) L2.out).trans r1); (have s6 := (hB.cell (p := ⟨w2.heap.size, 2, none⟩) L2.out).trans r2); (have s7 := (hB.cell (p := ⟨w2.heap.size, 3, none⟩) L2.out).trans r3); (have B11 := Lib.hid hB); clear hB b11)
          | (go_at_call 16; refine (HTU.out w9 _ B9.out ?_).mono ?_; exact ⟨rfl, rfl, rfl, rfl⟩; rintro e w10 ⟨u0, u1, u2, u3, rfl, b10, i10⟩; (have hB := B9.out.trans (b10.mono B9.out.size)); (have s0 := (hB.cell (p := ⟨w5.heap.size, 0, none⟩) L1.out).trans q0); (have s1 := (hB.cell (p := ⟨w5.heap.size, 1, none⟩) L1.out).trans q1); (have s2 := (hB.cell (p := ⟨w5.heap.size, 2, none⟩) L1.out).trans q2); (have s3 := (hB.cell (p := ⟨w5.heap.size, 3, none⟩) L1.out).trans q3); (have s4 := (hB.cell (p := ⟨w2.heap.size, 0, none⟩) L2.out).trans r0); (have s5 := (hB.cell (p := ⟨w2.heap.size, 1, none⟩) L2.out).trans r1); (have s6 := (hB.cell (p := ⟨w2.heap.size, 2, none⟩) L2.out).trans r2); (have s7 := (hB.cell (p := ⟨w2.heap.size, 3, none⟩) L2.out).trans r3); (have B10 := Lib.hid hB); (have I10 := Lib.hid i10); (have J9 := Lib.hid (I9.out.below b10)); clear hB b10 i10)
          | (go_at_call 16; refine (HTT.out w8 _ B8.out ?_).mono ?_; exact ⟨rfl, rfl, rfl, rfl⟩; rintro e w9 ⟨v0, v1, v2, v3, rfl, b9, i9⟩; (have hB := B8.out.trans (b9.mono B8.out.size)); (have s0 := (hB.cell (p := ⟨w5.heap.size, 0, none⟩) L1.out).trans q0); (have s1 := (hB.cell (p := ⟨w5.heap.size, 1, none⟩) L1.out).trans q1); (have s2 := (hB.cell (p := ⟨w5.heap.size, 2, none⟩) L1.out).trans q2); (have s3 := (hB.cell (p := ⟨w5.heap.size, 3, none⟩) L1.out).trans q3); (have s4 := (hB.cell (p := ⟨w2.heap.size, 0, none⟩) L2.out).trans r0); (have s5 := (hB.cell (p := ⟨w2.heap.size, 1, none⟩) L2.out).trans r1); (have s6 := (hB.cell (p := ⟨w2.heap.size, 2, none⟩) L2.out).trans r2); (have s7 := (hB.cell (p := ⟨w2.heap.size, 3, none⟩) L2.out).trans r3); (have B9 := Lib.hid hB); (have I9 := Lib.hid i9); clear hB b9 i9)
          | (go_at_call 26; refine (HPT.out w7 _ B7.out ?_).mono ?_; exact ⟨rfl, rfl, rfl, rfl⟩; rintro e w8 ⟨rfl, b8⟩; (have hB := B7.out.trans (b8.mono B7.out.size)); (have s0 := (hB.cell (p := ⟨w5.heap.size, 0, none⟩) L1.out).trans q0); (have s1 := (hB.cell (p := ⟨w5.heap.size, 1, none⟩) L1.out).trans q1); (have s2 := (hB.cell (p := ⟨w5.heap.size, 2, none⟩) L1.out).trans q2); (have s3 := (hB.cell (p := ⟨w5.heap.size, 3, none⟩) L1.out).trans q3); (have s4 := (hB.cell (p := ⟨w2.heap.size, 0, none⟩) L2.out).trans r0); (have s5 := (hB.cell (p := ⟨w2.heap.size, 1, none⟩) L2.out).trans r1); (have s6 := (hB.cell (p := ⟨w2.heap.size, 2, none⟩) L2.out).trans r2); (have s7 := (hB.cell (p := ⟨w2.heap.size, 3, none⟩) L2.out).trans r3); (have B8 := Lib.hid hB); clear hB b8)
          | (go_at_call 26; refine (HPU.out W6 _ (Below.refl _ _) ?_).mono ?_; exact ⟨rfl, rfl, rfl, rfl⟩; rintro e w7 ⟨rfl, b7⟩; (have hB := b7); (have s0 := (hB.cell (p := ⟨w5.heap.size, 0, none⟩) L1.out).trans q0); (have s1 := (hB.cell (p := ⟨w5.heap.size, 1, none⟩) L1.out).trans q1); (have s2 := (hB.cell (p := ⟨w5.heap.size, 2, none⟩) L1.out).trans q2); (have s3 := (hB.cell (p := ⟨w5.heap.size, 3, none⟩) L1.out).trans q3); (have s4 := (hB.cell (p := ⟨w2.heap.size, 0, none⟩) L2.out).trans r0); (have s5 := (hB.cell (p := ⟨w2.heap.size, 1, none⟩) L2.out).trans r1); (have s6 := (hB.cell (p := ⟨w2.heap.size, 2, none⟩) L2.out).trans r2); (have s7 := (hB.cell (p := ⟨w2.heap.size, 3, none⟩) L2.out).trans r3); (have B7 := Lib.hid hB); clear hB b7))
      have HBW := Lib.hid (B6.out.trans (B11.out.mono B6.out.size))
      clear s0 s1 s2 s3 s4 s5 s6 s7
      go_upto_region 10 with fail
      go_wp2_with fail
      refine (H2.out _).mono ?_
      rintro e x1 ⟨b1, i0, i1, t2, i3, a4, n4, c4, a5, n5, c5, a6, n6, c6, ok, rfl, h⟩
      have D1 := Lib.hid (HBW.out.trans (b1.mono HBW.out.size))
      have HTH := Lib.hid (there_of (heap_alloc_new x1 zE) (n := 7) rfl)
      obtain ⟨h, rfl⟩ | ⟨x, hx, rfl, hc⟩ := h
      · clear h b1
        go_wp2_with (first | (refine wpList_store_put rfl 36 (.tmp 7) (.tmp 48) rfl x1.heap.size _ rfl rfl HTH.out size49 (all_oneCell_toArray (by simp [Value.oneCell'])) ?_; intro X2 hX2))
        have e9 : X2 = putL (x1.alloc zE) x1.heap.size [.int .i64 i0, .int .i64 i1, .string t2, .int .i64 i3, .slice a4 n4 c4, .slice a5 n5 c5, .slice a6 n6 c6] := hX2.out
        go_ret
        exact ⟨rfl, by rw [e9]; exact D1.out.trans ((Below.putL ((Below.refl _ _).alloc (Nat.le_refl _) _) (Nat.le_refl _) _ : Below x1.heap.size x1 _).mono D1.out.size)⟩
      · obtain ⟨gx, hlx⟩ := wE_inv hx
        have hpl : (prE 0 x).length ≤ 3100 := by have := HLS.out; have := HBG.out; omega
        have HPL := Lib.hid hpl
        have hne := ve_ne gx.ve
        obtain ⟨y, hy, hyx⟩ := text_E gx
        have HY := Lib.hid hy
        have HC1 := Lib.hid hc
        go_upto_region 11 with (first | (refine wpList_store_put rfl 36 (.tmp 7) (.tmp 48) rfl x1.heap.size _ rfl rfl HTH.out size49 (all_oneCell_toArray (by simp [Value.oneCell'])) ?_; intro X2 hX2))
        have e9 : X2 = putL (x1.alloc zE) x1.heap.size [.int .i64 i0, .int .i64 i1, .string t2, .int .i64 i3, .slice a4 n4 c4, .slice a5 n5 c5, .slice a6 n6 c6] := hX2.out
        have hA2 : X2.heap[x1.heap.size]? = some (.cells #[.int .i64 i0, .int .i64 i1, .string t2, .int .i64 i3, .slice a4 n4 c4, .slice a5 n5 c5, .slice a6 n6 c6] 36 (0, 0)) := by rw [e9]; exact putL_at (vs := [.int .i64 i0, .int .i64 i1, .string t2, .int .i64 i3, .slice a4 n4 c4, .slice a5 n5 c5, .slice a6 n6 c6]) (heap_alloc_new x1 zE) rfl
        have hb2 : Below x1.heap.size x1 X2 := by rw [e9]; exact Below.putL ((Below.refl _ _).alloc (Nat.le_refl _) _) (Nat.le_refl _) _
        have D2 := Lib.hid (D1.out.trans (hb2.mono D1.out.size))
        have HC2 := Lib.hid (HC1.out.below hb2)
        have A2 := Lib.hid hA2
        have HTB := Lib.hid (Tab.up (Lib.TabBelow.on HT.out D2.out) D2.out.size)
        have HP := Lib.hid (printE_any x hne _ _ X2 HC2.out HTB.out (by omega))
        have NEX := Lib.hid hne
        have HYX := Lib.hid hyx
        obtain ⟨⟨q0, q1, q2, q3, q4, q5, q6⟩, -⟩ := sev_of (t := 36) hA2
        clear hc b1 e9 hX2 hA2 hb2 hne gx hlx hpl hy hyx hx HTH
        go_wp2_with fail
        refine HP.out.mono ?_
        rintro e x3 ⟨rfl, b3⟩
        have HX3 := Lib.hid (x_opt (prE 0 x) (by have := HPL.out; omega) ⟨(prE 0 x).toArray⟩ rfl x3)
        have D3 := Lib.hid b3
        clear b3 HP q0 q1 q2 q3 q4 q5 q6
        go_wp2_with fail
        refine HX3.out.mono ?_
        rintro e x4 ⟨b4, j0, j1, u2, j3, d4, m4, f4, d5, m5, f5, d6, m6, f6, ok, rfl, h⟩
        rw [HY.out] at h
        obtain ⟨h, -⟩ | ⟨y', hy', rfl, hc⟩ := h
        · cases h
        cases hy'
        have HCY := Lib.hid hc
        have HTH := Lib.hid (there_of (heap_alloc_new x4 zE) (n := 7) rfl)
        have D4 := Lib.hid b4
        clear hc b4
        go_upto_region 13 with (first | (refine wpList_store_put rfl 36 (.tmp 9) (.tmp 55) rfl x4.heap.size _ rfl rfl HTH.out size49 (all_oneCell_toArray (by simp [Value.oneCell'])) ?_; intro X5 hX5))
        have e9 : X5 = putL (x4.alloc zE) x4.heap.size [.int .i64 j0, .int .i64 j1, .string u2, .int .i64 j3, .slice d4 m4 f4, .slice d5 m5 f5, .slice d6 m6 f6] := hX5.out
        have hA5 : X5.heap[x4.heap.size]? = some (.cells #[.int .i64 j0, .int .i64 j1, .string u2, .int .i64 j3, .slice d4 m4 f4, .slice d5 m5 f5, .slice d6 m6 f6] 36 (0, 0)) := by rw [e9]; exact putL_at (vs := [.int .i64 j0, .int .i64 j1, .string u2, .int .i64 j3, .slice d4 m4 f4, .slice d5 m5 f5, .slice d6 m6 f6]) (heap_alloc_new x4 zE) rfl
        have hb5 : Below x4.heap.size x4 X5 := by rw [e9]; exact Below.putL ((Below.refl _ _).alloc (Nat.le_refl _) _) (Nat.le_refl _) _
        have hb25 : Below X2.heap.size X2 X5 := D3.out.trans ((D4.out.trans (hb5.mono D4.out.size)).mono D3.out.size)
        have D5 := Lib.hid (D2.out.trans (hb25.mono D2.out.size))
        have HC5 := Lib.hid (HC2.out.below hb25)
        have HCY5 := Lib.hid (HCY.out.below hb5)
        have hA25 := (hb25.block _ (Array.getElem?_eq_some_iff.1 A2.out).1).trans A2.out
        have NEY := Lib.hid (ve_ne (wE_inv HY.out).1.ve)
        obtain ⟨⟨q0, q1, q2, q3, q4, q5, q6⟩, -⟩ := sev_of (t := 36) hA25
        obtain ⟨⟨r0, r1, r2, r3, r4, r5, r6⟩, -⟩ := sev_of (t := 36) hA5
        have HTB5 := Lib.hid (Lib.TabBelow.on HT.out D5.out)
        have cX : ∀ p : Regrown, Calls Tryz.prog 28 #[.agg #[.int .i64 i0, .int .i64 i1, .string t2, .int .i64 i3, .slice a4 n4 c4, .slice a5 n5 c5, .slice a6 n6 c6]] (grow (redrawn X5 p.d) p.os) fun e w'' => e = .returned (.string ⟨(prE 0 x).toArray⟩) ∧ ∃ p : Regrown, w'' = grow (redrawn X5 p.d) p.os := by
          intro p
          refine Calls.regrown_of ?_
          exact printE_any x NEX.out _ [.int .i64 i0, .int .i64 i1, .string t2, .int .i64 i3, .slice a4 n4 c4, .slice a5 n5 c5, .slice a6 n6 c6] _ (HC5.out.below (below_regrown X5 p.d p.os)) (Tab.up (Lib.TabBelow.on HTB5.out ((below_regrown X5 p.d p.os).mono D5.out.size)) (Nat.le_trans D5.out.size (below_regrown X5 p.d p.os).size)) (by have := HPL.out; omega)
        have cY : ∀ p : Regrown, Calls Tryz.prog 28 #[.agg #[.int .i64 j0, .int .i64 j1, .string u2, .int .i64 j3, .slice d4 m4 f4, .slice d5 m5 f5, .slice d6 m6 f6]] (grow (redrawn X5 p.d) p.os) fun e w'' => e = .returned (.string ⟨(prE 0 x).toArray⟩) ∧ ∃ p : Regrown, w'' = grow (redrawn X5 p.d) p.os := by
          intro p
          refine Calls.regrown_of ?_
          rw [← prE_z HYX.out 0]
          exact printE_any y NEY.out _ [.int .i64 j0, .int .i64 j1, .string u2, .int .i64 j3, .slice d4 m4 f4, .slice d5 m5 f5, .slice d6 m6 f6] _ (HCY5.out.below (below_regrown X5 p.d p.os)) (Tab.up (Lib.TabBelow.on HTB5.out ((below_regrown X5 p.d p.os).mono D5.out.size)) (Nat.le_trans D5.out.size (below_regrown X5 p.d p.os).size)) (by have := HPL.out; rw [prE_z HYX.out 0]; omega)
        have s0 : ∀ p : Regrown, (grow (redrawn X5 p.d) p.os).cell? ⟨x1.heap.size, 0, none⟩ = some (.int .i64 i0) := fun p => cell_regrown q0 p.d p.os
        have s1 : ∀ p : Regrown, (grow (redrawn X5 p.d) p.os).cell? ⟨x1.heap.size, 1, none⟩ = some (.int .i64 i1) := fun p => cell_regrown q1 p.d p.os
        have s2 : ∀ p : Regrown, (grow (redrawn X5 p.d) p.os).cell? ⟨x1.heap.size, 2, none⟩ = some (.string t2) := fun p => cell_regrown q2 p.d p.os
        have s3 : ∀ p : Regrown, (grow (redrawn X5 p.d) p.os).cell? ⟨x1.heap.size, 3, none⟩ = some (.int .i64 i3) := fun p => cell_regrown q3 p.d p.os
        have s4 : ∀ p : Regrown, (grow (redrawn X5 p.d) p.os).cell? ⟨x1.heap.size, 4, none⟩ = some (.slice a4 n4 c4) := fun p => cell_regrown q4 p.d p.os
        have s5 : ∀ p : Regrown, (grow (redrawn X5 p.d) p.os).cell? ⟨x1.heap.size, 5, none⟩ = some (.slice a5 n5 c5) := fun p => cell_regrown q5 p.d p.os
        have s6 : ∀ p : Regrown, (grow (redrawn X5 p.d) p.os).cell? ⟨x1.heap.size, 6, none⟩ = some (.slice a6 n6 c6) := fun p => cell_regrown q6 p.d p.os
        have y0 : ∀ p : Regrown, (grow (redrawn X5 p.d) p.os).cell? ⟨x4.heap.size, 0, none⟩ = some (.int .i64 j0) := fun p => cell_regrown r0 p.d p.os
        have y1 : ∀ p : Regrown, (grow (redrawn X5 p.d) p.os).cell? ⟨x4.heap.size, 1, none⟩ = some (.int .i64 j1) := fun p => cell_regrown r1 p.d p.os
        have y2 : ∀ p : Regrown, (grow (redrawn X5 p.d) p.os).cell? ⟨x4.heap.size, 2, none⟩ = some (.string u2) := fun p => cell_regrown r2 p.d p.os
        have y3 : ∀ p : Regrown, (grow (redrawn X5 p.d) p.os).cell? ⟨x4.heap.size, 3, none⟩ = some (.int .i64 j3) := fun p => cell_regrown r3 p.d p.os
        have y4 : ∀ p : Regrown, (grow (redrawn X5 p.d) p.os).cell? ⟨x4.heap.size, 4, none⟩ = some (.slice d4 m4 f4) := fun p => cell_regrown r4 p.d p.os
        have y5 : ∀ p : Regrown, (grow (redrawn X5 p.d) p.os).cell? ⟨x4.heap.size, 5, none⟩ = some (.slice d5 m5 f5) := fun p => cell_regrown r5 p.d p.os
        have y6 : ∀ p : Regrown, (grow (redrawn X5 p.d) p.os).cell? ⟨x4.heap.size, 6, none⟩ = some (.slice d6 m6 f6) := fun p => cell_regrown r6 p.d p.os
        clear hA25 hA5 hb5 hb25 e9 hX5 q0 q1 q2 q3 q4 q5 q6 r0 r1 r2 r3 r4 r5 r6
        refine wp_region_quiet_below (by kernel_rfl) (by kernel_rfl) ?_
        repeat (go_big_quiet_step (first | exact cX _ | exact cY _))
        refine wpQuiet_nil ?_
        intro x6 hx6
        have b6 : Below X5.heap.size X5 x6 := by
          obtain ⟨p, rfl⟩ := hx6
          exact below_regrown X5 p.d p.os
        have D6 := Lib.hid (D5.out.trans (b6.mono D5.out.size))
        clear hx6 b6
        go_wp2_with fail
        go_ret
        exact ⟨rfl, D6.out⟩
  · have e1 : decide ((1000 : Int) < (s.size : Int)) = true := by simp only [decide_eq_true_eq]; omega
    go_enter Tryz.func9, Tryz.ntmps9
    go_wp2_with fail
    refine HA.out.mono ?_
    rintro e w1 ⟨rfl, b1⟩
    go_wp2_with fail
    go_ret
    exact ⟨rfl, b1⟩

end Go.Proofs.YthpoffklhpbdoaaGreatDoor

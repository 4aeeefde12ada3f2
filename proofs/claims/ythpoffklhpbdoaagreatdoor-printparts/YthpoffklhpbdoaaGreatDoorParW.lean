/-
  The walk of PrintParts: it tells true.
-/
import Derived.Test.YthpoffklhpbdoaaGreatDoorParA
import Derived.Test.YthpoffklhpbdoaaGreatDoorStbW
import Derived.Test.YthpoffklhpbdoaaGreatDoorJoinsA
namespace Go.Proofs.YthpoffklhpbdoaaGreatDoor
set_option maxRecDepth 100000
open Go.RowKit Go.Shelf Go.Sort

theorem rec_form {y x : PE} (h : y.pl Zr = .mk 5 0 [] 0 [[107]] [x] []) : ∃ y' a, y = .mk 5 a [] 0 [[107]] [y'] [] ∧ y'.pl Zr = x := by
  obtain ⟨k, a, n, m, ns, l, ts⟩ := y
  rw [pl_mk] at h
  injection h with h1 h2 h3 h4 h5 h6 h7
  subst h1 h3 h4 h5 h7
  cases l with
  | nil => cases h6
  | cons y' r =>
    rw [List.map_cons] at h6
    injection h6 with e1 e2
    rw [List.map_eq_nil_iff] at e2
    subst e2
    exact ⟨y', a, rfl, e1⟩
theorem field_form {z x : PE} (h : z.pl Zr = .mk 6 0 [107] 0 [] [x] []) : ∃ z' a, z = .mk 6 a [107] 0 [] [z'] [] ∧ z'.pl Zr = x := by
  obtain ⟨k, a, n, m, ns, l, ts⟩ := z
  rw [pl_mk] at h
  injection h with h1 h2 h3 h4 h5 h6 h7
  subst h1 h3 h4 h5 h7
  cases l with
  | nil => cases h6
  | cons y' r =>
    rw [List.map_cons] at h6
    injection h6 with e1 e2
    rw [List.map_eq_nil_iff] at e2
    subst e2
    exact ⟨y', a, rfl, e1⟩
theorem szE_eq {x y : PE} (h : y.pl Zr = x.pl Zr) : szE y = szE x := by rw [← szE_pl Zr y, h, szE_pl]
/-- The laws' Exprs of one that lies in a row. -/
theorem exY {x y : PE} (h : y.pl Zr = x.pl Zr) (hs : szE x ≤ 1000000) {A : Nat → Prop} {w : World} {v : Value} (hC : IsC A w (.row 36 7 1 (encEs 26 36 [y])) v) (X : World) (hX : Alk w X) :
    Calls Tryz.prog 18 #[v] X fun e w' => ∃ z, e = .returned z ∧ Below w.heap.size w w' ∧ Sub (fun _ => True) w' (encEs 31 41 [y]) 1 z := by
  have hsub := Sub.of_row hC (by rw [encEs_flat]; exact flat_length (encE_length 26 36) [y])
  refine (esOk [y] (by have := szE_eq h; simp only [szEs]; omega) A X v (hsub.below hX.below)).mono ?_
  rintro e w' ⟨z, q1, q2, q3⟩
  rw [hX.size] at q2
  exact ⟨z, q1, hX.below.trans q2, (Sub.of_row q3 (by rw [encEs_flat]; exact flat_length (encE_length 31 41) [y])).mono (fun _ _ _ => trivial)⟩
/-- Of one that was just laid into a row. -/
theorem exX {x : PE} (hs : szE x ≤ 1000000) {A : Nat → Prop} {w : World} {cs : List Value} (hC : IsCs A w (encE 26 36 x) cs) (W X : World) (hW : Below (w.alloc (.cells cs.toArray 36)).heap.size (w.alloc (.cells cs.toArray 36)) W) (hX : Alk W X) :
    Calls Tryz.prog 18 #[.slice (some ⟨w.heap.size, 0, none⟩) 1 1] X fun e w' => ∃ z, e = .returned z ∧ Below W.heap.size W w' ∧ Sub (fun _ => True) w' (encEs 31 41 [x]) 1 z := by
  have h1 := row_lit (e := 36) (size := 7) (n := 1) (g := w.heap.size) (l := encEs 26 36 [x]) (cs := cs) (A := fun _ => True) (by decide) rfl trivial (by decide) (by rw [IsCs.length _ _ hC, encE_length]) (by have := hC.mono (A' := fun _ => True) (fun _ _ _ => trivial); simpa [encEs] using this)
  have hsub := Sub.of_row h1 (by rw [encEs_flat]; exact flat_length (encE_length 26 36) [x])
  refine (esOk [x] (by simp only [szEs]; omega) _ X _ ((hsub.below hW).below hX.below)).mono ?_
  rintro e w' ⟨z, q1, q2, q3⟩
  rw [hX.size] at q2
  exact ⟨z, q1, hX.below.trans q2, (Sub.of_row q3 (by rw [encEs_flat]; exact flat_length (encE_length 31 41) [x])).mono (fun _ _ _ => trivial)⟩
theorem exXb {x : PE} (hs : szE x ≤ 1000000) {A : Nat → Prop} {w : World} {cs : List Value} (hC : IsCs A w (encE 26 36 x) cs) (W X : World) (hW : Below w.heap.size w W) (hX : Alk (W.alloc (.cells cs.toArray 36)) X) :
    Calls Tryz.prog 18 #[.slice (some ⟨W.heap.size, 0, none⟩) 1 1] X fun e w' => ∃ z, e = .returned z ∧ Below W.heap.size W w' ∧ Sub (fun _ => True) w' (encEs 31 41 [x]) 1 z := by
  have hal : Below W.heap.size W (W.alloc (.cells cs.toArray 36)) := (Below.refl _ _).alloc (Nat.le_refl _) _
  refine (exX hs (hC.below hW) (W.alloc (.cells cs.toArray 36)) X (Below.refl _ _) hX).mono ?_
  rintro e w' ⟨z, q1, q2, q3⟩
  exact ⟨z, q1, hal.trans (q2.mono hal.size), q3⟩
theorem seY {x y : PE} (h : y.pl Zr = x.pl Zr) (hs : szE x ≤ 1000000) (W X : World) (z1 z2 : Value) (hX : Alk W X) (k1 : Sub (fun _ => True) W (encEs 31 41 [y]) 1 z1) (k2 : Sub (fun _ => True) W (encEs 31 41 [x]) 1 z2) :
    Calls Tryz.prog 17 #[z1, z2, .bool false] X fun e w' => e = .returned (.bool true) ∧ Below W.heap.size W w' := by
  refine (seOk false [y] [x] ⟨by simp only [pls_map, List.map_cons, List.map_nil]; rw [show y.pl (fun _ => 0) = x.pl (fun _ => 0) from h], fun h => by cases h⟩ (by have := szE_eq h; simp only [szEs]; omega) _ _ X z1 z2 (k1.below hX.below) (k2.below hX.below)).mono ?_
  rintro e w' ⟨q1, q2⟩
  rw [hX.size] at q2
  exact ⟨q1, hX.below.trans q2⟩
theorem ne_pl {x y : PE} (h : y.pl Zr = x.pl Zr) (hx : NE x) : NE y := by
  induction hx generalizing y with
  | @mk k a n m ns l ts h1 h2 ih =>
    obtain ⟨k', a', n', m', ns', l', ts'⟩ := y
    rw [pl_mk, pl_mk] at h
    injection h with e1 e2 e3 e4 e5 e6 e7
    subst e1 e4
    refine .mk h1 fun z hz => ?_
    obtain ⟨i, hi, rfl⟩ := List.getElem_of_mem hz
    have hlen : l'.length = l.length := by have := congrArg List.length e6; simpa using this
    have hi' : i < l.length := by omega
    have h3 : (l'.map (PE.pl Zr))[i]'(by simpa using hi) = (l.map (PE.pl Zr))[i]'(by simpa using hi') := by simp only [e6]
    rw [List.getElem_map, List.getElem_map] at h3
    exact ih _ (List.getElem_mem hi') h3
theorem prY {x y : PE} {ay : Nat} (hx : NE x) (h : y.pl Zr = x.pl Zr) {A : Nat → Prop} {w : World} {cs : List Value} (hC : IsCs A w (encE 26 36 (.mk 5 ay [] 0 [[107]] [y] [])) cs) (hT : Tab w.heap.size w) (hl : (prE 0 x).length ≤ 2000) (P : ByteArray) (hP : P.data.toList = prE 0 x) (W X : World) (hW : Below w.heap.size w W) (hX : Alk W X) :
    Calls Tryz.prog 28 #[.agg cs.toArray] X fun e w' => e = .returned (.string ((⟨#[123, 107, 32, 61, 32]⟩ ++ P) ++ ⟨#[125]⟩)) ∧ Below W.heap.size W w' := by
  have hb := hW.trans (hX.below.mono hW.size)
  have htx : prE 0 (.mk 5 ay [] 0 [[107]] [y] []) = [123, 107, 32, 61, 32] ++ (prE 0 x ++ [125]) := by
    rw [prE_mk, ← prE_z h 0]; simp [markE, lvlE, bodyE, joinL, pairL]
  refine (printE_any _ (.mk (by decide) (fun z hz => by rw [List.mem_singleton.1 hz]; exact ne_pl h hx)) A cs X (hC.below hb) (Tab.up (Lib.TabBelow.on hT hb) hb.size) (by rw [htx]; simp only [List.length_append, List.length_cons, List.length_nil]; omega)).mono ?_
  rintro e w' ⟨q1, q2⟩
  rw [hX.size] at q2
  refine ⟨?_, hX.below.trans q2⟩
  rw [q1, htx]
  congr 2
  apply ByteArray.ext
  have : P.data = (prE 0 x).toArray := by rw [← hP]
  simp [this]

set_option maxHeartbeats 8000000 in
theorem parts_walk (s : ByteArray) (w : World) (hT : Tab w.heap.size w) : Calls Tryz.prog 7 #[.string s] w (Tells w) := by
  have HA := Lib.hid (alive06 w)
  have HT := Lib.hid hT
  obtain ⟨l, hl⟩ : ∃ l, l = s.data.toList := ⟨_, rfl⟩
  have hls : l.length = s.size := by rw [hl]; exact Array.length_toList
  have HL := Lib.hid hl.symm
  have HLS := Lib.hid hls
  clear hl hls hT
  by_cases hb : s.size ≤ 600
  · have e1 : decide ((600 : Int) < (s.size : Int)) = false := by simp only [decide_eq_false_iff_not]; omega
    have H1 := Lib.hid (fun W => t_opt l (by have := HLS.out; omega) s HL.out W)
    have H2 := Lib.hid (fun W => x_opt l (by have := HLS.out; omega) s HL.out W)
    have HBG := Lib.hid hb
    clear hb
    go_enter Tryz.func7, Tryz.ntmps7
    go_wp2_with fail
    refine HA.out.mono ?_
    rintro e w1 ⟨rfl, b1⟩
    have B1 := Lib.hid b1
    clear b1
    go_wp2_with fail
    refine (H1.out _).mono ?_
    rintro e w2 ⟨b2, k, n, a2, n2, c2, a3, n3, c3, ok, rfl, h⟩
    obtain ⟨W3, hW3⟩ : ∃ W3, w2.alloc (.cells #[.int .i64 k, .string n, .slice a2 n2 c2, .slice a3 n3 c3] 26) = W3 := ⟨_, rfl⟩
    have hA3 : W3.heap[w2.heap.size]? = some (.cells #[.int .i64 k, .string n, .slice a2 n2 c2, .slice a3 n3 c3] 26 (0, 0)) := by rw [← hW3]; exact heap_alloc_new w2 _
    have hb3 : Below w2.heap.size w2 W3 := by rw [← hW3]; exact (Below.refl _ _).alloc (Nat.le_refl _) _
    have B3 := Lib.hid (B1.out.trans ((b2.trans (hb3.mono b2.size)).mono B1.out.size))
    have HW3 := Lib.hid hW3
    have H := Lib.hid h
    have HC3 := Lib.hid (fun t (hc : IsCs (fun b => w1.heap.size ≤ b) w2 (encT 26 t) [.int .i64 k, .string n, .slice a2 n2 c2, .slice a3 n3 c3]) => hc.below hb3)
    have HA3 := Lib.hid hA3
    clear h hA3 hb3 hW3 b2
    go_upto_if 27 with fail
    rw [HW3.out]
    go_cut [5] from 5 to 69 (fun _ wx => Hid (Below W3.heap.size W3 wx))
    case first =>
      obtain ⟨-, rfl⟩ | ⟨t, ht, rfl, hc⟩ := H.out
      · go_wp2_with fail
        go_meet
        exact Lib.hid (Below.refl _ _)
      · obtain ⟨gt, hlt⟩ := wT_inv ht
        have hpl : (prT 0 t).length ≤ 1802 := by have := HLS.out; have := HBG.out; omega
        have HPL := Lib.hid hpl
        have HSZ := Lib.hid (show szT t ≤ 1000000 by have := size_wT ht; have := HLS.out; have := HBG.out; omega)
        have HGT := Lib.hid gt
        have HC := Lib.hid (HC3.out t hc)
        obtain ⟨P, hP⟩ : ∃ P : ByteArray, P = ⟨(prT 0 t).toArray⟩ := ⟨_, rfl⟩
        have hPl : P.data.toList = prT 0 t := by rw [hP]
        have hPs : P.size ≤ 1802 := size_of_list hPl hpl
        have HPPL := Lib.hid hPl
        have HP1 := Lib.hid (printT_any t _ _ W3 HC.out (by omega))
        rw [← hP] at HP1
        obtain ⟨⟨q0, q1, q2, q3⟩, -⟩ := fou_of (t := 26) HA3.out
        have HR := Lib.hid (fun S hS W => t_opt ([123, 107, 58, 32] ++ (prT 0 t ++ [125])) (by simp only [List.length_append, List.length_cons, List.length_nil]; have := HPL.out; omega) S hS W)
        have HFN := Lib.hid (fun S hS W => t_opt (40 :: (prT 0 t ++ [41, 32, 45, 62, 32, 105, 110, 116])) (by simp only [List.length_append, List.length_cons, List.length_nil]; have := HPL.out; omega) S hS W)
        clear hc gt hlt hpl hP hPl ht
        go_wp2_with fail
        refine HP1.out.mono ?_
        rintro e w4 ⟨rfl, b4⟩
        have B4 := Lib.hid b4
        clear b4 HP1 q0 q1 q2 q3
        go_wp2_with fail
        refine (HR.out _ ?_ _).mono ?_
        · simp [HPPL.out]
        rintro e w5 ⟨b5, k6, n6, A6, N6, C6, D6, M6, d6, okb, rfl, hy⟩
        have HY := Lib.hid hy
        have B5 := Lib.hid (B4.out.trans (b5.mono B4.out.size))
        obtain ⟨W6, hW6⟩ : ∃ W6, w5.alloc (.cells #[.int .i64 k6, .string n6, .slice A6 N6 C6, .slice D6 M6 d6] 26) = W6 := ⟨_, rfl⟩
        have A6' := Lib.hid (show W6.heap[w5.heap.size]? = some (.cells #[.int .i64 k6, .string n6, .slice A6 N6 C6, .slice D6 M6 d6] 26 (0, 0)) by rw [← hW6]; exact heap_alloc_new w5 _)
        have B56 := Lib.hid (show Below w5.heap.size w5 W6 by rw [← hW6]; exact (Below.refl _ _).alloc (Nat.le_refl _) _)
        have HW6 := Lib.hid hW6
        clear hy b5 hW6
        go_upto_region 9 with fail
        rw [HW6.out]
        go_wp2_with fail
        refine (HFN.out _ ?_ _).mono ?_
        · simp [HPPL.out]
        rintro e w7 ⟨b7, k8, n8, A8, N8, C8, D8, M8, d8, okd, rfl, hz⟩
        have HZ := Lib.hid hz
        obtain ⟨W8, hW8⟩ : ∃ W8, w7.alloc (.cells #[.int .i64 k8, .string n8, .slice A8 N8 C8, .slice D8 M8 d8] 26) = W8 := ⟨_, rfl⟩
        have hA8 : W8.heap[w7.heap.size]? = some (.cells #[.int .i64 k8, .string n8, .slice A8 N8 C8, .slice D8 M8 d8] 26 (0, 0)) := by rw [← hW8]; exact heap_alloc_new w7 _
        have hb78 : Below w7.heap.size w7 W8 := by rw [← hW8]; exact (Below.refl _ _).alloc (Nat.le_refl _) _
        have hb68 : Below W6.heap.size W6 W8 := b7.trans (hb78.mono b7.size)
        have hb58 : Below w5.heap.size w5 W8 := B56.out.trans (hb68.mono B56.out.size)
        have hb38 : Below W3.heap.size W3 W8 := B5.out.trans (hb58.mono B5.out.size)
        have hA68 := (hb68.block _ (Array.getElem?_eq_some_iff.1 A6'.out).1).trans A6'.out
        have hA38 := (hb38.block _ (Array.getElem?_eq_some_iff.1 HA3.out).1).trans HA3.out
        have B78 := Lib.hid hb78
        have B58 := Lib.hid hb58
        have B38 := Lib.hid hb38
        have L3 := Lib.hid (Array.getElem?_eq_some_iff.1 hA38).1
        have L6 := Lib.hid (Array.getElem?_eq_some_iff.1 hA68).1
        have L8 := Lib.hid (Array.getElem?_eq_some_iff.1 hA8).1
        have HW8 := Lib.hid hW8
        clear hz hb78 hb68 hW8 b7
        go_upto_region 10 with fail
        rw [HW8.out]
        obtain ⟨hyn, rfl⟩ | ⟨a, hye, rfl, hcy⟩ := HY.out
        · obtain ⟨hzn, rfl⟩ | ⟨c, hze, rfl, hcz⟩ := HZ.out
          · clear hyn hzn hA8 hA68 hA38 hb58 hb38
            refine wp_region_quiet_below (by kernel_rfl) (by kernel_rfl) ?_
            repeat (go_big_quiet_step (fail))
            refine wpQuiet_nil ?_
            intro x9 hx9
            have b9 : Below W8.heap.size W8 x9 := by
              obtain ⟨p, rfl⟩ := hx9
              exact below_regrown W8 p.d p.os
            have D9 := Lib.hid (B38.out.trans (b9.mono B38.out.size))
            clear hx9 b9
            go_wp2_with fail
            go_meet
            exact D9
          · obtain ⟨a, ha⟩ := rec_of_fun HGT.out hze
            rw [hyn] at ha
            cases ha
        · obtain ⟨hzn, rfl⟩ | ⟨c, hze, rfl, hcz⟩ := HZ.out
          · obtain ⟨c, hc⟩ := fun_of_rec HGT.out hye
            rw [hzn] at hc
            cases hc
          · obtain rfl := in_rec HGT.out hye
            obtain rfl := in_fun HGT.out hze
            obtain ⟨u2, v2, u3, v3, hce, -, k3'⟩ := cells_T2 hcy
            simp only [List.cons.injEq, Value.int.injEq, Value.slice.injEq, Value.string.injEq, and_true, true_and, List.length_cons, List.length_nil, Nat.zero_add] at hce
            obtain ⟨-, -, -, rfl, rfl, rfl⟩ := hce
            obtain ⟨u2, v2, u3, v3, hce, -, k3''⟩ := cells_T2 hcz
            simp only [List.cons.injEq, Value.int.injEq, Value.slice.injEq, Value.string.injEq, and_true, true_and, List.length_cons, List.length_nil, Nat.zero_add] at hce
            obtain ⟨-, -, -, rfl, rfl, rfl⟩ := hce
            obtain ⟨g6, c6, xs6, hv, -, hg6, hx6, hcell6⟩ := row_cells (k3'.below hb58) (by simp)
            cases hv
            rw [encTs_flat] at hx6
            obtain ⟨cs6, ic6, at6⟩ := IsCs.at (encT_length 26) [t] 0 t xs6 hx6 rfl
            obtain ⟨p0, p1, p2, p3, rfl⟩ := four ic6
            obtain ⟨g8, c8, xs8, hv, -, hg8, hx8, hcell8⟩ := row_cells (k3''.below B78.out) (by simp)
            cases hv
            rw [encTs_flat] at hx8
            obtain ⟨cs8, ic8, at8⟩ := IsCs.at (encT_length 26) [t, tInt] 0 t xs8 hx8 rfl
            obtain ⟨r0, r1, r2, r3, rfl⟩ := four ic8
            have hp6 : ∀ (j : Nat) (x : Value), j < 4 → ([p0, p1, p2, p3] : List Value)[j]? = some x → W8.cell? ⟨g6, j, none⟩ = some x := fun j x hj hx => by
              have h1 := at6 j x hx
              rw [Nat.zero_mul, Nat.zero_add] at h1
              exact hcell6 j x (by simp; omega) h1
            have hp8 : ∀ (j : Nat) (x : Value), j < 4 → ([r0, r1, r2, r3] : List Value)[j]? = some x → W8.cell? ⟨g8, j, none⟩ = some x := fun j x hj hx => by
              have h1 := at8 j x hx
              rw [Nat.zero_mul, Nat.zero_add] at h1
              exact hcell8 j x (by simp; omega) h1
            obtain ⟨⟨-, -, -, e0⟩, -⟩ := fou_of (t := 26) hA68
            have e1' := hp6 0 _ (by decide) rfl
            have e2 := hp6 1 _ (by decide) rfl
            have e3 := hp6 2 _ (by decide) rfl
            have e4 := hp6 3 _ (by decide) rfl
            obtain ⟨⟨e5, e6, e7, e8⟩, -⟩ := fou_of (t := 26) hA38
            obtain ⟨⟨-, -, -, e9⟩, -⟩ := fou_of (t := 26) hA8
            have e10 := hp8 0 _ (by decide) rfl
            have e11 := hp8 1 _ (by decide) rfl
            have e12 := hp8 2 _ (by decide) rfl
            have e13 := hp8 3 _ (by decide) rfl
            have LG6 := Lib.hid hg6
            have LG8 := Lib.hid hg8
            have HT6 := Lib.hid (fun (W X : World) (hW : Below W8.heap.size W8 W) (hX : Alk W X) => to_alk HSZ.out ic6 W X hW hX)
            have HT8 := Lib.hid (fun (W X : World) (hW : Below W8.heap.size W8 W) (hX : Alk W X) => to_alk HSZ.out ic8 W X hW hX)
            have HTT := Lib.hid (fun (W X : World) (hW : Below W8.heap.size W8 W) (hX : Alk W X) => to_alk HSZ.out (HC.out.below hb38) W X hW hX)
            clear hye hze hcy hcz k3' k3'' hx6 hcell6 at6 ic6 hx8 hcell8 at8 ic8 hp6 hp8 hg6 hg8 hA8 hA68 hA38 hb58 hb38
            go_region_held3 (fun w' => w'.cell? ⟨w5.heap.size, 3, none⟩ = some (.slice (some ⟨g6, 0, none⟩) 1 d6) ∧ w'.cell? ⟨g6, 0, none⟩ = some (p0) ∧ w'.cell? ⟨g6, 1, none⟩ = some (p1) ∧ w'.cell? ⟨g6, 2, none⟩ = some (p2) ∧ w'.cell? ⟨g6, 3, none⟩ = some (p3) ∧ w'.cell? ⟨w2.heap.size, 0, none⟩ = some (.int .i64 k) ∧ w'.cell? ⟨w2.heap.size, 1, none⟩ = some (.string n) ∧ w'.cell? ⟨w2.heap.size, 2, none⟩ = some (.slice a2 n2 c2) ∧ w'.cell? ⟨w2.heap.size, 3, none⟩ = some (.slice a3 n3 c3) ∧ w'.cell? ⟨w7.heap.size, 3, none⟩ = some (.slice (some ⟨g8, 0, none⟩) 2 d8) ∧ w'.cell? ⟨g8, 0, none⟩ = some (r0) ∧ w'.cell? ⟨g8, 1, none⟩ = some (r1) ∧ w'.cell? ⟨g8, 2, none⟩ = some (r2) ∧ w'.cell? ⟨g8, 3, none⟩ = some (r3)) (go_keep)
            (first
              | (go_at_call 15; refine (same_alk HSZ.out J14.out I15.out _ ?_).mono ?_; exact ⟨rfl, rfl, rfl, rfl⟩; rintro e w16 ⟨rfl, b16⟩; (have hB := B15.out.trans (b16.mono B15.out.size)); (have s0 := (hB.cell (p := ⟨w5.heap.size, 3, none⟩) L6.out).trans e0); (have s1 := (hB.cell (p := ⟨g6, 0, none⟩) LG6.out).trans e1'); (have s2 := (hB.cell (p := ⟨g6, 1, none⟩) LG6.out).trans e2); (have s3 := (hB.cell (p := ⟨g6, 2, none⟩) LG6.out).trans e3); (have s4 := (hB.cell (p := ⟨g6, 3, none⟩) LG6.out).trans e4); (have s5 := (hB.cell (p := ⟨w2.heap.size, 0, none⟩) L3.out).trans e5); (have s6 := (hB.cell (p := ⟨w2.heap.size, 1, none⟩) L3.out).trans e6); (have s7 := (hB.cell (p := ⟨w2.heap.size, 2, none⟩) L3.out).trans e7); (have s8 := (hB.cell (p := ⟨w2.heap.size, 3, none⟩) L3.out).trans e8); (have s9 := (hB.cell (p := ⟨w7.heap.size, 3, none⟩) L8.out).trans e9); (have s10 := (hB.cell (p := ⟨g8, 0, none⟩) LG8.out).trans e10); (have s11 := (hB.cell (p := ⟨g8, 1, none⟩) LG8.out).trans e11); (have s12 := (hB.cell (p := ⟨g8, 2, none⟩) LG8.out).trans e12); (have s13 := (hB.cell (p := ⟨g8, 3, none⟩) LG8.out).trans e13); (have B16 := Lib.hid hB); clear hB b16)
              | (go_at_call 16; refine (HTT.out w14 _ B14.out ?_).mono ?_; exact ⟨rfl, rfl, rfl, rfl⟩; rintro e w15 ⟨y0, y1, y2, y3, rfl, b15, i15⟩; (have hB := B14.out.trans (b15.mono B14.out.size)); (have s0 := (hB.cell (p := ⟨w5.heap.size, 3, none⟩) L6.out).trans e0); (have s1 := (hB.cell (p := ⟨g6, 0, none⟩) LG6.out).trans e1'); (have s2 := (hB.cell (p := ⟨g6, 1, none⟩) LG6.out).trans e2); (have s3 := (hB.cell (p := ⟨g6, 2, none⟩) LG6.out).trans e3); (have s4 := (hB.cell (p := ⟨g6, 3, none⟩) LG6.out).trans e4); (have s5 := (hB.cell (p := ⟨w2.heap.size, 0, none⟩) L3.out).trans e5); (have s6 := (hB.cell (p := ⟨w2.heap.size, 1, none⟩) L3.out).trans e6); (have s7 := (hB.cell (p := ⟨w2.heap.size, 2, none⟩) L3.out).trans e7); (have s8 := (hB.cell (p := ⟨w2.heap.size, 3, none⟩) L3.out).trans e8); (have s9 := (hB.cell (p := ⟨w7.heap.size, 3, none⟩) L8.out).trans e9); (have s10 := (hB.cell (p := ⟨g8, 0, none⟩) LG8.out).trans e10); (have s11 := (hB.cell (p := ⟨g8, 1, none⟩) LG8.out).trans e11); (have s12 := (hB.cell (p := ⟨g8, 2, none⟩) LG8.out).trans e12); (have s13 := (hB.cell (p := ⟨g8, 3, none⟩) LG8.out).trans e13); (have B15 := Lib.hid hB); (have I15 := Lib.hid i15); (have J14 := Lib.hid (I14.out.below b15)); clear hB b15 i15)
              | (go_at_call 16; refine (HT8.out w13 _ B13.out ?_).mono ?_; exact ⟨rfl, rfl, rfl, rfl⟩; rintro e w14 ⟨x0, x1, x2, x3, rfl, b14, i14⟩; (have hB := B13.out.trans (b14.mono B13.out.size)); (have s0 := (hB.cell (p := ⟨w5.heap.size, 3, none⟩) L6.out).trans e0); (have s1 := (hB.cell (p := ⟨g6, 0, none⟩) LG6.out).trans e1'); (have s2 := (hB.cell (p := ⟨g6, 1, none⟩) LG6.out).trans e2); (have s3 := (hB.cell (p := ⟨g6, 2, none⟩) LG6.out).trans e3); (have s4 := (hB.cell (p := ⟨g6, 3, none⟩) LG6.out).trans e4); (have s5 := (hB.cell (p := ⟨w2.heap.size, 0, none⟩) L3.out).trans e5); (have s6 := (hB.cell (p := ⟨w2.heap.size, 1, none⟩) L3.out).trans e6); (have s7 := (hB.cell (p := ⟨w2.heap.size, 2, none⟩) L3.out).trans e7); (have s8 := (hB.cell (p := ⟨w2.heap.size, 3, none⟩) L3.out).trans e8); (have s9 := (hB.cell (p := ⟨w7.heap.size, 3, none⟩) L8.out).trans e9); (have s10 := (hB.cell (p := ⟨g8, 0, none⟩) LG8.out).trans e10); (have s11 := (hB.cell (p := ⟨g8, 1, none⟩) LG8.out).trans e11); (have s12 := (hB.cell (p := ⟨g8, 2, none⟩) LG8.out).trans e12); (have s13 := (hB.cell (p := ⟨g8, 3, none⟩) LG8.out).trans e13); (have B14 := Lib.hid hB); (have I14 := Lib.hid i14); clear hB b14 i14)
              | (go_at_call 15; refine (same_alk HSZ.out J11.out I12.out _ ?_).mono ?_; exact ⟨rfl, rfl, rfl, rfl⟩; rintro e w13 ⟨rfl, b13⟩; (have hB := B12.out.trans (b13.mono B12.out.size)); (have s0 := (hB.cell (p := ⟨w5.heap.size, 3, none⟩) L6.out).trans e0); (have s1 := (hB.cell (p := ⟨g6, 0, none⟩) LG6.out).trans e1'); (have s2 := (hB.cell (p := ⟨g6, 1, none⟩) LG6.out).trans e2); (have s3 := (hB.cell (p := ⟨g6, 2, none⟩) LG6.out).trans e3); (have s4 := (hB.cell (p := ⟨g6, 3, none⟩) LG6.out).trans e4); (have s5 := (hB.cell (p := ⟨w2.heap.size, 0, none⟩) L3.out).trans e5); (have s6 := (hB.cell (p := ⟨w2.heap.size, 1, none⟩) L3.out).trans e6); (have s7 := (hB.cell (p := ⟨w2.heap.size, 2, none⟩) L3.out).trans e7); (have s8 := (hB.cell (p := ⟨w2.heap.size, 3, none⟩) L3.out).trans e8); (have s9 := (hB.cell (p := ⟨w7.heap.size, 3, none⟩) L8.out).trans e9); (have s10 := (hB.cell (p := ⟨g8, 0, none⟩) LG8.out).trans e10); (have s11 := (hB.cell (p := ⟨g8, 1, none⟩) LG8.out).trans e11); (have s12 := (hB.cell (p := ⟨g8, 2, none⟩) LG8.out).trans e12); (have s13 := (hB.cell (p := ⟨g8, 3, none⟩) LG8.out).trans e13); (have B13 := Lib.hid hB); clear hB b13)
              | (go_at_call 16; refine (HTT.out w11 _ B11.out ?_).mono ?_; exact ⟨rfl, rfl, rfl, rfl⟩; rintro e w12 ⟨v0, v1, v2, v3, rfl, b12, i12⟩; (have hB := B11.out.trans (b12.mono B11.out.size)); (have s0 := (hB.cell (p := ⟨w5.heap.size, 3, none⟩) L6.out).trans e0); (have s1 := (hB.cell (p := ⟨g6, 0, none⟩) LG6.out).trans e1'); (have s2 := (hB.cell (p := ⟨g6, 1, none⟩) LG6.out).trans e2); (have s3 := (hB.cell (p := ⟨g6, 2, none⟩) LG6.out).trans e3); (have s4 := (hB.cell (p := ⟨g6, 3, none⟩) LG6.out).trans e4); (have s5 := (hB.cell (p := ⟨w2.heap.size, 0, none⟩) L3.out).trans e5); (have s6 := (hB.cell (p := ⟨w2.heap.size, 1, none⟩) L3.out).trans e6); (have s7 := (hB.cell (p := ⟨w2.heap.size, 2, none⟩) L3.out).trans e7); (have s8 := (hB.cell (p := ⟨w2.heap.size, 3, none⟩) L3.out).trans e8); (have s9 := (hB.cell (p := ⟨w7.heap.size, 3, none⟩) L8.out).trans e9); (have s10 := (hB.cell (p := ⟨g8, 0, none⟩) LG8.out).trans e10); (have s11 := (hB.cell (p := ⟨g8, 1, none⟩) LG8.out).trans e11); (have s12 := (hB.cell (p := ⟨g8, 2, none⟩) LG8.out).trans e12); (have s13 := (hB.cell (p := ⟨g8, 3, none⟩) LG8.out).trans e13); (have B12 := Lib.hid hB); (have I12 := Lib.hid i12); (have J11 := Lib.hid (I11.out.below b12)); clear hB b12 i12)
              | (go_at_call 16; refine (HT6.out W8 _ (Below.refl _ _) ?_).mono ?_; exact ⟨rfl, rfl, rfl, rfl⟩; rintro e w11 ⟨u0, u1, u2, u3, rfl, b11, i11⟩; (have hB := b11); (have s0 := (hB.cell (p := ⟨w5.heap.size, 3, none⟩) L6.out).trans e0); (have s1 := (hB.cell (p := ⟨g6, 0, none⟩) LG6.out).trans e1'); (have s2 := (hB.cell (p := ⟨g6, 1, none⟩) LG6.out).trans e2); (have s3 := (hB.cell (p := ⟨g6, 2, none⟩) LG6.out).trans e3); (have s4 := (hB.cell (p := ⟨g6, 3, none⟩) LG6.out).trans e4); (have s5 := (hB.cell (p := ⟨w2.heap.size, 0, none⟩) L3.out).trans e5); (have s6 := (hB.cell (p := ⟨w2.heap.size, 1, none⟩) L3.out).trans e6); (have s7 := (hB.cell (p := ⟨w2.heap.size, 2, none⟩) L3.out).trans e7); (have s8 := (hB.cell (p := ⟨w2.heap.size, 3, none⟩) L3.out).trans e8); (have s9 := (hB.cell (p := ⟨w7.heap.size, 3, none⟩) L8.out).trans e9); (have s10 := (hB.cell (p := ⟨g8, 0, none⟩) LG8.out).trans e10); (have s11 := (hB.cell (p := ⟨g8, 1, none⟩) LG8.out).trans e11); (have s12 := (hB.cell (p := ⟨g8, 2, none⟩) LG8.out).trans e12); (have s13 := (hB.cell (p := ⟨g8, 3, none⟩) LG8.out).trans e13); (have B11 := Lib.hid hB); (have I11 := Lib.hid i11); clear hB b11 i11))
            all_goals
              clear s0 s1 s2 s3 s4 s5 s6 s7 s8 s9 s10 s11 s12 s13
              have D9 := Lib.hid (B38.out.trans (B16.out.mono B38.out.size))
              go_wp2_with fail
              go_meet
              exact D9
    case rest =>
      have HBW := Lib.hid (B3.out.trans (hcut.out.mono B3.out.size))
      clear hcut H HC3 HA3 HW3 H1
      go_wp2_with fail
      refine (H2.out _).mono ?_
      rintro e x1 ⟨b1, i0, i1, t2, i3, a4, m4, c4, a5, m5, c5, a6, m6, c6, ok, rfl, h⟩
      have D1 := Lib.hid (HBW.out.trans (b1.mono HBW.out.size))
      have HTH := Lib.hid (there_of (heap_alloc_new x1 zE) (n := 7) rfl)
      obtain ⟨h, rfl⟩ | ⟨x, hx, rfl, hc⟩ := h
      · clear h b1
        go_wp2_with (first | (refine wpList_store_put rfl 36 (.tmp 10) (.tmp 73) rfl x1.heap.size _ rfl rfl HTH.out size49 (all_oneCell_toArray (by simp [Value.oneCell'])) ?_; intro XX hXX))
        have e9 : XX = putL (x1.alloc zE) x1.heap.size [.int .i64 i0, .int .i64 i1, .string t2, .int .i64 i3, .slice a4 m4 c4, .slice a5 m5 c5, .slice a6 m6 c6] := hXX.out
        go_ret
        exact ⟨rfl, by rw [e9]; exact D1.out.trans ((Below.putL ((Below.refl _ _).alloc (Nat.le_refl _) _) (Nat.le_refl _) _ : Below x1.heap.size x1 _).mono D1.out.size)⟩
      · obtain ⟨gx, hlx⟩ := wE_inv hx
        have hpl : (prE 0 x).length ≤ 1802 := by have := HLS.out; have := HBG.out; omega
        have HPL := Lib.hid hpl
        have HSX := Lib.hid (show szE x ≤ 1000000 by have := size_wE hx; have := HLS.out; have := HBG.out; omega)
        have HNEX := Lib.hid (ve_ne gx.ve)
        have HGX := Lib.hid gx
        have HC1 := Lib.hid hc
        obtain ⟨P, hP⟩ : ∃ P : ByteArray, P = ⟨(prE 0 x).toArray⟩ := ⟨_, rfl⟩
        have hPl : P.data.toList = prE 0 x := by rw [hP]
        have hPs : P.size ≤ 1802 := size_of_list hPl hpl
        have HPPL := Lib.hid hPl
        have HPP := Lib.hid hP
        clear hP hPl
        go_upto_region 13 with (first | (refine wpList_store_put rfl 36 (.tmp 10) (.tmp 73) rfl x1.heap.size _ rfl rfl HTH.out size49 (all_oneCell_toArray (by simp [Value.oneCell'])) ?_; intro XX hXX))
        have e9 : XX = putL (x1.alloc zE) x1.heap.size [.int .i64 i0, .int .i64 i1, .string t2, .int .i64 i3, .slice a4 m4 c4, .slice a5 m5 c5, .slice a6 m6 c6] := hXX.out
        have hA2 : XX.heap[x1.heap.size]? = some (.cells #[.int .i64 i0, .int .i64 i1, .string t2, .int .i64 i3, .slice a4 m4 c4, .slice a5 m5 c5, .slice a6 m6 c6] 36 (0, 0)) := by rw [e9]; exact putL_at (vs := [.int .i64 i0, .int .i64 i1, .string t2, .int .i64 i3, .slice a4 m4 c4, .slice a5 m5 c5, .slice a6 m6 c6]) (heap_alloc_new x1 zE) rfl
        have hb2 : Below x1.heap.size x1 XX := by rw [e9]; exact Below.putL ((Below.refl _ _).alloc (Nat.le_refl _) _) (Nat.le_refl _) _
        obtain ⟨X2, hX2⟩ : ∃ X2, X2 = XX := ⟨_, rfl⟩
        rw [← hX2] at hA2 hb2 ⊢
        have D2 := Lib.hid (D1.out.trans (hb2.mono D1.out.size))
        have HC2 := Lib.hid (HC1.out.below hb2)
        have A2 := Lib.hid hA2
        have HP := Lib.hid (printE_any x HNEX.out _ _ X2 HC2.out (Tab.up (Lib.TabBelow.on HT.out D2.out) D2.out.size) (by omega))
        rw [← HPP.out] at HP
        obtain ⟨⟨q0, q1, q2, q3, q4, q5, q6⟩, -⟩ := sev_of (t := 36) hA2
        clear hc b1 e9 hXX hA2 hb2 gx hlx hpl hx HTH hX2 XX
        go_wp2_with fail
        refine HP.out.mono ?_
        rintro e x3 ⟨rfl, b3⟩
        have D3 := Lib.hid b3
        have HR := Lib.hid (fun S hS W => x_opt ([123, 107, 32, 61, 32] ++ (prE 0 x ++ [125])) (by simp only [List.length_append, List.length_cons, List.length_nil]; have := HPL.out; omega) S hS W)
        have HFL := Lib.hid (fun S hS W => x_opt (40 :: (prE 0 x ++ [41, 46, 107])) (by simp only [List.length_append, List.length_cons, List.length_nil]; have := HPL.out; omega) S hS W)
        clear b3 HP q0 q1 q2 q3 q4 q5 q6
        go_wp2_with fail
        refine (HR.out _ ?_ _).mono ?_
        · simp [HPPL.out]
        rintro e x4 ⟨b4, j0, j1, u2, j3, d4, o4, f4, d5, o5, f5, d6, o6, f6, is, rfl, hy⟩
        have D4 := Lib.hid b4
        have HY := Lib.hid hy
        have HTH := Lib.hid (there_of (heap_alloc_new x4 zE) (n := 7) rfl)
        clear b4 hy
        go_upto_region 17 with (first | (refine wpList_store_put rfl 36 (.tmp 13) (.tmp 84) rfl x4.heap.size _ rfl rfl HTH.out size49 (all_oneCell_toArray (by simp [Value.oneCell'])) ?_; intro XX hXX))
        have e9 : XX = putL (x4.alloc zE) x4.heap.size [.int .i64 j0, .int .i64 j1, .string u2, .int .i64 j3, .slice d4 o4 f4, .slice d5 o5 f5, .slice d6 o6 f6] := hXX.out
        have hA5 : XX.heap[x4.heap.size]? = some (.cells #[.int .i64 j0, .int .i64 j1, .string u2, .int .i64 j3, .slice d4 o4 f4, .slice d5 o5 f5, .slice d6 o6 f6] 36 (0, 0)) := by rw [e9]; exact putL_at (vs := [.int .i64 j0, .int .i64 j1, .string u2, .int .i64 j3, .slice d4 o4 f4, .slice d5 o5 f5, .slice d6 o6 f6]) (heap_alloc_new x4 zE) rfl
        have hb5 : Below x4.heap.size x4 XX := by rw [e9]; exact Below.putL ((Below.refl _ _).alloc (Nat.le_refl _) _) (Nat.le_refl _) _
        obtain ⟨X5, hX5⟩ : ∃ X5, X5 = XX := ⟨_, rfl⟩
        rw [← hX5] at hA5 hb5 ⊢
        have A5 := Lib.hid hA5
        have D5 := Lib.hid hb5
        clear e9 hXX hA5 hb5 HTH hX5 XX
        go_wp2_with fail
        refine (HFL.out _ ?_ _).mono ?_
        · simp [HPPL.out]
        rintro e x6 ⟨b6, h0, h1, v2, h3, g4, q4, k4, g5, q5, k5, g6, q6, k6, may, rfl, hz⟩
        have D6 := Lib.hid b6
        have HZ := Lib.hid hz
        have HTH := Lib.hid (there_of (heap_alloc_new x6 zE) (n := 7) rfl)
        clear b6 hz
        go_upto_region 18 with (first | (refine wpList_store_put rfl 36 (.tmp 15) (.tmp 91) rfl x6.heap.size _ rfl rfl HTH.out size49 (all_oneCell_toArray (by simp [Value.oneCell'])) ?_; intro XX hXX))
        have e9 : XX = putL (x6.alloc zE) x6.heap.size [.int .i64 h0, .int .i64 h1, .string v2, .int .i64 h3, .slice g4 q4 k4, .slice g5 q5 k5, .slice g6 q6 k6] := hXX.out
        have hA7 : XX.heap[x6.heap.size]? = some (.cells #[.int .i64 h0, .int .i64 h1, .string v2, .int .i64 h3, .slice g4 q4 k4, .slice g5 q5 k5, .slice g6 q6 k6] 36 (0, 0)) := by rw [e9]; exact putL_at (vs := [.int .i64 h0, .int .i64 h1, .string v2, .int .i64 h3, .slice g4 q4 k4, .slice g5 q5 k5, .slice g6 q6 k6]) (heap_alloc_new x6 zE) rfl
        have hb7 : Below x6.heap.size x6 XX := by rw [e9]; exact Below.putL ((Below.refl _ _).alloc (Nat.le_refl _) _) (Nat.le_refl _) _
        obtain ⟨X7, hX7⟩ : ∃ X7, X7 = XX := ⟨_, rfl⟩
        rw [← hX7] at hA7 hb7 ⊢
        have hb67 : Below X5.heap.size X5 X7 := D6.out.trans (hb7.mono D6.out.size)
        have hb47 : Below x4.heap.size x4 X7 := D5.out.trans (hb67.mono D5.out.size)
        have hb27 : Below X2.heap.size X2 X7 := D3.out.trans ((D4.out.trans (hb47.mono D4.out.size)).mono D3.out.size)
        have D7 := Lib.hid (D2.out.trans (hb27.mono D2.out.size))
        have hA27 := (hb27.block _ (Array.getElem?_eq_some_iff.1 A2.out).1).trans A2.out
        have hA57 := (hb67.block _ (Array.getElem?_eq_some_iff.1 A5.out).1).trans A5.out
        have HC7 := Lib.hid (HC2.out.below hb27)
        have LX := Lib.hid (Array.getElem?_eq_some_iff.1 hA27).1
        have LY := Lib.hid (Array.getElem?_eq_some_iff.1 hA57).1
        have LZ := Lib.hid (Array.getElem?_eq_some_iff.1 hA7).1
        have D47 := Lib.hid hb47
        have D67 := Lib.hid hb7
        obtain ⟨⟨q0, q1, q2, q3, q4', q5', q6'⟩, -⟩ := sev_of (t := 36) hA27
        obtain ⟨⟨y0, y1, y2, y3, y4, y5, y6⟩, -⟩ := sev_of (t := 36) hA57
        obtain ⟨⟨-, -, -, -, -, z5, -⟩, -⟩ := sev_of (t := 36) hA7
        have HAL := Lib.hid (show Below X7.heap.size X7 (X7.alloc (.cells #[.int .i64 i0, .int .i64 i1, .string t2, .int .i64 i3, .slice a4 m4 c4, .slice a5 m5 c5, .slice a6 m6 c6] 36)) from (Below.refl _ _).alloc (Nat.le_refl _) _)
        have HEX := Lib.hid (fun (W X : World) (hW : Below (X7.alloc (.cells #[.int .i64 i0, .int .i64 i1, .string t2, .int .i64 i3, .slice a4 m4 c4, .slice a5 m5 c5, .slice a6 m6 c6] 36)).heap.size (X7.alloc (.cells #[.int .i64 i0, .int .i64 i1, .string t2, .int .i64 i3, .slice a4 m4 c4, .slice a5 m5 c5, .slice a6 m6 c6] 36)) W) (hX : Alk W X) => exX HSX.out HC7.out W X hW hX)
        have HEXB := Lib.hid (fun (W X : World) (hW : Below X7.heap.size X7 W) (hX : Alk (W.alloc (.cells #[.int .i64 i0, .int .i64 i1, .string t2, .int .i64 i3, .slice a4 m4 c4, .slice a5 m5 c5, .slice a6 m6 c6] 36)) X) => exXb HSX.out HC7.out W X hW hX)
        clear e9 hXX hA7 hb7 hb67 hb47 hb27 hA27 hA57 HTH hX7 XX
        go_cut [103] from 93 to 103 (fun s103 wx => s103 = .bool false ∧ Hid (Below X7.heap.size X7 wx))
        case first =>
          obtain ⟨hyn, rfl⟩ | ⟨y, hye, rfl, hcy⟩ := HY.out
          · clear hyn q0 q1 q2 q3 q4' q5' q6' y0 y1 y2 y3 y4 y5 y6 z5
            refine wp_region_quiet_below (by kernel_rfl) (by kernel_rfl) ?_
            repeat (go_big_quiet_step (fail))
            refine wpQuiet_nil ?_
            intro x8 hx8
            have b8 : Below X7.heap.size X7 x8 := by
              obtain ⟨p, rfl⟩ := hx8
              exact below_regrown X7 p.d p.os
            clear hx8
            go_wp2_with fail
            go_meet
            exact ⟨rfl, Lib.hid b8⟩
          · have hyz := in_recE HGX.out hye
            obtain ⟨y', ay, rfl, hyx⟩ := rec_form hyz
            obtain ⟨p4, r4, p5, r5, p6, r6, hce, k4', k5', k6'⟩ := cells_E2 hcy
            simp only [List.cons.injEq, Value.int.injEq, Value.slice.injEq, Value.string.injEq, and_true, true_and, List.length_cons, List.length_nil, Nat.zero_add] at hce
            obtain ⟨-, -, -, -, -, ⟨rfl, rfl, rfl⟩, -⟩ := hce
            have HEY := Lib.hid (exY (x := x) (y := y') hyx HSX.out ((k5'.below D47.out).below HAL.out))
            have HEYB := Lib.hid (exY (x := x) (y := y') hyx HSX.out (k5'.below D47.out))
            have HSE := Lib.hid (seY (x := x) (y := y') hyx HSX.out)
            clear hyz hye hcy k4' k5' k6'
            go_region_held3 (fun w' => w'.cell? ⟨x4.heap.size, 5, none⟩ = some (.slice d5 1 f5) ∧ w'.cell? ⟨x1.heap.size, 0, none⟩ = some (.int .i64 i0) ∧ w'.cell? ⟨x1.heap.size, 1, none⟩ = some (.int .i64 i1) ∧ w'.cell? ⟨x1.heap.size, 2, none⟩ = some (.string t2) ∧ w'.cell? ⟨x1.heap.size, 3, none⟩ = some (.int .i64 i3) ∧ w'.cell? ⟨x1.heap.size, 4, none⟩ = some (.slice a4 m4 c4) ∧ w'.cell? ⟨x1.heap.size, 5, none⟩ = some (.slice a5 m5 c5) ∧ w'.cell? ⟨x1.heap.size, 6, none⟩ = some (.slice a6 m6 c6)) (go_keep)
              (first
                | (go_at_call 17; refine (HSE.out _ _ _ _ ?_ J21.out I22.out).mono ?_; exact ⟨rfl, rfl, rfl, rfl⟩; rintro e w23 ⟨rfl, b23⟩; (have hA := B22.out.trans (b23.mono B22.out.size)); (have hB := HAL.out.trans (hA.mono HAL.out.size)); (have s0 := (hB.cell (p := ⟨x4.heap.size, 5, none⟩) LY.out).trans y5); (have s1 := (hB.cell (p := ⟨x1.heap.size, 0, none⟩) LX.out).trans q0); (have s2 := (hB.cell (p := ⟨x1.heap.size, 1, none⟩) LX.out).trans q1); (have s3 := (hB.cell (p := ⟨x1.heap.size, 2, none⟩) LX.out).trans q2); (have s4 := (hB.cell (p := ⟨x1.heap.size, 3, none⟩) LX.out).trans q3); (have s5 := (hB.cell (p := ⟨x1.heap.size, 4, none⟩) LX.out).trans q4'); (have s6 := (hB.cell (p := ⟨x1.heap.size, 5, none⟩) LX.out).trans q5'); (have s7 := (hB.cell (p := ⟨x1.heap.size, 6, none⟩) LX.out).trans q6'); (have E23 := Lib.hid hB); clear hA hB b23)
                | (go_at_call 17; refine (HSE.out _ _ _ _ ?_ J31.out I32.out).mono ?_; exact ⟨rfl, rfl, rfl, rfl⟩; rintro e w23 ⟨rfl, b23⟩; (have hB := B32.out.trans (b23.mono B32.out.size)); (have s0 := (hB.cell (p := ⟨x4.heap.size, 5, none⟩) LY.out).trans y5); (have s1 := (hB.cell (p := ⟨x1.heap.size, 0, none⟩) LX.out).trans q0); (have s2 := (hB.cell (p := ⟨x1.heap.size, 1, none⟩) LX.out).trans q1); (have s3 := (hB.cell (p := ⟨x1.heap.size, 2, none⟩) LX.out).trans q2); (have s4 := (hB.cell (p := ⟨x1.heap.size, 3, none⟩) LX.out).trans q3); (have s5 := (hB.cell (p := ⟨x1.heap.size, 4, none⟩) LX.out).trans q4'); (have s6 := (hB.cell (p := ⟨x1.heap.size, 5, none⟩) LX.out).trans q5'); (have s7 := (hB.cell (p := ⟨x1.heap.size, 6, none⟩) LX.out).trans q6'); (have E23 := Lib.hid hB); clear hB b23)
                | (go_at_call 18; refine (HEX.out w21 _ B21.out ?_).mono ?_; exact ⟨rfl, rfl, rfl, rfl⟩; rintro e w22 ⟨z22, rfl, b22, i22⟩; (have hA := B21.out.trans (b22.mono B21.out.size)); (have hB := HAL.out.trans (hA.mono HAL.out.size)); (have s0 := (hB.cell (p := ⟨x4.heap.size, 5, none⟩) LY.out).trans y5); (have s1 := (hB.cell (p := ⟨x1.heap.size, 0, none⟩) LX.out).trans q0); (have s2 := (hB.cell (p := ⟨x1.heap.size, 1, none⟩) LX.out).trans q1); (have s3 := (hB.cell (p := ⟨x1.heap.size, 2, none⟩) LX.out).trans q2); (have s4 := (hB.cell (p := ⟨x1.heap.size, 3, none⟩) LX.out).trans q3); (have s5 := (hB.cell (p := ⟨x1.heap.size, 4, none⟩) LX.out).trans q4'); (have s6 := (hB.cell (p := ⟨x1.heap.size, 5, none⟩) LX.out).trans q5'); (have s7 := (hB.cell (p := ⟨x1.heap.size, 6, none⟩) LX.out).trans q6'); (have B22 := Lib.hid hA); (have I22 := Lib.hid i22); (have J21 := Lib.hid (I21.out.below b22)); clear hA hB b22 i22)
                | (go_at_call 18; refine (HEXB.out w31 _ B31.out ?_).mono ?_; exact ⟨rfl, rfl, rfl, rfl⟩; rintro e w32 ⟨z32, rfl, b32, i32⟩; (have hB := B31.out.trans (b32.mono B31.out.size)); (have s0 := (hB.cell (p := ⟨x4.heap.size, 5, none⟩) LY.out).trans y5); (have s1 := (hB.cell (p := ⟨x1.heap.size, 0, none⟩) LX.out).trans q0); (have s2 := (hB.cell (p := ⟨x1.heap.size, 1, none⟩) LX.out).trans q1); (have s3 := (hB.cell (p := ⟨x1.heap.size, 2, none⟩) LX.out).trans q2); (have s4 := (hB.cell (p := ⟨x1.heap.size, 3, none⟩) LX.out).trans q3); (have s5 := (hB.cell (p := ⟨x1.heap.size, 4, none⟩) LX.out).trans q4'); (have s6 := (hB.cell (p := ⟨x1.heap.size, 5, none⟩) LX.out).trans q5'); (have s7 := (hB.cell (p := ⟨x1.heap.size, 6, none⟩) LX.out).trans q6'); (have B32 := Lib.hid hB); (have I32 := Lib.hid i32); (have J31 := Lib.hid (I31.out.below b32)); clear hB b32 i32)
                | (go_at_call 18; refine (HEY.out _ ?_).mono ?_; exact ⟨rfl, rfl, rfl, rfl⟩; rintro e w21 ⟨z21, rfl, b21, i21⟩; (have hB := HAL.out.trans (b21.mono HAL.out.size)); (have s0 := (hB.cell (p := ⟨x4.heap.size, 5, none⟩) LY.out).trans y5); (have s1 := (hB.cell (p := ⟨x1.heap.size, 0, none⟩) LX.out).trans q0); (have s2 := (hB.cell (p := ⟨x1.heap.size, 1, none⟩) LX.out).trans q1); (have s3 := (hB.cell (p := ⟨x1.heap.size, 2, none⟩) LX.out).trans q2); (have s4 := (hB.cell (p := ⟨x1.heap.size, 3, none⟩) LX.out).trans q3); (have s5 := (hB.cell (p := ⟨x1.heap.size, 4, none⟩) LX.out).trans q4'); (have s6 := (hB.cell (p := ⟨x1.heap.size, 5, none⟩) LX.out).trans q5'); (have s7 := (hB.cell (p := ⟨x1.heap.size, 6, none⟩) LX.out).trans q6'); (have B21 := Lib.hid b21); (have I21 := Lib.hid i21); clear hB b21 i21)
                | (go_at_call 18; refine (HEYB.out _ ?_).mono ?_; exact ⟨rfl, rfl, rfl, rfl⟩; rintro e w31 ⟨z31, rfl, b31, i31⟩; (have hB := b31); (have s0 := (hB.cell (p := ⟨x4.heap.size, 5, none⟩) LY.out).trans y5); (have s1 := (hB.cell (p := ⟨x1.heap.size, 0, none⟩) LX.out).trans q0); (have s2 := (hB.cell (p := ⟨x1.heap.size, 1, none⟩) LX.out).trans q1); (have s3 := (hB.cell (p := ⟨x1.heap.size, 2, none⟩) LX.out).trans q2); (have s4 := (hB.cell (p := ⟨x1.heap.size, 3, none⟩) LX.out).trans q3); (have s5 := (hB.cell (p := ⟨x1.heap.size, 4, none⟩) LX.out).trans q4'); (have s6 := (hB.cell (p := ⟨x1.heap.size, 5, none⟩) LX.out).trans q5'); (have s7 := (hB.cell (p := ⟨x1.heap.size, 6, none⟩) LX.out).trans q6'); (have B31 := Lib.hid hB); (have I31 := Lib.hid i31); clear hB b31 i31))
            all_goals
              clear s0 s1 s2 s3 s4 s5 s6 s7
              go_wp2_with fail
              go_meet
              exact ⟨rfl, E23⟩
        case rest =>
          obtain ⟨rfl, E23⟩ := hcut
          obtain ⟨w23, hw23⟩ : ∃ w23, w23 = wc := ⟨_, rfl⟩
          rw [← hw23] at E23 ⊢
          clear hw23
          go_upto_region 20 with fail
          obtain ⟨hzn, rfl⟩ | ⟨z, hze, rfl, hcz⟩ := HZ.out
          · clear hzn q0 q1 q2 q3 q4' q5' q6' y0 y1 y2 y3 y4 y5 y6 z5
            refine wp_region_quiet_below (by kernel_rfl) (by kernel_rfl) ?_
            repeat (go_big_quiet_step (fail))
            refine wpQuiet_nil ?_
            intro x9 hx9
            have b9 : Below w23.heap.size w23 x9 := by
              obtain ⟨p, rfl⟩ := hx9
              exact below_regrown w23 p.d p.os
            have D9 := Lib.hid (D7.out.trans ((E23.out.trans (b9.mono E23.out.size)).mono D7.out.size))
            clear hx9 b9
            go_wp2_with fail
            go_ret
            exact ⟨rfl, D9.out⟩
          · obtain ⟨hzz, yy, hyy⟩ := in_field HGX.out hze
            obtain ⟨hyn, -⟩ | ⟨y, hye, -, hcy⟩ := HY.out
            · rw [hyn] at hyy; cases hyy
            have hyz := in_recE HGX.out hye
            have HCY := Lib.hid hcy
            obtain ⟨y', ay, rfl, hyx⟩ := rec_form hyz
            obtain ⟨z', az, rfl, hzx⟩ := field_form hzz
            obtain ⟨p4, r4, p5, r5, p6, r6, hce, k4', k5', k6'⟩ := cells_E2 hcz
            simp only [List.cons.injEq, Value.int.injEq, Value.slice.injEq, Value.string.injEq, and_true, true_and, List.length_cons, List.length_nil, Nat.zero_add] at hce
            obtain ⟨-, -, -, -, -, ⟨rfl, rfl, rfl⟩, -⟩ := hce
            have Q0 := (E23.out.cell (p := ⟨x6.heap.size, 5, none⟩) LZ.out).trans z5
            have Q1 := (E23.out.cell (p := ⟨x1.heap.size, 0, none⟩) LX.out).trans q0
            have Q2 := (E23.out.cell (p := ⟨x1.heap.size, 1, none⟩) LX.out).trans q1
            have Q3 := (E23.out.cell (p := ⟨x1.heap.size, 2, none⟩) LX.out).trans q2
            have Q4 := (E23.out.cell (p := ⟨x1.heap.size, 3, none⟩) LX.out).trans q3
            have Q5 := (E23.out.cell (p := ⟨x1.heap.size, 4, none⟩) LX.out).trans q4'
            have Q6 := (E23.out.cell (p := ⟨x1.heap.size, 5, none⟩) LX.out).trans q5'
            have Q7 := (E23.out.cell (p := ⟨x1.heap.size, 6, none⟩) LX.out).trans q6'
            have Q8 := (E23.out.cell (p := ⟨x4.heap.size, 0, none⟩) LY.out).trans y0
            have Q9 := (E23.out.cell (p := ⟨x4.heap.size, 1, none⟩) LY.out).trans y1
            have Q10 := (E23.out.cell (p := ⟨x4.heap.size, 2, none⟩) LY.out).trans y2
            have Q11 := (E23.out.cell (p := ⟨x4.heap.size, 3, none⟩) LY.out).trans y3
            have Q12 := (E23.out.cell (p := ⟨x4.heap.size, 4, none⟩) LY.out).trans y4
            have Q13 := (E23.out.cell (p := ⟨x4.heap.size, 5, none⟩) LY.out).trans y5
            have Q14 := (E23.out.cell (p := ⟨x4.heap.size, 6, none⟩) LY.out).trans y6
            have MX := Lib.hid (Nat.lt_of_lt_of_le LX.out E23.out.size)
            have MY := Lib.hid (Nat.lt_of_lt_of_le LY.out E23.out.size)
            have MZ := Lib.hid (Nat.lt_of_lt_of_le LZ.out E23.out.size)
            have HAL2 := Lib.hid (show Below w23.heap.size w23 (w23.alloc (.cells #[.int .i64 i0, .int .i64 i1, .string t2, .int .i64 i3, .slice a4 m4 c4, .slice a5 m5 c5, .slice a6 m6 c6] 36)) from (Below.refl _ _).alloc (Nat.le_refl _) _)
            have HCW := Lib.hid (HC7.out.below E23.out)
            have HEX2 := Lib.hid (fun (W X : World) (hW : Below (w23.alloc (.cells #[.int .i64 i0, .int .i64 i1, .string t2, .int .i64 i3, .slice a4 m4 c4, .slice a5 m5 c5, .slice a6 m6 c6] 36)).heap.size (w23.alloc (.cells #[.int .i64 i0, .int .i64 i1, .string t2, .int .i64 i3, .slice a4 m4 c4, .slice a5 m5 c5, .slice a6 m6 c6] 36)) W) (hX : Alk W X) => exX HSX.out HCW.out W X hW hX)
            have HEXB2 := Lib.hid (fun (W X : World) (hW : Below w23.heap.size w23 W) (hX : Alk (W.alloc (.cells #[.int .i64 i0, .int .i64 i1, .string t2, .int .i64 i3, .slice a4 m4 c4, .slice a5 m5 c5, .slice a6 m6 c6] 36)) X) => exXb HSX.out HCW.out W X hW hX)
            have HEZ := Lib.hid (exY (x := x) (y := z') hzx HSX.out (((k5'.below D67.out).below E23.out).below HAL2.out))
            have HEZB := Lib.hid (exY (x := x) (y := z') hzx HSX.out ((k5'.below D67.out).below E23.out))
            have HSE2 := Lib.hid (seY (x := x) (y := z') hzx HSX.out)
            have HPY2 := Lib.hid (fun (W X : World) (hW : Below w23.heap.size w23 W) (hX : Alk W X) => prY HNEX.out hyx (HCY.out.below D47.out) (Tab.up (Lib.TabBelow.on HT.out D7.out) D7.out.size) (by have := HPL.out; omega) P HPPL.out W X (E23.out.trans (hW.mono E23.out.size)) hX)
            have mz := MZ.out
            have my := MY.out
            have mx := MX.out
            have nz : ¬ x6.heap.size = w23.heap.size := Nat.ne_of_lt mz
            have ny : ¬ x4.heap.size = w23.heap.size := Nat.ne_of_lt my
            have nx : ¬ x1.heap.size = w23.heap.size := Nat.ne_of_lt mx
            have hp1 : ¬ 9223372036854775807 < 5 + P.size := by omega
            have hp2 : ¬ 9223372036854775807 < 5 + P.size + 1 := by omega
            clear hzz hze hyz hye hcy hcz k4' k5' k6' q0 q1 q2 q3 q4' q5' q6' y0 y1 y2 y3 y4 y5 y6 z5
            go_region_law (first
                | (go_simp; go_at_call 28; refine (HPY2.out w43 _ E43.out ?_).mono ?_; exact ⟨rfl, rfl, rfl, rfl⟩; rintro e w24 ⟨rfl, b24⟩; (have hB := E43.out.trans (b24.mono E43.out.size)); (have s0 := (hB.cell (p := ⟨x6.heap.size, 5, none⟩) MZ.out).trans Q0); (have s1 := (hB.cell (p := ⟨x1.heap.size, 0, none⟩) MX.out).trans Q1); (have s2 := (hB.cell (p := ⟨x1.heap.size, 1, none⟩) MX.out).trans Q2); (have s3 := (hB.cell (p := ⟨x1.heap.size, 2, none⟩) MX.out).trans Q3); (have s4 := (hB.cell (p := ⟨x1.heap.size, 3, none⟩) MX.out).trans Q4); (have s5 := (hB.cell (p := ⟨x1.heap.size, 4, none⟩) MX.out).trans Q5); (have s6 := (hB.cell (p := ⟨x1.heap.size, 5, none⟩) MX.out).trans Q6); (have s7 := (hB.cell (p := ⟨x1.heap.size, 6, none⟩) MX.out).trans Q7); (have s8 := (hB.cell (p := ⟨x4.heap.size, 0, none⟩) MY.out).trans Q8); (have s9 := (hB.cell (p := ⟨x4.heap.size, 1, none⟩) MY.out).trans Q9); (have s10 := (hB.cell (p := ⟨x4.heap.size, 2, none⟩) MY.out).trans Q10); (have s11 := (hB.cell (p := ⟨x4.heap.size, 3, none⟩) MY.out).trans Q11); (have s12 := (hB.cell (p := ⟨x4.heap.size, 4, none⟩) MY.out).trans Q12); (have s13 := (hB.cell (p := ⟨x4.heap.size, 5, none⟩) MY.out).trans Q13); (have s14 := (hB.cell (p := ⟨x4.heap.size, 6, none⟩) MY.out).trans Q14); (have E24 := Lib.hid hB); clear hB b24)
                | (go_simp; go_at_call 17; refine (HSE2.out _ _ _ _ ?_ J41.out I42.out).mono ?_; exact ⟨rfl, rfl, rfl, rfl⟩; rintro e w43 ⟨rfl, b23⟩; (have hA := B42.out.trans (b23.mono B42.out.size)); (have hB := HAL2.out.trans (hA.mono HAL2.out.size)); (have s0 := (hB.cell (p := ⟨x6.heap.size, 5, none⟩) MZ.out).trans Q0); (have s1 := (hB.cell (p := ⟨x1.heap.size, 0, none⟩) MX.out).trans Q1); (have s2 := (hB.cell (p := ⟨x1.heap.size, 1, none⟩) MX.out).trans Q2); (have s3 := (hB.cell (p := ⟨x1.heap.size, 2, none⟩) MX.out).trans Q3); (have s4 := (hB.cell (p := ⟨x1.heap.size, 3, none⟩) MX.out).trans Q4); (have s5 := (hB.cell (p := ⟨x1.heap.size, 4, none⟩) MX.out).trans Q5); (have s6 := (hB.cell (p := ⟨x1.heap.size, 5, none⟩) MX.out).trans Q6); (have s7 := (hB.cell (p := ⟨x1.heap.size, 6, none⟩) MX.out).trans Q7); (have s8 := (hB.cell (p := ⟨x4.heap.size, 0, none⟩) MY.out).trans Q8); (have s9 := (hB.cell (p := ⟨x4.heap.size, 1, none⟩) MY.out).trans Q9); (have s10 := (hB.cell (p := ⟨x4.heap.size, 2, none⟩) MY.out).trans Q10); (have s11 := (hB.cell (p := ⟨x4.heap.size, 3, none⟩) MY.out).trans Q11); (have s12 := (hB.cell (p := ⟨x4.heap.size, 4, none⟩) MY.out).trans Q12); (have s13 := (hB.cell (p := ⟨x4.heap.size, 5, none⟩) MY.out).trans Q13); (have s14 := (hB.cell (p := ⟨x4.heap.size, 6, none⟩) MY.out).trans Q14); (have E43 := Lib.hid hB); clear hA hB b23)
                | (go_simp; go_at_call 17; refine (HSE2.out _ _ _ _ ?_ J51.out I52.out).mono ?_; exact ⟨rfl, rfl, rfl, rfl⟩; rintro e w43 ⟨rfl, b23⟩; (have hB := B52.out.trans (b23.mono B52.out.size)); (have s0 := (hB.cell (p := ⟨x6.heap.size, 5, none⟩) MZ.out).trans Q0); (have s1 := (hB.cell (p := ⟨x1.heap.size, 0, none⟩) MX.out).trans Q1); (have s2 := (hB.cell (p := ⟨x1.heap.size, 1, none⟩) MX.out).trans Q2); (have s3 := (hB.cell (p := ⟨x1.heap.size, 2, none⟩) MX.out).trans Q3); (have s4 := (hB.cell (p := ⟨x1.heap.size, 3, none⟩) MX.out).trans Q4); (have s5 := (hB.cell (p := ⟨x1.heap.size, 4, none⟩) MX.out).trans Q5); (have s6 := (hB.cell (p := ⟨x1.heap.size, 5, none⟩) MX.out).trans Q6); (have s7 := (hB.cell (p := ⟨x1.heap.size, 6, none⟩) MX.out).trans Q7); (have s8 := (hB.cell (p := ⟨x4.heap.size, 0, none⟩) MY.out).trans Q8); (have s9 := (hB.cell (p := ⟨x4.heap.size, 1, none⟩) MY.out).trans Q9); (have s10 := (hB.cell (p := ⟨x4.heap.size, 2, none⟩) MY.out).trans Q10); (have s11 := (hB.cell (p := ⟨x4.heap.size, 3, none⟩) MY.out).trans Q11); (have s12 := (hB.cell (p := ⟨x4.heap.size, 4, none⟩) MY.out).trans Q12); (have s13 := (hB.cell (p := ⟨x4.heap.size, 5, none⟩) MY.out).trans Q13); (have s14 := (hB.cell (p := ⟨x4.heap.size, 6, none⟩) MY.out).trans Q14); (have E43 := Lib.hid hB); clear hB b23)
                | (go_simp; go_at_call 18; refine (HEX2.out w41 _ B41.out ?_).mono ?_; exact ⟨rfl, rfl, rfl, rfl⟩; rintro e w42 ⟨z22, rfl, b22, i22⟩; (have hA := B41.out.trans (b22.mono B41.out.size)); (have hB := HAL2.out.trans (hA.mono HAL2.out.size)); (have s0 := (hB.cell (p := ⟨x6.heap.size, 5, none⟩) MZ.out).trans Q0); (have s1 := (hB.cell (p := ⟨x1.heap.size, 0, none⟩) MX.out).trans Q1); (have s2 := (hB.cell (p := ⟨x1.heap.size, 1, none⟩) MX.out).trans Q2); (have s3 := (hB.cell (p := ⟨x1.heap.size, 2, none⟩) MX.out).trans Q3); (have s4 := (hB.cell (p := ⟨x1.heap.size, 3, none⟩) MX.out).trans Q4); (have s5 := (hB.cell (p := ⟨x1.heap.size, 4, none⟩) MX.out).trans Q5); (have s6 := (hB.cell (p := ⟨x1.heap.size, 5, none⟩) MX.out).trans Q6); (have s7 := (hB.cell (p := ⟨x1.heap.size, 6, none⟩) MX.out).trans Q7); (have s8 := (hB.cell (p := ⟨x4.heap.size, 0, none⟩) MY.out).trans Q8); (have s9 := (hB.cell (p := ⟨x4.heap.size, 1, none⟩) MY.out).trans Q9); (have s10 := (hB.cell (p := ⟨x4.heap.size, 2, none⟩) MY.out).trans Q10); (have s11 := (hB.cell (p := ⟨x4.heap.size, 3, none⟩) MY.out).trans Q11); (have s12 := (hB.cell (p := ⟨x4.heap.size, 4, none⟩) MY.out).trans Q12); (have s13 := (hB.cell (p := ⟨x4.heap.size, 5, none⟩) MY.out).trans Q13); (have s14 := (hB.cell (p := ⟨x4.heap.size, 6, none⟩) MY.out).trans Q14); (have B42 := Lib.hid hA); (have I42 := Lib.hid i22); (have J41 := Lib.hid (I41.out.below b22)); clear hA hB b22 i22)
                | (go_simp; go_at_call 18; refine (HEXB2.out w51 _ B51.out ?_).mono ?_; exact ⟨rfl, rfl, rfl, rfl⟩; rintro e w52 ⟨z32, rfl, b32, i32⟩; (have hB := B51.out.trans (b32.mono B51.out.size)); (have s0 := (hB.cell (p := ⟨x6.heap.size, 5, none⟩) MZ.out).trans Q0); (have s1 := (hB.cell (p := ⟨x1.heap.size, 0, none⟩) MX.out).trans Q1); (have s2 := (hB.cell (p := ⟨x1.heap.size, 1, none⟩) MX.out).trans Q2); (have s3 := (hB.cell (p := ⟨x1.heap.size, 2, none⟩) MX.out).trans Q3); (have s4 := (hB.cell (p := ⟨x1.heap.size, 3, none⟩) MX.out).trans Q4); (have s5 := (hB.cell (p := ⟨x1.heap.size, 4, none⟩) MX.out).trans Q5); (have s6 := (hB.cell (p := ⟨x1.heap.size, 5, none⟩) MX.out).trans Q6); (have s7 := (hB.cell (p := ⟨x1.heap.size, 6, none⟩) MX.out).trans Q7); (have s8 := (hB.cell (p := ⟨x4.heap.size, 0, none⟩) MY.out).trans Q8); (have s9 := (hB.cell (p := ⟨x4.heap.size, 1, none⟩) MY.out).trans Q9); (have s10 := (hB.cell (p := ⟨x4.heap.size, 2, none⟩) MY.out).trans Q10); (have s11 := (hB.cell (p := ⟨x4.heap.size, 3, none⟩) MY.out).trans Q11); (have s12 := (hB.cell (p := ⟨x4.heap.size, 4, none⟩) MY.out).trans Q12); (have s13 := (hB.cell (p := ⟨x4.heap.size, 5, none⟩) MY.out).trans Q13); (have s14 := (hB.cell (p := ⟨x4.heap.size, 6, none⟩) MY.out).trans Q14); (have B52 := Lib.hid hB); (have I52 := Lib.hid i32); (have J51 := Lib.hid (I51.out.below b32)); clear hB b32 i32)
                | (go_simp; go_at_call 18; refine (HEZ.out _ ?_).mono ?_; exact ⟨rfl, rfl, rfl, rfl⟩; rintro e w41 ⟨z21, rfl, b21, i21⟩; (have hB := HAL2.out.trans (b21.mono HAL2.out.size)); (have s0 := (hB.cell (p := ⟨x6.heap.size, 5, none⟩) MZ.out).trans Q0); (have s1 := (hB.cell (p := ⟨x1.heap.size, 0, none⟩) MX.out).trans Q1); (have s2 := (hB.cell (p := ⟨x1.heap.size, 1, none⟩) MX.out).trans Q2); (have s3 := (hB.cell (p := ⟨x1.heap.size, 2, none⟩) MX.out).trans Q3); (have s4 := (hB.cell (p := ⟨x1.heap.size, 3, none⟩) MX.out).trans Q4); (have s5 := (hB.cell (p := ⟨x1.heap.size, 4, none⟩) MX.out).trans Q5); (have s6 := (hB.cell (p := ⟨x1.heap.size, 5, none⟩) MX.out).trans Q6); (have s7 := (hB.cell (p := ⟨x1.heap.size, 6, none⟩) MX.out).trans Q7); (have s8 := (hB.cell (p := ⟨x4.heap.size, 0, none⟩) MY.out).trans Q8); (have s9 := (hB.cell (p := ⟨x4.heap.size, 1, none⟩) MY.out).trans Q9); (have s10 := (hB.cell (p := ⟨x4.heap.size, 2, none⟩) MY.out).trans Q10); (have s11 := (hB.cell (p := ⟨x4.heap.size, 3, none⟩) MY.out).trans Q11); (have s12 := (hB.cell (p := ⟨x4.heap.size, 4, none⟩) MY.out).trans Q12); (have s13 := (hB.cell (p := ⟨x4.heap.size, 5, none⟩) MY.out).trans Q13); (have s14 := (hB.cell (p := ⟨x4.heap.size, 6, none⟩) MY.out).trans Q14); (have B41 := Lib.hid b21); (have I41 := Lib.hid i21); clear hB b21 i21)
                | (go_simp; go_at_call 18; refine (HEZB.out _ ?_).mono ?_; exact ⟨rfl, rfl, rfl, rfl⟩; rintro e w51 ⟨z31, rfl, b31, i31⟩; (have hB := b31); (have s0 := (hB.cell (p := ⟨x6.heap.size, 5, none⟩) MZ.out).trans Q0); (have s1 := (hB.cell (p := ⟨x1.heap.size, 0, none⟩) MX.out).trans Q1); (have s2 := (hB.cell (p := ⟨x1.heap.size, 1, none⟩) MX.out).trans Q2); (have s3 := (hB.cell (p := ⟨x1.heap.size, 2, none⟩) MX.out).trans Q3); (have s4 := (hB.cell (p := ⟨x1.heap.size, 3, none⟩) MX.out).trans Q4); (have s5 := (hB.cell (p := ⟨x1.heap.size, 4, none⟩) MX.out).trans Q5); (have s6 := (hB.cell (p := ⟨x1.heap.size, 5, none⟩) MX.out).trans Q6); (have s7 := (hB.cell (p := ⟨x1.heap.size, 6, none⟩) MX.out).trans Q7); (have s8 := (hB.cell (p := ⟨x4.heap.size, 0, none⟩) MY.out).trans Q8); (have s9 := (hB.cell (p := ⟨x4.heap.size, 1, none⟩) MY.out).trans Q9); (have s10 := (hB.cell (p := ⟨x4.heap.size, 2, none⟩) MY.out).trans Q10); (have s11 := (hB.cell (p := ⟨x4.heap.size, 3, none⟩) MY.out).trans Q11); (have s12 := (hB.cell (p := ⟨x4.heap.size, 4, none⟩) MY.out).trans Q12); (have s13 := (hB.cell (p := ⟨x4.heap.size, 5, none⟩) MY.out).trans Q13); (have s14 := (hB.cell (p := ⟨x4.heap.size, 6, none⟩) MY.out).trans Q14); (have B51 := Lib.hid hB); (have I51 := Lib.hid i31); clear hB b31 i31))
            all_goals
              have D9 := Lib.hid (D7.out.trans ((E23.out.trans (E24.out.mono E23.out.size)).mono D7.out.size))
              go_wp2_with fail
              go_ret
              exact ⟨by first | rfl | simp, D9.out⟩

  · have e1 : decide ((600 : Int) < (s.size : Int)) = true := by simp only [decide_eq_true_eq]; omega
    go_enter Tryz.func7, Tryz.ntmps7
    go_wp2_with fail
    refine HA.out.mono ?_
    rintro e w1 ⟨rfl, b1⟩
    go_wp2_with fail
    go_ret
    exact ⟨rfl, b1⟩

end Go.Proofs.YthpoffklhpbdoaaGreatDoor

/-
  The walk of PrintLines: it tells true.
-/
import Derived.Test.YthpoffklhpbdoaaGreatDoorLwA
namespace Go.Proofs.YthpoffklhpbdoaaGreatDoor
set_option maxRecDepth 100000
open Go.RowKit Go.Shelf Go.Sort

/-- What is so of a source's declarations. -/
structure Dok (K : Nat) (l : List PD) : Prop where
  gd : ∀ d ∈ l, GD d
  nd : ∀ d ∈ l, ND d
  len : (prF l).length ≤ K
  sz : l.length ≤ 1000000
theorem dok_of (s : Bs) (n : Nat) (h : s.length ≤ n) (hn : n ≤ 100000) : Dok (3 * n + 2) (parseAll s).1 := by
  obtain ⟨h1, h2⟩ := all_gd s
  have h3 := all_sb s
  refine ⟨h1, all_nd s, by omega, ?_⟩
  have := szDs_len (parseAll s).1
  omega
theorem prD_le {l : List PD} {d : PD} (h : d ∈ l) : (prD d).length ≤ (prF l).length := by
  obtain ⟨i, hi, rfl⟩ := List.getElem_of_mem h
  have h1 := prF_le l (i + 1)
  rw [prF_take l (List.getElem?_eq_getElem hi), List.length_append] at h1
  omega
theorem row_none {w : World} {base : Nat} {e : TypeId} {size : Nat} {a : Option Addr} {n c : Nat} {xs : List Value} (h : w.ownsRow base e size (.slice a n c) n xs) : a = none → c = 0 := by
  rintro rfl
  rcases h.2 with ⟨hv, hn⟩ | ⟨g, cap, cur, hv, -⟩
  · cases hv; rfl
  · cases hv
/-- The declarations of a source, as a caller has them. -/
theorem p_any (l : Bs) (hl : l.length ≤ 100000) (s : ByteArray) (hs : s.data.toList = l) (w : World) :
    Calls Tryz.prog 21 #[.string s] w fun e w' => ∃ al cl ad cd, e = .returned (.tuple #[.slice al (parseAll l).1.length cl, .slice ad (parseAll l).2.length cd]) ∧ Below w.heap.size w w' ∧ Sub (fun b => w.heap.size ≤ b) w' (encDs 26 36 (parseAll l).1) (parseAll l).1.length (.slice al (parseAll l).1.length cl) ∧ (parseAll l).1.length ≤ cl ∧ (al = none → cl = 0) := by
  refine (parse_any s (size_of_list hs hl) w).mono ?_
  rintro e w' ⟨vl, vd, rfl, b, h1, h2⟩
  rw [hs] at h1 h2
  obtain ⟨_, r1, -, -⟩ := h1.unrow
  obtain ⟨al, cl, rfl⟩ := row_slice r1
  obtain ⟨ad, cd, rfl⟩ := row_slice h2
  exact ⟨al, cl, ad, cd, rfl, b, Sub.of_row h1 (by rw [encDs]; exact flat_length (encD_length 26 36) _), row_cap r1, row_none r1⟩

theorem s_at {S : ByteArray} {L : Bs} (h : S.data.toList = L) (j : Nat) (hj : j < S.size) : L[j]? = some S[j] := by
  subst h
  have hj' : j < S.data.toList.length := by rw [Array.length_toList]; exact hj
  rw [List.getElem?_eq_getElem hj']
  rfl
theorem int_nat {a : UInt8} {n : Nat} (h : a.toNat = n) : (a.toNat : Int) = (n : Int) := by rw [h]

set_option maxHeartbeats 4000000 in
theorem lines_walk (s : ByteArray) (w : World) (hT : Tab w.heap.size w) : Calls Tryz.prog 8 #[.string s] w (Tells w) := by
  have HA := Lib.hid (alive06 w)
  have HT := Lib.hid hT
  by_cases hb : s.size ≤ 1000
  · have e1 : decide ((1000 : Int) < (s.size : Int)) = false := by simp only [decide_eq_false_iff_not]; omega
    have hls : s.data.toList.length = s.size := Array.length_toList
    have H1 := Lib.hid (fun W => p_any s.data.toList (by omega) s rfl W)
    have hdok := dok_of s.data.toList 1000 (by omega) (by decide)
    obtain ⟨l, hl⟩ : ∃ l, l = (parseAll s.data.toList).1 := ⟨_, rfl⟩
    obtain ⟨nd, hnd⟩ : ∃ nd, nd = (parseAll s.data.toList).2.length := ⟨_, rfl⟩
    rw [← hl, ← hnd] at H1
    rw [← hl] at hdok
    have DK := Lib.hid hdok
    clear hb hls hl hnd hT hdok
    go_enter Tryz.func8, Tryz.ntmps8
    go_wp2_with fail
    refine HA.out.mono ?_
    rintro e w1 ⟨rfl, b1⟩
    have B1 := Lib.hid b1
    clear b1
    go_wp2_with fail
    refine (H1.out _).mono ?_
    rintro e w2 ⟨al, cl, ad, cd, rfl, b2, hs2, hcap, hnn⟩
    have B2 := Lib.hid (B1.out.trans (b2.mono B1.out.size))
    have HS := Lib.hid hs2
    have HCAP := Lib.hid hcap
    have HNN := Lib.hid hnn
    clear b2 hs2 hcap hnn
    go_wp2_with fail
    go_loopw [5] (fun s5 wr => ∃ (i : Nat), s5 = .int .i64 (i : Nat) ∧ i ≤ l.length ∧ Hid (Below w2.heap.size w2 wr)) (fun s5 _ => l.length - (intOf s5).toNat)
    case atStart => exact ⟨0, rfl, Nat.zero_le _, Lib.hid (Below.refl _ _)⟩
    case round =>
      obtain ⟨i, rfl, hil, hB⟩ := hrel
      have hbig := DK.out.sz
      by_cases hi2 : i < l.length
      · have hlt : decide ((i : Int) < (l.length : Int)) = true := by simp only [decide_eq_true_eq]; omega
        have hltn : decide (i < l.length) = true := by simp only [decide_eq_true_eq]; exact hi2
        have hget : l[i]? = some l[i] := List.getElem?_eq_getElem hi2
        obtain ⟨t, ht⟩ : ∃ t, t = l[i] := ⟨_, rfl⟩
        rw [← ht] at hget
        have hmem : t ∈ l := by rw [ht]; exact List.getElem_mem hi2
        have hgd := DK.out.gd t hmem
        have hnd := DK.out.nd t hmem
        have hle := prD_le hmem
        have hlen : (prD t).length ≤ 3002 := by have := DK.out.len; omega
        obtain ⟨g, o, cs, rfl, hg, hcs, hcell⟩ := Sub.at (encD_length 26 36) (HS.out.below hB.out) hget (by omega)
        have HP := Lib.hid (printD_any t hnd _ cs wr hcs (Tab.up (Lib.TabBelow.on HT.out (B2.out.trans (hB.out.mono B2.out.size))) (B2.out.trans (hB.out.mono B2.out.size)).size) (by omega))
        obtain ⟨e1, e2, e3⟩ := line_text hgd
        obtain ⟨m, k1, k2, k3, k4, k5⟩ := line_back hgd
        obtain ⟨S, hS⟩ : ∃ S : ByteArray, S = ⟨(prD t).toArray⟩ := ⟨_, rfl⟩
        have hSl : S.data.toList = prD t := by rw [hS]
        rw [← hS] at HP
        have HPB := Lib.hid (fun W => p_any (prD t) (by omega) S hSl W)
        have hsz : S.size = (prD t).length := by
          show S.data.size = _
          rw [← Array.length_toList, hSl]
        have hel := congrArg List.length e1
        simp only [List.length_append, List.length_cons, List.length_nil] at hel e2
        have hpos : 6 ≤ S.size := by omega
        have z1 : (S[S.size - 1]'(by omega)).toNat = 10 := by
          have h1 := s_at hSl (S.size - 1) (by omega)
          rw [e1, List.getElem?_append_right (by simp; omega)] at h1
          have h2 : S.size - 1 - (hdD t ++ [59]).length = 0 := by simp; omega
          rw [h2] at h1
          have h3 := Option.some.inj h1
          rw [← h3]; rfl
        have z2 : (S[S.size - 2]'(by omega)).toNat = 59 := by
          have h1 := s_at hSl (S.size - 2) (by omega)
          rw [e1, List.append_assoc, List.getElem?_append_right (by omega)] at h1
          have h2 : S.size - 2 - (hdD t).length = 0 := by omega
          rw [h2] at h1
          have h3 := Option.some.inj h1
          rw [← h3]; rfl
        have z3 : ∀ (k : Nat) (hk : k + 1 < S.size), (S[k]'(Nat.lt_of_succ_lt hk)).toNat ≠ 10 := by
          intro k hk e
          have h1 := s_at hSl k (by omega)
          rw [e1, List.getElem?_append_left (by simp; omega)] at h1
          refine e3 _ (List.mem_of_getElem? h1) ?_
          exact u8_ext e
        have hS1 : S.size ≤ 3002 := by omega
        have Z3 := Lib.hid z3
        have y1 : (((S[S.size - 1]'(Nat.sub_one_lt (Nat.ne_of_gt (Nat.lt_of_lt_of_le (by decide) hpos)))).toNat : Int) != 10) = false := by rw [z1]; rfl
        have y2 : (((S[S.size - 2]'(Nat.sub_lt (Nat.lt_of_lt_of_le (by decide) hpos) (by decide))).toNat : Int) != 59) = false := by rw [z2]; rfl
        have d6 : decide ((S.size : Int) < 6) = false := by simp only [decide_eq_false_iff_not]; omega
        have d6' : decide (S.size < 6) = false := by simp only [decide_eq_false_iff_not]; omega
        have HSL := Lib.hid hSl
        have HSZ := Lib.hid hsz
        have HGD := Lib.hid hgd
        obtain ⟨a0, a1, b0, b1, b2, a2, c2, a3, c3, rfl⟩ : ∃ (a0 a1 : Int) (b0 : ByteArray) (a3 : Option Addr) (n3 c3 : Nat) (a4 : Option Addr) (n4 c4 : Nat), cs = [.int .i64 a0, .int .i64 a1, .string b0, .slice a3 n3 c3, .slice a4 n4 c4] := by
          obtain ⟨k, a, n, ts, es⟩ := t
          obtain ⟨a3, c3, a4, c4, rfl, -, -⟩ := cells_D2 hcs
          exact ⟨_, _, _, _, _, _, _, _, _, rfl⟩
        have q0 := hcell 0 _ rfl
        have q1 := hcell 1 _ rfl
        have q2 := hcell 2 _ rfl
        have q3 := hcell 3 _ rfl
        have q4 := hcell 4 _ rfl
        rw [Nat.add_zero] at q0
        have HLT := Lib.hid hi2
        have HE1 := Lib.hid e1
        have HE3 := Lib.hid e3
        have HM1 := Lib.hid k1
        have HM3 := Lib.hid k3
        have HM4 := Lib.hid k4
        have HM5 := Lib.hid k5
        clear z1 z2 z3 hel hget hmem hgd hnd hle hlen hg hcs hcell e1 e2 e3 k1 k2 k3 k4 k5 hS hSl hsz ht hi2
        go_wp2_with fail
        refine HP.out.mono ?_
        rintro e w3 ⟨rfl, b3⟩
        have B3 := Lib.hid b3
        clear b3 q0 q1 q2 q3 q4 HP
        go_upto_region 10 with fail
        go_wp2_with fail
        clear y1 y2
        go_loop [7] (fun s7 => ∃ k : Nat, s7 = .int .i64 (k : Nat) ∧ k + 1 ≤ S.size) (fun s7 => S.size - (intOf s7).toNat)
        case atStart => exact ⟨0, rfl, by omega⟩
        case round =>
          obtain ⟨k, rfl, hk⟩ := hrel
          by_cases hk2 : k + 1 < S.size
          · have dk : decide ((k : Int) + 1 < (S.size : Int)) = true := by simp only [decide_eq_true_eq]; omega
            have dk' : decide (k + 1 < S.size) = true := by simp only [decide_eq_true_eq]; exact hk2
            have y3 := Z3.out k hk2
            have y4 : ((S[k].toNat : Int) == 10) = false := by simp only [beq_eq_false_iff_ne, ne_eq]; omega
            have y5 : ¬ (S[k].toNat : Int) = 10 := by omega
            clear y3
            go_wp2_with fail
            exact ⟨⟨k + 1, rfl, by omega⟩, by simp [intOf]; omega⟩
          · have dk : decide ((k : Int) + 1 < (S.size : Int)) = false := by simp only [decide_eq_false_iff_not]; omega
            have dk' : decide (k + 1 < S.size) = false := by simp only [decide_eq_false_iff_not]; exact hk2
            go_wp2_with fail
            refine (HPB.out _).mono ?_
            rintro e w4 ⟨bl, cl', bd, cd', rfl, b4, hs4, -, -⟩
            rw [HM1.out] at hs4 ⊢
            obtain ⟨g', o', cs', he', hg', hcs', hcell'⟩ := Sub.at (encD_length 26 36) hs4 (i := 0) (t := m) rfl (by simp)
            cases he'
            obtain ⟨v3, v4, rfl, -, -⟩ := cells_DD hcs'
            have r0 := hcell' 0 _ rfl
            have r1 := hcell' 1 _ rfl
            rw [Nat.zero_mul, Nat.add_zero] at r0 r1
            have B4 := Lib.hid (hB.out.trans ((B3.out.trans (b4.mono B3.out.size)).mono hB.out.size))
            clear hs4 hcs' hcell' b4
            by_cases hk2 : t.k = 2
            · have ha := HM4.out hk2
              rw [HM3.out, hk2] at r0
              rw [ha] at r1
              clear ha hk2
              go_wp2_with fail
              exact ⟨⟨i + 1, by simp, by have := HLT.out; omega, B4⟩, by simp [intOf]; have := HLT.out; omega⟩
            · have ha := HM5.out hk2
              have e2' : ((m.k : Int) == 2) = false := by rw [HM3.out]; simp only [beq_eq_false_iff_ne, ne_eq]; omega
              have e3' : ((m.k : Int) != 2) = true := by rw [bne, e2']; rfl
              rw [ha] at r1
              clear ha hk2
              go_wp2_with fail
              exact ⟨⟨i + 1, by simp, by have := HLT.out; omega, B4⟩, by simp [intOf]; have := HLT.out; omega⟩
      · have hge : i = l.length := by omega
        have hlt : decide ((i : Int) < (l.length : Int)) = false := by simp only [decide_eq_false_iff_not]; omega
        have hltn : decide (i < l.length) = false := by simp only [decide_eq_false_iff_not]; exact hi2
        have HBE := Lib.hid (HS.out.below hB.out)
        clear hge hi2
        go_upto_region 21 with fail
        rw [show ((l.length : Int) / 2) = ((l.length / 2 : Nat) : Int) by omega]
        obtain ⟨k, hk⟩ : ∃ k, k = l.length / 2 := ⟨_, rfl⟩
        rw [← hk]
        have HF := Lib.hid (B2.out.trans (hB.out.mono B2.out.size))
        have HTB := Lib.hid (Lib.TabBelow.on HT.out HF.out)
        have HW := Lib.hid (below_regrown wr)
        obtain ⟨SF, hSF⟩ : ∃ S : ByteArray, S = ⟨(prF l).toArray⟩ := ⟨_, rfl⟩
        obtain ⟨SA, hSA⟩ : ∃ S : ByteArray, S = ⟨(prF (l.take k)).toArray⟩ := ⟨_, rfl⟩
        obtain ⟨SB, hSB⟩ : ∃ S : ByteArray, S = ⟨(prF (l.drop k)).toArray⟩ := ⟨_, rfl⟩
        have hgen : ∀ (l' : List PD) (v : Value) (A : Nat → Prop) (p : Regrown), (∀ d ∈ l', d ∈ l) → l'.length ≤ l.length → (prF l').length ≤ (prF l).length → Sub A wr (encDs 26 36 l') l'.length v → Calls Tryz.prog 23 #[v] (grow (redrawn wr p.d) p.os) fun e w'' => e = .returned (.string ⟨(prF l').toArray⟩) ∧ ∃ p : Regrown, w'' = grow (redrawn wr p.d) p.os := by
          intro l' v A p h1 h2 h3 h4
          refine Calls.regrown_of ?_
          exact printF_any l' (fun d hd => DK.out.nd d (h1 d hd)) A v _ (h4.below (below_regrown wr p.d p.os)) (Tab.up (Lib.TabBelow.on HTB.out ((below_regrown wr p.d p.os).mono HF.out.size)) (Nat.le_trans HF.out.size (below_regrown wr p.d p.os).size)) (by have := DK.out.len; omega) (by omega)
        have hkl : k ≤ l.length := by omega
        have tl : (l.take k).length = k := by rw [List.length_take]; omega
        have hap : prF l = prF (l.take k) ++ prF (l.drop k) := by rw [← prF_append, List.take_append_drop]
        have hal := congrArg List.length hap
        rw [List.length_append] at hal
        have hBE := HBE.out
        rw [encDs] at hBE
        have c1 : ∀ p : Regrown, Calls Tryz.prog 23 #[.slice al l.length cl] (grow (redrawn wr p.d) p.os) fun e w'' => e = .returned (.string SF) ∧ ∃ p : Regrown, w'' = grow (redrawn wr p.d) p.os := fun p => by
          rw [hSF]; exact hgen l _ _ p (fun d hd => hd) (Nat.le_refl _) (Nat.le_refl _) HBE.out
        have c2 : ∀ p : Regrown, Calls Tryz.prog 23 #[.slice al k cl] (grow (redrawn wr p.d) p.os) fun e w'' => e = .returned (.string SA) ∧ ∃ p : Regrown, w'' = grow (redrawn wr p.d) p.os := fun p => by
          rw [hSA]
          have h1 := Sub.take hBE k hkl
          refine hgen (l.take k) _ _ p (fun d hd => List.mem_of_mem_take hd) (by omega) (by omega) (by rw [tl]; exact h1)
        have c4 : ∀ p : Regrown, Calls Tryz.prog 23 #[.slice none 0 0] (grow (redrawn wr p.d) p.os) fun e w'' => e = .returned (.string ⟨#[]⟩) ∧ ∃ p : Regrown, w'' = grow (redrawn wr p.d) p.os := fun p =>
          hgen [] _ (fun _ => True) p (by simp) (Nat.zero_le _) (Nat.zero_le _) ⟨none, 0, [], rfl, IsCs.nil _ _, fun h => absurd rfl h⟩
        have s1 : SA.size ≤ 3002 := by have := DK.out.len; rw [hSA]; show (prF (l.take k)).toArray.size ≤ _; rw [List.size_toArray]; omega
        have s2 : SB.size ≤ 3002 := by have := DK.out.len; rw [hSB]; show (prF (l.drop k)).toArray.size ≤ _; rw [List.size_toArray]; omega
        have heq : (SF.toList == (SA ++ SB).toList) = true := by
          have h1 : SF = SA ++ SB := by
            rw [hSF, hSA, hSB, hap]
            apply ByteArray.ext
            simp
          rw [h1]; simp
        by_cases hl0 : l.length = 0
        · have c0 : ∀ (a : Option Addr) (c : Nat) (p : Regrown), Calls Tryz.prog 23 #[.slice a 0 c] (grow (redrawn wr p.d) p.os) fun e w'' => e = .returned (.string ⟨#[]⟩) ∧ ∃ p : Regrown, w'' = grow (redrawn wr p.d) p.os := fun a c p =>
            hgen [] _ (fun _ => True) p (by simp) (Nat.zero_le _) (Nat.zero_le _) ⟨a, c, [], rfl, IsCs.nil _ _, fun h => absurd rfl h⟩
          have hk0 : k = 0 := by omega
          obtain ⟨SE, hSE⟩ : ∃ S : ByteArray, S = ⟨#[]⟩ := ⟨_, rfl⟩
          have e1 : SE.toList = [] := by rw [hSE]; simp
          have e2 : (SE ++ SE).toList = [] := by
            have h1 : ((⟨#[]⟩ : ByteArray) ++ ⟨#[]⟩) = ⟨#[]⟩ := by apply ByteArray.ext; simp
            rw [hSE, h1]; simp
          have e3 : SE.size = 0 := by rw [hSE]; rfl
          rw [← hSE] at c0
          clear hSE
          have hnn := HNN.out
          clear c1 c2 c4 heq hSF hSA hSB hgen tl hap hal hBE hk s1 s2 hkl HCAP HNN hlt hltn hil
          subst hk0
          rw [hl0]
          rcases al with _ | ⟨g, o, x⟩
          · obtain rfl : cl = 0 := hnn rfl
            clear hnn
            refine wp_region_quiet_below (by kernel_rfl) (by kernel_rfl) ?_
            repeat (go_big_quiet_step (with_reducible exact c0 _ _ _))
            refine wpQuiet_nil ?_
            intro w5 hw5
            have b5 : Below wr.heap.size wr w5 := by
              obtain ⟨p, rfl⟩ := hw5
              exact below_regrown wr p.d p.os
            clear hw5
            go_wp2_with fail
            go_ret
            exact ⟨rfl, HF.out.trans (b5.mono HF.out.size)⟩
          · clear hnn
            by_cases hcl : cl = 0
            · subst hcl
              refine wp_region_quiet_below (by kernel_rfl) (by kernel_rfl) ?_
              repeat (go_big_quiet_step (with_reducible exact c0 _ _ _))
              refine wpQuiet_nil ?_
              intro w5 hw5
              have b5 : Below wr.heap.size wr w5 := by
                obtain ⟨p, rfl⟩ := hw5
                exact below_regrown wr p.d p.os
              clear hw5
              go_wp2_with fail
              go_ret
              exact ⟨rfl, HF.out.trans (b5.mono HF.out.size)⟩
            · have hcl' : 0 < cl := by omega
              refine wp_region_quiet_below (by kernel_rfl) (by kernel_rfl) ?_
              repeat (go_big_quiet_step (with_reducible exact c0 _ _ _))
              refine wpQuiet_nil ?_
              intro w5 hw5
              have b5 : Below wr.heap.size wr w5 := by
                obtain ⟨p, rfl⟩ := hw5
                exact below_regrown wr p.d p.os
              clear hw5
              go_wp2_with fail
              go_ret
              exact ⟨rfl, HF.out.trans (b5.mono HF.out.size)⟩
        · have hkc : k < cl := by have := HCAP.out; omega
          have hll : l.length ≤ cl := HCAP.out
          obtain ⟨g, o, e1, hg, -⟩ : ∃ g o, al = some ⟨g, o, none⟩ ∧ g < wr.heap.size ∧ True := by
            obtain ⟨b0, c2, xs, h1, h2, h3⟩ := HBE.out
            cases h1
            obtain ⟨g, o, e1, e2, e3⟩ := h3 hl0
            exact ⟨g, o, e1, e2, trivial⟩
          subst e1
          have c3 : ∀ p : Regrown, Calls Tryz.prog 23 #[.slice (some ⟨g, o + k * 5, none⟩) (l.length - k) (cl - k)] (grow (redrawn wr p.d) p.os) fun e w'' => e = .returned (.string SB) ∧ ∃ p : Regrown, w'' = grow (redrawn wr p.d) p.os := fun p => by
            rw [hSB]
            have h1 := Sub.drop (encD_length 26 36) hBE k hkl (l.length - k) (cl - k) (fun _ => hl0)
            refine hgen (l.drop k) _ _ p (fun d hd => List.mem_of_mem_drop hd) (by rw [List.length_drop]; omega) (by omega) (by rw [List.length_drop]; exact h1)
          clear hSF hSA hSB hgen tl hap hal hBE hk hg
          refine wp_region_quiet_below (by kernel_rfl) (by kernel_rfl) ?_
          repeat (go_big_quiet_step (first | (with_reducible exact c1 _) | (with_reducible exact c2 _) | (with_reducible exact c3 _) | (with_reducible exact c4 _)))
          refine wpQuiet_nil ?_
          intro w5 hw5
          have b5 : Below wr.heap.size wr w5 := by
            obtain ⟨p, rfl⟩ := hw5
            exact below_regrown wr p.d p.os
          clear hw5
          go_wp2_with fail
          go_ret
          exact ⟨rfl, HF.out.trans (b5.mono HF.out.size)⟩
  · have e1 : decide ((1000 : Int) < (s.size : Int)) = true := by simp only [decide_eq_true_eq]; omega
    go_enter Tryz.func8, Tryz.ntmps8
    go_wp2_with fail
    refine HA.out.mono ?_
    rintro e w1 ⟨rfl, b1⟩
    go_wp2_with fail
    go_ret
    exact ⟨rfl, b1⟩

end Go.Proofs.YthpoffklhpbdoaaGreatDoor

/-
  The walk of the law LexNames.
-/
import Derived.Test.YtiblndmblchhmaaRefB
import Derived.Test.YtiblndmblchhmaaName
import Derived.Deep.Cut
namespace Go.Proofs.Ytiblndmblchhmaa
open Go.RowKit Go.Shelf

theorem pcs_where : ∀ (N a : Nat) (l : Bs), l.length ≤ N → ∀ x ∈ pcs a l, a ≤ x.at_ ∧ x.s = stepOf (l.drop (x.at_ - a)) ∧ x.at_ - a < l.length
  | 0, a, l, h, x, hx => by
    have : l = [] := List.eq_nil_of_length_eq_zero (by omega)
    subst this
    rw [pcs_nil] at hx
    cases hx
  | N + 1, a, l, h, x, hx => by
    by_cases hl : l = []
    · subst hl
      rw [pcs_nil] at hx
      cases hx
    · rw [pcs_cons a l hl] at hx
      have hn := stepOf_n l hl
      rcases List.mem_cons.1 hx with rfl | hx
      · refine ⟨Nat.le_refl _, ?_, ?_⟩
        · simp
        · simp only [Nat.sub_self]; omega
      · obtain ⟨h1, h2, h3⟩ := pcs_where N _ _ (by rw [List.length_drop]; omega) x hx
        rw [List.length_drop] at h3
        refine ⟨by omega, ?_, by omega⟩
        rw [h2, List.drop_drop]
        congr 2
        omega

theorem stepOf_k1 (l : Bs) (hk : (stepOf l).k = 1) : (stepOf l).t = l.take (stepOf l).n ∧ (stepOf l).t.length = (stepOf l).n := by
  cases l with
  | nil => simp [stepOf] at hk
  | cons c r =>
    by_cases h1 : isBlank c = true
    · simp [stepOf, h1] at hk
    · have hb : isBlank c = false := by simpa using h1
      by_cases h35 : c = 35
      · rw [h35, stepOf_35] at hk
        simp at hk
      · by_cases hs : isStart c = true
        · have hle := spanLen_le isPart (c :: r)
          rw [stepOf_st r hb h35 hs]
          refine ⟨rfl, ?_⟩
          simp only [List.length_take]
          omega
        · exfalso
          have hs' : isStart c = false := by simpa using hs
          by_cases hd : isDig c = true
          · rw [stepOf_dg r hb h35 hs' hd] at hk
            split at hk <;> simp at hk
          · have hd' : isDig c = false := by simpa using hd
            by_cases h34 : c = 34
            · rw [h34, stepOf_34] at hk
              split at hk <;> simp at hk
            · by_cases h45 : c = 45 ∧ r.head? = some 62
              · cases r with
                | nil => simp at h45
                | cons y r' =>
                  simp at h45
                  rw [h45.1, h45.2, stepOf_arrow] at hk
                  simp at hk
              · by_cases h6 : isSg c = true
                · rw [stepOf_sg r hb h35 hs' hd' h34 h45 h6] at hk
                  simp at hk
                · rw [stepOf_no r hb h35 hs' hd' h34 h45 (by simpa using h6)] at hk
                  simp at hk

/-- A piece of kind 1 whose text is as long as the source is all of it. -/
theorem whole_name {l : Bs} {x : Pc} (hx : x ∈ pieces 0 l) (hk : x.s.k = 1) (ht : l.length ≤ x.s.t.length) : x = ⟨0, stepOf l⟩ ∧ (stepOf l).t = l ∧ (stepOf l).n = l.length := by
  obtain ⟨_, h2, h3⟩ := pcs_where l.length 0 l (Nat.le_refl _) x (List.mem_filter.1 hx).1
  rw [Nat.sub_zero] at h2 h3
  rw [h2] at hk ht
  obtain ⟨k1, k2⟩ := stepOf_k1 _ hk
  have hn : (stepOf (l.drop x.at_)).n ≤ l.length - x.at_ := by
    have := (stepOf_n (l.drop x.at_) (by intro e; have := congrArg List.length e; rw [List.length_drop] at this; simp at this; omega)).2
    rwa [List.length_drop] at this
  have h0 : x.at_ = 0 := by omega
  obtain ⟨xa, xs⟩ := x
  simp only at h0 h2 hn k1 k2 ht
  subst h0
  rw [List.drop_zero] at h2 hn k1 k2 ht
  subst h2
  have e : (stepOf l).n = l.length := by omega
  refine ⟨rfl, ?_, e⟩
  rw [k1, e, List.take_length]

/-- Name, told by the tokens. -/
theorem name_toks_some {l : Bs} (h : isName l = true) : toks l = [⟨1, 0, l⟩, ⟨6, l.length, []⟩] := by
  unfold isName at h
  split at h
  · cases h
  · rename_i x r hp
    simp only [pcName, Bool.and_eq_true, beq_iff_eq] at h
    obtain ⟨e1, e2, e3⟩ := whole_name (l := l) (x := x) (by rw [hp]; simp) h.1 (by omega)
    have hl : l ≠ [] := by
      intro e
      rw [e, pieces_nil] at hp
      cases hp
    have hk : (stepOf l).k = 1 := by have := h.1; rw [e1] at this; exact this
    have hp2 : pieces 0 l = [⟨0, stepOf l⟩] := by
      rw [pieces_piece 0 l hl (by rw [hk]; simp), e3, List.drop_length, pieces_nil]
    rw [toks, hp2, toksOf_cons, hk, e2]
    rfl
theorem name_of_toks {l : Bs} {a : Nat} {r : List Tk} (h : toks l = ⟨1, a, l⟩ :: r) : isName l = true := by
  have hm : (⟨1, a, l⟩ : Tk) ∈ toksOf (pieces 0 l) := by
    have h1 : (⟨1, a, l⟩ : Tk) ∈ toks l := by rw [h]; simp
    rw [toks, List.mem_append] at h1
    rcases h1 with h1 | h1
    · exact h1
    · simp at h1
  obtain ⟨x, hx, h1, h2, h3, h4⟩ := toksOf_mem hm
  obtain ⟨e1, e2, e3⟩ := whole_name hx h2 (by rw [h3]; exact Nat.le_refl _)
  have hl : l ≠ [] := by
    intro e
    rw [e, pieces_nil] at hx
    cases hx
  have hk : (stepOf l).k = 1 := by rw [e1] at h2; exact h2
  unfold isName
  rw [pieces_piece 0 l hl (by rw [hk]; simp)]
  simp [pcName, hk, e2]

theorem kt_eq {x y : Tk} : x.kt = y.kt ↔ x.k = y.k ∧ x.t = y.t := by simp [Tk.kt]

/-- The document's name: two tokens, the first one a name with all the bytes. -/
theorem name_no_len {l : Bs} (h : (toks l).length ≠ 2) : isName l = false := by
  rw [Bool.eq_false_iff]
  intro e
  rw [name_toks_some e] at h
  exact h rfl
theorem name_no_first {l : Bs} {t : Tk} (h0 : (toks l)[0]? = some t) (h : t.k ≠ 1 ∨ t.t ≠ l) : isName l = false := by
  rw [Bool.eq_false_iff]
  intro e
  rw [name_toks_some e] at h0
  simp at h0
  subst h0
  rcases h with h | h
  · exact h rfl
  · exact h rfl
theorem name_yes {l : Bs} {t : Tk} (h0 : (toks l)[0]? = some t) (hk : t.k = 1) (ht : t.t = l) : isName l = true := by
  cases hT : toks l with
  | nil => rw [hT] at h0; simp at h0
  | cons x r =>
    rw [hT] at h0
    simp at h0
    subst h0
    obtain ⟨k, a, t⟩ := x
    simp only at hk ht
    subst hk ht
    exact name_of_toks hT

set_option maxRecDepth 20000 in
set_option maxHeartbeats 8000000 in
theorem names_walk (s t : ByteArray) (w : World) (_hs : s.size ≤ 281474976710656) (_ht : t.size ≤ 281474976710656) : Calls Try.prog 4 #[.string s, .string t] w fun e w' => e = .returned (.bool true) ∧ Below w.heap.size w w' := by
  by_cases hbig : 300 < s.size
  · have h1 : decide ((300 : Int) < (s.size : Int)) = true := by simp; omega
    go_enter Try.func4, Try.ntmps4
    go_wp2_with fail
    refine (alive_any _).mono ?_
    rintro e w1 ⟨rfl, b1⟩
    go_wp2_with fail
    go_ret
    exact ⟨rfl, b1⟩
  have h1 : decide ((300 : Int) < (s.size : Int)) = false := by simp; omega
  by_cases hbig2 : 300 < t.size
  · have h2 : decide ((300 : Int) < (t.size : Int)) = true := by simp; omega
    go_enter Try.func4, Try.ntmps4
    go_wp2_with fail
    refine (alive_any _).mono ?_
    rintro e w1 ⟨rfl, b1⟩
    go_wp2_with fail
    go_ret
    exact ⟨rfl, b1⟩
  have h2 : decide ((300 : Int) < (t.size : Int)) = false := by simp; omega
  have l1 := ref_is s (by omega)
  have l2 := lex_is s (by omega)
  have l3 := lex_is t (by omega)
  have l4 := ref_is t (by omega)
  have l5 := name_any s (by omega)
  have hno := name_no_len (l := s.data.toList)
  have hnf : ∀ t : Tk, (toks s.data.toList)[0]? = some t → (t.k ≠ 1 ∨ t.t ≠ s.data.toList) → isName s.data.toList = false := fun _ h0 h => name_no_first h0 h
  have hny : ∀ t : Tk, (toks s.data.toList)[0]? = some t → t.k = 1 → t.t = s.data.toList → isName s.data.toList = true := fun _ h0 h h' => name_yes h0 h h'
  have tp := toks_pos s.data.toList
  obtain ⟨T, hT⟩ : ∃ T, T = toks s.data.toList := ⟨_, rfl⟩
  obtain ⟨M, hM⟩ : ∃ M, M = toks t.data.toList := ⟨_, rfl⟩
  obtain ⟨D, hD⟩ : ∃ D, D = told s.data.toList := ⟨_, rfl⟩
  obtain ⟨E, hE⟩ : ∃ E, E = told t.data.toList := ⟨_, rfl⟩
  rw [← hT, ← hD] at l1 l2
  rw [← hM, ← hE] at l3 l4
  rw [← hT] at hno hnf hny tp
  have n1 : T.length ≤ 301 := by
    rw [hT, toks, List.length_append]; have := toksOf_le (pieces 0 s.data.toList); have := pieces_le s.data.toList.length 0 s.data.toList (Nat.le_refl _); rw [← Lib.size_eq] at this; simp; omega
  have n2 : M.length ≤ 301 := by
    rw [hM, toks, List.length_append]; have := toksOf_le (pieces 0 t.data.toList); have := pieces_le t.data.toList.length 0 t.data.toList (Nat.le_refl _); rw [← Lib.size_eq] at this; simp; omega
  obtain ⟨nm, hnm⟩ : ∃ nm, nm = isName s.data.toList := ⟨_, rfl⟩
  rw [← hnm] at l5 hno hnf hny
  have L1 := Lib.hid l1
  have L2 := Lib.hid l2
  have L3 := Lib.hid l3
  have L4 := Lib.hid l4
  have L5 := Lib.hid l5
  have HNO := Lib.hid hno
  have HNF := Lib.hid hnf
  have HNY := Lib.hid hny
  clear hT hM hD hE l1 l2 l3 l4 l5 hno hnf hny hnm
  go_enter Try.func4, Try.ntmps4
  go_wp2_with fail
  refine (alive_any _).mono ?_
  rintro e w1 ⟨rfl, b1⟩
  go_wp2_with fail
  refine (L1.out _).mono ?_
  rintro e w2 ⟨a0, c0, a1, c1, rfl, s0, s1, b2⟩
  have B2 := b1.trans (b2.mono b1.size)
  obtain ⟨x0, hx0⟩ : ∃ x, T[0]? = some x := ⟨_, List.getElem?_eq_getElem tp⟩
  obtain ⟨g0, o0, rfl, hg0, p0, p1, p2⟩ := s0.tris.at hx0
  have HT0 := Lib.hid s0.tris
  rw [Nat.zero_mul, Nat.add_zero] at p0 p2
  clear s0 s1 b1 b2 p1
  go_upto_region 6 with fail
  go_cut [7] from 16 (fun s7 wx => s7 = .bool nm ∧ w2 = wx)
  case first =>
    obtain ⟨xk, xa, xt⟩ := x0
    simp only at p0 p2
    by_cases hl2 : T.length = 2
    · have k3 : ((T.length : Int) == 2) = true := by simp; omega
      have k4 : (T.length : Int) = 2 := by omega
      by_cases hk : xk = 1
      · subst hk
        by_cases he : xt = s.data.toList
        · have HN := Lib.hid (HNY.out _ hx0 rfl he)
          have e1 : (⟨xt.toArray⟩ : ByteArray) = s := by rw [he]
          rw [e1] at p2
          clear he e1 hx0 hl2
          go_wp2_with fail
          go_meet
          exact ⟨by rw [HN.out], rfl⟩
        · have HN := Lib.hid (HNF.out _ hx0 (.inr he))
          have e1 : ((⟨xt.toArray⟩ : ByteArray).toList == s.toList) = false := str_ne (by intro e; apply he; rw [← e])
          obtain ⟨X, hX⟩ : ∃ X : ByteArray, X = ⟨xt.toArray⟩ := ⟨_, rfl⟩
          rw [← hX] at p2 e1
          clear he hX hx0 hl2
          go_wp2_with fail
          go_meet
          exact ⟨by rw [HN.out], rfl⟩
      · have HN := Lib.hid (HNF.out _ hx0 (.inl hk))
        have k1 : ((xk : Int) == 1) = false := by simp; omega
        have k2 : ¬ (xk : Int) = 1 := by omega
        clear hx0 hl2
        go_wp2_with fail
        go_meet
        exact ⟨by rw [HN.out], rfl⟩
    · have HN := Lib.hid (HNO.out hl2)
      have k1 : ((T.length : Int) == 2) = false := by simp; omega
      have k2 : ¬ (T.length : Int) = 2 := by omega
      clear hx0 hl2
      go_wp2_with fail
      go_meet
      exact ⟨by rw [HN.out], rfl⟩
  case rest =>
    obtain ⟨rfl, rfl⟩ := hcut
    clear p0 p2 hx0 HNO HNF HNY
    go_wp2_with fail
    refine (L2.out _).mono ?_
    rintro e w3 ⟨d0, e0, d1, e1, rfl, s2, s3, b3⟩
    have ha3 := s2.tris
    clear s2 s3
    go_wp2_with fail
    refine (L3.out _).mono ?_
    rintro e w4 ⟨d2, e2, d3, e3, rfl, s4, s5, b4⟩
    have hb4 := s4.tris
    clear s4 s5
    go_wp2_with fail
    refine (L4.out _).mono ?_
    rintro e w5 ⟨d4, e4, d5, e5, rfl, s6, s7, b5⟩
    have hm5 := s6.tris
    clear s6 s7
    have b45 := b4.trans (b5.mono b4.size)
    have b345 := b3.trans (b45.mono b3.size)
    have HL := Lib.hid (HT0.out.below b345)
    have HA := Lib.hid (ha3.below b45)
    have HB := Lib.hid (hb4.below b5)
    have HM := Lib.hid hm5
    have B5 := B2.trans (b345.mono B2.size)
    clear ha3 hb4 hm5 HT0 b3 b4 b5 b45 b345 B2 hg0 L1 L2 L3 L4
    go_wp2_with fail
    go_loopw [14, 15] (fun s14 s15 wr => ∃ (sm : Bool) (i : Nat), s14 = .bool sm ∧ s15 = .int .i64 (i : Int) ∧ i ≤ T.length ∧ (sm = true → T.length = M.length ∧ ∀ j, j < i → ∀ x y, T[j]? = some x → M[j]? = some y → x.kt = y.kt) ∧ (sm = false → sameT T M = false) ∧ Below w5.heap.size w5 wr) (fun _ s15 _ => T.length - (intOf s15).toNat)
    case atStart =>
      refine ⟨_, 0, rfl, rfl, Nat.zero_le _, fun h => ⟨?_, fun j hj => by omega⟩, fun h => sameT_len ?_, Below.refl _ _⟩
      · have := beq_iff_eq.1 h
        omega
      · have := beq_eq_false_iff_ne.1 h
        omega
    case round =>
      obtain ⟨sm, i, rfl, rfl, hi, hyes, hno, hB⟩ := hrel
      cases sm with
      | false =>
        have HS := Lib.hid (hno rfl)
        clear hyes hno
        go_wp2_with fail
        refine (L5.out _).mono ?_
        rintro e w6 ⟨rfl, b6⟩
        have hB6 := hB.trans (b6.mono hB.size)
        clear b6
        go_wp2_with fail
        refine (same_any d0 d2 e0 e2 T M (by omega) (by omega) _ (HA.out.below hB6) (HB.out.below hB6)).mono ?_
        rintro e w7 ⟨rfl, b7⟩
        have hB7 := hB6.trans (b7.mono hB6.size)
        rw [HS.out]
        clear b7
        go_wp2_with fail
        refine (same_any d0 d0 e0 e0 T T (by omega) (by omega) _ (HA.out.below hB7) (HA.out.below hB7)).mono ?_
        rintro e w8 ⟨rfl, b8⟩
        rw [sameT_self]
        have hB8 := hB7.trans (b8.mono hB7.size)
        clear b8
        go_wp2_with fail
        go_ret
        exact ⟨rfl, B5.trans (hB8.mono B5.size)⟩
      | true =>
        obtain ⟨hl, hall⟩ := hyes rfl
        have hlt' : i ≤ M.length := by omega
        by_cases hlt : i < T.length
        · have hltm : i < M.length := by omega
          obtain ⟨x, hx⟩ : ∃ x, T[i]? = some x := ⟨_, List.getElem?_eq_getElem hlt⟩
          obtain ⟨y, hy⟩ : ∃ y, M[i]? = some y := ⟨_, List.getElem?_eq_getElem hltm⟩
          obtain ⟨g, o, eg, hg, p0, _, p2⟩ := HL.out.at hx
          cases eg
          obtain ⟨g', o', rfl, hg', q0, _, q2⟩ := HM.out.at hy
          have r0 := (hB.cell (p := ⟨g0, _, none⟩) hg).trans p0
          have r2 := (hB.cell (p := ⟨g0, _, none⟩) hg).trans p2
          have u0 := (hB.cell (p := ⟨g', _, none⟩) hg').trans q0
          have u2 := (hB.cell (p := ⟨g', _, none⟩) hg').trans q2
          have HLN := Lib.hid hl
          have HX := Lib.hid hx
          have HY := Lib.hid hy
          have HALL := Lib.hid hall
          clear p0 p2 q0 q2 hx hy hyes hno hall hl
          obtain ⟨xk, xa, xt⟩ := x
          obtain ⟨yk, ya, yt⟩ := y
          simp only at r0 r2 u0 u2
          by_cases hk : xk = yk
          · subst hk
            cases hs : (xt == yt) with
            | true =>
              have ht : xt = yt := by simpa using hs
              subst ht
              clear hs
              go_wp2_with fail
              go_quiet (fail)
              go_wp2_with fail
              go_roundw
              case rel =>
                refine ⟨true, i + 1, by simp, by go_num, by omega, fun _ => ⟨HLN.out, ?_⟩, (fun h => by cases h), ⟨hB.os, hB.tape, hB.output, hB.size, hB.block⟩⟩
                intro j hj x y hx hy
                by_cases hji : j = i
                · subst hji
                  rw [HX.out] at hx
                  rw [HY.out] at hy
                  cases hx
                  cases hy
                  rfl
                · exact HALL.out j (by omega) x y hx hy
              case measure => simp [intOf]; omega
            | false =>
              have he := arr_eq xt yt
              rw [hs] at he
              have HN := Lib.hid (sameT_not HX.out HY.out (by intro e; rw [kt_eq] at e; simp only at e; simp [e.2] at hs))
              obtain ⟨X, hX⟩ : ∃ X : ByteArray, X = ⟨xt.toArray⟩ := ⟨_, rfl⟩
              obtain ⟨Y, hY⟩ : ∃ Y : ByteArray, Y = ⟨yt.toArray⟩ := ⟨_, rfl⟩
              rw [← hX] at r2 he
              rw [← hY] at u2 he
              clear hs hX hY
              go_wp2_with fail
              go_quiet (fail)
              go_wp2_with fail
              go_roundw
              case rel =>
                exact ⟨false, i + 1, by simp, by go_num, by omega, (fun h => by cases h), fun _ => HN.out, ⟨hB.os, hB.tape, hB.output, hB.size, hB.block⟩⟩
              case measure => simp [intOf]; omega
          · have k1 : ((xk : Int) == (yk : Int)) = false := by simp; omega
            have k2 : ¬ (xk : Int) = (yk : Int) := by omega
            have HN := Lib.hid (sameT_not HX.out HY.out (by intro e; rw [kt_eq] at e; exact hk e.1))
            clear hk
            go_wp2_with fail
            go_quiet (fail)
            go_wp2_with fail
            go_roundw
            case rel =>
              exact ⟨false, i + 1, by simp, by go_num, by omega, (fun h => by cases h), fun _ => HN.out, ⟨hB.os, hB.tape, hB.output, hB.size, hB.block⟩⟩
            case measure => simp [intOf]; omega
        · have HS := Lib.hid (sameT_take hl (fun j hj => hall j (by omega)))
          have hge : decide ((i : Int) < (T.length : Int)) = false := by simp; omega
          have hge' : decide (i < T.length) = false := by simp; omega
          clear hyes hno hall hl
          go_wp2_with fail
          refine (L5.out _).mono ?_
          rintro e w6 ⟨rfl, b6⟩
          have hB6 := hB.trans (b6.mono hB.size)
          clear b6
          go_wp2_with fail
          refine (same_any d0 d2 e0 e2 T M (by omega) (by omega) _ (HA.out.below hB6) (HB.out.below hB6)).mono ?_
          rintro e w7 ⟨rfl, b7⟩
          have hB7 := hB6.trans (b7.mono hB6.size)
          rw [HS.out]
          clear b7
          go_wp2_with fail
          refine (same_any d0 d0 e0 e0 T T (by omega) (by omega) _ (HA.out.below hB7) (HA.out.below hB7)).mono ?_
          rintro e w8 ⟨rfl, b8⟩
          rw [sameT_self]
          have hB8 := hB7.trans (b8.mono hB7.size)
          clear b8
          go_wp2_with fail
          go_ret
          exact ⟨rfl, B5.trans (hB8.mono B5.size)⟩

end Go.Proofs.Ytiblndmblchhmaa

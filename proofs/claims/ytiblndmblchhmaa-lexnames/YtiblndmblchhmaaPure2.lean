/-
  Plain lists: sources one behind the other; places in order; tokens that are printed and read again. No walk.
-/
import Derived.Test.YtiblndmblchhmaaSame
namespace Go.Proofs.Ytiblndmblchhmaa

theorem spanLen_join {p : UInt8 → Bool} {c : UInt8} (hc : p c = false) (b : Bs) : ∀ l : Bs, spanLen p (l ++ c :: b) = spanLen p l
  | [] => by simp [spanLen, hc]
  | x :: r => by simp only [List.cons_append, spanLen, spanLen_join hc b r]

theorem take_join (l b : Bs) {n : Nat} (h : n ≤ l.length) : (l ++ b).take n = l.take n := List.take_append_of_le_length h

theorem get_join (l b : Bs) (n : Nat) (h : n ≤ l.length) : (l ++ 10 :: b)[n]? = some 34 ↔ l[n]? = some 34 := by
  rcases Nat.lt_or_ge n l.length with h1 | h1
  · rw [List.getElem?_append_left h1]
  · have : n = l.length := by omega
    subst this
    simp

theorem step_join (l b : Bs) (h : l ≠ []) : stepOf (l ++ 10 :: b) = stepOf l := by
  cases l with
  | nil => exact absurd rfl h
  | cons c r =>
    have e1 := spanLen_join (p := isInLine) (c := 10) (by decide) b (c :: r)
    have e2 := spanLen_join (p := isPart) (c := 10) (by decide) b (c :: r)
    have e3 := spanLen_join (p := isDig) (c := 10) (by decide) b (c :: r)
    have e4 := spanLen_join (p := isInText) (c := 10) (by decide) b r
    have t2 := take_join (c :: r) (10 :: b) (spanLen_le isPart (c :: r))
    have t3 := take_join (c :: r) (10 :: b) (spanLen_le isDig (c :: r))
    have t4 := take_join r (10 :: b) (spanLen_le isInText r)
    have g4 := get_join r b (spanLen isInText r) (spanLen_le isInText r)
    have h5 : (r ++ 10 :: b).head? = some 62 ↔ r.head? = some 62 := by cases r <;> simp
    rw [List.cons_append] at e1 e2 e3 t2 t3
    simp only [List.cons_append, stepOf, e1, e2, e3, e4, t2, t3, t4, g4, h5]

theorem pieces_join : ∀ (N a : Nat) (l b : Bs), l.length ≤ N → pieces a (l ++ 10 :: b) = pieces a l ++ pieces (a + l.length + 1) b
  | N, a, [], b, _ => by
    have h := stepOf_gap 10 b (.inl (by decide))
    rw [List.nil_append, pieces_gap a (10 :: b) (by simp) h.1 h.2, pieces_nil]
    have e : (stepOf (10 :: b)).n = 1 := by simp [stepOf, show isBlank 10 = true by decide]
    rw [e]
    simp
  | 0, a, c :: r, b, h => by simp at h
  | N + 1, a, c :: r, b, h => by
    have hn := stepOf_n (c :: r) (by simp)
    have hs := step_join (c :: r) b (by simp)
    have ih := pieces_join N (a + (stepOf (c :: r)).n) ((c :: r).drop (stepOf (c :: r)).n) b (by rw [List.length_drop]; omega)
    have hd : ((c :: r) ++ 10 :: b).drop (stepOf (c :: r)).n = (c :: r).drop (stepOf (c :: r)).n ++ 10 :: b := List.drop_append_of_le_length hn.2
    have hl : a + (stepOf (c :: r)).n + ((c :: r).drop (stepOf (c :: r)).n).length + 1 = a + (c :: r).length + 1 := by rw [List.length_drop]; omega
    rw [hl] at ih
    by_cases hp : (stepOf (c :: r)).k ≠ 0 ∨ (stepOf (c :: r)).d ≠ 0
    · rw [pieces_piece a ((c :: r) ++ 10 :: b) (by simp) (by rw [hs]; exact hp), pieces_piece a (c :: r) (by simp) hp, hs, hd, ih, List.cons_append]
    · rw [pieces_gap a ((c :: r) ++ 10 :: b) (by simp) (by rw [hs]; omega) (by rw [hs]; omega), pieces_gap a (c :: r) (by simp) (by omega) (by omega), hs, hd, ih]

/-- The same pieces further on. -/
def Pc.up (k : Nat) (x : Pc) : Pc := ⟨x.at_ + k, x.s⟩
def Tk.up (k : Nat) (x : Tk) : Tk := ⟨x.k, x.a + k, x.t⟩
def Dg.up (k : Nat) (x : Dg) : Dg := ⟨x.a + k, x.d⟩
theorem pieces_up (k : Nat) : ∀ (N a : Nat) (l : Bs), l.length ≤ N → pieces (a + k) l = (pieces a l).map (Pc.up k)
  | N, a, [], _ => by simp [pieces_nil]
  | 0, a, c :: r, h => by simp at h
  | N + 1, a, c :: r, h => by
    have hn := stepOf_n (c :: r) (by simp)
    have ih := pieces_up k N (a + (stepOf (c :: r)).n) ((c :: r).drop (stepOf (c :: r)).n) (by rw [List.length_drop]; omega)
    rw [Nat.add_right_comm] at ih
    by_cases hp : (stepOf (c :: r)).k ≠ 0 ∨ (stepOf (c :: r)).d ≠ 0
    · rw [pieces_piece (a + k) (c :: r) (by simp) hp, pieces_piece a (c :: r) (by simp) hp, ih]
      rfl
    · rw [pieces_gap (a + k) (c :: r) (by simp) (by omega) (by omega), pieces_gap a (c :: r) (by simp) (by omega) (by omega), ih]

theorem toksOf_cons (x : Pc) (l : List Pc) : toksOf (x :: l) = (if x.s.k = 0 then [] else [⟨x.s.k, x.at_, x.s.t⟩]) ++ toksOf l := by
  unfold toksOf
  by_cases h : x.s.k = 0 <;> simp [h]
theorem toldOf_cons (x : Pc) (l : List Pc) : toldOf (x :: l) = (if x.s.d = 0 then [] else [⟨x.at_, x.s.d⟩]) ++ toldOf l := by
  unfold toldOf
  by_cases h : x.s.d = 0 <;> simp [h]
theorem toksOf_up (k : Nat) (l : List Pc) : toksOf (l.map (Pc.up k)) = (toksOf l).map (Tk.up k) := by
  induction l with
  | nil => rfl
  | cons x r ih =>
    rw [List.map_cons, toksOf_cons, toksOf_cons, ih, List.map_append]
    by_cases h : x.s.k = 0 <;> simp [h, Pc.up, Tk.up]
theorem toldOf_up (k : Nat) (l : List Pc) : toldOf (l.map (Pc.up k)) = (toldOf l).map (Dg.up k) := by
  induction l with
  | nil => rfl
  | cons x r ih =>
    rw [List.map_cons, toldOf_cons, toldOf_cons, ih, List.map_append]
    by_cases h : x.s.d = 0 <;> simp [h, Pc.up, Dg.up]
theorem toksOf_append (l m : List Pc) : toksOf (l ++ m) = toksOf l ++ toksOf m := List.filterMap_append
theorem toldOf_append (l m : List Pc) : toldOf (l ++ m) = toldOf l ++ toldOf m := List.filterMap_append

/-- Two sources with a byte 10 between. -/
theorem toks_join (a b : Bs) : toks (a ++ 10 :: b) = toksOf (pieces 0 a) ++ (toks b).map (Tk.up (a.length + 1)) := by
  have h := pieces_up (a.length + 1) b.length 0 b (Nat.le_refl _)
  rw [toks, pieces_join a.length 0 a b (Nat.le_refl _), show 0 + a.length + 1 = 0 + (a.length + 1) by omega, h, toksOf_append, toksOf_up, toks, List.map_append, List.append_assoc]
  simp only [List.length_append, List.length_cons, List.map_cons, List.map_nil, Tk.up]
  rw [show a.length + (b.length + 1) = b.length + (a.length + 1) by omega]
theorem told_join (a b : Bs) : told (a ++ 10 :: b) = told a ++ (told b).map (Dg.up (a.length + 1)) := by
  have h := pieces_up (a.length + 1) b.length 0 b (Nat.le_refl _)
  rw [told, pieces_join a.length 0 a b (Nat.le_refl _), show 0 + a.length + 1 = 0 + (a.length + 1) by omega, h, toldOf_append, toldOf_up, told, told]

/-- The places: within the source, one behind the other. -/
theorem pieces_at : ∀ (N a : Nat) (l : Bs), l.length ≤ N → (∀ x ∈ pieces a l, a ≤ x.at_ ∧ x.at_ < a + l.length) ∧ (pieces a l).Pairwise (fun x y => x.at_ < y.at_)
  | N, a, [], _ => by simp [pieces_nil]
  | 0, a, c :: r, h => by simp at h
  | N + 1, a, c :: r, h => by
    have hn := stepOf_n (c :: r) (by simp)
    obtain ⟨ih1, ih2⟩ := pieces_at N (a + (stepOf (c :: r)).n) ((c :: r).drop (stepOf (c :: r)).n) (by rw [List.length_drop]; omega)
    rw [List.length_drop] at ih1
    by_cases hp : (stepOf (c :: r)).k ≠ 0 ∨ (stepOf (c :: r)).d ≠ 0
    · rw [pieces_piece a (c :: r) (by simp) hp]
      refine ⟨?_, List.pairwise_cons.2 ⟨?_, ih2⟩⟩
      · intro x hx
        rcases List.mem_cons.1 hx with rfl | hx
        · simp
        · have := ih1 x hx
          omega
      · intro x hx
        have := ih1 x hx
        show a < x.at_
        omega
    · rw [pieces_gap a (c :: r) (by simp) (by omega) (by omega)]
      refine ⟨?_, ih2⟩
      intro x hx
      have := ih1 x hx
      omega

theorem toksOf_mem {l : List Pc} {t : Tk} (h : t ∈ toksOf l) : ∃ x ∈ l, x.at_ = t.a ∧ x.s.k = t.k ∧ x.s.t = t.t ∧ x.s.k ≠ 0 := by
  simp only [toksOf, List.mem_filterMap] at h
  obtain ⟨x, hx, he⟩ := h
  split at he
  · cases he
  · cases he
    exact ⟨x, hx, rfl, rfl, rfl, by assumption⟩

theorem toks_places (l : Bs) : (toks l).Pairwise (fun x y => x.a < y.a) ∧ ∀ t ∈ toks l, t.a ≤ l.length := by
  obtain ⟨h1, h2⟩ := pieces_at l.length 0 l (Nat.le_refl _)
  have hin : ∀ t ∈ toksOf (pieces 0 l), t.a < l.length := by
    intro t ht
    obtain ⟨x, hx, e, _⟩ := toksOf_mem ht
    have := (h1 x hx).2
    omega
  refine ⟨List.pairwise_append.2 ⟨?_, by simp, ?_⟩, ?_⟩
  · refine List.Pairwise.filterMap _ ?_ h2
    intro x y hxy t ht u hu
    split at ht
    · cases ht
    · split at hu
      · cases hu
      · cases ht; cases hu; exact hxy
  · intro t ht u hu
    simp only [List.mem_singleton] at hu
    subst hu
    exact hin t ht
  · intro t ht
    rw [toks, List.mem_append] at ht
    rcases ht with ht | ht
    · exact Nat.le_of_lt (hin t ht)
    · simp only [List.mem_singleton] at ht
      subst ht
      exact Nat.le_refl _

theorem told_places (l : Bs) : (told l).Pairwise (fun x y => x.a < y.a) := by
  obtain ⟨h1, h2⟩ := pieces_at l.length 0 l (Nat.le_refl _)
  refine List.Pairwise.filterMap _ ?_ h2
  intro x y hxy t ht u hu
  split at ht
  · cases ht
  · split at hu
    · cases hu
    · cases ht; cases hu; exact hxy

theorem toks_lt {l : Bs} {i j : Nat} {t u : Tk} (hij : i < j) (ht : (toks l)[i]? = some t) (hu : (toks l)[j]? = some u) : t.a < u.a := by
  have h := (toks_places l).1
  rw [List.pairwise_iff_getElem] at h
  obtain ⟨h1, rfl⟩ := List.getElem?_eq_some_iff.1 ht
  obtain ⟨h2, rfl⟩ := List.getElem?_eq_some_iff.1 hu
  exact h i j h1 h2 hij
theorem told_lt {l : Bs} {i j : Nat} {t u : Dg} (hij : i < j) (ht : (told l)[i]? = some t) (hu : (told l)[j]? = some u) : t.a < u.a := by
  have h := told_places l
  rw [List.pairwise_iff_getElem] at h
  obtain ⟨h1, rfl⟩ := List.getElem?_eq_some_iff.1 ht
  obtain ⟨h2, rfl⟩ := List.getElem?_eq_some_iff.1 hu
  exact h i j h1 h2 hij

/-- A token that can be one. -/
def Good (k : Nat) (t : Bs) : Prop :=
  (k = wordKind t ∧ t ≠ [] ∧ (∀ c ∈ t, isPart c = true) ∧ (∀ c, t.head? = some c → isStart c = true)) ∨ (k = 3 ∧ t ≠ [] ∧ (∀ c ∈ t, isDig c = true) ∧ t.length ≤ 18) ∨
  (k = 4 ∧ ∀ c ∈ t, isInText c = true) ∨ (k = 5 ∧ t = [45, 62]) ∨ (k = 5 ∧ ∃ c, t = [c] ∧ isSg c = true)

def printT (k : Nat) (t : Bs) : Bs := if k = 4 then 34 :: (t ++ [34]) else t

theorem spanLen_mem {p : UInt8 → Bool} : ∀ (l : Bs), ∀ c ∈ l.take (spanLen p l), p c = true
  | [], c, h => by simp at h
  | x :: r, c, h => by
    simp only [spanLen] at h
    split at h
    · rename_i hx
      rw [List.take_succ_cons] at h
      rcases List.mem_cons.1 h with rfl | h
      · exact hx
      · exact spanLen_mem r c h
    · simp at h

theorem stepOf_good (l : Bs) (hk : (stepOf l).k ≠ 0) : Good (stepOf l).k (stepOf l).t := by
  cases l with
  | nil => simp [stepOf] at hk
  | cons c r =>
    simp only [stepOf] at hk ⊢
    by_cases h1 : isBlank c = true
    · simp [h1] at hk
    · simp only [h1, if_false, Bool.false_eq_true] at hk ⊢
      by_cases h2 : c = 35
      · simp [h2] at hk
      · simp only [h2, if_false] at hk ⊢
        by_cases h3 : isStart c = true
        · simp only [h3, if_true] at hk ⊢
          have hp := spanLen_pos r (start_part h3)
          refine .inl ⟨rfl, ?_, spanLen_mem _, ?_⟩
          · intro e
            have := congrArg List.length e
            rw [List.length_take] at this
            simp at this
            omega
          · intro c' hc'
            obtain ⟨m, hm⟩ : ∃ m, spanLen isPart (c :: r) = m + 1 := ⟨spanLen isPart (c :: r) - 1, by omega⟩
            rw [hm, List.take_succ_cons] at hc'
            simp at hc'
            rw [← hc']; exact h3
        · simp only [h3, if_false, Bool.false_eq_true] at hk ⊢
          by_cases h4 : isDig c = true
          · simp only [h4, if_true] at hk ⊢
            have hp := spanLen_pos r h4
            have hle := spanLen_le isDig (c :: r)
            by_cases h18 : 18 < spanLen isDig (c :: r)
            · simp only [h18, if_true]
              exact .inr (.inl ⟨rfl, by simp, by decide, by simp⟩)
            · simp only [h18, if_false]
              refine .inr (.inl ⟨rfl, ?_, spanLen_mem _, ?_⟩)
              · intro e
                have := congrArg List.length e
                rw [List.length_take] at this
                simp at this
                omega
              · rw [List.length_take]; omega
          · simp only [h4, if_false, Bool.false_eq_true] at hk ⊢
            by_cases h5 : c = 34
            · simp only [h5, if_true] at hk ⊢
              by_cases h6 : r[spanLen isInText r]? = some 34
              · simp only [h6, if_true]
                exact .inr (.inr (.inl ⟨rfl, spanLen_mem _⟩))
              · simp [h6] at hk
            · simp only [h5, if_false] at hk ⊢
              by_cases h7 : c = 45 ∧ r.head? = some 62
              · simp only [h7, and_self, if_true]
                exact .inr (.inr (.inr (.inl ⟨rfl, rfl⟩)))
              · simp only [h7, if_false] at hk ⊢
                by_cases h8 : isSg c = true
                · simp only [h8, if_true]
                  exact .inr (.inr (.inr (.inr ⟨rfl, c, rfl, h8⟩)))
                · simp [h8] at hk

/-- A byte that parts tokens. -/
def parts (g : UInt8) : Bool := !isPart g && !isDig g

theorem spanLen_full {p : UInt8 → Bool} {g : UInt8} (hg : p g = false) (rest : Bs) (t : Bs) (h : ∀ c ∈ t, p c = true) : spanLen p (t ++ g :: rest) = t.length := by
  induction t with
  | nil => simp [spanLen, hg]
  | cons x r ih =>
    simp only [List.cons_append, spanLen, h x (by simp), if_true, ih (fun c hc => h c (by simp [hc])), List.length_cons]
theorem spanLen_whole {p : UInt8 → Bool} (t : Bs) (h : ∀ c ∈ t, p c = true) : spanLen p t = t.length := by
  induction t with
  | nil => simp [spanLen]
  | cons x r ih =>
    simp only [spanLen, h x (by simp), if_true, ih (fun c hc => h c (by simp [hc])), List.length_cons]

theorem dig_not (c : UInt8) : isDig c = true → isBlank c = false ∧ c ≠ 35 ∧ isStart c = false := by
  have := u8_all (fun c => !isDig c || (!isBlank c && c != 35 && !isStart c)) (by decide +kernel) c
  simp at this
  intro h
  simp [h] at this
  exact ⟨this.1.1, this.1.2, this.2⟩
theorem sg_not (c : UInt8) : isSg c = true → isBlank c = false ∧ c ≠ 35 ∧ isStart c = false ∧ isDig c = false ∧ c ≠ 34 ∧ c ≠ 45 := by
  have := u8_all (fun c => !isSg c || (!isBlank c && c != 35 && !isStart c && !isDig c && c != 34 && c != 45)) (by decide +kernel) c
  simp at this
  intro h
  simp [h] at this
  exact ⟨this.1.1.1.1.1, this.1.1.1.1.2, this.1.1.1.2, this.1.1.2, this.1.2, this.2⟩

/-- A good token, printed, with a byte behind it that parts tokens, is read again. -/
theorem stepOf_print {k : Nat} {t : Bs} (h : Good k t) {g : UInt8} (hg : parts g = true) (rest : Bs) : stepOf (printT k t ++ g :: rest) = ⟨(printT k t).length, k, t, 0⟩ := by
  simp only [parts, Bool.and_eq_true, Bool.not_eq_true'] at hg
  rcases h with ⟨rfl, hne, hall, hhd⟩ | ⟨rfl, hne, hall, h18⟩ | ⟨rfl, hall⟩ | ⟨rfl, rfl⟩ | ⟨rfl, c, rfl, hc⟩
  · have hk4 : wordKind t ≠ 4 := by unfold wordKind; split <;> omega
    simp only [printT, hk4, if_false]
    have hsp := spanLen_full hg.1 rest t hall
    cases t with
    | nil => exact absurd rfl hne
    | cons c r =>
      have hs := hhd c rfl
      obtain ⟨hb, h35⟩ := start_not c hs
      rw [List.cons_append] at hsp ⊢
      simp only [stepOf, hb, h35, hs, hsp, Bool.false_eq_true, if_false, if_true]
      rw [← List.cons_append, List.take_left]
  · simp only [printT, show (3 : Nat) ≠ 4 by decide, if_false]
    have hsp := spanLen_full hg.2 rest t hall
    cases t with
    | nil => exact absurd rfl hne
    | cons c r =>
      obtain ⟨hb, h35, hst⟩ := dig_not c (hall c (by simp))
      rw [List.cons_append] at hsp ⊢
      simp only [stepOf, hb, h35, hst, hall c (by simp), hsp, show ¬ 18 < (c :: r).length by omega, Bool.false_eq_true, if_false, if_true]
      rw [← List.cons_append, List.take_left]
  · simp only [printT, if_true, List.cons_append]
    have hsp := spanLen_full (p := isInText) (g := 34) (by decide) (g :: rest) t hall
    rw [List.append_assoc, List.singleton_append, stepOf_34, hsp]
    have hg2 : (t ++ 34 :: g :: rest)[t.length]? = some 34 := by simp
    rw [if_pos hg2, List.take_left]
    simp
  · simp only [printT, show (5 : Nat) ≠ 4 by decide, if_false]
    exact stepOf_arrow (g :: rest)
  · simp only [printT, show (5 : Nat) ≠ 4 by decide, if_false, List.singleton_append]
    obtain ⟨h1, h2, h3, h4, h5, h6⟩ := sg_not c hc
    simp only [stepOf, h1, h2, h3, h4, h5, h6, hc, Bool.false_eq_true, if_false, if_true, false_and, List.length_singleton]

/-- A gap: whatever is behind it. -/
def Gap (G : Bs) : Prop := (∃ g r, G = g :: r ∧ parts g = true) ∧ ∀ a rest, pieces a (G ++ rest) = pieces (a + G.length) rest

theorem blank_gap {c : UInt8} (hc : isBlank c = true) (a : Nat) (rest : Bs) : pieces a (c :: rest) = pieces (a + 1) rest := by
  have h := stepOf_gap c rest (.inl hc)
  rw [pieces_gap a (c :: rest) (by simp) h.1 h.2]
  have e : (stepOf (c :: rest)).n = 1 := by simp [stepOf, hc]
  rw [e]
  rfl

theorem gap0 : Gap [32] := ⟨⟨32, [], rfl, by decide⟩, fun a rest => blank_gap (by decide) a rest⟩
theorem gap1 : Gap [10] := ⟨⟨10, [], rfl, by decide⟩, fun a rest => blank_gap (by decide) a rest⟩
theorem gap2 : Gap [9, 32, 13] := ⟨⟨9, _, rfl, by decide⟩, fun a rest => by
  show pieces a (9 :: 32 :: 13 :: rest) = _
  rw [blank_gap (by decide), blank_gap (by decide), blank_gap (by decide)]
  rfl⟩
theorem gap3 : Gap [35, 32, 108, 101, 116, 32, 34, 10] := ⟨⟨35, _, rfl, by decide⟩, fun a rest => by
  show pieces a (35 :: 32 :: 108 :: 101 :: 116 :: 32 :: 34 :: 10 :: rest) = _
  have e : spanLen isInLine (35 :: 32 :: 108 :: 101 :: 116 :: 32 :: 34 :: 10 :: rest) = 7 := spanLen_full (p := isInLine) (g := 10) (by decide) rest [35, 32, 108, 101, 116, 32, 34] (by decide)
  rw [pieces_remark, e]
  show pieces (a + 7) (10 :: rest) = _
  rw [blank_gap (by decide)]
  rfl⟩
theorem gap4 : Gap [32, 32, 35, 10, 32] := ⟨⟨32, _, rfl, by decide⟩, fun a rest => by
  show pieces a (32 :: 32 :: 35 :: 10 :: 32 :: rest) = _
  have e : spanLen isInLine (35 :: 10 :: 32 :: rest) = 1 := spanLen_full (p := isInLine) (g := 10) (by decide) (32 :: rest) [35] (by decide)
  rw [blank_gap (by decide), blank_gap (by decide), pieces_remark, e]
  show pieces (a + 1 + 1 + 1) (10 :: 32 :: rest) = _
  rw [blank_gap (by decide), blank_gap (by decide)]
  rfl⟩

/-- Printed tokens, a gap behind each. -/
def printAll (G : Bs) : List Tk → Bs
  | [] => []
  | t :: r => printT t.k t.t ++ G ++ printAll G r

theorem printAll_append (G : Bs) (l m : List Tk) : printAll G (l ++ m) = printAll G l ++ printAll G m := by
  induction l with
  | nil => rfl
  | cons x r ih => simp [printAll, ih]

theorem print_back {G : Bs} (hG : Gap G) : ∀ (ts : List Tk) (a : Nat) (rest : Bs), (∀ t ∈ ts, Good t.k t.t) → ∃ ps, pieces a (printAll G ts ++ rest) = ps ++ pieces (a + (printAll G ts).length) rest ∧ (toksOf ps).map Tk.kt = ts.map Tk.kt ∧ toldOf ps = []
  | [], a, rest, _ => ⟨[], by simp [printAll], rfl, rfl⟩
  | t :: r, a, rest, h => by
    obtain ⟨⟨g, G', hGe, hg⟩, hgap⟩ := hG
    have ht := h t (by simp)
    have hne : (printT t.k t.t) ++ (G ++ (printAll G r ++ rest)) ≠ [] := by rw [hGe]; simp
    have hst : stepOf (printT t.k t.t ++ (G ++ (printAll G r ++ rest))) = ⟨(printT t.k t.t).length, t.k, t.t, 0⟩ := by
      rw [hGe, List.cons_append]; exact stepOf_print ht hg _
    have hk : t.k ≠ 0 := by
      rcases ht with ⟨e, _⟩ | ⟨e, _⟩ | ⟨e, _⟩ | ⟨e, _⟩ | ⟨e, _⟩
      · rw [e]; unfold wordKind; split <;> omega
      all_goals omega
    obtain ⟨ps, hp1, hp2, hp3⟩ := print_back ⟨⟨g, G', hGe, hg⟩, hgap⟩ r (a + (printT t.k t.t).length + G.length) rest (fun x hx => h x (by simp [hx]))
    refine ⟨⟨a, ⟨(printT t.k t.t).length, t.k, t.t, 0⟩⟩ :: ps, ?_, ?_, ?_⟩
    · have e0 : printAll G (t :: r) ++ rest = printT t.k t.t ++ (G ++ (printAll G r ++ rest)) := by simp [printAll]
      rw [e0, pieces_piece a _ hne (by rw [hst]; exact .inl hk), hst, List.drop_left, hgap, hp1]
      simp only [printAll, List.length_append, List.cons_append]
      congr 3
      omega
    · rw [toksOf_cons, if_neg hk]
      simp [hp2, Tk.kt]
    · rw [toldOf_cons]
      simp [hp3]

theorem toks_good (l : Bs) : ∀ t ∈ toksOf (pieces 0 l), Good t.k t.t := by
  have hp : ∀ (N a : Nat) (l : Bs), l.length ≤ N → ∀ x ∈ pcs a l, x.s.k ≠ 0 → Good x.s.k x.s.t := by
    intro N
    induction N with
    | zero =>
      intro a l h x hx
      have : l = [] := List.eq_nil_of_length_eq_zero (by omega)
      subst this
      rw [pcs_nil] at hx
      cases hx
    | succ N ih =>
      intro a l h x hx hk
      by_cases hl : l = []
      · subst hl
        rw [pcs_nil] at hx
        cases hx
      · rw [pcs_cons a l hl] at hx
        have hn := stepOf_n l hl
        rcases List.mem_cons.1 hx with rfl | hx
        · exact stepOf_good l hk
        · exact ih _ _ (by rw [List.length_drop]; omega) x hx hk
  intro t ht
  obtain ⟨x, hx, h1, h2, h3, h4⟩ := toksOf_mem ht
  rw [← h2, ← h3]
  exact hp l.length 0 l (Nat.le_refl _) x (List.mem_filter.1 hx).1 h4

/-- All tokens printed, a gap ahead and behind each: the same. -/
theorem blanks_same {G : Bs} (hG : Gap G) (l : Bs) : sameT (toks l) (toks (G ++ printAll G (toks l))) = true ∧ told (G ++ printAll G (toks l)) = [] := by
  obtain ⟨ps, h1, h2, h3⟩ := print_back hG (toksOf (pieces 0 l)) (0 + G.length) (printAll G [⟨6, l.length, []⟩]) (toks_good l)
  have hend : printAll G [⟨6, l.length, []⟩] = G ++ [] := by simp [printAll, printT]
  have hp : pieces 0 (G ++ printAll G (toks l)) = ps := by
    rw [hG.2, toks, printAll_append, h1, hend, hG.2, pieces_nil, List.append_nil]
  constructor
  · have e : toks (G ++ printAll G (toks l)) = toksOf ps ++ [⟨6, (G ++ printAll G (toks l)).length, []⟩] := by
      show toksOf (pieces 0 (G ++ printAll G (toks l))) ++ _ = _
      rw [hp]
    rw [sameT, beq_iff_eq, e, List.map_append, h2]
    rw [toks, List.map_append]
    rfl
  · rw [told, hp, h3]

end Go.Proofs.Ytiblndmblchhmaa

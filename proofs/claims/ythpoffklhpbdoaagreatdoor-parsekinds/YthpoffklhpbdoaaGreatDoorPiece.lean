/-
  The contracts of gapEnd, nameAt, numberAt, textAt and pieceAt of package lex.
-/
import Derived.Test.YthpoffklhpbdoaaGreatDoorRun
namespace Go.Proofs.YthpoffklhpbdoaaGreatDoor
set_option maxRecDepth 20000
open Go.RowKit Go.Shelf

theorem eg29 : ∀ args w, (callFunc 140 args).run Tryz.prog w = .ok (.enter 140 args) w := enters_of Tryz.func140 (by kernel_rfl) rfl
theorem eg30 : ∀ args w, (callFunc 141 args).run Tryz.prog w = .ok (.enter 141 args) w := enters_of Tryz.func141 (by kernel_rfl) rfl
theorem eg33 : ∀ args w, (callFunc 144 args).run Tryz.prog w = .ok (.enter 144 args) w := enters_of Tryz.func144 (by kernel_rfl) rfl
theorem eg41 : ∀ args w, (callFunc 163 args).run Tryz.prog w = .ok (.enter 163 args) w := enters_of Tryz.func163 (by kernel_rfl) rfl
theorem eg43 : ∀ args w, (callFunc 165 args).run Tryz.prog w = .ok (.enter 165 args) w := enters_of Tryz.func165 (by kernel_rfl) rfl

theorem get_data {s : ByteArray} {i : Nat} (h : i < s.size) : s.data.toList[i]? = some s[i] := by
  rw [List.getElem?_eq_getElem (by rw [← Lib.size_eq]; exact h)]
  rfl

theorem drop_data {s : ByteArray} {i : Nat} (h : i < s.size) : s.data.toList.drop i = s[i] :: s.data.toList.drop (i + 1) := by
  rw [List.drop_eq_getElem_cons (by rw [← Lib.size_eq]; exact h)]
  rfl

theorem u8_ext {c d : UInt8} (h : c.toNat = d.toNat) : c = d := UInt8.toNat_inj.1 h

/-- A block of five cells. -/
def Five (w : World) (b : Nat) (v0 v1 v2 v3 v4 : Value) : Prop := w.heap[b]? = some (.cells #[v0, v1, v2, v3, v4] 149 (0, 0))
theorem five_of {w : World} {b : Nat} {v0 v1 v2 v3 v4 : Value} (h : Five w b v0 v1 v2 v3 v4) :
    (w.cell? ⟨b, 0, none⟩ = some v0 ∧ w.cell? ⟨b, 1, none⟩ = some v1 ∧ w.cell? ⟨b, 2, none⟩ = some v2 ∧ w.cell? ⟨b, 3, none⟩ = some v3 ∧ w.cell? ⟨b, 4, none⟩ = some v4) ∧
    w.frozen? ⟨b, 0, none⟩ = false ∧ w.frozen? ⟨b, 1, none⟩ = false ∧ w.frozen? ⟨b, 2, none⟩ = false ∧ w.frozen? ⟨b, 3, none⟩ = false ∧ w.frozen? ⟨b, 4, none⟩ = false := by
  unfold Five at h
  simp [World.cell?, World.frozen?, h]
theorem five_kept {w w' : World} {b n : Nat} {v0 v1 v2 v3 v4 : Value} (h : Five w b v0 v1 v2 v3 v4) (hB : Below n w w') (hb : b < n) : Five w' b v0 v1 v2 v3 v4 := (hB.block b hb).trans h
theorem five_new (w : World) (v0 v1 v2 v3 v4 : Value) : Five (w.alloc (.cells #[v0, v1, v2, v3, v4] 149)) w.heap.size v0 v1 v2 v3 v4 := heap_alloc_new w _

/-- The five cells behind five stores. -/
abbrev put5 (w : World) (b : Nat) (u0 u1 u2 u3 u4 : Value) : World := ((((w.setCell ⟨b, 0, none⟩ u0).setCell ⟨b, 1, none⟩ u1).setCell ⟨b, 2, none⟩ u2).setCell ⟨b, 3, none⟩ u3).setCell ⟨b, 4, none⟩ u4
theorem five_set {w : World} {b : Nat} {v0 v1 v2 v3 v4 : Value} (h : Five w b v0 v1 v2 v3 v4) (u0 u1 u2 u3 u4 : Value) : Five (put5 w b u0 u1 u2 u3 u4) b u0 u1 u2 u3 u4 := by
  unfold Five at *
  have h0 := heap_setCell_same w b 0 _ _ u0 h
  have h1 := heap_setCell_same _ b 1 _ _ u1 h0
  have h2 := heap_setCell_same _ b 2 _ _ u2 h1
  have h3 := heap_setCell_same _ b 3 _ _ u3 h2
  exact heap_setCell_same _ b 4 _ _ u4 h3
theorem below_put5 {n b : Nat} {w w' : World} (h : Below n w w') (hb : n ≤ b) (u0 u1 u2 u3 u4 : Value) : Below n w (put5 w' b u0 u1 u2 u3 u4) :=
  ((((h.setCell (p := ⟨b, 0, none⟩) hb u0).setCell (p := ⟨b, 1, none⟩) hb u1).setCell (p := ⟨b, 2, none⟩) hb u2).setCell (p := ⟨b, 3, none⟩) hb u3).setCell (p := ⟨b, 4, none⟩) hb u4

/-- A result of five cells. -/
theorem ret5 {f : Func} {R : Ending → World → Prop} {a : Act} {w : World} {b : Nat} {u0 u1 u2 u3 u4 : Value} (hf : f.results = #[.cell 4 149]) (ht : a.eval (.tmp 4) = .pointer (some ⟨b, 0, none⟩)) (hd : a.defers = [])
    (h : Five w b u0 u1 u2 u3 u4) (hR : R (.returned (.agg #[u0, u1, u2, u3, u4])) w) : bodyPost Tryz.prog f R Exit.ret a w := by
  obtain ⟨⟨c0, c1, c2, c3, c4⟩, -⟩ := five_of h
  refine bodyPost_ret ?_ hd hR
  simp [Act.eval] at ht
  simp [results, hf, go_sem, c0, c1, c2, c3, c4, ht]

/-- What gapEnd tells. -/
def GapTo (s : ByteArray) (a i : Nat) : Prop := a ≤ i ∧ i ≤ s.size ∧ pieces a (s.data.toList.drop a) = pieces i (s.data.toList.drop i)

theorem GapTo.blanks {s : ByteArray} {a i : Nat} (h : GapTo s a i) : GapTo s a (i + spanLen isBlank (s.data.toList.drop i)) := by
  obtain ⟨h1, h2, h3⟩ := h
  have hle := spanLen_le isBlank (s.data.toList.drop i)
  rw [List.length_drop, ← Lib.size_eq] at hle
  refine ⟨by omega, by omega, ?_⟩
  rw [h3, pieces_blanks i, List.drop_drop]

theorem GapTo.remark {s : ByteArray} {a i : Nat} (h : GapTo s a i) (hi : i < s.size) (hc : s[i].toNat = 35) : GapTo s a (i + spanLen isInLine (s.data.toList.drop i)) ∧ i < i + spanLen isInLine (s.data.toList.drop i) := by
  obtain ⟨h1, h2, h3⟩ := h
  have hle := spanLen_le isInLine (s.data.toList.drop i)
  rw [List.length_drop, ← Lib.size_eq] at hle
  have hc' : s[i] = 35 := u8_ext hc
  have hd := drop_data hi
  rw [hc'] at hd
  refine ⟨⟨by omega, by omega, ?_⟩, ?_⟩
  · rw [h3, hd, pieces_remark i, ← hd, List.drop_drop]
  · rw [hd]
    have := spanLen_pos (p := isInLine) (s.data.toList.drop (i + 1)) hash_line
    omega

theorem blank_end {s : ByteArray} {i : Nat} (h : i + spanLen isBlank (s.data.toList.drop i) < s.size) : isBlank (s[i + spanLen isBlank (s.data.toList.drop i)]) = false := by
  refine spanLen_end isBlank (s.data.toList.drop i) _ ?_
  rw [List.getElem?_drop]
  exact get_data h

set_option maxHeartbeats 1000000 in
theorem gapEnd_any (s : ByteArray) (a : Nat) (ha : a ≤ s.size) (hs : s.size ≤ 281474976710656) (w : World) :
    Calls Tryz.prog 120 #[.string s, .int .i64 a] w fun e w' => ∃ i : Nat, e = .returned (.int .i64 (i : Int)) ∧ GapTo s a i ∧ (∀ h : i < s.size, isBlank s[i] = false ∧ s[i] ≠ 35) ∧ Below w.heap.size w w' := by
  go_enter Tryz.func120, Tryz.ntmps120
  go_wp2_with fail
  go_loopw [1] (fun s1 wr => ∃ i : Nat, s1 = .int .i64 (i : Int) ∧ GapTo s a i ∧ Below w.heap.size w wr) (fun s1 _ => s.size - (intOf s1).toNat)
  case atStart => exact ⟨a, rfl, ⟨Nat.le_refl _, ha, rfl⟩, Below.refl _ _⟩
  case round =>
    obtain ⟨i, rfl, hg, hB⟩ := hrel
    obtain ⟨k, hik, hg1, he1, hr1⟩ : ∃ k, i ≤ k ∧ GapTo s a k ∧ (∀ h : k < s.size, isBlank s[k] = false) ∧ Calls Tryz.prog 139 #[.string s, .int .i64 i, .func (.func 140) #[] #[]] wr fun e w' => e = .returned (.int .i64 (k : Int)) ∧ Below wr.heap.size wr w' :=
      ⟨_, Nat.le_add_right _ _, hg.blanks, fun h => blank_end h, runEnd_any s i 140 isBlank eg29 isBlank_any hg.2.1 hs wr⟩
    have HG1 := Lib.hid hg1
    have HR1 := Lib.hid hr1
    have HE1 := Lib.hid he1
    have hi := hg.2.1
    have hks := hg1.2.1
    clear hg1 hr1 he1 hg
    by_cases hk : k = s.size
    · subst hk
      go_wp2_with (go_at_call 139; refine HR1.out.mono ?_; rintro e w1 ⟨rfl, hB1⟩)
      go_ret
      exact ⟨s.size, rfl, HG1.out, fun h => by omega, hB.trans (hB1.mono hB.size)⟩
    · have hk1 : k < s.size := by omega
      have hk2 : ((k : Int) == (s.size : Int)) = false := by simp; omega
      have hk3 : ¬ (k : Int) = (s.size : Int) := by omega
      by_cases hc : s[k].toNat = 35
      · obtain ⟨k2, hg2, hkk, hr2⟩ : ∃ k2, GapTo s a k2 ∧ k < k2 ∧ ∀ wr, Calls Tryz.prog 139 #[.string s, .int .i64 k, .func (.func 141) #[] #[]] wr fun e w' => e = .returned (.int .i64 (k2 : Int)) ∧ Below wr.heap.size wr w' :=
          ⟨_, (HG1.out.remark hk1 hc).1, (HG1.out.remark hk1 hc).2, fun wr => runEnd_any s k 141 isInLine eg30 isInLine_any hks hs wr⟩
        have hcc : ((s[k].toNat : Int) == 35) = true := by simp; omega
        have hcd : (s[k].toNat : Int) = 35 := by omega
        have hk4 := hg2.2.1
        have HG2 := Lib.hid hg2
        have HR2 := Lib.hid hr2
        clear hg2 hr2 hc
        go_wp2_with fail
        refine HR1.out.mono ?_
        rintro e w1 ⟨rfl, hB1⟩
        go_wp2_with fail
        refine (HR2.out _).mono ?_
        rintro e w2 ⟨rfl, hB2⟩
        go_wp2_with fail
        go_roundw
        case rel => exact ⟨k2, rfl, HG2.out, (hB.trans (hB1.mono hB.size)).trans (hB2.mono (Nat.le_trans hB.size hB1.size))⟩
        case measure => simp [intOf]; omega
      · have hcc : ((s[k].toNat : Int) == 35) = false := by simp; omega
        have hcd : ¬ (s[k].toNat : Int) = 35 := by omega
        go_wp2_with (go_at_call 139; refine HR1.out.mono ?_; rintro e w1 ⟨rfl, hB1⟩)
        go_ret
        exact ⟨k, rfl, HG1.out, fun h => ⟨HE1.out h, fun e => hc (by rw [e]; rfl)⟩, hB.trans (hB1.mono hB.size)⟩

set_option maxHeartbeats 1000000 in
theorem nameAt_any (s : ByteArray) (a : Nat) (ha : a ≤ s.size) (hs : s.size ≤ 281474976710656) (w : World) :
    Calls Tryz.prog 143 #[.string s, .int .i64 a] w fun e w' => e = .returned (pieceV (wordKind ((s.data.toList.drop a).take (spanLen isPart (s.data.toList.drop a)))) a (s.extract a (a + spanLen isPart (s.data.toList.drop a))) ((a + spanLen isPart (s.data.toList.drop a) : Nat) : Int) 0) ∧ Below w.heap.size w w' := by
  have hle := spanLen_le isPart (s.data.toList.drop a)
  rw [List.length_drop, ← Lib.size_eq] at hle
  have hr1 := runEnd_any s a 163 isPart eg41 isNamePart_any ha hs
  have hx : (s.extract a (a + spanLen isPart (s.data.toList.drop a))).data.toList = (s.data.toList.drop a).take (spanLen isPart (s.data.toList.drop a)) := by rw [Lib.extract_data, Nat.add_sub_cancel_left]
  rw [← hx]
  clear hx
  obtain ⟨b, hb⟩ : ∃ b, b = a + spanLen isPart (s.data.toList.drop a) := ⟨_, rfl⟩
  simp only [← hb] at hr1 ⊢
  have hab : a ≤ b := by omega
  have hbs : b ≤ s.size := by omega
  have HR := Lib.hid hr1
  clear hb hle hr1
  cases hw : isWordB (s.extract a b).data.toList with
  | true =>
    simp only [wordKind, hw, if_true]
    have HW := Lib.hid hw
    clear hw
    go_enter Tryz.func143, Tryz.ntmps143
    go_wp2_with fail
    refine (HR.out _).mono ?_
    rintro e w1 ⟨rfl, hB1⟩
    go_wp2_with fail
    refine (isWord_any _ _).mono ?_
    rintro e w2 ⟨rfl, rfl⟩
    rw [HW.out]
    go_wp2_with fail
    refine (tokenAt_any _ _ _ _ hab hbs _).mono ?_
    rintro e w2 ⟨rfl, hB2⟩
    have h5 := five_kept (five_new w _ _ _ _ _) (hB1.trans (hB2.mono hB1.size)) (by simp)
    obtain ⟨⟨c0, c1, c2, c3, c4⟩, f0, f1, f2, f3, f4⟩ := five_of h5
    have hB3 := ((Below.refl w.heap.size w).alloc (Nat.le_refl _) _).trans ((hB1.trans (hB2.mono hB1.size)).mono (by simp))
    have HB3 := Lib.hid hB3
    clear hB1 hB2 hB3
    unfold pieceV
    go_wp2_with fail
    exact ret5 rfl rfl rfl (five_set h5 _ _ _ _ _) ⟨rfl, below_put5 HB3.out (Nat.le_refl _) _ _ _ _ _⟩
  | false =>
    simp only [wordKind, hw, Bool.false_eq_true, if_false]
    have HW := Lib.hid hw
    clear hw
    go_enter Tryz.func143, Tryz.ntmps143
    go_wp2_with fail
    refine (HR.out _).mono ?_
    rintro e w1 ⟨rfl, hB1⟩
    go_wp2_with fail
    refine (isWord_any _ _).mono ?_
    rintro e w2 ⟨rfl, rfl⟩
    rw [HW.out]
    go_wp2_with fail
    refine (tokenAt_any _ _ _ _ hab hbs _).mono ?_
    rintro e w2 ⟨rfl, hB2⟩
    have h5 := five_kept (five_new w _ _ _ _ _) (hB1.trans (hB2.mono hB1.size)) (by simp)
    obtain ⟨⟨c0, c1, c2, c3, c4⟩, f0, f1, f2, f3, f4⟩ := five_of h5
    have hB3 := ((Below.refl w.heap.size w).alloc (Nat.le_refl _) _).trans ((hB1.trans (hB2.mono hB1.size)).mono (by simp))
    have HB3 := Lib.hid hB3
    clear hB1 hB2 hB3
    unfold pieceV
    go_wp2_with fail
    exact ret5 rfl rfl rfl (five_set h5 _ _ _ _ _) ⟨rfl, below_put5 HB3.out (Nat.le_refl _) _ _ _ _ _⟩

/-- A number's text, and what is told of it. -/
def numT (t : ByteArray) : ByteArray := if 18 < t.size then ⟨#[48]⟩ else t
def numD (t : ByteArray) : Nat := if 18 < t.size then 13 else 0

set_option maxHeartbeats 4000000 in
theorem numberAt_any (s : ByteArray) (a : Nat) (ha : a ≤ s.size) (hs : s.size ≤ 281474976710656) (w : World) :
    Calls Tryz.prog 145 #[.string s, .int .i64 a] w fun e w' => e = .returned (pieceV 3 a (numT (s.extract a (a + spanLen isDig (s.data.toList.drop a)))) ((a + spanLen isDig (s.data.toList.drop a) : Nat) : Int) (numD (s.extract a (a + spanLen isDig (s.data.toList.drop a))))) ∧ Below w.heap.size w w' := by
  have hle := spanLen_le isDig (s.data.toList.drop a)
  rw [List.length_drop, ← Lib.size_eq] at hle
  have hr1 := runEnd_any s a 144 isDig eg33 isDigit_any ha hs
  obtain ⟨b, hb⟩ : ∃ b, b = a + spanLen isDig (s.data.toList.drop a) := ⟨_, rfl⟩
  simp only [← hb] at hr1 ⊢
  have hab : a ≤ b := by omega
  have hbs : b ≤ s.size := by omega
  have HR := Lib.hid hr1
  have ht := tokenAt_any 3 s a b hab hbs
  obtain ⟨t, hte⟩ : ∃ t, t = s.extract a b := ⟨_, rfl⟩
  rw [← hte] at ht ⊢
  have HT := Lib.hid ht
  clear hb hle hr1 hte ht
  by_cases h18 : 18 < t.size
  · simp only [numT, numD, h18, if_true]
    have h18' : (18 : Int) < (t.size : Int) := by omega
    go_enter Tryz.func145, Tryz.ntmps145
    go_wp2_with fail
    refine (HR.out _).mono ?_
    rintro e w1 ⟨rfl, hB1⟩
    go_wp2_with fail
    refine (HT.out _).mono ?_
    rintro e w2 ⟨rfl, hB2⟩
    have h5 := five_kept (five_new w _ _ _ _ _) (hB1.trans (hB2.mono hB1.size)) (by simp)
    have hB3 := ((Below.refl w.heap.size w).alloc (Nat.le_refl _) _).trans ((hB1.trans (hB2.mono hB1.size)).mono (by simp))
    have hlt : w.heap.size < w2.heap.size := by have := hB1.size; have := hB2.size; simp at *; omega
    have hne : ¬ w.heap.size = w2.heap.size := by omega
    obtain ⟨⟨c0, c1, c2, c3, c4⟩, f0, f1, f2, f3, f4⟩ := five_of h5
    have HB3 := Lib.hid hB3
    clear hB1 hB2 hB3
    unfold pieceV
    go_wp2_with fail
    exact ret5 rfl rfl rfl (five_kept (five_set h5 _ _ _ _ _) ((Below.refl _ _).alloc (Nat.le_refl _) _) (by simpa using hlt)) ⟨rfl, (below_put5 HB3.out (Nat.le_refl _) _ _ _ _ _).alloc (by simp; omega) _⟩
  · simp only [numT, numD, h18, if_false]
    have h18' : ¬ (18 : Int) < (t.size : Int) := by omega
    have h18'' : decide ((18 : Int) < (t.size : Int)) = false := by simpa using h18'
    go_enter Tryz.func145, Tryz.ntmps145
    go_wp2_with fail
    refine (HR.out _).mono ?_
    rintro e w1 ⟨rfl, hB1⟩
    go_wp2_with fail
    refine (HT.out _).mono ?_
    rintro e w2 ⟨rfl, hB2⟩
    have h5 := five_kept (five_new w _ _ _ _ _) (hB1.trans (hB2.mono hB1.size)) (by simp)
    have hB3 := ((Below.refl w.heap.size w).alloc (Nat.le_refl _) _).trans ((hB1.trans (hB2.mono hB1.size)).mono (by simp))
    have hlt : w.heap.size < w2.heap.size := by have := hB1.size; have := hB2.size; simp at *; omega
    have hne : ¬ w.heap.size = w2.heap.size := by omega
    obtain ⟨⟨c0, c1, c2, c3, c4⟩, f0, f1, f2, f3, f4⟩ := five_of h5
    have HB3 := Lib.hid hB3
    clear hB1 hB2 hB3
    unfold pieceV
    go_wp2_with fail
    exact ret5 rfl rfl rfl (five_kept (five_set h5 _ _ _ _ _) ((Below.refl _ _).alloc (Nat.le_refl _) _) (by simpa using hlt)) ⟨rfl, (below_put5 HB3.out (Nat.le_refl _) _ _ _ _ _).alloc (by simp; omega) _⟩

/-- What textAt tells. -/
def txtK (s : ByteArray) (b : Nat) : Nat := if s.data.toList[b]? = some 34 then 4 else 0
def txtT (s : ByteArray) (a b : Nat) : ByteArray := if s.data.toList[b]? = some 34 then s.extract (a + 1) b else ⟨#[]⟩
def txtE (s : ByteArray) (b : Nat) : Nat := if s.data.toList[b]? = some 34 then b + 1 else b
def txtD (s : ByteArray) (b : Nat) : Nat := if s.data.toList[b]? = some 34 then 0 else 1

set_option maxHeartbeats 1000000 in
theorem textAt_any (s : ByteArray) (a : Nat) (ha : a < s.size) (hs : s.size ≤ 281474976710656) (w : World) :
    Calls Tryz.prog 146 #[.string s, .int .i64 a] w fun e w' => ∃ b, b = a + 1 + spanLen isInText (s.data.toList.drop (a + 1)) ∧ e = .returned (pieceV (txtK s b) a (txtT s a b) (txtE s b : Nat) (txtD s b)) ∧ Below w.heap.size w w' := by
  have hle := spanLen_le isInText (s.data.toList.drop (a + 1))
  rw [List.length_drop, ← Lib.size_eq] at hle
  have hr1 := runEnd_any s (a + 1) 165 isInText eg43 isInText_any (by omega) hs
  obtain ⟨b, hb⟩ : ∃ b, b = a + 1 + spanLen isInText (s.data.toList.drop (a + 1)) := ⟨_, rfl⟩
  simp only [← hb] at hr1
  have hab : a + 1 ≤ b := by omega
  have hbs : b ≤ s.size := by omega
  have HR := Lib.hid hr1
  have HB := Lib.hid hb
  clear hb hle hr1
  by_cases hbe : b = s.size
  · have hn : s.data.toList[b]? = none := by rw [hbe, Lib.size_eq]; simp
    have e1 : txtK s b = 0 := by rw [txtK, if_neg (by rw [hn]; simp)]
    have e2 : txtT s a b = ⟨#[]⟩ := by rw [txtT, if_neg (by rw [hn]; simp)]
    have e3 : txtE s b = b := by rw [txtE, if_neg (by rw [hn]; simp)]
    have e4 : txtD s b = 1 := by rw [txtD, if_neg (by rw [hn]; simp)]
    have fin : Calls Tryz.prog 146 #[.string s, .int .i64 a] w fun e w' => e = .returned (pieceV 0 a ⟨#[]⟩ b 1) ∧ Below w.heap.size w w' := by
      clear e1 e2 e3 e4 hn HB
      subst hbe
      go_enter Tryz.func146, Tryz.ntmps146
      go_wp2_with fail
      refine (HR.out _).mono ?_
      rintro e w1 ⟨rfl, hB1⟩
      go_wp2_with fail
      refine (nothingAt_any _ _ _).mono ?_
      rintro e w2 ⟨rfl, hB2⟩
      have h5 := five_kept (five_new w _ _ _ _ _) (hB1.trans (hB2.mono hB1.size)) (by simp)
      obtain ⟨⟨c0, c1, c2, c3, c4⟩, f0, f1, f2, f3, f4⟩ := five_of h5
      have hB3 := ((Below.refl w.heap.size w).alloc (Nat.le_refl _) _).trans ((hB1.trans (hB2.mono hB1.size)).mono (by simp))
      have HB3 := Lib.hid hB3
      clear hB1 hB2 hB3
      unfold pieceV
      go_wp2_with fail
      exact ret5 rfl rfl rfl (five_set h5 _ _ _ _ _) ⟨rfl, below_put5 HB3.out (Nat.le_refl _) _ _ _ _ _⟩
    refine fin.mono ?_
    rintro e w' ⟨rfl, h⟩
    exact ⟨b, HB.out, by rw [e1, e2, e3, e4]; rfl, h⟩
  · have hbl : b < s.size := by omega
    have hg := get_data hbl
    have hk2 : ((b : Int) == (s.size : Int)) = false := by simp; omega
    have hk3 : ¬ (b : Int) = (s.size : Int) := by omega
    by_cases hc : s[b].toNat = 34
    · have hn : s.data.toList[b]? = some 34 := by rw [hg]; congr 1; exact u8_ext hc
      have e1 : txtK s b = 4 := by rw [txtK, if_pos hn]
      have e2 : txtT s a b = s.extract (a + 1) b := by rw [txtT, if_pos hn]
      have e3 : txtE s b = b + 1 := by rw [txtE, if_pos hn]
      have e4 : txtD s b = 0 := by rw [txtD, if_pos hn]
      have fin : Calls Tryz.prog 146 #[.string s, .int .i64 a] w fun e w' => e = .returned (pieceV 4 a (s.extract (a + 1) b) ((b : Int) + 1) 0) ∧ Below w.heap.size w w' := by
        have hcc : ((s[b].toNat : Int) == 34) = true := by simp; omega
        have hcd : (s[b].toNat : Int) = 34 := by omega
        clear e1 e2 e3 e4 hn HB hg hc
        go_enter Tryz.func146, Tryz.ntmps146
        go_wp2_with fail
        refine (HR.out _).mono ?_
        rintro e w1 ⟨rfl, hB1⟩
        have h5 := five_kept (five_new w _ _ _ _ _) hB1 (by simp)
        obtain ⟨⟨c0, c1, c2, c3, c4⟩, f0, f1, f2, f3, f4⟩ := five_of h5
        have hB3 := ((Below.refl w.heap.size w).alloc (Nat.le_refl _) _).trans (hB1.mono (by simp))
        have HB3 := Lib.hid hB3
        clear hB1 hB3
        go_wp2_with fail
        exact ret5 rfl rfl rfl (five_set h5 _ _ _ _ _) ⟨rfl, below_put5 HB3.out (Nat.le_refl _) _ _ _ _ _⟩
      refine fin.mono ?_
      rintro e w' ⟨rfl, h⟩
      exact ⟨b, HB.out, by rw [e1, e2, e3, e4]; rfl, h⟩
    · have hn : ¬ s.data.toList[b]? = some 34 := by
        rw [hg]; intro e; apply hc; rw [Option.some.inj e]; rfl
      have e1 : txtK s b = 0 := by rw [txtK, if_neg hn]
      have e2 : txtT s a b = ⟨#[]⟩ := by rw [txtT, if_neg hn]
      have e3 : txtE s b = b := by rw [txtE, if_neg hn]
      have e4 : txtD s b = 1 := by rw [txtD, if_neg hn]
      have fin : Calls Tryz.prog 146 #[.string s, .int .i64 a] w fun e w' => e = .returned (pieceV 0 a ⟨#[]⟩ b 1) ∧ Below w.heap.size w w' := by
        have hcc : ((s[b].toNat : Int) == 34) = false := by simp; omega
        have hcd : ¬ (s[b].toNat : Int) = 34 := by omega
        clear e1 e2 e3 e4 hn HB hg hc
        go_enter Tryz.func146, Tryz.ntmps146
        go_wp2_with fail
        refine (HR.out _).mono ?_
        rintro e w1 ⟨rfl, hB1⟩
        go_wp2_with fail
        refine (nothingAt_any _ _ _).mono ?_
        rintro e w2 ⟨rfl, hB2⟩
        have h5 := five_kept (five_new w _ _ _ _ _) (hB1.trans (hB2.mono hB1.size)) (by simp)
        obtain ⟨⟨c0, c1, c2, c3, c4⟩, f0, f1, f2, f3, f4⟩ := five_of h5
        have hB3 := ((Below.refl w.heap.size w).alloc (Nat.le_refl _) _).trans ((hB1.trans (hB2.mono hB1.size)).mono (by simp))
        have HB3 := Lib.hid hB3
        clear hB1 hB2 hB3
        unfold pieceV
        go_wp2_with fail
        exact ret5 rfl rfl rfl (five_set h5 _ _ _ _ _) ⟨rfl, below_put5 HB3.out (Nat.le_refl _) _ _ _ _ _⟩
      refine fin.mono ?_
      rintro e w' ⟨rfl, h⟩
      exact ⟨b, HB.out, by rw [e1, e2, e3, e4]; rfl, h⟩


end Go.Proofs.YthpoffklhpbdoaaGreatDoor

/-
  The contract of pieceAt of package lex: the piece with which the bytes at a place begin.
-/
import Derived.Test.YthpoffklhpbdoaaGreatDoorPiece
namespace Go.Proofs.YthpoffklhpbdoaaGreatDoor
set_option maxRecDepth 20000
open Go.RowKit Go.Shelf

/-- A piece as a value. -/
def pcV (x : Pc) : Value := pieceV x.s.k x.at_ ⟨x.s.t.toArray⟩ ((x.at_ + x.s.n : Nat) : Int) x.s.d

theorem mk_ext (s : ByteArray) (a b : Nat) : s.extract a b = ⟨((s.data.toList.drop a).take (b - a)).toArray⟩ := Lib.extract_eq s a b

theorem tokenAt_int (k : Int) (s : ByteArray) (a b : Nat) (e : Int) (he : e = ((b : Nat) : Int)) (hab : a ≤ b) (hb : b ≤ s.size) (w : World) :
    Calls Tryz.prog 148 #[.int .i64 k, .string s, .int .i64 a, .int .i64 e] w fun e w' => e = .returned (pieceV k a (s.extract a b) ((b : Nat) : Int) 0) ∧ Below w.heap.size w w' := by
  rw [he]; exact tokenAt_any k s a b hab hb w
theorem nothingAt_int (a b : Nat) (e : Int) (he : e = ((b : Nat) : Int)) (w : World) :
    Calls Tryz.prog 150 #[.int .i64 a, .int .i64 e] w fun e w' => e = .returned (pieceV 0 a ⟨#[]⟩ ((b : Nat) : Int) 1) ∧ Below w.heap.size w w' := by
  rw [he]; exact nothingAt_any a b w

/-- The arrow, as strings.HasPrefix sees it. -/
theorem arrow_iff {s : ByteArray} {a : Nat} (h : a < s.size) : Lib.hasPrefix (s.extract a s.size).data.toList [45, 62] = decide (s[a] = 45 ∧ (s.data.toList.drop (a + 1)).head? = some 62) := by
  rw [Lib.extract_data, List.take_of_length_le (by rw [List.length_drop, ← Lib.size_eq]; exact Nat.le_refl _), drop_data h, Bool.eq_iff_iff]
  unfold Lib.hasPrefix
  rw [decide_eq_true_iff]
  cases h2 : s.data.toList.drop (a + 1) with
  | nil => simp [List.isPrefixOf]
  | cons x r =>
    simp [List.isPrefixOf]
    constructor
    · rintro ⟨h1, h2⟩; exact ⟨h1.symm, h2.symm⟩
    · rintro ⟨h1, h2⟩; exact ⟨h1.symm, h2.symm⟩

set_option maxHeartbeats 2000000 in
theorem pieceAt_1 (s : ByteArray) (a : Nat) (ha : a < s.size) (_hs : s.size ≤ 281474976710656) (h1 : isStart s[a] = true) (k e d : Int) (t : ByteArray)
    (hc : ∀ w, Calls Tryz.prog 143 #[.string s, .int .i64 a] w fun x w' => x = .returned (pieceV k a t e d) ∧ Below w.heap.size w w') (w : World) :
    Calls Tryz.prog 121 #[.string s, .int .i64 a] w fun x w' => x = .returned (pieceV k a t e d) ∧ Below w.heap.size w w' := by
  have H1 := Lib.hid h1
  clear h1
  have HC := Lib.hid hc
  clear hc
  go_enter Tryz.func121, Tryz.ntmps121
  go_wp2_with fail
  refine (isNameStart_any _ _).mono ?_
  rintro e w1 ⟨rfl, rfl⟩
  rw [H1.out]
  go_wp2_with fail
  refine (HC.out _).mono ?_
  rintro e w1 ⟨rfl, hB1⟩
  have h5 := five_kept (five_new w _ _ _ _ _) hB1 (by simp)
  obtain ⟨⟨c0, c1, c2, c3, c4⟩, f0, f1, f2, f3, f4⟩ := five_of h5
  have HB3 := Lib.hid (((Below.refl w.heap.size w).alloc (Nat.le_refl _) _).trans (hB1.mono (by simp)))
  clear hB1
  unfold pieceV
  go_wp2_with fail
  exact ret5 rfl rfl rfl (five_set h5 _ _ _ _ _) ⟨rfl, below_put5 HB3.out (Nat.le_refl _) _ _ _ _ _⟩

set_option maxHeartbeats 2000000 in
theorem pieceAt_2 (s : ByteArray) (a : Nat) (ha : a < s.size) (_hs : s.size ≤ 281474976710656) (h1 : isStart s[a] = false) (h2 : isDig s[a] = true) (k e d : Int) (t : ByteArray)
    (hc : ∀ w, Calls Tryz.prog 145 #[.string s, .int .i64 a] w fun x w' => x = .returned (pieceV k a t e d) ∧ Below w.heap.size w w') (w : World) :
    Calls Tryz.prog 121 #[.string s, .int .i64 a] w fun x w' => x = .returned (pieceV k a t e d) ∧ Below w.heap.size w w' := by
  have H1 := Lib.hid h1
  clear h1
  have H2 := Lib.hid h2
  clear h2
  have HC := Lib.hid hc
  clear hc
  go_enter Tryz.func121, Tryz.ntmps121
  go_wp2_with fail
  refine (isNameStart_any _ _).mono ?_
  rintro e w1 ⟨rfl, rfl⟩
  rw [H1.out]
  go_wp2_with fail
  refine (isDigit_any _ _).mono ?_
  rintro e w1 ⟨rfl, rfl⟩
  rw [H2.out]
  go_wp2_with fail
  refine (HC.out _).mono ?_
  rintro e w1 ⟨rfl, hB1⟩
  have h5 := five_kept (five_new w _ _ _ _ _) hB1 (by simp)
  obtain ⟨⟨c0, c1, c2, c3, c4⟩, f0, f1, f2, f3, f4⟩ := five_of h5
  have HB3 := Lib.hid (((Below.refl w.heap.size w).alloc (Nat.le_refl _) _).trans (hB1.mono (by simp)))
  clear hB1
  unfold pieceV
  go_wp2_with fail
  exact ret5 rfl rfl rfl (five_set h5 _ _ _ _ _) ⟨rfl, below_put5 HB3.out (Nat.le_refl _) _ _ _ _ _⟩

set_option maxHeartbeats 2000000 in
theorem pieceAt_3 (s : ByteArray) (a : Nat) (ha : a < s.size) (_hs : s.size ≤ 281474976710656) (h1 : isStart s[a] = false) (h2 : isDig s[a] = false) (h3 : s[a].toNat = 34) (k e d : Int) (t : ByteArray)
    (hc : ∀ w, Calls Tryz.prog 146 #[.string s, .int .i64 a] w fun x w' => x = .returned (pieceV k a t e d) ∧ Below w.heap.size w w') (w : World) :
    Calls Tryz.prog 121 #[.string s, .int .i64 a] w fun x w' => x = .returned (pieceV k a t e d) ∧ Below w.heap.size w w' := by
  have H1 := Lib.hid h1
  clear h1
  have H2 := Lib.hid h2
  clear h2
  have H3 := Lib.hid h3
  clear h3
  have HC := Lib.hid hc
  clear hc
  go_enter Tryz.func121, Tryz.ntmps121
  go_wp2_with fail
  refine (isNameStart_any _ _).mono ?_
  rintro e w1 ⟨rfl, rfl⟩
  rw [H1.out]
  go_wp2_with fail
  refine (isDigit_any _ _).mono ?_
  rintro e w1 ⟨rfl, rfl⟩
  rw [H2.out]
  have h3a : ((s[a].toNat : Int) == 34) = true := by have := H3.out; simp; omega
  have h3b : (s[a].toNat : Int) = 34 := by have := H3.out; omega
  go_wp2_with fail
  refine (HC.out _).mono ?_
  rintro e w1 ⟨rfl, hB1⟩
  have h5 := five_kept (five_new w _ _ _ _ _) hB1 (by simp)
  obtain ⟨⟨c0, c1, c2, c3, c4⟩, f0, f1, f2, f3, f4⟩ := five_of h5
  have HB3 := Lib.hid (((Below.refl w.heap.size w).alloc (Nat.le_refl _) _).trans (hB1.mono (by simp)))
  clear hB1
  unfold pieceV
  go_wp2_with fail
  exact ret5 rfl rfl rfl (five_set h5 _ _ _ _ _) ⟨rfl, below_put5 HB3.out (Nat.le_refl _) _ _ _ _ _⟩

set_option maxHeartbeats 2000000 in
theorem pieceAt_4 (s : ByteArray) (a : Nat) (ha : a < s.size) (hs : s.size ≤ 281474976710656) (h1 : isStart s[a] = false) (h2 : isDig s[a] = false) (h3 : ¬ s[a].toNat = 34) (h4 : Lib.hasPrefix (s.extract a s.size).data.toList [45, 62] = true) (k e d : Int) (t : ByteArray)
    (hc : ∀ w, Calls Tryz.prog 148 #[.int .i64 5, .string s, .int .i64 a, .int .i64 ((a : Int) + 2)] w fun x w' => x = .returned (pieceV k a t e d) ∧ Below w.heap.size w w') (w : World) :
    Calls Tryz.prog 121 #[.string s, .int .i64 a] w fun x w' => x = .returned (pieceV k a t e d) ∧ Below w.heap.size w w' := by
  have H1 := Lib.hid h1
  clear h1
  have H2 := Lib.hid h2
  clear h2
  have h3a : ((s[a].toNat : Int) == 34) = false := by simp; omega
  have h3b : ¬ (s[a].toNat : Int) = 34 := by omega
  clear h3
  have H4 := Lib.hid h4
  clear h4
  have HC := Lib.hid hc
  clear hc
  go_enter Tryz.func121, Tryz.ntmps121
  go_wp2_with fail
  refine (isNameStart_any _ _).mono ?_
  rintro e w1 ⟨rfl, rfl⟩
  rw [H1.out]
  go_wp2_with fail
  refine (isDigit_any _ _).mono ?_
  rintro e w1 ⟨rfl, rfl⟩
  rw [H2.out]
  go_wp2_with fail
  refine (hasPrefix_any _ _ _).mono ?_
  rintro e w1 ⟨rfl, rfl⟩
  rw [H4.out]
  go_wp2_with fail
  refine (HC.out _).mono ?_
  rintro e w1 ⟨rfl, hB1⟩
  have h5 := five_kept (five_new w _ _ _ _ _) hB1 (by simp)
  obtain ⟨⟨c0, c1, c2, c3, c4⟩, f0, f1, f2, f3, f4⟩ := five_of h5
  have HB3 := Lib.hid (((Below.refl w.heap.size w).alloc (Nat.le_refl _) _).trans (hB1.mono (by simp)))
  clear hB1
  unfold pieceV
  go_wp2_with fail
  exact ret5 rfl rfl rfl (five_set h5 _ _ _ _ _) ⟨rfl, below_put5 HB3.out (Nat.le_refl _) _ _ _ _ _⟩

set_option maxHeartbeats 2000000 in
theorem pieceAt_5 (s : ByteArray) (a : Nat) (ha : a < s.size) (hs : s.size ≤ 281474976710656) (h1 : isStart s[a] = false) (h2 : isDig s[a] = false) (h3 : ¬ s[a].toNat = 34) (h4 : Lib.hasPrefix (s.extract a s.size).data.toList [45, 62] = false) (h5 : isSg s[a] = true) (k e d : Int) (t : ByteArray)
    (hc : ∀ w, Calls Tryz.prog 148 #[.int .i64 5, .string s, .int .i64 a, .int .i64 ((a : Int) + 1)] w fun x w' => x = .returned (pieceV k a t e d) ∧ Below w.heap.size w w') (w : World) :
    Calls Tryz.prog 121 #[.string s, .int .i64 a] w fun x w' => x = .returned (pieceV k a t e d) ∧ Below w.heap.size w w' := by
  have H1 := Lib.hid h1
  clear h1
  have H2 := Lib.hid h2
  clear h2
  have h3a : ((s[a].toNat : Int) == 34) = false := by simp; omega
  have h3b : ¬ (s[a].toNat : Int) = 34 := by omega
  clear h3
  have H4 := Lib.hid h4
  clear h4
  have H5 := Lib.hid h5
  clear h5
  have HC := Lib.hid hc
  clear hc
  go_enter Tryz.func121, Tryz.ntmps121
  go_wp2_with fail
  refine (isNameStart_any _ _).mono ?_
  rintro e w1 ⟨rfl, rfl⟩
  rw [H1.out]
  go_wp2_with fail
  refine (isDigit_any _ _).mono ?_
  rintro e w1 ⟨rfl, rfl⟩
  rw [H2.out]
  go_wp2_with fail
  refine (hasPrefix_any _ _ _).mono ?_
  rintro e w1 ⟨rfl, rfl⟩
  rw [H4.out]
  go_wp2_with fail
  refine (isSign_any _ _).mono ?_
  rintro e w1 ⟨rfl, rfl⟩
  rw [H5.out]
  go_wp2_with fail
  refine (HC.out _).mono ?_
  rintro e w1 ⟨rfl, hB1⟩
  have h5 := five_kept (five_new w _ _ _ _ _) hB1 (by simp)
  obtain ⟨⟨c0, c1, c2, c3, c4⟩, f0, f1, f2, f3, f4⟩ := five_of h5
  have HB3 := Lib.hid (((Below.refl w.heap.size w).alloc (Nat.le_refl _) _).trans (hB1.mono (by simp)))
  clear hB1
  unfold pieceV
  go_wp2_with fail
  exact ret5 rfl rfl rfl (five_set h5 _ _ _ _ _) ⟨rfl, below_put5 HB3.out (Nat.le_refl _) _ _ _ _ _⟩

set_option maxHeartbeats 2000000 in
theorem pieceAt_6 (s : ByteArray) (a : Nat) (ha : a < s.size) (hs : s.size ≤ 281474976710656) (h1 : isStart s[a] = false) (h2 : isDig s[a] = false) (h3 : ¬ s[a].toNat = 34) (h4 : Lib.hasPrefix (s.extract a s.size).data.toList [45, 62] = false) (h5 : isSg s[a] = false) (k e d : Int) (t : ByteArray)
    (hc : ∀ w, Calls Tryz.prog 150 #[.int .i64 a, .int .i64 ((a : Int) + 1)] w fun x w' => x = .returned (pieceV k a t e d) ∧ Below w.heap.size w w') (w : World) :
    Calls Tryz.prog 121 #[.string s, .int .i64 a] w fun x w' => x = .returned (pieceV k a t e d) ∧ Below w.heap.size w w' := by
  have H1 := Lib.hid h1
  clear h1
  have H2 := Lib.hid h2
  clear h2
  have h3a : ((s[a].toNat : Int) == 34) = false := by simp; omega
  have h3b : ¬ (s[a].toNat : Int) = 34 := by omega
  clear h3
  have H4 := Lib.hid h4
  clear h4
  have H5 := Lib.hid h5
  clear h5
  have HC := Lib.hid hc
  clear hc
  go_enter Tryz.func121, Tryz.ntmps121
  go_wp2_with fail
  refine (isNameStart_any _ _).mono ?_
  rintro e w1 ⟨rfl, rfl⟩
  rw [H1.out]
  go_wp2_with fail
  refine (isDigit_any _ _).mono ?_
  rintro e w1 ⟨rfl, rfl⟩
  rw [H2.out]
  go_wp2_with fail
  refine (hasPrefix_any _ _ _).mono ?_
  rintro e w1 ⟨rfl, rfl⟩
  rw [H4.out]
  go_wp2_with fail
  refine (isSign_any _ _).mono ?_
  rintro e w1 ⟨rfl, rfl⟩
  rw [H5.out]
  go_wp2_with fail
  refine (HC.out _).mono ?_
  rintro e w1 ⟨rfl, hB1⟩
  have h5 := five_kept (five_new w _ _ _ _ _) hB1 (by simp)
  obtain ⟨⟨c0, c1, c2, c3, c4⟩, f0, f1, f2, f3, f4⟩ := five_of h5
  have HB3 := Lib.hid (((Below.refl w.heap.size w).alloc (Nat.le_refl _) _).trans (hB1.mono (by simp)))
  clear hB1
  unfold pieceV
  go_wp2_with fail
  exact ret5 rfl rfl rfl (five_set h5 _ _ _ _ _) ⟨rfl, below_put5 HB3.out (Nat.le_refl _) _ _ _ _ _⟩

theorem numT_eq (l : Bs) : numT ⟨l.toArray⟩ = ⟨(if 18 < l.length then [48] else l).toArray⟩ := by
  unfold numT
  have : (⟨l.toArray⟩ : ByteArray).size = l.length := by rw [Lib.size_eq]
  rw [this]
  split <;> rfl
theorem numD_eq (l : Bs) : numD ⟨l.toArray⟩ = if 18 < l.length then 13 else 0 := by
  unfold numD
  have : (⟨l.toArray⟩ : ByteArray).size = l.length := by rw [Lib.size_eq]
  rw [this]

theorem start_not (c : UInt8) : isStart c = true → isBlank c = false ∧ c ≠ 35 := by
  have := u8_all (fun c => !isStart c || (!isBlank c && c != 35)) (by decide +kernel) c
  simp at this
  intro h
  simpa [h] using this

theorem stepOf_34 (r : Bs) : stepOf (34 :: r) = (if r[spanLen isInText r]? = some 34 then ⟨spanLen isInText r + 2, 4, r.take (spanLen isInText r), 0⟩ else ⟨spanLen isInText r + 1, 0, [], 1⟩) := by
  simp only [stepOf, show isBlank 34 = false by decide, show (34 : UInt8) ≠ 35 by decide, show isStart 34 = false by decide, show isDig 34 = false by decide, Bool.false_eq_true, if_false, if_true]
theorem stepOf_arrow (r : Bs) : stepOf (45 :: 62 :: r) = ⟨2, 5, [45, 62], 0⟩ := by
  simp only [stepOf, show isBlank 45 = false by decide, show (45 : UInt8) ≠ 35 by decide, show (45 : UInt8) ≠ 34 by decide, show isStart 45 = false by decide, show isDig 45 = false by decide, Bool.false_eq_true, if_false, if_true, List.head?_cons, and_self]

/-- The piece that begins at a place in no gap. -/
theorem pieceAt_any (s : ByteArray) (a : Nat) (ha : a < s.size) (hs : s.size ≤ 281474976710656) (hb : isBlank s[a] = false) (h35 : s[a] ≠ 35) (w : World) :
    Calls Tryz.prog 121 #[.string s, .int .i64 a] w fun e w' => e = .returned (pcV ⟨a, stepOf (s.data.toList.drop a)⟩) ∧ Below w.heap.size w w' := by
  have hd := drop_data ha
  have hl : (s.data.toList.drop a).length = s.size - a := by rw [List.length_drop, ← Lib.size_eq]
  cases h1 : isStart s[a] with
  | true =>
    have hst : stepOf (s.data.toList.drop a) = ⟨spanLen isPart (s.data.toList.drop a), wordKind ((s.data.toList.drop a).take (spanLen isPart (s.data.toList.drop a))), (s.data.toList.drop a).take (spanLen isPart (s.data.toList.drop a)), 0⟩ := by
      rw [hd]; simp only [stepOf, hb, h35, h1, Bool.false_eq_true, if_false, if_true]
    refine (pieceAt_1 s a ha hs h1 _ _ _ _ (nameAt_any s a (by omega) hs) w).mono ?_
    rintro e w' ⟨rfl, h⟩
    refine ⟨?_, h⟩
    rw [hst, pcV, mk_ext, Nat.add_sub_cancel_left]
    rfl
  | false =>
  cases h2 : isDig s[a] with
  | true =>
    have hst : stepOf (s.data.toList.drop a) = (if 18 < spanLen isDig (s.data.toList.drop a) then ⟨spanLen isDig (s.data.toList.drop a), 3, [48], 13⟩ else ⟨spanLen isDig (s.data.toList.drop a), 3, (s.data.toList.drop a).take (spanLen isDig (s.data.toList.drop a)), 0⟩) := by
      rw [hd]; simp only [stepOf, hb, h35, h1, h2, Bool.false_eq_true, if_false, if_true]
    refine (pieceAt_2 s a ha hs h1 h2 _ _ _ _ (numberAt_any s a (by omega) hs) w).mono ?_
    rintro e w' ⟨rfl, h⟩
    refine ⟨?_, h⟩
    have hle := spanLen_le isDig (s.data.toList.drop a)
    have ht : ((s.data.toList.drop a).take (spanLen isDig (s.data.toList.drop a))).length = spanLen isDig (s.data.toList.drop a) := by rw [List.length_take]; omega
    rw [hst, pcV, mk_ext, Nat.add_sub_cancel_left, numT_eq, numD_eq, ht]
    split <;> rfl
  | false =>
  by_cases h3 : s[a].toNat = 34
  · have h3' : s[a] = 34 := u8_ext h3
    have hr := textAt_any s a ha hs
    have hg : s.data.toList[a + 1 + spanLen isInText (s.data.toList.drop (a + 1))]? = (s.data.toList.drop (a + 1))[spanLen isInText (s.data.toList.drop (a + 1))]? := by rw [List.getElem?_drop]
    have hst : stepOf (s.data.toList.drop a) = (if (s.data.toList.drop (a + 1))[spanLen isInText (s.data.toList.drop (a + 1))]? = some 34 then ⟨spanLen isInText (s.data.toList.drop (a + 1)) + 2, 4, (s.data.toList.drop (a + 1)).take (spanLen isInText (s.data.toList.drop (a + 1))), 0⟩ else ⟨spanLen isInText (s.data.toList.drop (a + 1)) + 1, 0, [], 1⟩) := by
      rw [hd, h3', stepOf_34]
    refine (pieceAt_3 s a ha hs h1 h2 h3 (txtK s (a + 1 + spanLen isInText (s.data.toList.drop (a + 1)))) (txtE s (a + 1 + spanLen isInText (s.data.toList.drop (a + 1))) : Nat) (txtD s (a + 1 + spanLen isInText (s.data.toList.drop (a + 1)))) (txtT s a (a + 1 + spanLen isInText (s.data.toList.drop (a + 1)))) (fun w => (hr w).mono (by rintro x w' ⟨b, rfl, rfl, h⟩; exact ⟨rfl, h⟩)) w).mono ?_
    rintro e w' ⟨rfl, h⟩
    refine ⟨?_, h⟩
    rw [hst, txtK, txtE, txtD, txtT, hg]
    split
    · rw [pcV, mk_ext, Nat.add_sub_cancel_left]
      simp only [pieceV]
      rw [show a + 1 + spanLen isInText (s.data.toList.drop (a + 1)) + 1 = a + (spanLen isInText (s.data.toList.drop (a + 1)) + 2) by omega]
    · rw [pcV]
      simp only [pieceV]
      rw [show a + 1 + spanLen isInText (s.data.toList.drop (a + 1)) = a + (spanLen isInText (s.data.toList.drop (a + 1)) + 1) by omega]
  have h3' : s[a] ≠ 34 := fun e => h3 (by rw [e]; rfl)
  have hap := arrow_iff ha
  by_cases h4 : s[a] = 45 ∧ (s.data.toList.drop (a + 1)).head? = some 62
  · have hX : ∃ r, s.data.toList.drop (a + 1) = 62 :: r := by
      have := h4.2
      cases hX : s.data.toList.drop (a + 1) with
      | nil => rw [hX] at this; simp at this
      | cons x r => rw [hX] at this; simp at this; exact ⟨r, by rw [this]⟩
    obtain ⟨r, hX⟩ := hX
    have hlen : a + 2 ≤ s.size := by
      have := congrArg List.length hX
      rw [List.length_drop, ← Lib.size_eq, List.length_cons] at this
      omega
    rw [decide_eq_true h4] at hap
    have hst : stepOf (s.data.toList.drop a) = ⟨2, 5, [45, 62], 0⟩ := by
      rw [hd, h4.1, hX, stepOf_arrow]
    refine (pieceAt_4 s a ha hs h1 h2 h3 hap _ _ _ _ (tokenAt_int 5 s a (a + 2) ((a : Int) + 2) (by omega) (by omega) hlen) w).mono ?_
    rintro e w' ⟨rfl, h⟩
    refine ⟨?_, h⟩
    rw [hst, pcV, mk_ext, hd, hX, h4.1, Nat.add_sub_cancel_left]
    rfl
  rw [decide_eq_false h4] at hap
  cases h6 : isSg s[a] with
  | true =>
    have hst : stepOf (s.data.toList.drop a) = ⟨1, 5, [s[a]], 0⟩ := by
      rw [hd]; simp only [stepOf, hb, h35, h1, h2, h3', h4, h6, Bool.false_eq_true, if_false, if_true]
    refine (pieceAt_5 s a ha hs h1 h2 h3 hap h6 _ _ _ _ (tokenAt_int 5 s a (a + 1) ((a : Int) + 1) (by omega) (by omega) (by omega)) w).mono ?_
    rintro e w' ⟨rfl, h⟩
    refine ⟨?_, h⟩
    rw [hst, pcV, mk_ext, hd, Nat.add_sub_cancel_left]
    rfl
  | false =>
    have hst : stepOf (s.data.toList.drop a) = ⟨1, 0, [], 1⟩ := by
      rw [hd]; simp only [stepOf, hb, h35, h1, h2, h3', h4, h6, Bool.false_eq_true, if_false]
    refine (pieceAt_6 s a ha hs h1 h2 h3 hap h6 _ _ _ _ (nothingAt_int a (a + 1) ((a : Int) + 1) (by omega)) w).mono ?_
    rintro e w' ⟨rfl, h⟩
    refine ⟨?_, h⟩
    rw [hst, pcV]
    rfl

end Go.Proofs.YthpoffklhpbdoaaGreatDoor

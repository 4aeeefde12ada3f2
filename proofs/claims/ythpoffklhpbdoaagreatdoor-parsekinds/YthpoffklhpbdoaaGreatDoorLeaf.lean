/-
  The contracts of the small functions of package lex, and of strings.HasPrefix, IndexByte, Clone.
-/
import Derived.Test.YthpoffklhpbdoaaGreatDoorFrame
import Derived.Test.YthpoffklhpbdoaaGreatDoorPure
import Derived.Lib.Strings
import Derived.Lib.Bytealg
import Derived.Lib.BufferWrite
import Derived.Lib.UnsafeStr
namespace Go.Proofs.YthpoffklhpbdoaaGreatDoor
set_option maxRecDepth 20000
open Go.RowKit

theorem ret_bool {x y : Bool} (h : x = y) : Ending.returned (.bool x) = .returned (.bool y) := by rw [h]

set_option maxHeartbeats 400000 in
theorem isNameStart_any (c : UInt8) (w : World) : Calls Tryz.prog 142 #[.int .u8 (c.toNat : Int)] w fun e w' => e = .returned (.bool (isStart c)) ∧ w = w' := by
  go_enter Tryz.func142, Tryz.ntmps142
  go_wp2
  all_goals
    go_ret
    refine ⟨ret_bool (Bool.eq_iff_iff.2 ?_), rfl⟩
    simp [isStart]
    try omega

set_option maxHeartbeats 400000 in
theorem isBlank_any (c : UInt8) (w : World) : Calls Tryz.prog 140 #[.int .u8 (c.toNat : Int)] w fun e w' => e = .returned (.bool (isBlank c)) ∧ w = w' := by
  go_enter Tryz.func140, Tryz.ntmps140
  go_wp2
  all_goals
    go_ret
    refine ⟨ret_bool (Bool.eq_iff_iff.2 ?_), rfl⟩
    simp [isBlank]
    try omega

set_option maxHeartbeats 400000 in
theorem isDigit_any (c : UInt8) (w : World) : Calls Tryz.prog 144 #[.int .u8 (c.toNat : Int)] w fun e w' => e = .returned (.bool (isDig c)) ∧ w = w' := by
  go_enter Tryz.func144, Tryz.ntmps144
  go_wp2
  all_goals
    go_ret
    refine ⟨ret_bool (Bool.eq_iff_iff.2 ?_), rfl⟩
    simp [isDig]
    try omega

set_option maxHeartbeats 400000 in
theorem isInLine_any (c : UInt8) (w : World) : Calls Tryz.prog 141 #[.int .u8 (c.toNat : Int)] w fun e w' => e = .returned (.bool (isInLine c)) ∧ w = w' := by
  go_enter Tryz.func141, Tryz.ntmps141
  go_wp2
  all_goals
    go_ret
    refine ⟨ret_bool (Bool.eq_iff_iff.2 ?_), rfl⟩
    simp [isInLine]
    try omega

/-- Of all bytes, one by one. -/
theorem u8_all (p : UInt8 → Bool) (h : (List.range 256).all (fun n => p n.toUInt8) = true) (c : UInt8) : p c = true := by
  have := List.all_eq_true.1 h c.toNat (List.mem_range.2 c.toNat_lt)
  simpa using this

theorem ix48 (s : ByteArray) (c : Int) (w : World) : (callFunc 196 #[.string s, .int .u8 c]).run Tryz.prog w = .ok (.value (.int .i64 (Lib.indexByte s.data.toList c.toNat.toUInt8))) w := by
  rw [run_callFunc_extern Tryz.func196 (by kernel_rfl) (by kernel_rfl) (by kernel_rfl) (e := Extern.BytealgIndexByte.indexByte) (by kernel_rfl), Lib.run_indexByteString]
  rfl

theorem sg_index (c : UInt8) : decide (0 ≤ Lib.indexByte [61, 58, 59, 44, 46, 40, 41, 123, 125, 124, 63] c) = isSg c := by
  have := u8_all (fun c => decide (0 ≤ Lib.indexByte [61, 58, 59, 44, 46, 40, 41, 123, 125, 124, 63] c) == isSg c) (by decide +kernel) c
  simpa using this

set_option maxHeartbeats 400000 in
theorem isSign_any (c : UInt8) (w : World) : Calls Tryz.prog 149 #[.int .u8 (c.toNat : Int)] w fun e w' => e = .returned (.bool (isSg c)) ∧ w = w' := by
  have hx := ix48 ⟨#[61, 58, 59, 44, 46, 40, 41, 123, 125, 124, 63]⟩ (c.toNat : Int)
  have he := sg_index c
  go_enter Tryz.func149, Tryz.ntmps149
  go_wp2
  go_ret
  exact ⟨rfl, rfl⟩

set_option maxHeartbeats 400000 in
theorem hasPrefix44 (s p : ByteArray) (w : World) : Calls Tryz.prog 166 #[.string s, .string p] w fun e w' => e = .returned (.bool (Lib.hasPrefix s.data.toList p.data.toList)) ∧ w = w' := by
  have h := Lib.hasPrefix_raw s p
  by_cases hp : p.size ≤ s.size
  · go_enter Tryz.func166, Tryz.ntmps166
    go_wp2
    go_ret
    refine ⟨?_, rfl⟩
    rw [← h]
    simp [hp]
  · go_enter Tryz.func166, Tryz.ntmps166
    go_wp2
    go_ret
    refine ⟨?_, rfl⟩
    rw [← h]
    simp [hp]

set_option maxHeartbeats 400000 in
theorem hasPrefix_any (s p : ByteArray) (w : World) : Calls Tryz.prog 147 #[.string s, .string p] w fun e w' => e = .returned (.bool (Lib.hasPrefix s.data.toList p.data.toList)) ∧ w = w' := by
  go_enter Tryz.func147, Tryz.ntmps147
  go_wp2_with (go_at_call 166; refine (hasPrefix44 _ _ _).mono ?_; rintro e w' ⟨rfl, rfl⟩)
  go_ret
  exact ⟨rfl, rfl⟩

/-- A piece as a value. -/
def pieceV (k a : Int) (t : ByteArray) (e d : Int) : Value := .agg #[.int .i64 k, .int .i64 a, .string t, .int .i64 e, .int .i64 d]

set_option maxHeartbeats 400000 in
theorem tokenAt_any (k : Int) (s : ByteArray) (a b : Nat) (hab : a ≤ b) (hb : b ≤ s.size) (w : World) :
    Calls Tryz.prog 148 #[.int .i64 k, .string s, .int .i64 a, .int .i64 b] w fun e w' => e = .returned (pieceV k a (s.extract a b) b 0) ∧ Below w.heap.size w w' := by
  have hB : ∀ o, Below w.heap.size w (w.alloc o) := fun o => (Below.refl _ w).alloc (Nat.le_refl _) o
  go_enter Tryz.func148, Tryz.ntmps148
  go_wp2
  go_returns
  exact ⟨rfl, hB _⟩

set_option maxHeartbeats 400000 in
theorem nothingAt_any (a b : Nat) (w : World) :
    Calls Tryz.prog 150 #[.int .i64 a, .int .i64 b] w fun e w' => e = .returned (pieceV 0 a ⟨#[]⟩ b 1) ∧ Below w.heap.size w w' := by
  have hB : ∀ o, Below w.heap.size w (w.alloc o) := fun o => (Below.refl _ w).alloc (Nat.le_refl _) o
  go_enter Tryz.func150, Tryz.ntmps150
  go_wp2
  go_returns
  exact ⟨rfl, hB _⟩


set_option maxHeartbeats 400000 in
theorem isNamePart_any (c : UInt8) (w : World) : Calls Tryz.prog 163 #[.int .u8 (c.toNat : Int)] w fun e w' => e = .returned (.bool (isPart c)) ∧ w = w' := by
  have h : isPart c = (isStart c || isDig c) := rfl
  cases h1 : isStart c with
  | true =>
    rw [h, h1]
    have H1 := Lib.hid h1
    clear h h1
    go_enter Tryz.func163, Tryz.ntmps163
    go_wp2_with (go_at_call 142; refine (isNameStart_any _ _).mono ?_; rintro e w' ⟨rfl, rfl⟩; rw [H1.out])
    go_ret
    exact ⟨rfl, rfl⟩
  | false =>
    rw [h, h1]
    have H1 := Lib.hid h1
    clear h h1
    go_enter Tryz.func163, Tryz.ntmps163
    go_wp2_with (first | (go_at_call 142; refine (isNameStart_any _ _).mono ?_; rintro e w' ⟨rfl, rfl⟩; rw [H1.out]) | (go_at_call 144; refine (isDigit_any _ _).mono ?_; rintro e w' ⟨rfl, rfl⟩))
    go_ret
    exact ⟨rfl, rfl⟩

set_option maxHeartbeats 400000 in
theorem isInText_any (c : UInt8) (w : World) : Calls Tryz.prog 165 #[.int .u8 (c.toNat : Int)] w fun e w' => e = .returned (.bool (isInText c)) ∧ w = w' := by
  cases h1 : isInLine c with
  | true =>
    have h : isInText c = !((c.toNat : Int) == 34) := by
      rw [Bool.eq_iff_iff]; simp [isInText, isInLine] at h1 ⊢; omega
    rw [h]
    have H1 := Lib.hid h1
    clear h h1
    go_enter Tryz.func165, Tryz.ntmps165
    go_wp2_with (go_at_call 141; refine (isInLine_any _ _).mono ?_; rintro e w' ⟨rfl, rfl⟩; rw [H1.out])
    go_ret
    exact ⟨rfl, rfl⟩
  | false =>
    have h : isInText c = false := by
      simp [isInText, isInLine] at h1 ⊢; omega
    rw [h]
    have H1 := Lib.hid h1
    clear h h1
    go_enter Tryz.func165, Tryz.ntmps165
    go_wp2_with (go_at_call 141; refine (isInLine_any _ _).mono ?_; rintro e w' ⟨rfl, rfl⟩; rw [H1.out])
    go_ret
    exact ⟨rfl, rfl⟩

set_option maxHeartbeats 400000 in
theorem isWord_any (s : ByteArray) (w : World) : Calls Tryz.prog 164 #[.string s] w fun e w' => e = .returned (.bool (isWordB s.data.toList)) ∧ w = w' := by
  cases hw : isWordB s.data.toList with
  | true =>
    have hm : s.data.toList ∈ words := by simpa [isWordB] using hw
    obtain ⟨⟨l⟩⟩ := s
    simp only [words, List.mem_cons, List.not_mem_nil, or_false] at hm
    clear hw
    rcases hm with rfl | rfl | rfl | rfl | rfl | rfl | rfl | rfl | rfl | rfl | rfl | rfl | rfl
    all_goals
      go_enter Tryz.func164, Tryz.ntmps164
      go_wp2
      go_ret
      exact ⟨rfl, rfl⟩
  | false =>
    have hn : ∀ x ∈ words, (s.toList == x) = false := by
      intro x hx
      rw [Bool.eq_false_iff]
      intro e
      have e1 : s.data.toList = x := by rw [← Lib.toList_data]; simpa using e
      have : isWordB s.data.toList = true := by simp [isWordB, e1, hx]
      rw [hw] at this
      cases this
    clear hw
    have n0 := hn [117, 115, 101] (by simp [words])
    have n1 := hn [116, 121, 112, 101] (by simp [words])
    have n2 := hn [108, 101, 116] (by simp [words])
    have n3 := hn [105, 110] (by simp [words])
    have n4 := hn [105, 102] (by simp [words])
    have n5 := hn [116, 104, 101, 110] (by simp [words])
    have n6 := hn [101, 108, 115, 101] (by simp [words])
    have n7 := hn [102, 117, 110] (by simp [words])
    have n8 := hn [116, 114, 117, 101] (by simp [words])
    have n9 := hn [102, 97, 108, 115, 101] (by simp [words])
    have n10 := hn [105, 110, 116] (by simp [words])
    have n11 := hn [98, 111, 111, 108] (by simp [words])
    have n12 := hn [116, 101, 120, 116] (by simp [words])
    clear hn
    go_enter Tryz.func164, Tryz.ntmps164
    go_wp2
    go_ret
    exact ⟨rfl, rfl⟩

set_option maxHeartbeats 1000000 in
theorem info5 : (Tryz.prog.info? 5).map (fun i => (i.zero, i.size, i.bytes)) = some (some (.int .u8 0), 1, 1) := by kernel_rfl

set_option maxHeartbeats 1000000 in
theorem clone_any (s : ByteArray) (w : World) (hlim : s.size ≤ 281474976710656) :
    Calls Tryz.prog 122 #[.string s] w fun e w' => e = .returned (.string s) ∧ Below w.heap.size w w' := by
  by_cases h0 : s.size = 0
  · have hs : s = ⟨#[]⟩ := by
      apply ByteArray.ext
      exact Array.eq_empty_of_size_eq_zero h0
    subst hs
    go_enter Tryz.func122, Tryz.ntmps122
    go_wp2
    go_ret
    exact ⟨rfl, Below.refl _ _⟩
  · obtain ⟨i0, hi, hz0, hz1, hz2⟩ := info_parts info5
    have hinfo : (Tryz.prog.info? 5).map (·.size) = some 1 := by rw [hi]; simp [hz1]
    have hco : Tryz.prog.cellsOf 5 = 1 := by simp [Program.cellsOf, hi, hz1]
    obtain ⟨M, hM⟩ : ∃ M, M = madeCells (Value.int .u8 0).cells (((s.size : Nat) : Int).toNat * i0.size) := ⟨_, rfl⟩
    have hMs : M.size = s.size := by rw [hM, size_madeCells, hz1]; simp
    have hmk : ∀ W : World, (Instr.makeSlice 100 (.int .i64 (s.size : Int)) (.int .i64 (s.size : Int))).run Tryz.prog W = .ok (.slice (some ⟨W.heap.size, 0, none⟩) s.size s.size) (W.alloc (.cells M 5)) := fun W => by
      have h := run_make (P := Tryz.prog) W 100 5 i0 (.int .u8 0) Tryz.underlying100 hi hz0 .i64 .i64 (s.size : Int) (s.size : Int) (by omega) (by omega) (by rw [hz2]; omega) (by omega)
      rw [← hM] at h
      simpa using h
    clear hM
    have hcp := Lib.run_copy_row_string (P := Tryz.prog) (w.alloc (.cells M 5)) 100 9 3 5 w.heap.size 0 s.size s.size s M 5 Tryz.underlying100 hinfo (heap_alloc_new w _) (Nat.le_refl _) (by omega)
    obtain ⟨Y, hY⟩ : ∃ Y, Y = (M.toList.take 0 ++ Lib.byteCells s.data.toList ++ M.toList.drop (0 + s.size)).toArray := ⟨_, rfl⟩
    rw [← hY] at hcp
    have hYl : Y.toList = Lib.byteCells s.data.toList := by
      rw [hY, List.toList_toArray, List.take_zero, List.nil_append, List.drop_of_length_le (by rw [Array.length_toList]; omega), List.append_nil]
    have hYs : Y.size = s.size := by rw [← Array.length_toList, hYl, Lib.byteCells_length, ← Lib.size_eq]
    have hgY : ((w.alloc (.cells M 5)).setRow w.heap.size Y).heap[w.heap.size]? = some (.cells Y 5 (0, 0)) := setRow_heap _ _ M _ 5 (0, 0) (heap_alloc_new w _)
    have hne : s.data.toList ≠ [] := fun e => h0 (by rw [Lib.size_eq, e]; rfl)
    have hUS := Lib.run_unsafeString_row (P := Tryz.prog) ((w.alloc (.cells M 5)).setRow w.heap.size Y) 133 3 9 5 Tryz.underlying133 hco w.heap.size Y.size (by unfold World.shape?; rw [hgY]) s.data.toList hne (by rw [← Lib.size_eq]; omega) (by rw [← Lib.size_eq]; omega)
      (fun j x hx => Lib.cells_of_row hgY Y.size j _ (by rw [List.take_of_length_le (by rw [Array.length_toList]; exact Nat.le_refl _), hYl]; simp [Lib.byteCells, hx]))
    rw [← Lib.size_eq] at hUS
    clear hY
    go_enter Tryz.func122, Tryz.ntmps122
    go_wp2
    go_ret
    have hb1 : Below w.heap.size w (w.alloc (.cells M 5)) := (Below.refl _ w).alloc (Nat.le_refl _) _
    have hb2 : Below w.heap.size (w.alloc (.cells M 5)) ((w.alloc (.cells M 5)).setRow w.heap.size Y) := ⟨rfl, rfl, rfl, by simp, fun k hk => setRow_other _ _ _ _ (by omega)⟩
    exact ⟨rfl, Lib.below_freeze (hb1.trans hb2) (p := ⟨w.heap.size, 0, none⟩) (Nat.le_refl _) _⟩

theorem strings_clone (s : ByteArray) (w : World) (hlim : s.size ≤ 281474976710656) :
    Calls Tryz.prog 106 #[.string s] w fun e w' => e = .returned (.string s) ∧ Below w.heap.size w w' := by
  go_enter Tryz.func106, Tryz.ntmps106
  go_wp2_with (go_at_call 122; refine (clone_any _ _ hlim).mono ?_; rintro e w' ⟨rfl, hb⟩)
  go_ret
  exact ⟨rfl, hb⟩

end Go.Proofs.YthpoffklhpbdoaaGreatDoor

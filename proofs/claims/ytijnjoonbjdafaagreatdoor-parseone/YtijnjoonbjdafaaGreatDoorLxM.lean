/-
  The contracts of the small functions of package lex, and of strings.HasPrefix, IndexByte, Clone.
  The contracts of run, its iterator and runEnd of package lex: the place behind a run of bytes.
  The contracts of gapEnd, nameAt, numberAt, textAt and pieceAt of package lex.
  The contract of pieceAt of package lex: the piece with which the bytes at a place begin.
  The contracts of pieces of package lex and of the iterator that it hands back: what stands between the gaps of a source, in order.
  What Lex's round turns: frames and rows. No walk.
  The contract of Lex of package lex: all tokens, the end last, and what is told.
  A caller's view of Lex: its two lists as rows of triples; the pieces by reckoning.
-/
import Derived.Test.YtijnjoonbjdafaaGreatDoorFrame
import Derived.Test.YtijnjoonbjdafaaGreatDoorPure
import Derived.Lib.Strings
import Derived.Lib.Bytealg
import Derived.Lib.BufferWrite
import Derived.Lib.UnsafeStr
import Derived.RangeFuncNested
import Derived.RangeFuncBound
import Derived.RangeFuncCalls
import Derived.RangeFuncLeaves
import Derived.RangeFuncFrom
import Derived.RangeFuncBox
import Derived.Shelf.Abstract
import Derived.Shelf.AbstractIn
import Derived.Shelf.RegionOpen
import Derived.OwnWalkIn
import Derived.TacticsInMore
import Derived.LoopNIn
import Derived.LoopIn
import Derived.Deep.RegionLaw
import Derived.Deep.AppendLies
import Derived.OneCell
namespace Go.Proofs.YtijnjoonbjdafaaGreatDoor
set_option maxRecDepth 20000
open Go.RowKit
theorem ret_bool {x y : Bool} (h : x = y) : Ending.returned (.bool x) = .returned (.bool y) := by rw [h]
set_option maxHeartbeats 400000 in
theorem isNameStart_any (c : UInt8) (w : World) : Calls Tryz.prog 203 #[.int .u8 (c.toNat : Int)] w fun e w' => e = .returned (.bool (isStart c)) ∧ w = w' := by
  go_enter Tryz.func203, Tryz.ntmps203
  go_wp2
  all_goals
    go_ret
    refine ⟨ret_bool (Bool.eq_iff_iff.2 ?_), rfl⟩
    simp [isStart]
    try omega
set_option maxHeartbeats 400000 in
theorem isBlank_any (c : UInt8) (w : World) : Calls Tryz.prog 201 #[.int .u8 (c.toNat : Int)] w fun e w' => e = .returned (.bool (isBlank c)) ∧ w = w' := by
  go_enter Tryz.func201, Tryz.ntmps201
  go_wp2
  all_goals
    go_ret
    refine ⟨ret_bool (Bool.eq_iff_iff.2 ?_), rfl⟩
    simp [isBlank]
    try omega
set_option maxHeartbeats 400000 in
theorem isDigit_any (c : UInt8) (w : World) : Calls Tryz.prog 205 #[.int .u8 (c.toNat : Int)] w fun e w' => e = .returned (.bool (isDig c)) ∧ w = w' := by
  go_enter Tryz.func205, Tryz.ntmps205
  go_wp2
  all_goals
    go_ret
    refine ⟨ret_bool (Bool.eq_iff_iff.2 ?_), rfl⟩
    simp [isDig]
    try omega
set_option maxHeartbeats 400000 in
theorem isInLine_any (c : UInt8) (w : World) : Calls Tryz.prog 202 #[.int .u8 (c.toNat : Int)] w fun e w' => e = .returned (.bool (isInLine c)) ∧ w = w' := by
  go_enter Tryz.func202, Tryz.ntmps202
  go_wp2
  all_goals
    go_ret
    refine ⟨ret_bool (Bool.eq_iff_iff.2 ?_), rfl⟩
    simp [isInLine]
    try omega
theorem u8_all (p : UInt8 → Bool) (h : (List.range 256).all (fun n => p n.toUInt8) = true) (c : UInt8) : p c = true := by
  have := List.all_eq_true.1 h c.toNat (List.mem_range.2 c.toNat_lt)
  simpa using this
theorem ix48 (s : ByteArray) (c : Int) (w : World) : (callFunc 254 #[.string s, .int .u8 c]).run Tryz.prog w = .ok (.value (.int .i64 (Lib.indexByte s.data.toList c.toNat.toUInt8))) w := by
  rw [run_callFunc_extern Tryz.func254 (by kernel_rfl) (by kernel_rfl) (by kernel_rfl) (e := Extern.BytealgIndexByte.indexByte) (by kernel_rfl), Lib.run_indexByteString]
  rfl
theorem sg_index (c : UInt8) : decide (0 ≤ Lib.indexByte [61, 58, 59, 44, 46, 40, 41, 123, 125, 124, 63] c) = isSg c := by
  have := u8_all (fun c => decide (0 ≤ Lib.indexByte [61, 58, 59, 44, 46, 40, 41, 123, 125, 124, 63] c) == isSg c) (by decide +kernel) c
  simpa using this
set_option maxHeartbeats 400000 in
theorem isSign_any (c : UInt8) (w : World) : Calls Tryz.prog 210 #[.int .u8 (c.toNat : Int)] w fun e w' => e = .returned (.bool (isSg c)) ∧ w = w' := by
  have hx := ix48 ⟨#[61, 58, 59, 44, 46, 40, 41, 123, 125, 124, 63]⟩ (c.toNat : Int)
  have he := sg_index c
  go_enter Tryz.func210, Tryz.ntmps210
  go_wp2
  go_ret
  exact ⟨rfl, rfl⟩
set_option maxHeartbeats 400000 in
theorem hasPrefix44 (s p : ByteArray) (w : World) : Calls Tryz.prog 227 #[.string s, .string p] w fun e w' => e = .returned (.bool (Lib.hasPrefix s.data.toList p.data.toList)) ∧ w = w' := by
  have h := Lib.hasPrefix_raw s p
  by_cases hp : p.size ≤ s.size
  · go_enter Tryz.func227, Tryz.ntmps227
    go_wp2
    go_ret
    refine ⟨?_, rfl⟩
    rw [← h]
    simp [hp]
  · go_enter Tryz.func227, Tryz.ntmps227
    go_wp2
    go_ret
    refine ⟨?_, rfl⟩
    rw [← h]
    simp [hp]
set_option maxHeartbeats 400000 in
theorem hasPrefix_any (s p : ByteArray) (w : World) : Calls Tryz.prog 208 #[.string s, .string p] w fun e w' => e = .returned (.bool (Lib.hasPrefix s.data.toList p.data.toList)) ∧ w = w' := by
  go_enter Tryz.func208, Tryz.ntmps208
  go_wp2_with (go_at_call 227; refine (hasPrefix44 _ _ _).mono ?_; rintro e w' ⟨rfl, rfl⟩)
  go_ret
  exact ⟨rfl, rfl⟩
def pieceV (k a : Int) (t : ByteArray) (e d : Int) : Value := .agg #[.int .i64 k, .int .i64 a, .string t, .int .i64 e, .int .i64 d]
set_option maxHeartbeats 400000 in
theorem tokenAt_any (k : Int) (s : ByteArray) (a b : Nat) (hab : a ≤ b) (hb : b ≤ s.size) (w : World) :
    Calls Tryz.prog 209 #[.int .i64 k, .string s, .int .i64 a, .int .i64 b] w fun e w' => e = .returned (pieceV k a (s.extract a b) b 0) ∧ Below w.heap.size w w' := by
  have hB : ∀ o, Below w.heap.size w (w.alloc o) := fun o => (Below.refl _ w).alloc (Nat.le_refl _) o
  go_enter Tryz.func209, Tryz.ntmps209
  go_wp2
  go_returns
  exact ⟨rfl, hB _⟩
set_option maxHeartbeats 400000 in
theorem nothingAt_any (a b : Nat) (w : World) :
    Calls Tryz.prog 211 #[.int .i64 a, .int .i64 b] w fun e w' => e = .returned (pieceV 0 a ⟨#[]⟩ b 1) ∧ Below w.heap.size w w' := by
  have hB : ∀ o, Below w.heap.size w (w.alloc o) := fun o => (Below.refl _ w).alloc (Nat.le_refl _) o
  go_enter Tryz.func211, Tryz.ntmps211
  go_wp2
  go_returns
  exact ⟨rfl, hB _⟩
set_option maxHeartbeats 400000 in
theorem isNamePart_any (c : UInt8) (w : World) : Calls Tryz.prog 224 #[.int .u8 (c.toNat : Int)] w fun e w' => e = .returned (.bool (isPart c)) ∧ w = w' := by
  have h : isPart c = (isStart c || isDig c) := rfl
  cases h1 : isStart c with
  | true =>
    rw [h, h1]
    have H1 := Lib.hid h1
    clear h h1
    go_enter Tryz.func224, Tryz.ntmps224
    go_wp2_with (go_at_call 203; refine (isNameStart_any _ _).mono ?_; rintro e w' ⟨rfl, rfl⟩; rw [H1.out])
    go_ret
    exact ⟨rfl, rfl⟩
  | false =>
    rw [h, h1]
    have H1 := Lib.hid h1
    clear h h1
    go_enter Tryz.func224, Tryz.ntmps224
    go_wp2_with (first | (go_at_call 203; refine (isNameStart_any _ _).mono ?_; rintro e w' ⟨rfl, rfl⟩; rw [H1.out]) | (go_at_call 205; refine (isDigit_any _ _).mono ?_; rintro e w' ⟨rfl, rfl⟩))
    go_ret
    exact ⟨rfl, rfl⟩
set_option maxHeartbeats 400000 in
theorem isInText_any (c : UInt8) (w : World) : Calls Tryz.prog 226 #[.int .u8 (c.toNat : Int)] w fun e w' => e = .returned (.bool (isInText c)) ∧ w = w' := by
  cases h1 : isInLine c with
  | true =>
    have h : isInText c = !((c.toNat : Int) == 34) := by
      rw [Bool.eq_iff_iff]; simp [isInText, isInLine] at h1 ⊢; omega
    rw [h]
    have H1 := Lib.hid h1
    clear h h1
    go_enter Tryz.func226, Tryz.ntmps226
    go_wp2_with (go_at_call 202; refine (isInLine_any _ _).mono ?_; rintro e w' ⟨rfl, rfl⟩; rw [H1.out])
    go_ret
    exact ⟨rfl, rfl⟩
  | false =>
    have h : isInText c = false := by
      simp [isInText, isInLine] at h1 ⊢; omega
    rw [h]
    have H1 := Lib.hid h1
    clear h h1
    go_enter Tryz.func226, Tryz.ntmps226
    go_wp2_with (go_at_call 202; refine (isInLine_any _ _).mono ?_; rintro e w' ⟨rfl, rfl⟩; rw [H1.out])
    go_ret
    exact ⟨rfl, rfl⟩
set_option maxHeartbeats 400000 in
theorem isWord_any (s : ByteArray) (w : World) : Calls Tryz.prog 225 #[.string s] w fun e w' => e = .returned (.bool (isWordB s.data.toList)) ∧ w = w' := by
  cases hw : isWordB s.data.toList with
  | true =>
    have hm : s.data.toList ∈ words := by simpa [isWordB] using hw
    obtain ⟨⟨l⟩⟩ := s
    simp only [words, List.mem_cons, List.not_mem_nil, or_false] at hm
    clear hw
    rcases hm with rfl | rfl | rfl | rfl | rfl | rfl | rfl | rfl | rfl | rfl | rfl | rfl | rfl
    all_goals
      go_enter Tryz.func225, Tryz.ntmps225
      go_wp2
      go_ret
      exact ⟨rfl, rfl⟩
  | false =>
    have hn : ∀ x ∈ words, (s.toList == x) = false := by
      intro x hx
      rw [Bool.eq_false_iff]
      intro e
      have e1 : s.data.toList = x := by rw [← Lib.toList_data]; simpa using e
      have : isWordB s.data.toList = true := by simp [isWordB, e1, hx]
      rw [hw] at this
      cases this
    clear hw
    have n0 := hn [117, 115, 101] (by simp [words])
    have n1 := hn [116, 121, 112, 101] (by simp [words])
    have n2 := hn [108, 101, 116] (by simp [words])
    have n3 := hn [105, 110] (by simp [words])
    have n4 := hn [105, 102] (by simp [words])
    have n5 := hn [116, 104, 101, 110] (by simp [words])
    have n6 := hn [101, 108, 115, 101] (by simp [words])
    have n7 := hn [102, 117, 110] (by simp [words])
    have n8 := hn [116, 114, 117, 101] (by simp [words])
    have n9 := hn [102, 97, 108, 115, 101] (by simp [words])
    have n10 := hn [105, 110, 116] (by simp [words])
    have n11 := hn [98, 111, 111, 108] (by simp [words])
    have n12 := hn [116, 101, 120, 116] (by simp [words])
    clear hn
    go_enter Tryz.func225, Tryz.ntmps225
    go_wp2
    go_ret
    exact ⟨rfl, rfl⟩
set_option maxHeartbeats 1000000 in
theorem info5 : (Tryz.prog.info? 5).map (fun i => (i.zero, i.size, i.bytes)) = some (some (.int .u8 0), 1, 1) := by kernel_rfl
set_option maxHeartbeats 1000000 in
theorem clone_any (s : ByteArray) (w : World) (hlim : s.size ≤ 281474976710656) :
    Calls Tryz.prog 174 #[.string s] w fun e w' => e = .returned (.string s) ∧ Below w.heap.size w w' := by
  by_cases h0 : s.size = 0
  · have hs : s = ⟨#[]⟩ := by
      apply ByteArray.ext
      exact Array.eq_empty_of_size_eq_zero h0
    subst hs
    go_enter Tryz.func174, Tryz.ntmps174
    go_wp2
    go_ret
    exact ⟨rfl, Below.refl _ _⟩
  · obtain ⟨i0, hi, hz0, hz1, hz2⟩ := info_parts info5
    have hinfo : (Tryz.prog.info? 5).map (·.size) = some 1 := by rw [hi]; simp [hz1]
    have hco : Tryz.prog.cellsOf 5 = 1 := by simp [Program.cellsOf, hi, hz1]
    obtain ⟨M, hM⟩ : ∃ M, M = madeCells (Value.int .u8 0).cells (((s.size : Nat) : Int).toNat * i0.size) := ⟨_, rfl⟩
    have hMs : M.size = s.size := by rw [hM, size_madeCells, hz1]; simp
    have hmk : ∀ W : World, (Instr.makeSlice 81 (.int .i64 (s.size : Int)) (.int .i64 (s.size : Int))).run Tryz.prog W = .ok (.slice (some ⟨W.heap.size, 0, none⟩) s.size s.size) (W.alloc (.cells M 5)) := fun W => by
      have h := run_make (P := Tryz.prog) W 81 5 i0 (.int .u8 0) Tryz.underlying81 hi hz0 .i64 .i64 (s.size : Int) (s.size : Int) (by omega) (by omega) (by rw [hz2]; omega) (by omega)
      rw [← hM] at h
      simpa using h
    clear hM
    have hcp := Lib.run_copy_row_string (P := Tryz.prog) (w.alloc (.cells M 5)) 81 9 3 5 w.heap.size 0 s.size s.size s M 5 Tryz.underlying81 hinfo (heap_alloc_new w _) (Nat.le_refl _) (by omega)
    obtain ⟨Y, hY⟩ : ∃ Y, Y = (M.toList.take 0 ++ Lib.byteCells s.data.toList ++ M.toList.drop (0 + s.size)).toArray := ⟨_, rfl⟩
    rw [← hY] at hcp
    have hYl : Y.toList = Lib.byteCells s.data.toList := by
      rw [hY, List.toList_toArray, List.take_zero, List.nil_append, List.drop_of_length_le (by rw [Array.length_toList]; omega), List.append_nil]
    have hYs : Y.size = s.size := by rw [← Array.length_toList, hYl, Lib.byteCells_length, ← Lib.size_eq]
    have hgY : ((w.alloc (.cells M 5)).setRow w.heap.size Y).heap[w.heap.size]? = some (.cells Y 5 (0, 0)) := setRow_heap _ _ M _ 5 (0, 0) (heap_alloc_new w _)
    have hne : s.data.toList ≠ [] := fun e => h0 (by rw [Lib.size_eq, e]; rfl)
    have hUS := Lib.run_unsafeString_row (P := Tryz.prog) ((w.alloc (.cells M 5)).setRow w.heap.size Y) 173 3 9 5 Tryz.underlying173 hco w.heap.size Y.size (by unfold World.shape?; rw [hgY]) s.data.toList hne (by rw [← Lib.size_eq]; omega) (by rw [← Lib.size_eq]; omega)
      (fun j x hx => Lib.cells_of_row hgY Y.size j _ (by rw [List.take_of_length_le (by rw [Array.length_toList]; exact Nat.le_refl _), hYl]; simp [Lib.byteCells, hx]))
    rw [← Lib.size_eq] at hUS
    clear hY
    go_enter Tryz.func174, Tryz.ntmps174
    go_wp2
    go_ret
    have hb1 : Below w.heap.size w (w.alloc (.cells M 5)) := (Below.refl _ w).alloc (Nat.le_refl _) _
    have hb2 : Below w.heap.size (w.alloc (.cells M 5)) ((w.alloc (.cells M 5)).setRow w.heap.size Y) := ⟨rfl, rfl, rfl, by simp, fun k hk => setRow_other _ _ _ _ (by omega)⟩
    exact ⟨rfl, Lib.below_freeze (hb1.trans hb2) (p := ⟨w.heap.size, 0, none⟩) (Nat.le_refl _) _⟩
theorem strings_clone (s : ByteArray) (w : World) (hlim : s.size ≤ 281474976710656) :
    Calls Tryz.prog 141 #[.string s] w fun e w' => e = .returned (.string s) ∧ Below w.heap.size w w' := by
  go_enter Tryz.func141, Tryz.ntmps141
  go_wp2_with (go_at_call 174; refine (clone_any _ _ hlim).mono ?_; rintro e w' ⟨rfl, hb⟩)
  go_ret
  exact ⟨rfl, hb⟩
end Go.Proofs.YtijnjoonbjdafaaGreatDoor
namespace Go.Proofs.YtijnjoonbjdafaaGreatDoor
set_option maxRecDepth 20000
open Go.RowKit Go.Shelf
attribute [local go_sem] Oper.semAt_some
structure Kr (n₀ Bs : Nat) (W W' : World) : Prop where
  below : Below n₀ W W'
  box : ∀ i, Bs ≤ i → i < Bs + 3 → W'.heap[i]? = W.heap[i]?
theorem Kr.refl (n₀ Bs : Nat) (W : World) : Kr n₀ Bs W W := ⟨Below.refl _ _, fun _ _ _ => rfl⟩
theorem Kr.trans {n₀ Bs : Nat} {A B C : World} (h : Kr n₀ Bs A B) (k : Kr n₀ Bs B C) : Kr n₀ Bs A C := ⟨h.below.trans k.below, fun i h1 h2 => (k.box i h1 h2).trans (h.box i h1 h2)⟩
theorem Kr.put {n₀ Bs : Nat} {w : World} (hn : n₀ ≤ w.heap.size) (hb : Bs + 3 ≤ w.heap.size) (W : World) (l : Nat) (o o' : Obj) (hl : w.heap.size ≤ l) (h : W.heap[l]? = some o) (hc : o.isCells = false) (hw : o.isWalk = false) : Kr n₀ Bs W (W.putObj l o') :=
  ⟨belowK_b hn W l o o' hl h hc hw, fun i _ h2 => World.putObj_heap_other (by omega)⟩
theorem Kr.drew (n₀ Bs : Nat) (W : World) : Kr n₀ Bs W W.drew := ⟨(Below.refl _ _).drew, fun _ _ _ => rfl⟩
theorem grown_drew (W : World) (row : Option Nat) : W.grownBy W.drew row := ⟨rfl, rfl, rfl, Nat.le_refl _, fun _ _ _ => rfl⟩
theorem grown_drewN (W : World) (n : Nat) (row : Option Nat) : W.grownBy (W.drewN n) row := ⟨rfl, rfl, rfl, Nat.le_refl _, fun _ _ _ => rfl⟩
theorem cell_of_block {W : World} {b : Nat} {v : Value} {t : TypeId} (h : W.heap[b]? = some (.cells #[v] t (0, 0))) : W.cell? ⟨b, 0, none⟩ = some v ∧ W.frozen? ⟨b, 0, none⟩ = false :=
  ⟨by simp [World.cell?, h], by simp [World.frozen?, h]⟩
theorem block_kept {W W' : World} {row : Option Nat} {b : Nat} {c : Array Value} {t : TypeId} {fz : Nat × Nat} (h : W.heap[b]? = some (.cells c t fz)) (hg : W.grownBy W' row) (hrow : ∀ r, row = some r → ∃ o : Obj, W.heap[r]? = some o ∧ o.isCells = false) : W'.heap[b]? = some (.cells c t fz) := by
  refine (hg.block b (Array.getElem?_eq_some_iff.1 h).1 ?_).trans h
  intro e
  obtain ⟨o, ho, hc⟩ := hrow b e.symm
  rw [h] at ho
  cases ho
  simp [Obj.isCells] at hc
def idx (a j : Nat) : List Int := (List.range j).map (fun i => ((a + i : Nat) : Int))
theorem idx_succ (a j : Nat) : idx a (j + 1) = idx a j ++ [((a + j : Nat) : Int)] := by simp [idx, List.range_succ]
theorem idx_length (a j : Nat) : (idx a j).length = j := by simp [idx]
theorem idx_take (a : Nat) {j m : Nat} (h : j ≤ m) : idx a j <+: idx a m := by
  refine ⟨((List.range (m - j)).map (fun i => j + i)).map (fun i => ((a + i : Nat) : Int)), ?_⟩
  rw [idx, idx, ← List.map_append, ← List.range_add, Nat.add_sub_cancel' h]
structure Boxes (Bs : Nat) (s : ByteArray) (a : Nat) (kf : Nat) (W : World) : Prop where
  src : W.heap[Bs]? = some (.cells #[.string s] 9 (0, 0))
  at_ : W.heap[Bs + 1]? = some (.cells #[.int .i64 a] 3 (0, 0))
  such : W.heap[Bs + 2]? = some (.cells #[.func (.func kf) #[] #[]] 264 (0, 0))
theorem Boxes.kept {n₀ Bs : Nat} {s : ByteArray} {a kf : Nat} {W W' : World} (h : Boxes Bs s a kf W) (k : Kr n₀ Bs W W') : Boxes Bs s a kf W' :=
  ⟨(k.box Bs (by omega) (by omega)).trans h.src, (k.box (Bs + 1) (by omega) (by omega)).trans h.at_, (k.box (Bs + 2) (by omega) (by omega)).trans h.such⟩
set_option maxRecDepth 100000 in
set_option maxHeartbeats 4000000 in
theorem run1_in (n : Nat) (hn : 1 ≤ n) (l Bs n₀ a : Nat) (s : ByteArray) (kf : Nat) (p : UInt8 → Bool) (heg : ∀ args w, (callFunc kf args).run Tryz.prog w = .ok (.enter kf args) w)
    (hkf : ∀ (c : UInt8) (w : World), Calls Tryz.prog kf #[.int .u8 (c.toNat : Int)] w fun e w' => e = .returned (.bool (p c)) ∧ w = w') (ha : a ≤ s.size) (hs : s.size ≤ 281474976710656)
    (J Jx : List Int → World → Prop) (B0 : Nat) (hJ : AbidesFrom B0 J)
    (hY : ∀ pre x W, J pre W → pre.length < spanLen p (s.data.toList.drop a) → YieldAt Fence.wide (n - 1) Tryz.prog l #[.int .i64 x] W fun e W' =>
      (e = .returned (.bool true) ∧ J (pre ++ [x]) W' ∧ Kr n₀ Bs W W') ∨ (e = .returned (.bool false) ∧ Jx (pre ++ [x]) W'))
    (W : World) (hB : Boxes Bs s a kf W) (h0 : J [] W) :
    CallsIn Fence.wide n Tryz.prog 245 #[.func (.yield l) #[] #[], .pointer (some ⟨Bs + 1, 0, none⟩), .pointer (some ⟨Bs, 0, none⟩), .pointer (some ⟨Bs + 2, 0, none⟩)] W fun e W' => (∃ v, e = .returned v) ∧
      ((∃ ys, ys = idx a (spanLen p (s.data.toList.drop a)) ∧ J ys W') ∨ (∃ pre, pre <+: idx a (spanLen p (s.data.toList.drop a)) ∧ Jx pre W')) := by
  have hm : Tryz.prog.follows .mixedOrders = true := by kernel_rfl
  obtain ⟨m, hmm⟩ : ∃ m, m = spanLen p (s.data.toList.drop a) := ⟨_, rfl⟩
  rw [← hmm] at hY ⊢
  have hall := spanLen_all p (s.data.toList.drop a)
  have hend := spanLen_end p (s.data.toList.drop a)
  have hle := spanLen_le p (s.data.toList.drop a)
  rw [← hmm] at hall hend hle
  rw [List.length_drop, ← Lib.size_eq] at hle
  have HA := Lib.hid hall
  have HE := Lib.hid hend
  clear hall hend hmm
  have ca := (cell_of_block hB.at_).1
  have hfk : Fence.wide.fn kf := trivial
  refine callsIn_of_wp Tryz.func245 rfl trivial ?_ rfl
  simp only [Tryz.ntmps245, List.size_toArray, List.length_cons, List.length_nil, Nat.reduceAdd, Nat.reduceSub, Array.replicate_succ, Array.replicate_zero, List.push_toArray, List.append_toArray, List.nil_append, List.cons_append]
  gi_wp2
  gi_loopw [5] (fun s5 wr => ∃ i : Nat, s5 = .int .i64 (i : Int) ∧ a ≤ i ∧ i ≤ a + m ∧ J (idx a (i - a)) wr ∧ Kr n₀ Bs W wr) (fun s5 _ => a + m - (intOf s5).toNat)
  case atStart => exact ⟨a, rfl, Nat.le_refl _, by omega, by rw [Nat.sub_self]; exact h0, Kr.refl _ _ _⟩
  case round =>
    obtain ⟨i, rfl, hai, him, hJj, hK⟩ := hrel
    have hBw := hB.kept hK
    obtain ⟨cs, fs⟩ := cell_of_block hBw.src
    obtain ⟨cf, ff⟩ := cell_of_block hBw.such
    have HK := Lib.hid hK
    clear hK hBw fs ff ca
    by_cases hlt : i < s.size
    · have hge : decide ((i : Int) < (s.size : Int)) = true := by simp; omega
      have hget : (s.data.toList.drop a)[i - a]? = some s[i] := by
        rw [List.getElem?_drop, Nat.add_sub_cancel' hai, List.getElem?_eq_getElem (by rw [← Lib.size_eq]; exact hlt)]
        rfl
      cases hp : p s[i] with
      | true =>
        have hlm : i - a < m := by
          rcases Nat.lt_or_ge (i - a) m with h | h
          · exact h
          · have : i - a = m := by omega
            rw [this] at hget
            have := HE.out _ hget
            rw [hp] at this
            cases this
        have HP := Lib.hid hp
        obtain ⟨fn, tmps, assign, body, hy, hR⟩ := hY _ (i : Int) wr.drew (hJ _ _ _ none hJj (grown_drew _ _) (by simp)) (by rw [idx_length]; omega)
        have hR' := hR.mono (R' := fun e W' => ∃ b, e = .returned (.bool b) ∧ ((b = true ∧ J (idx a (i - a) ++ [(i : Int)]) W' ∧ Kr n₀ Bs wr.drew W') ∨ (b = false ∧ Jx (idx a (i - a) ++ [(i : Int)]) W'))) (by
          rintro e W' (⟨rfl, h1, h2⟩ | ⟨rfl, h1⟩)
          · exact ⟨true, rfl, .inl ⟨rfl, h1, h2⟩⟩
          · exact ⟨false, rfl, .inr ⟨rfl, h1⟩⟩)
        have HR := Lib.hid hR'
        have hix : idx a (i - a) ++ [(i : Int)] = idx a (i - a + 1) := by rw [idx_succ, Nat.add_sub_cancel' hai]
        have HIX := Lib.hid hix
        clear hR hp hget hR' hix
        gi_wp2
        gi_region_with_o (first | (gi_at_fn kf; refine (callsIn_wide.2 (hkf _ _)).mono ?_; rintro e w' ⟨rfl, rfl⟩; rw [HP.out]) | (refine HR.out.mono ?_; rintro e W3 ⟨b, rfl, h3⟩; have H3 := Lib.hid h3; clear h3))
        all_goals
          rcases H3.out with ⟨rfl, hJ3, hK3⟩ | ⟨rfl, hJx3⟩
          · gi_wp2
            go_roundw
            case rel => exact ⟨i + 1, by simp, by omega, by omega, by rw [show i + 1 - a = i - a + 1 by omega, ← HIX.out]; exact hJ3, (HK.out.trans (Kr.drew _ _ _)).trans hK3⟩
            case measure => simp [intOf]; omega
          · gi_wp2
            go_end0
            exact ⟨⟨_, rfl⟩, .inr ⟨_, by rw [HIX.out]; exact idx_take a (by omega), hJx3⟩⟩
      | false =>
        have hlm : i - a = m := by
          rcases Nat.lt_or_ge (i - a) m with h | h
          · obtain ⟨c, h1, h2⟩ := HA.out _ h
            rw [hget] at h1
            cases h1
            rw [hp] at h2
            cases h2
          · omega
        have HP := Lib.hid hp
        clear hp hget
        gi_wp2
        refine wpIn_wide.2 ?_
        go_quiet (first | (go_at_fn kf; refine Calls.quiet_of_same (v := .bool false) ((hkf _ _).mono fun e w' h => ⟨by rw [h.1, HP.out], h.2.symm⟩)))
        gi_wp2
        go_end0
        exact ⟨⟨_, rfl⟩, .inl ⟨_, by rw [← hlm], hJ _ _ _ none hJj (grown_drewN _ _ _) (by simp)⟩⟩
    · have hge : decide ((i : Int) < (s.size : Int)) = false := by simp; omega
      gi_wp2
      refine wpIn_wide.2 ?_
      go_quiet (fail)
      gi_wp2
      go_end0
      exact ⟨⟨_, rfl⟩, .inl ⟨_, by rw [show m = i - a by omega], hJ _ _ _ none hJj (grown_drewN _ _ _) (by simp)⟩⟩
theorem run_stops (n : Nat) (hn : 1 ≤ n) (Bs n₀ a : Nat) (s : ByteArray) (kf : Nat) (p : UInt8 → Bool) (heg : ∀ args w, (callFunc kf args).run Tryz.prog w = .ok (.enter kf args) w)
    (hkf : ∀ (c : UInt8) (w : World), Calls Tryz.prog kf #[.int .u8 (c.toNat : Int)] w fun e w' => e = .returned (.bool (p c)) ∧ w = w') (ha : a ≤ s.size) (hs : s.size ≤ 281474976710656)
    (w : World) (hB : Boxes Bs s a kf w) :
    SeqStopsK Fence.wide n Tryz.prog 245 #[.pointer (some ⟨Bs + 1, 0, none⟩), .pointer (some ⟨Bs, 0, none⟩), .pointer (some ⟨Bs + 2, 0, none⟩)] (fun x : Int => #[.int .i64 x]) (Kr n₀ Bs) (fun ys => ys = idx a (spanLen p (s.data.toList.drop a))) (fun pre => pre <+: idx a (spanLen p (s.data.toList.drop a))) (spanLen p (s.data.toList.drop a)) w :=
  fun l J Jx W hW hJ _ hY h0 => by
  have lt0 := (Array.getElem?_eq_some_iff.1 hB.src).1
  have lt1 := (Array.getElem?_eq_some_iff.1 hB.at_).1
  have lt2 := (Array.getElem?_eq_some_iff.1 hB.such).1
  exact run1_in n hn l Bs n₀ a s kf p heg hkf ha hs J Jx _ hJ hY W ⟨(hW.block _ lt0).trans hB.src, (hW.block _ lt1).trans hB.at_, (hW.block _ lt2).trans hB.such⟩ h0
theorem run_box (n : Nat) (s : ByteArray) (a : Int) (kf : Nat) (w : World) :
    CallsIn Fence.wide n Tryz.prog 223 #[.string s, .int .i64 a, .func (.func kf) #[] #[]] w fun e w' => e = .returned (.func (.func 245) #[] #[.pointer (some ⟨w.heap.size + 1, 0, none⟩), .pointer (some ⟨w.heap.size, 0, none⟩), .pointer (some ⟨w.heap.size + 2, 0, none⟩)]) ∧
      w' = ((w.alloc (.cells #[.string s] 9)).alloc (.cells #[.int .i64 a] 3)).alloc (.cells #[.func (.func kf) #[] #[]] 264) := by
  refine callsIn_of_wp Tryz.func223 rfl trivial ?_ rfl
  simp only [Tryz.ntmps223, List.size_toArray, List.length_cons, List.length_nil, Nat.reduceAdd, Nat.reduceSub, Array.replicate_succ, Array.replicate_zero, List.push_toArray, List.append_toArray, List.nil_append, List.cons_append]
  gi_wp2
  go_ret
  exact ⟨rfl, rfl⟩
def endOf (a : Nat) (l : List Int) : Int := match l.getLast? with | none => a | some x => wrap64 (x + 1)
theorem endOf_snoc (a : Nat) (l : List Int) (x : Int) : endOf a (l ++ [x]) = wrap64 (x + 1) := by simp [endOf]
theorem endOf_idx (a m : Nat) (h : a + m ≤ 281474976710656) : endOf a (idx a m) = ((a + m : Nat) : Int) := by
  cases m with
  | zero => simp [idx, endOf]
  | succ m =>
    rw [idx_succ, endOf_snoc]
    rw [show ((a + m : Nat) : Int) + 1 = ((a + (m + 1) : Nat) : Int) by omega]
    exact IntWalk.wrap64_in _ (by omega)
set_option maxRecDepth 100000 in
set_option maxHeartbeats 4000000 in
theorem runEnd_any (s : ByteArray) (a : Nat) (kf : Nat) (p : UInt8 → Bool) (heg : ∀ args w, (callFunc kf args).run Tryz.prog w = .ok (.enter kf args) w)
    (hkf : ∀ (c : UInt8) (w : World), Calls Tryz.prog kf #[.int .u8 (c.toNat : Int)] w fun e w' => e = .returned (.bool (p c)) ∧ w = w') (ha : a ≤ s.size) (hs : s.size ≤ 281474976710656) (w : World) :
    Calls Tryz.prog 200 #[.string s, .int .i64 a, .func (.func kf) #[] #[]] w fun e w' => e = .returned (.int .i64 ((a + spanLen p (s.data.toList.drop a) : Nat) : Int)) ∧ Below w.heap.size w w' := by
  rw [← callsIn_wide (n := 5)]
  have hff : Fence.wide.fn 223 := trivial
  have hle := spanLen_le p (s.data.toList.drop a)
  rw [List.length_drop, ← Lib.size_eq] at hle
  refine callsIn_of_wp_marks Tryz.func200 rfl trivial ?_ rfl
  simp only [Tryz.ntmps200, List.size_toArray, List.length_cons, List.length_nil, Nat.reduceAdd, Nat.reduceSub, Array.replicate_succ, Array.replicate_zero, List.push_toArray, List.append_toArray, List.nil_append, List.cons_append]
  gi_wp2_with (gi_at_call 223; refine (run_box _ _ _ _ _).mono ?_; rintro e w' ⟨rfl, rfl⟩)
  obtain ⟨W0, hW0⟩ : ∃ W0, (((w.alloc (.cells #[.int .i64 a] 3)).alloc (.cells #[.string s] 9)).alloc (.cells #[.int .i64 a] 3)).alloc (.cells #[.func (.func kf) #[] #[]] 264) = W0 := ⟨_, rfl⟩
  have hs0 : W0.heap.size = w.heap.size + 4 := by rw [← hW0]; simp
  have hE0 : W0.heap[w.heap.size]? = some (.cells #[.int .i64 a] 3 (0, 0)) := by
    rw [← hW0]; exact (((Below.heap_alloc _ _ _ (by simp; omega)).trans (Below.heap_alloc _ _ _ (by simp; omega))).trans (Below.heap_alloc _ _ _ (by simp))).trans (World.alloc_heap_new w _)
  have hBx : Boxes (w.heap.size + 1) s a kf W0 := by
    refine ⟨?_, ?_, ?_⟩
    · rw [← hW0]; refine ((Below.heap_alloc _ _ _ (by simp)).trans (Below.heap_alloc _ _ _ (by simp))).trans ?_
      have := World.alloc_heap_new (w.alloc (.cells #[.int .i64 a] 3)) (.cells #[.string s] 9); rwa [World.size_alloc] at this
    · rw [← hW0]; refine (Below.heap_alloc _ _ _ (by simp)).trans ?_
      have := World.alloc_heap_new ((w.alloc (.cells #[.int .i64 a] 3)).alloc (.cells #[.string s] 9)) (.cells #[.int .i64 a] 3); rwa [World.size_alloc, World.size_alloc] at this
    · rw [← hW0]
      have := World.alloc_heap_new (((w.alloc (.cells #[.int .i64 a] 3)).alloc (.cells #[.string s] 9)).alloc (.cells #[.int .i64 a] 3)) (.cells #[.func (.func kf) #[] #[]] 264); rwa [World.size_alloc, World.size_alloc, World.size_alloc] at this
  have hBW : Below w.heap.size w W0 := by rw [← hW0]; exact ((((Below.refl _ w).alloc (Nat.le_refl _) _).alloc (by simp) _).alloc (by simp; omega) _).alloc (by simp; omega) _
  rw [hW0]
  clear hW0
  refine wpIn_rangeFunc_ownF rfl (by omega) (gf := 245) (lb := #[.pointer (some ⟨w.heap.size + 1 + 1, 0, none⟩), .pointer (some ⟨w.heap.size + 1, 0, none⟩), .pointer (some ⟨w.heap.size + 1 + 2, 0, none⟩)]) rfl trivial (enters_of Tryz.func245 (by kernel_rfl) rfl)
    (run_stops 4 (by omega) (w.heap.size + 1) w.heap.size a s kf p heg hkf ha hs W0 hBx) (fun h k => Kr.trans h k) (fun W l o o' h1 h2 h3 h4 => Kr.put (w := W0) (by omega) (by omega) W l o o' h1 h2 h3 h4) (Below.refl _ _) (fun _ => rfl)
    (fun pre W => W.heap[w.heap.size]? = some (.cells #[.int .i64 (endOf a pre)] 3 (0, 0)) ∧ Below w.heap.size w W)
    (fun _ _ _ => False)
    (OwnFrom.and (Own.from (I := fun pre W => W.heap[w.heap.size]? = some (.cells #[.int .i64 (endOf a pre)] 3 (0, 0))) (fun s A B row hs hg hr => block_kept hs hg hr) _) (ownFrom_below (Nat.le_refl _) (by omega)))
    (fun _ _ _ _ _ hs _ _ => hs)
    ⟨hE0, hBW⟩
    (fun x => { tmps := #[.string s, .int .i64 a, .func (.func kf) #[] #[], undef, undef, undef, .int .i64 0, .pointer (some ⟨w.heap.size, 0, none⟩), .int .i64 x, .int .i64 a, .string s, .int .i64 a, .func (.func kf) #[] #[], .func (.func 245) #[] #[.pointer (some ⟨w.heap.size + 1 + 1, 0, none⟩), .pointer (some ⟨w.heap.size + 1, 0, none⟩), .pointer (some ⟨w.heap.size + 1 + 2, 0, none⟩)], .int .i64 x, undef, undef, undef], defers := [] }) ?assign ?body ?done ?stop
  case assign =>
    intro l x W K hK
    gi_wp2
    exact hK
  case body =>
    rintro l pre x W ⟨hE, hB⟩ _
    obtain ⟨hc, hf⟩ := cell_of_block hE
    gi_wp2
    refine ⟨KeepsOthers.setCell _ _ _, ⟨(Below.refl w.heap.size W).setCell (p := ⟨w.heap.size, 0, none⟩) (Nat.le_refl _) _, fun i h1 _ => Below.heap_setCell W ⟨w.heap.size, 0, none⟩ _ i (by simp; omega)⟩, ?_, hB.setCell (p := ⟨w.heap.size, 0, none⟩) (Nat.le_refl _) _⟩
    rw [endOf_snoc]
    exact one_setCell hE
  case done =>
    rintro D ys W hD rfl ⟨hE, hB⟩ hK
    obtain ⟨hc, hf⟩ := cell_of_block hE
    rw [endOf_idx a _ (by omega)] at hc
    gi_wp2
    refine ⟨by simp, .inl ⟨_, _, rfl, run_takeDeferred hK, ?_⟩⟩
    exact ⟨_, results_tmp rfl _ _ _, rfl, hB.trans (belowK_b (w := w) (Nat.le_refl _) W D _ _ (by omega) hK rfl rfl)⟩
  case stop =>
    rintro D c pre W _ _ h _
    exact h.elim
end Go.Proofs.YtijnjoonbjdafaaGreatDoor
namespace Go.Proofs.YtijnjoonbjdafaaGreatDoor
set_option maxRecDepth 20000
open Go.RowKit Go.Shelf
theorem eg29 : ∀ args w, (callFunc 201 args).run Tryz.prog w = .ok (.enter 201 args) w := enters_of Tryz.func201 (by kernel_rfl) rfl
theorem eg30 : ∀ args w, (callFunc 202 args).run Tryz.prog w = .ok (.enter 202 args) w := enters_of Tryz.func202 (by kernel_rfl) rfl
theorem eg33 : ∀ args w, (callFunc 205 args).run Tryz.prog w = .ok (.enter 205 args) w := enters_of Tryz.func205 (by kernel_rfl) rfl
theorem eg41 : ∀ args w, (callFunc 224 args).run Tryz.prog w = .ok (.enter 224 args) w := enters_of Tryz.func224 (by kernel_rfl) rfl
theorem eg43 : ∀ args w, (callFunc 226 args).run Tryz.prog w = .ok (.enter 226 args) w := enters_of Tryz.func226 (by kernel_rfl) rfl
theorem get_data {s : ByteArray} {i : Nat} (h : i < s.size) : s.data.toList[i]? = some s[i] := by
  rw [List.getElem?_eq_getElem (by rw [← Lib.size_eq]; exact h)]
  rfl
theorem drop_data {s : ByteArray} {i : Nat} (h : i < s.size) : s.data.toList.drop i = s[i] :: s.data.toList.drop (i + 1) := by
  rw [List.drop_eq_getElem_cons (by rw [← Lib.size_eq]; exact h)]
  rfl
theorem u8_ext {c d : UInt8} (h : c.toNat = d.toNat) : c = d := UInt8.toNat_inj.1 h
def Five (w : World) (b : Nat) (v0 v1 v2 v3 v4 : Value) : Prop := w.heap[b]? = some (.cells #[v0, v1, v2, v3, v4] 199 (0, 0))
theorem five_of {w : World} {b : Nat} {v0 v1 v2 v3 v4 : Value} (h : Five w b v0 v1 v2 v3 v4) :
    (w.cell? ⟨b, 0, none⟩ = some v0 ∧ w.cell? ⟨b, 1, none⟩ = some v1 ∧ w.cell? ⟨b, 2, none⟩ = some v2 ∧ w.cell? ⟨b, 3, none⟩ = some v3 ∧ w.cell? ⟨b, 4, none⟩ = some v4) ∧
    w.frozen? ⟨b, 0, none⟩ = false ∧ w.frozen? ⟨b, 1, none⟩ = false ∧ w.frozen? ⟨b, 2, none⟩ = false ∧ w.frozen? ⟨b, 3, none⟩ = false ∧ w.frozen? ⟨b, 4, none⟩ = false := by
  unfold Five at h
  simp [World.cell?, World.frozen?, h]
theorem five_kept {w w' : World} {b n : Nat} {v0 v1 v2 v3 v4 : Value} (h : Five w b v0 v1 v2 v3 v4) (hB : Below n w w') (hb : b < n) : Five w' b v0 v1 v2 v3 v4 := (hB.block b hb).trans h
theorem five_new (w : World) (v0 v1 v2 v3 v4 : Value) : Five (w.alloc (.cells #[v0, v1, v2, v3, v4] 199)) w.heap.size v0 v1 v2 v3 v4 := heap_alloc_new w _
abbrev put5 (w : World) (b : Nat) (u0 u1 u2 u3 u4 : Value) : World := ((((w.setCell ⟨b, 0, none⟩ u0).setCell ⟨b, 1, none⟩ u1).setCell ⟨b, 2, none⟩ u2).setCell ⟨b, 3, none⟩ u3).setCell ⟨b, 4, none⟩ u4
theorem five_set {w : World} {b : Nat} {v0 v1 v2 v3 v4 : Value} (h : Five w b v0 v1 v2 v3 v4) (u0 u1 u2 u3 u4 : Value) : Five (put5 w b u0 u1 u2 u3 u4) b u0 u1 u2 u3 u4 := by
  unfold Five at *
  have h0 := heap_setCell_same w b 0 _ _ u0 h
  have h1 := heap_setCell_same _ b 1 _ _ u1 h0
  have h2 := heap_setCell_same _ b 2 _ _ u2 h1
  have h3 := heap_setCell_same _ b 3 _ _ u3 h2
  exact heap_setCell_same _ b 4 _ _ u4 h3
theorem below_put5 {n b : Nat} {w w' : World} (h : Below n w w') (hb : n ≤ b) (u0 u1 u2 u3 u4 : Value) : Below n w (put5 w' b u0 u1 u2 u3 u4) :=
  ((((h.setCell (p := ⟨b, 0, none⟩) hb u0).setCell (p := ⟨b, 1, none⟩) hb u1).setCell (p := ⟨b, 2, none⟩) hb u2).setCell (p := ⟨b, 3, none⟩) hb u3).setCell (p := ⟨b, 4, none⟩) hb u4
theorem ret5 {f : Func} {R : Ending → World → Prop} {a : Act} {w : World} {b : Nat} {u0 u1 u2 u3 u4 : Value} (hf : f.results = #[.cell 4 199]) (ht : a.eval (.tmp 4) = .pointer (some ⟨b, 0, none⟩)) (hd : a.defers = [])
    (h : Five w b u0 u1 u2 u3 u4) (hR : R (.returned (.agg #[u0, u1, u2, u3, u4])) w) : bodyPost Tryz.prog f R Exit.ret a w := by
  obtain ⟨⟨c0, c1, c2, c3, c4⟩, -⟩ := five_of h
  refine bodyPost_ret ?_ hd hR
  simp [Act.eval] at ht
  simp [results, hf, go_sem, c0, c1, c2, c3, c4, ht]
def GapTo (s : ByteArray) (a i : Nat) : Prop := a ≤ i ∧ i ≤ s.size ∧ pieces a (s.data.toList.drop a) = pieces i (s.data.toList.drop i)
theorem GapTo.blanks {s : ByteArray} {a i : Nat} (h : GapTo s a i) : GapTo s a (i + spanLen isBlank (s.data.toList.drop i)) := by
  obtain ⟨h1, h2, h3⟩ := h
  have hle := spanLen_le isBlank (s.data.toList.drop i)
  rw [List.length_drop, ← Lib.size_eq] at hle
  refine ⟨by omega, by omega, ?_⟩
  rw [h3, pieces_blanks i, List.drop_drop]
theorem GapTo.remark {s : ByteArray} {a i : Nat} (h : GapTo s a i) (hi : i < s.size) (hc : s[i].toNat = 35) : GapTo s a (i + spanLen isInLine (s.data.toList.drop i)) ∧ i < i + spanLen isInLine (s.data.toList.drop i) := by
  obtain ⟨h1, h2, h3⟩ := h
  have hle := spanLen_le isInLine (s.data.toList.drop i)
  rw [List.length_drop, ← Lib.size_eq] at hle
  have hc' : s[i] = 35 := u8_ext hc
  have hd := drop_data hi
  rw [hc'] at hd
  refine ⟨⟨by omega, by omega, ?_⟩, ?_⟩
  · rw [h3, hd, pieces_remark i, ← hd, List.drop_drop]
  · rw [hd]
    have := spanLen_pos (p := isInLine) (s.data.toList.drop (i + 1)) hash_line
    omega
theorem blank_end {s : ByteArray} {i : Nat} (h : i + spanLen isBlank (s.data.toList.drop i) < s.size) : isBlank (s[i + spanLen isBlank (s.data.toList.drop i)]) = false := by
  refine spanLen_end isBlank (s.data.toList.drop i) _ ?_
  rw [List.getElem?_drop]
  exact get_data h
set_option maxHeartbeats 1000000 in
theorem gapEnd_any (s : ByteArray) (a : Nat) (ha : a ≤ s.size) (hs : s.size ≤ 281474976710656) (w : World) :
    Calls Tryz.prog 172 #[.string s, .int .i64 a] w fun e w' => ∃ i : Nat, e = .returned (.int .i64 (i : Int)) ∧ GapTo s a i ∧ (∀ h : i < s.size, isBlank s[i] = false ∧ s[i] ≠ 35) ∧ Below w.heap.size w w' := by
  go_enter Tryz.func172, Tryz.ntmps172
  go_wp2_with fail
  go_loopw [1] (fun s1 wr => ∃ i : Nat, s1 = .int .i64 (i : Int) ∧ GapTo s a i ∧ Below w.heap.size w wr) (fun s1 _ => s.size - (intOf s1).toNat)
  case atStart => exact ⟨a, rfl, ⟨Nat.le_refl _, ha, rfl⟩, Below.refl _ _⟩
  case round =>
    obtain ⟨i, rfl, hg, hB⟩ := hrel
    obtain ⟨k, hik, hg1, he1, hr1⟩ : ∃ k, i ≤ k ∧ GapTo s a k ∧ (∀ h : k < s.size, isBlank s[k] = false) ∧ Calls Tryz.prog 200 #[.string s, .int .i64 i, .func (.func 201) #[] #[]] wr fun e w' => e = .returned (.int .i64 (k : Int)) ∧ Below wr.heap.size wr w' :=
      ⟨_, Nat.le_add_right _ _, hg.blanks, fun h => blank_end h, runEnd_any s i 201 isBlank eg29 isBlank_any hg.2.1 hs wr⟩
    have HG1 := Lib.hid hg1
    have HR1 := Lib.hid hr1
    have HE1 := Lib.hid he1
    have hi := hg.2.1
    have hks := hg1.2.1
    clear hg1 hr1 he1 hg
    by_cases hk : k = s.size
    · subst hk
      go_wp2_with (go_at_call 200; refine HR1.out.mono ?_; rintro e w1 ⟨rfl, hB1⟩)
      go_ret
      exact ⟨s.size, rfl, HG1.out, fun h => by omega, hB.trans (hB1.mono hB.size)⟩
    · have hk1 : k < s.size := by omega
      have hk2 : ((k : Int) == (s.size : Int)) = false := by simp; omega
      have hk3 : ¬ (k : Int) = (s.size : Int) := by omega
      by_cases hc : s[k].toNat = 35
      · obtain ⟨k2, hg2, hkk, hr2⟩ : ∃ k2, GapTo s a k2 ∧ k < k2 ∧ ∀ wr, Calls Tryz.prog 200 #[.string s, .int .i64 k, .func (.func 202) #[] #[]] wr fun e w' => e = .returned (.int .i64 (k2 : Int)) ∧ Below wr.heap.size wr w' :=
          ⟨_, (HG1.out.remark hk1 hc).1, (HG1.out.remark hk1 hc).2, fun wr => runEnd_any s k 202 isInLine eg30 isInLine_any hks hs wr⟩
        have hcc : ((s[k].toNat : Int) == 35) = true := by simp; omega
        have hcd : (s[k].toNat : Int) = 35 := by omega
        have hk4 := hg2.2.1
        have HG2 := Lib.hid hg2
        have HR2 := Lib.hid hr2
        clear hg2 hr2 hc
        go_wp2_with fail
        refine HR1.out.mono ?_
        rintro e w1 ⟨rfl, hB1⟩
        go_wp2_with fail
        refine (HR2.out _).mono ?_
        rintro e w2 ⟨rfl, hB2⟩
        go_wp2_with fail
        go_roundw
        case rel => exact ⟨k2, rfl, HG2.out, (hB.trans (hB1.mono hB.size)).trans (hB2.mono (Nat.le_trans hB.size hB1.size))⟩
        case measure => simp [intOf]; omega
      · have hcc : ((s[k].toNat : Int) == 35) = false := by simp; omega
        have hcd : ¬ (s[k].toNat : Int) = 35 := by omega
        go_wp2_with (go_at_call 200; refine HR1.out.mono ?_; rintro e w1 ⟨rfl, hB1⟩)
        go_ret
        exact ⟨k, rfl, HG1.out, fun h => ⟨HE1.out h, fun e => hc (by rw [e]; rfl)⟩, hB.trans (hB1.mono hB.size)⟩
set_option maxHeartbeats 1000000 in
theorem nameAt_any (s : ByteArray) (a : Nat) (ha : a ≤ s.size) (hs : s.size ≤ 281474976710656) (w : World) :
    Calls Tryz.prog 204 #[.string s, .int .i64 a] w fun e w' => e = .returned (pieceV (wordKind ((s.data.toList.drop a).take (spanLen isPart (s.data.toList.drop a)))) a (s.extract a (a + spanLen isPart (s.data.toList.drop a))) ((a + spanLen isPart (s.data.toList.drop a) : Nat) : Int) 0) ∧ Below w.heap.size w w' := by
  have hle := spanLen_le isPart (s.data.toList.drop a)
  rw [List.length_drop, ← Lib.size_eq] at hle
  have hr1 := runEnd_any s a 224 isPart eg41 isNamePart_any ha hs
  have hx : (s.extract a (a + spanLen isPart (s.data.toList.drop a))).data.toList = (s.data.toList.drop a).take (spanLen isPart (s.data.toList.drop a)) := by rw [Lib.extract_data, Nat.add_sub_cancel_left]
  rw [← hx]
  clear hx
  obtain ⟨b, hb⟩ : ∃ b, b = a + spanLen isPart (s.data.toList.drop a) := ⟨_, rfl⟩
  simp only [← hb] at hr1 ⊢
  have hab : a ≤ b := by omega
  have hbs : b ≤ s.size := by omega
  have HR := Lib.hid hr1
  clear hb hle hr1
  cases hw : isWordB (s.extract a b).data.toList with
  | true =>
    simp only [wordKind, hw, if_true]
    have HW := Lib.hid hw
    clear hw
    go_enter Tryz.func204, Tryz.ntmps204
    go_wp2_with fail
    refine (HR.out _).mono ?_
    rintro e w1 ⟨rfl, hB1⟩
    go_wp2_with fail
    refine (isWord_any _ _).mono ?_
    rintro e w2 ⟨rfl, rfl⟩
    rw [HW.out]
    go_wp2_with fail
    refine (tokenAt_any _ _ _ _ hab hbs _).mono ?_
    rintro e w2 ⟨rfl, hB2⟩
    have h5 := five_kept (five_new w _ _ _ _ _) (hB1.trans (hB2.mono hB1.size)) (by simp)
    obtain ⟨⟨c0, c1, c2, c3, c4⟩, f0, f1, f2, f3, f4⟩ := five_of h5
    have hB3 := ((Below.refl w.heap.size w).alloc (Nat.le_refl _) _).trans ((hB1.trans (hB2.mono hB1.size)).mono (by simp))
    have HB3 := Lib.hid hB3
    clear hB1 hB2 hB3
    unfold pieceV
    go_wp2_with fail
    exact ret5 rfl rfl rfl (five_set h5 _ _ _ _ _) ⟨rfl, below_put5 HB3.out (Nat.le_refl _) _ _ _ _ _⟩
  | false =>
    simp only [wordKind, hw, Bool.false_eq_true, if_false]
    have HW := Lib.hid hw
    clear hw
    go_enter Tryz.func204, Tryz.ntmps204
    go_wp2_with fail
    refine (HR.out _).mono ?_
    rintro e w1 ⟨rfl, hB1⟩
    go_wp2_with fail
    refine (isWord_any _ _).mono ?_
    rintro e w2 ⟨rfl, rfl⟩
    rw [HW.out]
    go_wp2_with fail
    refine (tokenAt_any _ _ _ _ hab hbs _).mono ?_
    rintro e w2 ⟨rfl, hB2⟩
    have h5 := five_kept (five_new w _ _ _ _ _) (hB1.trans (hB2.mono hB1.size)) (by simp)
    obtain ⟨⟨c0, c1, c2, c3, c4⟩, f0, f1, f2, f3, f4⟩ := five_of h5
    have hB3 := ((Below.refl w.heap.size w).alloc (Nat.le_refl _) _).trans ((hB1.trans (hB2.mono hB1.size)).mono (by simp))
    have HB3 := Lib.hid hB3
    clear hB1 hB2 hB3
    unfold pieceV
    go_wp2_with fail
    exact ret5 rfl rfl rfl (five_set h5 _ _ _ _ _) ⟨rfl, below_put5 HB3.out (Nat.le_refl _) _ _ _ _ _⟩
def numT (t : ByteArray) : ByteArray := if 18 < t.size then ⟨#[48]⟩ else t
def numD (t : ByteArray) : Nat := if 18 < t.size then 13 else 0
set_option maxHeartbeats 4000000 in
theorem numberAt_any (s : ByteArray) (a : Nat) (ha : a ≤ s.size) (hs : s.size ≤ 281474976710656) (w : World) :
    Calls Tryz.prog 206 #[.string s, .int .i64 a] w fun e w' => e = .returned (pieceV 3 a (numT (s.extract a (a + spanLen isDig (s.data.toList.drop a)))) ((a + spanLen isDig (s.data.toList.drop a) : Nat) : Int) (numD (s.extract a (a + spanLen isDig (s.data.toList.drop a))))) ∧ Below w.heap.size w w' := by
  have hle := spanLen_le isDig (s.data.toList.drop a)
  rw [List.length_drop, ← Lib.size_eq] at hle
  have hr1 := runEnd_any s a 205 isDig eg33 isDigit_any ha hs
  obtain ⟨b, hb⟩ : ∃ b, b = a + spanLen isDig (s.data.toList.drop a) := ⟨_, rfl⟩
  simp only [← hb] at hr1 ⊢
  have hab : a ≤ b := by omega
  have hbs : b ≤ s.size := by omega
  have HR := Lib.hid hr1
  have ht := tokenAt_any 3 s a b hab hbs
  obtain ⟨t, hte⟩ : ∃ t, t = s.extract a b := ⟨_, rfl⟩
  rw [← hte] at ht ⊢
  have HT := Lib.hid ht
  clear hb hle hr1 hte ht
  by_cases h18 : 18 < t.size
  · simp only [numT, numD, h18, if_true]
    have h18' : (18 : Int) < (t.size : Int) := by omega
    go_enter Tryz.func206, Tryz.ntmps206
    go_wp2_with fail
    refine (HR.out _).mono ?_
    rintro e w1 ⟨rfl, hB1⟩
    go_wp2_with fail
    refine (HT.out _).mono ?_
    rintro e w2 ⟨rfl, hB2⟩
    have h5 := five_kept (five_new w _ _ _ _ _) (hB1.trans (hB2.mono hB1.size)) (by simp)
    have hB3 := ((Below.refl w.heap.size w).alloc (Nat.le_refl _) _).trans ((hB1.trans (hB2.mono hB1.size)).mono (by simp))
    have hlt : w.heap.size < w2.heap.size := by have := hB1.size; have := hB2.size; simp at *; omega
    have hne : ¬ w.heap.size = w2.heap.size := by omega
    obtain ⟨⟨c0, c1, c2, c3, c4⟩, f0, f1, f2, f3, f4⟩ := five_of h5
    have HB3 := Lib.hid hB3
    clear hB1 hB2 hB3
    unfold pieceV
    go_wp2_with fail
    exact ret5 rfl rfl rfl (five_kept (five_set h5 _ _ _ _ _) ((Below.refl _ _).alloc (Nat.le_refl _) _) (by simpa using hlt)) ⟨rfl, (below_put5 HB3.out (Nat.le_refl _) _ _ _ _ _).alloc (by simp; omega) _⟩
  · simp only [numT, numD, h18, if_false]
    have h18' : ¬ (18 : Int) < (t.size : Int) := by omega
    have h18'' : decide ((18 : Int) < (t.size : Int)) = false := by simpa using h18'
    go_enter Tryz.func206, Tryz.ntmps206
    go_wp2_with fail
    refine (HR.out _).mono ?_
    rintro e w1 ⟨rfl, hB1⟩
    go_wp2_with fail
    refine (HT.out _).mono ?_
    rintro e w2 ⟨rfl, hB2⟩
    have h5 := five_kept (five_new w _ _ _ _ _) (hB1.trans (hB2.mono hB1.size)) (by simp)
    have hB3 := ((Below.refl w.heap.size w).alloc (Nat.le_refl _) _).trans ((hB1.trans (hB2.mono hB1.size)).mono (by simp))
    have hlt : w.heap.size < w2.heap.size := by have := hB1.size; have := hB2.size; simp at *; omega
    have hne : ¬ w.heap.size = w2.heap.size := by omega
    obtain ⟨⟨c0, c1, c2, c3, c4⟩, f0, f1, f2, f3, f4⟩ := five_of h5
    have HB3 := Lib.hid hB3
    clear hB1 hB2 hB3
    unfold pieceV
    go_wp2_with fail
    exact ret5 rfl rfl rfl (five_kept (five_set h5 _ _ _ _ _) ((Below.refl _ _).alloc (Nat.le_refl _) _) (by simpa using hlt)) ⟨rfl, (below_put5 HB3.out (Nat.le_refl _) _ _ _ _ _).alloc (by simp; omega) _⟩
def txtK (s : ByteArray) (b : Nat) : Nat := if s.data.toList[b]? = some 34 then 4 else 0
def txtT (s : ByteArray) (a b : Nat) : ByteArray := if s.data.toList[b]? = some 34 then s.extract (a + 1) b else ⟨#[]⟩
def txtE (s : ByteArray) (b : Nat) : Nat := if s.data.toList[b]? = some 34 then b + 1 else b
def txtD (s : ByteArray) (b : Nat) : Nat := if s.data.toList[b]? = some 34 then 0 else 1
set_option maxHeartbeats 1000000 in
theorem textAt_any (s : ByteArray) (a : Nat) (ha : a < s.size) (hs : s.size ≤ 281474976710656) (w : World) :
    Calls Tryz.prog 207 #[.string s, .int .i64 a] w fun e w' => ∃ b, b = a + 1 + spanLen isInText (s.data.toList.drop (a + 1)) ∧ e = .returned (pieceV (txtK s b) a (txtT s a b) (txtE s b : Nat) (txtD s b)) ∧ Below w.heap.size w w' := by
  have hle := spanLen_le isInText (s.data.toList.drop (a + 1))
  rw [List.length_drop, ← Lib.size_eq] at hle
  have hr1 := runEnd_any s (a + 1) 226 isInText eg43 isInText_any (by omega) hs
  obtain ⟨b, hb⟩ : ∃ b, b = a + 1 + spanLen isInText (s.data.toList.drop (a + 1)) := ⟨_, rfl⟩
  simp only [← hb] at hr1
  have hab : a + 1 ≤ b := by omega
  have hbs : b ≤ s.size := by omega
  have HR := Lib.hid hr1
  have HB := Lib.hid hb
  clear hb hle hr1
  by_cases hbe : b = s.size
  · have hn : s.data.toList[b]? = none := by rw [hbe, Lib.size_eq]; simp
    have e1 : txtK s b = 0 := by rw [txtK, if_neg (by rw [hn]; simp)]
    have e2 : txtT s a b = ⟨#[]⟩ := by rw [txtT, if_neg (by rw [hn]; simp)]
    have e3 : txtE s b = b := by rw [txtE, if_neg (by rw [hn]; simp)]
    have e4 : txtD s b = 1 := by rw [txtD, if_neg (by rw [hn]; simp)]
    have fin : Calls Tryz.prog 207 #[.string s, .int .i64 a] w fun e w' => e = .returned (pieceV 0 a ⟨#[]⟩ b 1) ∧ Below w.heap.size w w' := by
      clear e1 e2 e3 e4 hn HB
      subst hbe
      go_enter Tryz.func207, Tryz.ntmps207
      go_wp2_with fail
      refine (HR.out _).mono ?_
      rintro e w1 ⟨rfl, hB1⟩
      go_wp2_with fail
      refine (nothingAt_any _ _ _).mono ?_
      rintro e w2 ⟨rfl, hB2⟩
      have h5 := five_kept (five_new w _ _ _ _ _) (hB1.trans (hB2.mono hB1.size)) (by simp)
      obtain ⟨⟨c0, c1, c2, c3, c4⟩, f0, f1, f2, f3, f4⟩ := five_of h5
      have hB3 := ((Below.refl w.heap.size w).alloc (Nat.le_refl _) _).trans ((hB1.trans (hB2.mono hB1.size)).mono (by simp))
      have HB3 := Lib.hid hB3
      clear hB1 hB2 hB3
      unfold pieceV
      go_wp2_with fail
      exact ret5 rfl rfl rfl (five_set h5 _ _ _ _ _) ⟨rfl, below_put5 HB3.out (Nat.le_refl _) _ _ _ _ _⟩
    refine fin.mono ?_
    rintro e w' ⟨rfl, h⟩
    exact ⟨b, HB.out, by rw [e1, e2, e3, e4]; rfl, h⟩
  · have hbl : b < s.size := by omega
    have hg := get_data hbl
    have hk2 : ((b : Int) == (s.size : Int)) = false := by simp; omega
    have hk3 : ¬ (b : Int) = (s.size : Int) := by omega
    by_cases hc : s[b].toNat = 34
    · have hn : s.data.toList[b]? = some 34 := by rw [hg]; congr 1; exact u8_ext hc
      have e1 : txtK s b = 4 := by rw [txtK, if_pos hn]
      have e2 : txtT s a b = s.extract (a + 1) b := by rw [txtT, if_pos hn]
      have e3 : txtE s b = b + 1 := by rw [txtE, if_pos hn]
      have e4 : txtD s b = 0 := by rw [txtD, if_pos hn]
      have fin : Calls Tryz.prog 207 #[.string s, .int .i64 a] w fun e w' => e = .returned (pieceV 4 a (s.extract (a + 1) b) ((b : Int) + 1) 0) ∧ Below w.heap.size w w' := by
        have hcc : ((s[b].toNat : Int) == 34) = true := by simp; omega
        have hcd : (s[b].toNat : Int) = 34 := by omega
        clear e1 e2 e3 e4 hn HB hg hc
        go_enter Tryz.func207, Tryz.ntmps207
        go_wp2_with fail
        refine (HR.out _).mono ?_
        rintro e w1 ⟨rfl, hB1⟩
        have h5 := five_kept (five_new w _ _ _ _ _) hB1 (by simp)
        obtain ⟨⟨c0, c1, c2, c3, c4⟩, f0, f1, f2, f3, f4⟩ := five_of h5
        have hB3 := ((Below.refl w.heap.size w).alloc (Nat.le_refl _) _).trans (hB1.mono (by simp))
        have HB3 := Lib.hid hB3
        clear hB1 hB3
        go_wp2_with fail
        exact ret5 rfl rfl rfl (five_set h5 _ _ _ _ _) ⟨rfl, below_put5 HB3.out (Nat.le_refl _) _ _ _ _ _⟩
      refine fin.mono ?_
      rintro e w' ⟨rfl, h⟩
      exact ⟨b, HB.out, by rw [e1, e2, e3, e4]; rfl, h⟩
    · have hn : ¬ s.data.toList[b]? = some 34 := by
        rw [hg]; intro e; apply hc; rw [Option.some.inj e]; rfl
      have e1 : txtK s b = 0 := by rw [txtK, if_neg hn]
      have e2 : txtT s a b = ⟨#[]⟩ := by rw [txtT, if_neg hn]
      have e3 : txtE s b = b := by rw [txtE, if_neg hn]
      have e4 : txtD s b = 1 := by rw [txtD, if_neg hn]
      have fin : Calls Tryz.prog 207 #[.string s, .int .i64 a] w fun e w' => e = .returned (pieceV 0 a ⟨#[]⟩ b 1) ∧ Below w.heap.size w w' := by
        have hcc : ((s[b].toNat : Int) == 34) = false := by simp; omega
        have hcd : ¬ (s[b].toNat : Int) = 34 := by omega
        clear e1 e2 e3 e4 hn HB hg hc
        go_enter Tryz.func207, Tryz.ntmps207
        go_wp2_with fail
        refine (HR.out _).mono ?_
        rintro e w1 ⟨rfl, hB1⟩
        go_wp2_with fail
        refine (nothingAt_any _ _ _).mono ?_
        rintro e w2 ⟨rfl, hB2⟩
        have h5 := five_kept (five_new w _ _ _ _ _) (hB1.trans (hB2.mono hB1.size)) (by simp)
        obtain ⟨⟨c0, c1, c2, c3, c4⟩, f0, f1, f2, f3, f4⟩ := five_of h5
        have hB3 := ((Below.refl w.heap.size w).alloc (Nat.le_refl _) _).trans ((hB1.trans (hB2.mono hB1.size)).mono (by simp))
        have HB3 := Lib.hid hB3
        clear hB1 hB2 hB3
        unfold pieceV
        go_wp2_with fail
        exact ret5 rfl rfl rfl (five_set h5 _ _ _ _ _) ⟨rfl, below_put5 HB3.out (Nat.le_refl _) _ _ _ _ _⟩
      refine fin.mono ?_
      rintro e w' ⟨rfl, h⟩
      exact ⟨b, HB.out, by rw [e1, e2, e3, e4]; rfl, h⟩
end Go.Proofs.YtijnjoonbjdafaaGreatDoor
namespace Go.Proofs.YtijnjoonbjdafaaGreatDoor
set_option maxRecDepth 20000
open Go.RowKit Go.Shelf
def pcV (x : Pc) : Value := pieceV x.s.k x.at_ ⟨x.s.t.toArray⟩ ((x.at_ + x.s.n : Nat) : Int) x.s.d
theorem mk_ext (s : ByteArray) (a b : Nat) : s.extract a b = ⟨((s.data.toList.drop a).take (b - a)).toArray⟩ := Lib.extract_eq s a b
theorem tokenAt_int (k : Int) (s : ByteArray) (a b : Nat) (e : Int) (he : e = ((b : Nat) : Int)) (hab : a ≤ b) (hb : b ≤ s.size) (w : World) :
    Calls Tryz.prog 209 #[.int .i64 k, .string s, .int .i64 a, .int .i64 e] w fun e w' => e = .returned (pieceV k a (s.extract a b) ((b : Nat) : Int) 0) ∧ Below w.heap.size w w' := by
  rw [he]; exact tokenAt_any k s a b hab hb w
theorem nothingAt_int (a b : Nat) (e : Int) (he : e = ((b : Nat) : Int)) (w : World) :
    Calls Tryz.prog 211 #[.int .i64 a, .int .i64 e] w fun e w' => e = .returned (pieceV 0 a ⟨#[]⟩ ((b : Nat) : Int) 1) ∧ Below w.heap.size w w' := by
  rw [he]; exact nothingAt_any a b w
theorem arrow_iff {s : ByteArray} {a : Nat} (h : a < s.size) : Lib.hasPrefix (s.extract a s.size).data.toList [45, 62] = decide (s[a] = 45 ∧ (s.data.toList.drop (a + 1)).head? = some 62) := by
  rw [Lib.extract_data, List.take_of_length_le (by rw [List.length_drop, ← Lib.size_eq]; exact Nat.le_refl _), drop_data h, Bool.eq_iff_iff]
  unfold Lib.hasPrefix
  rw [decide_eq_true_iff]
  cases h2 : s.data.toList.drop (a + 1) with
  | nil => simp [List.isPrefixOf]
  | cons x r =>
    simp [List.isPrefixOf]
    constructor
    · rintro ⟨h1, h2⟩; exact ⟨h1.symm, h2.symm⟩
    · rintro ⟨h1, h2⟩; exact ⟨h1.symm, h2.symm⟩
set_option maxHeartbeats 2000000 in
theorem pieceAt_1 (s : ByteArray) (a : Nat) (ha : a < s.size) (_hs : s.size ≤ 281474976710656) (h1 : isStart s[a] = true) (k e d : Int) (t : ByteArray)
    (hc : ∀ w, Calls Tryz.prog 204 #[.string s, .int .i64 a] w fun x w' => x = .returned (pieceV k a t e d) ∧ Below w.heap.size w w') (w : World) :
    Calls Tryz.prog 173 #[.string s, .int .i64 a] w fun x w' => x = .returned (pieceV k a t e d) ∧ Below w.heap.size w w' := by
  have H1 := Lib.hid h1
  clear h1
  have HC := Lib.hid hc
  clear hc
  go_enter Tryz.func173, Tryz.ntmps173
  go_wp2_with fail
  refine (isNameStart_any _ _).mono ?_
  rintro e w1 ⟨rfl, rfl⟩
  rw [H1.out]
  go_wp2_with fail
  refine (HC.out _).mono ?_
  rintro e w1 ⟨rfl, hB1⟩
  have h5 := five_kept (five_new w _ _ _ _ _) hB1 (by simp)
  obtain ⟨⟨c0, c1, c2, c3, c4⟩, f0, f1, f2, f3, f4⟩ := five_of h5
  have HB3 := Lib.hid (((Below.refl w.heap.size w).alloc (Nat.le_refl _) _).trans (hB1.mono (by simp)))
  clear hB1
  unfold pieceV
  go_wp2_with fail
  exact ret5 rfl rfl rfl (five_set h5 _ _ _ _ _) ⟨rfl, below_put5 HB3.out (Nat.le_refl _) _ _ _ _ _⟩
set_option maxHeartbeats 2000000 in
theorem pieceAt_2 (s : ByteArray) (a : Nat) (ha : a < s.size) (_hs : s.size ≤ 281474976710656) (h1 : isStart s[a] = false) (h2 : isDig s[a] = true) (k e d : Int) (t : ByteArray)
    (hc : ∀ w, Calls Tryz.prog 206 #[.string s, .int .i64 a] w fun x w' => x = .returned (pieceV k a t e d) ∧ Below w.heap.size w w') (w : World) :
    Calls Tryz.prog 173 #[.string s, .int .i64 a] w fun x w' => x = .returned (pieceV k a t e d) ∧ Below w.heap.size w w' := by
  have H1 := Lib.hid h1
  clear h1
  have H2 := Lib.hid h2
  clear h2
  have HC := Lib.hid hc
  clear hc
  go_enter Tryz.func173, Tryz.ntmps173
  go_wp2_with fail
  refine (isNameStart_any _ _).mono ?_
  rintro e w1 ⟨rfl, rfl⟩
  rw [H1.out]
  go_wp2_with fail
  refine (isDigit_any _ _).mono ?_
  rintro e w1 ⟨rfl, rfl⟩
  rw [H2.out]
  go_wp2_with fail
  refine (HC.out _).mono ?_
  rintro e w1 ⟨rfl, hB1⟩
  have h5 := five_kept (five_new w _ _ _ _ _) hB1 (by simp)
  obtain ⟨⟨c0, c1, c2, c3, c4⟩, f0, f1, f2, f3, f4⟩ := five_of h5
  have HB3 := Lib.hid (((Below.refl w.heap.size w).alloc (Nat.le_refl _) _).trans (hB1.mono (by simp)))
  clear hB1
  unfold pieceV
  go_wp2_with fail
  exact ret5 rfl rfl rfl (five_set h5 _ _ _ _ _) ⟨rfl, below_put5 HB3.out (Nat.le_refl _) _ _ _ _ _⟩
set_option maxHeartbeats 2000000 in
theorem pieceAt_3 (s : ByteArray) (a : Nat) (ha : a < s.size) (_hs : s.size ≤ 281474976710656) (h1 : isStart s[a] = false) (h2 : isDig s[a] = false) (h3 : s[a].toNat = 34) (k e d : Int) (t : ByteArray)
    (hc : ∀ w, Calls Tryz.prog 207 #[.string s, .int .i64 a] w fun x w' => x = .returned (pieceV k a t e d) ∧ Below w.heap.size w w') (w : World) :
    Calls Tryz.prog 173 #[.string s, .int .i64 a] w fun x w' => x = .returned (pieceV k a t e d) ∧ Below w.heap.size w w' := by
  have H1 := Lib.hid h1
  clear h1
  have H2 := Lib.hid h2
  clear h2
  have H3 := Lib.hid h3
  clear h3
  have HC := Lib.hid hc
  clear hc
  go_enter Tryz.func173, Tryz.ntmps173
  go_wp2_with fail
  refine (isNameStart_any _ _).mono ?_
  rintro e w1 ⟨rfl, rfl⟩
  rw [H1.out]
  go_wp2_with fail
  refine (isDigit_any _ _).mono ?_
  rintro e w1 ⟨rfl, rfl⟩
  rw [H2.out]
  have h3a : ((s[a].toNat : Int) == 34) = true := by have := H3.out; simp; omega
  have h3b : (s[a].toNat : Int) = 34 := by have := H3.out; omega
  go_wp2_with fail
  refine (HC.out _).mono ?_
  rintro e w1 ⟨rfl, hB1⟩
  have h5 := five_kept (five_new w _ _ _ _ _) hB1 (by simp)
  obtain ⟨⟨c0, c1, c2, c3, c4⟩, f0, f1, f2, f3, f4⟩ := five_of h5
  have HB3 := Lib.hid (((Below.refl w.heap.size w).alloc (Nat.le_refl _) _).trans (hB1.mono (by simp)))
  clear hB1
  unfold pieceV
  go_wp2_with fail
  exact ret5 rfl rfl rfl (five_set h5 _ _ _ _ _) ⟨rfl, below_put5 HB3.out (Nat.le_refl _) _ _ _ _ _⟩
set_option maxHeartbeats 2000000 in
theorem pieceAt_4 (s : ByteArray) (a : Nat) (ha : a < s.size) (hs : s.size ≤ 281474976710656) (h1 : isStart s[a] = false) (h2 : isDig s[a] = false) (h3 : ¬ s[a].toNat = 34) (h4 : Lib.hasPrefix (s.extract a s.size).data.toList [45, 62] = true) (k e d : Int) (t : ByteArray)
    (hc : ∀ w, Calls Tryz.prog 209 #[.int .i64 5, .string s, .int .i64 a, .int .i64 ((a : Int) + 2)] w fun x w' => x = .returned (pieceV k a t e d) ∧ Below w.heap.size w w') (w : World) :
    Calls Tryz.prog 173 #[.string s, .int .i64 a] w fun x w' => x = .returned (pieceV k a t e d) ∧ Below w.heap.size w w' := by
  have H1 := Lib.hid h1
  clear h1
  have H2 := Lib.hid h2
  clear h2
  have h3a : ((s[a].toNat : Int) == 34) = false := by simp; omega
  have h3b : ¬ (s[a].toNat : Int) = 34 := by omega
  clear h3
  have H4 := Lib.hid h4
  clear h4
  have HC := Lib.hid hc
  clear hc
  go_enter Tryz.func173, Tryz.ntmps173
  go_wp2_with fail
  refine (isNameStart_any _ _).mono ?_
  rintro e w1 ⟨rfl, rfl⟩
  rw [H1.out]
  go_wp2_with fail
  refine (isDigit_any _ _).mono ?_
  rintro e w1 ⟨rfl, rfl⟩
  rw [H2.out]
  go_wp2_with fail
  refine (hasPrefix_any _ _ _).mono ?_
  rintro e w1 ⟨rfl, rfl⟩
  rw [H4.out]
  go_wp2_with fail
  refine (HC.out _).mono ?_
  rintro e w1 ⟨rfl, hB1⟩
  have h5 := five_kept (five_new w _ _ _ _ _) hB1 (by simp)
  obtain ⟨⟨c0, c1, c2, c3, c4⟩, f0, f1, f2, f3, f4⟩ := five_of h5
  have HB3 := Lib.hid (((Below.refl w.heap.size w).alloc (Nat.le_refl _) _).trans (hB1.mono (by simp)))
  clear hB1
  unfold pieceV
  go_wp2_with fail
  exact ret5 rfl rfl rfl (five_set h5 _ _ _ _ _) ⟨rfl, below_put5 HB3.out (Nat.le_refl _) _ _ _ _ _⟩
set_option maxHeartbeats 2000000 in
theorem pieceAt_5 (s : ByteArray) (a : Nat) (ha : a < s.size) (hs : s.size ≤ 281474976710656) (h1 : isStart s[a] = false) (h2 : isDig s[a] = false) (h3 : ¬ s[a].toNat = 34) (h4 : Lib.hasPrefix (s.extract a s.size).data.toList [45, 62] = false) (h5 : isSg s[a] = true) (k e d : Int) (t : ByteArray)
    (hc : ∀ w, Calls Tryz.prog 209 #[.int .i64 5, .string s, .int .i64 a, .int .i64 ((a : Int) + 1)] w fun x w' => x = .returned (pieceV k a t e d) ∧ Below w.heap.size w w') (w : World) :
    Calls Tryz.prog 173 #[.string s, .int .i64 a] w fun x w' => x = .returned (pieceV k a t e d) ∧ Below w.heap.size w w' := by
  have H1 := Lib.hid h1
  clear h1
  have H2 := Lib.hid h2
  clear h2
  have h3a : ((s[a].toNat : Int) == 34) = false := by simp; omega
  have h3b : ¬ (s[a].toNat : Int) = 34 := by omega
  clear h3
  have H4 := Lib.hid h4
  clear h4
  have H5 := Lib.hid h5
  clear h5
  have HC := Lib.hid hc
  clear hc
  go_enter Tryz.func173, Tryz.ntmps173
  go_wp2_with fail
  refine (isNameStart_any _ _).mono ?_
  rintro e w1 ⟨rfl, rfl⟩
  rw [H1.out]
  go_wp2_with fail
  refine (isDigit_any _ _).mono ?_
  rintro e w1 ⟨rfl, rfl⟩
  rw [H2.out]
  go_wp2_with fail
  refine (hasPrefix_any _ _ _).mono ?_
  rintro e w1 ⟨rfl, rfl⟩
  rw [H4.out]
  go_wp2_with fail
  refine (isSign_any _ _).mono ?_
  rintro e w1 ⟨rfl, rfl⟩
  rw [H5.out]
  go_wp2_with fail
  refine (HC.out _).mono ?_
  rintro e w1 ⟨rfl, hB1⟩
  have h5 := five_kept (five_new w _ _ _ _ _) hB1 (by simp)
  obtain ⟨⟨c0, c1, c2, c3, c4⟩, f0, f1, f2, f3, f4⟩ := five_of h5
  have HB3 := Lib.hid (((Below.refl w.heap.size w).alloc (Nat.le_refl _) _).trans (hB1.mono (by simp)))
  clear hB1
  unfold pieceV
  go_wp2_with fail
  exact ret5 rfl rfl rfl (five_set h5 _ _ _ _ _) ⟨rfl, below_put5 HB3.out (Nat.le_refl _) _ _ _ _ _⟩
set_option maxHeartbeats 2000000 in
theorem pieceAt_6 (s : ByteArray) (a : Nat) (ha : a < s.size) (hs : s.size ≤ 281474976710656) (h1 : isStart s[a] = false) (h2 : isDig s[a] = false) (h3 : ¬ s[a].toNat = 34) (h4 : Lib.hasPrefix (s.extract a s.size).data.toList [45, 62] = false) (h5 : isSg s[a] = false) (k e d : Int) (t : ByteArray)
    (hc : ∀ w, Calls Tryz.prog 211 #[.int .i64 a, .int .i64 ((a : Int) + 1)] w fun x w' => x = .returned (pieceV k a t e d) ∧ Below w.heap.size w w') (w : World) :
    Calls Tryz.prog 173 #[.string s, .int .i64 a] w fun x w' => x = .returned (pieceV k a t e d) ∧ Below w.heap.size w w' := by
  have H1 := Lib.hid h1
  clear h1
  have H2 := Lib.hid h2
  clear h2
  have h3a : ((s[a].toNat : Int) == 34) = false := by simp; omega
  have h3b : ¬ (s[a].toNat : Int) = 34 := by omega
  clear h3
  have H4 := Lib.hid h4
  clear h4
  have H5 := Lib.hid h5
  clear h5
  have HC := Lib.hid hc
  clear hc
  go_enter Tryz.func173, Tryz.ntmps173
  go_wp2_with fail
  refine (isNameStart_any _ _).mono ?_
  rintro e w1 ⟨rfl, rfl⟩
  rw [H1.out]
  go_wp2_with fail
  refine (isDigit_any _ _).mono ?_
  rintro e w1 ⟨rfl, rfl⟩
  rw [H2.out]
  go_wp2_with fail
  refine (hasPrefix_any _ _ _).mono ?_
  rintro e w1 ⟨rfl, rfl⟩
  rw [H4.out]
  go_wp2_with fail
  refine (isSign_any _ _).mono ?_
  rintro e w1 ⟨rfl, rfl⟩
  rw [H5.out]
  go_wp2_with fail
  refine (HC.out _).mono ?_
  rintro e w1 ⟨rfl, hB1⟩
  have h5 := five_kept (five_new w _ _ _ _ _) hB1 (by simp)
  obtain ⟨⟨c0, c1, c2, c3, c4⟩, f0, f1, f2, f3, f4⟩ := five_of h5
  have HB3 := Lib.hid (((Below.refl w.heap.size w).alloc (Nat.le_refl _) _).trans (hB1.mono (by simp)))
  clear hB1
  unfold pieceV
  go_wp2_with fail
  exact ret5 rfl rfl rfl (five_set h5 _ _ _ _ _) ⟨rfl, below_put5 HB3.out (Nat.le_refl _) _ _ _ _ _⟩
theorem numT_eq (l : Bs) : numT ⟨l.toArray⟩ = ⟨(if 18 < l.length then [48] else l).toArray⟩ := by
  unfold numT
  have : (⟨l.toArray⟩ : ByteArray).size = l.length := by rw [Lib.size_eq]
  rw [this]
  split <;> rfl
theorem numD_eq (l : Bs) : numD ⟨l.toArray⟩ = if 18 < l.length then 13 else 0 := by
  unfold numD
  have : (⟨l.toArray⟩ : ByteArray).size = l.length := by rw [Lib.size_eq]
  rw [this]
theorem stepOf_34 (r : Bs) : stepOf (34 :: r) = (if r[spanLen isInText r]? = some 34 then ⟨spanLen isInText r + 2, 4, r.take (spanLen isInText r), 0⟩ else ⟨spanLen isInText r + 1, 0, [], 1⟩) := by
  simp only [stepOf, show isBlank 34 = false by decide, show (34 : UInt8) ≠ 35 by decide, show isStart 34 = false by decide, show isDig 34 = false by decide, Bool.false_eq_true, if_false, if_true]
theorem stepOf_arrow (r : Bs) : stepOf (45 :: 62 :: r) = ⟨2, 5, [45, 62], 0⟩ := by
  simp only [stepOf, show isBlank 45 = false by decide, show (45 : UInt8) ≠ 35 by decide, show (45 : UInt8) ≠ 34 by decide, show isStart 45 = false by decide, show isDig 45 = false by decide, Bool.false_eq_true, if_false, if_true, List.head?_cons, and_self]
theorem pieceAt_any (s : ByteArray) (a : Nat) (ha : a < s.size) (hs : s.size ≤ 281474976710656) (hb : isBlank s[a] = false) (h35 : s[a] ≠ 35) (w : World) :
    Calls Tryz.prog 173 #[.string s, .int .i64 a] w fun e w' => e = .returned (pcV ⟨a, stepOf (s.data.toList.drop a)⟩) ∧ Below w.heap.size w w' := by
  have hd := drop_data ha
  have hl : (s.data.toList.drop a).length = s.size - a := by rw [List.length_drop, ← Lib.size_eq]
  cases h1 : isStart s[a] with
  | true =>
    have hst : stepOf (s.data.toList.drop a) = ⟨spanLen isPart (s.data.toList.drop a), wordKind ((s.data.toList.drop a).take (spanLen isPart (s.data.toList.drop a))), (s.data.toList.drop a).take (spanLen isPart (s.data.toList.drop a)), 0⟩ := by
      rw [hd]; simp only [stepOf, hb, h35, h1, Bool.false_eq_true, if_false, if_true]
    refine (pieceAt_1 s a ha hs h1 _ _ _ _ (nameAt_any s a (by omega) hs) w).mono ?_
    rintro e w' ⟨rfl, h⟩
    refine ⟨?_, h⟩
    rw [hst, pcV, mk_ext, Nat.add_sub_cancel_left]
    rfl
  | false =>
  cases h2 : isDig s[a] with
  | true =>
    have hst : stepOf (s.data.toList.drop a) = (if 18 < spanLen isDig (s.data.toList.drop a) then ⟨spanLen isDig (s.data.toList.drop a), 3, [48], 13⟩ else ⟨spanLen isDig (s.data.toList.drop a), 3, (s.data.toList.drop a).take (spanLen isDig (s.data.toList.drop a)), 0⟩) := by
      rw [hd]; simp only [stepOf, hb, h35, h1, h2, Bool.false_eq_true, if_false, if_true]
    refine (pieceAt_2 s a ha hs h1 h2 _ _ _ _ (numberAt_any s a (by omega) hs) w).mono ?_
    rintro e w' ⟨rfl, h⟩
    refine ⟨?_, h⟩
    have hle := spanLen_le isDig (s.data.toList.drop a)
    have ht : ((s.data.toList.drop a).take (spanLen isDig (s.data.toList.drop a))).length = spanLen isDig (s.data.toList.drop a) := by rw [List.length_take]; omega
    rw [hst, pcV, mk_ext, Nat.add_sub_cancel_left, numT_eq, numD_eq, ht]
    split <;> rfl
  | false =>
  by_cases h3 : s[a].toNat = 34
  · have h3' : s[a] = 34 := u8_ext h3
    have hr := textAt_any s a ha hs
    have hg : s.data.toList[a + 1 + spanLen isInText (s.data.toList.drop (a + 1))]? = (s.data.toList.drop (a + 1))[spanLen isInText (s.data.toList.drop (a + 1))]? := by rw [List.getElem?_drop]
    have hst : stepOf (s.data.toList.drop a) = (if (s.data.toList.drop (a + 1))[spanLen isInText (s.data.toList.drop (a + 1))]? = some 34 then ⟨spanLen isInText (s.data.toList.drop (a + 1)) + 2, 4, (s.data.toList.drop (a + 1)).take (spanLen isInText (s.data.toList.drop (a + 1))), 0⟩ else ⟨spanLen isInText (s.data.toList.drop (a + 1)) + 1, 0, [], 1⟩) := by
      rw [hd, h3', stepOf_34]
    refine (pieceAt_3 s a ha hs h1 h2 h3 (txtK s (a + 1 + spanLen isInText (s.data.toList.drop (a + 1)))) (txtE s (a + 1 + spanLen isInText (s.data.toList.drop (a + 1))) : Nat) (txtD s (a + 1 + spanLen isInText (s.data.toList.drop (a + 1)))) (txtT s a (a + 1 + spanLen isInText (s.data.toList.drop (a + 1)))) (fun w => (hr w).mono (by rintro x w' ⟨b, rfl, rfl, h⟩; exact ⟨rfl, h⟩)) w).mono ?_
    rintro e w' ⟨rfl, h⟩
    refine ⟨?_, h⟩
    rw [hst, txtK, txtE, txtD, txtT, hg]
    split
    · rw [pcV, mk_ext, Nat.add_sub_cancel_left]
      simp only [pieceV]
      rw [show a + 1 + spanLen isInText (s.data.toList.drop (a + 1)) + 1 = a + (spanLen isInText (s.data.toList.drop (a + 1)) + 2) by omega]
    · rw [pcV]
      simp only [pieceV]
      rw [show a + 1 + spanLen isInText (s.data.toList.drop (a + 1)) = a + (spanLen isInText (s.data.toList.drop (a + 1)) + 1) by omega]
  have h3' : s[a] ≠ 34 := fun e => h3 (by rw [e]; rfl)
  have hap := arrow_iff ha
  by_cases h4 : s[a] = 45 ∧ (s.data.toList.drop (a + 1)).head? = some 62
  · have hX : ∃ r, s.data.toList.drop (a + 1) = 62 :: r := by
      have := h4.2
      cases hX : s.data.toList.drop (a + 1) with
      | nil => rw [hX] at this; simp at this
      | cons x r => rw [hX] at this; simp at this; exact ⟨r, by rw [this]⟩
    obtain ⟨r, hX⟩ := hX
    have hlen : a + 2 ≤ s.size := by
      have := congrArg List.length hX
      rw [List.length_drop, ← Lib.size_eq, List.length_cons] at this
      omega
    rw [decide_eq_true h4] at hap
    have hst : stepOf (s.data.toList.drop a) = ⟨2, 5, [45, 62], 0⟩ := by
      rw [hd, h4.1, hX, stepOf_arrow]
    refine (pieceAt_4 s a ha hs h1 h2 h3 hap _ _ _ _ (tokenAt_int 5 s a (a + 2) ((a : Int) + 2) (by omega) (by omega) hlen) w).mono ?_
    rintro e w' ⟨rfl, h⟩
    refine ⟨?_, h⟩
    rw [hst, pcV, mk_ext, hd, hX, h4.1, Nat.add_sub_cancel_left]
    rfl
  rw [decide_eq_false h4] at hap
  cases h6 : isSg s[a] with
  | true =>
    have hst : stepOf (s.data.toList.drop a) = ⟨1, 5, [s[a]], 0⟩ := by
      rw [hd]; simp only [stepOf, hb, h35, h1, h2, h3', h4, h6, Bool.false_eq_true, if_false, if_true]
    refine (pieceAt_5 s a ha hs h1 h2 h3 hap h6 _ _ _ _ (tokenAt_int 5 s a (a + 1) ((a : Int) + 1) (by omega) (by omega) (by omega)) w).mono ?_
    rintro e w' ⟨rfl, h⟩
    refine ⟨?_, h⟩
    rw [hst, pcV, mk_ext, hd, Nat.add_sub_cancel_left]
    rfl
  | false =>
    have hst : stepOf (s.data.toList.drop a) = ⟨1, 0, [], 1⟩ := by
      rw [hd]; simp only [stepOf, hb, h35, h1, h2, h3', h4, h6, Bool.false_eq_true, if_false]
    refine (pieceAt_6 s a ha hs h1 h2 h3 hap h6 _ _ _ _ (nothingAt_int a (a + 1) ((a : Int) + 1) (by omega)) w).mono ?_
    rintro e w' ⟨rfl, h⟩
    refine ⟨?_, h⟩
    rw [hst, pcV]
    rfl
end Go.Proofs.YtijnjoonbjdafaaGreatDoor
namespace Go.Proofs.YtijnjoonbjdafaaGreatDoor
set_option maxRecDepth 20000
open Go.RowKit Go.Shelf
attribute [local go_sem] Oper.semAt_some
structure Kc (n₀ : Nat) (W W' : World) : Prop where
  below : Below n₀ W W'
  own : ∀ (k : Nat) (c : Array Value) (t : TypeId) (fz : Nat × Nat), t = 199 ∨ t = 9 → W.heap[k]? = some (.cells c t fz) → W'.heap[k]? = some (.cells c t fz)
theorem Kc.refl (n₀ : Nat) (W : World) : Kc n₀ W W := ⟨Below.refl _ _, fun _ _ _ _ _ h => h⟩
theorem Kc.trans {n₀ : Nat} {A B C : World} (h : Kc n₀ A B) (k : Kc n₀ B C) : Kc n₀ A C := ⟨h.below.trans k.below, fun i c t fz ht hi => k.own i c t fz ht (h.own i c t fz ht hi)⟩
theorem Kc.put {n₀ : Nat} {w : World} (hn : n₀ ≤ w.heap.size) (W : World) (l : Nat) (o o' : Obj) (hl : w.heap.size ≤ l) (h : W.heap[l]? = some o) (hc : o.isCells = false) (hw : o.isWalk = false) : Kc n₀ W (W.putObj l o') := by
  refine ⟨belowK_b hn W l o o' hl h hc hw, fun k c t fz _ hk => ?_⟩
  have hne : k ≠ l := by
    rintro rfl
    rw [h] at hk
    cases hk
    simp [Obj.isCells] at hc
  exact (World.putObj_heap_other hne).trans hk
theorem Kc.of_below {n₀ : Nat} {W W' : World} (h : Below W.heap.size W W') (hn : n₀ ≤ W.heap.size) : Kc n₀ W W' :=
  ⟨h.mono hn, fun k _ _ _ _ hk => (h.block k (Array.getElem?_eq_some_iff.1 hk).1).trans hk⟩
theorem Kc.alloc {n₀ : Nat} {w W : World} (h : Kc n₀ w W) (hn : n₀ ≤ W.heap.size) (o : Obj) : Kc n₀ w (W.alloc o) :=
  h.trans (Kc.of_below ((Below.refl _ _).alloc (Nat.le_refl _) _) hn)
theorem grown_of_below {W W' : World} (h : Below W.heap.size W W') : W.grownBy W' none := ⟨h.os, h.tape, h.output, h.size, fun k hk _ => h.block k hk⟩
abbrev PK : Type := { x : Pc // x.s.t.length ≤ 281474976710656 }
theorem lift_pcs : ∀ (l : List Pc), (∀ x ∈ l, x.s.t.length ≤ 281474976710656) → ∃ lα : List PK, lα.map Subtype.val = l
  | [], _ => ⟨[], rfl⟩
  | x :: r, h => by
    obtain ⟨lα, e⟩ := lift_pcs r (fun k hk => h k (by simp [hk]))
    exact ⟨⟨x, h x (by simp)⟩ :: lα, by simp [e]⟩
theorem stepOf_t (l : Bs) (hl : l ≠ []) : (stepOf l).t.length ≤ l.length := by
  cases l with
  | nil => exact absurd rfl hl
  | cons c r =>
    simp only [stepOf]
    split
    · simp
    split
    · simp
    split
    · simp only [List.length_take]; omega
    split
    · split
      · simp
      · simp only [List.length_take]; omega
    split
    · split
      · simp only [List.length_take, List.length_cons]; omega
      · simp
    split
    · rename_i h
      cases r with
      | nil => simp at h
      | cons x r => simp
    split <;> simp
theorem pcs_t : ∀ (N : Nat) (a : Nat) (l : Bs), l.length ≤ N → ∀ x ∈ pcs a l, x.s.t.length ≤ l.length
  | 0, a, l, h, x, hx => by
    have : l = [] := List.eq_nil_of_length_eq_zero (by omega)
    subst this
    rw [pcs_nil] at hx
    cases hx
  | N + 1, a, l, h, x, hx => by
    by_cases hl : l = []
    · subst hl
      rw [pcs_nil] at hx
      cases hx
    · rw [pcs_cons a l hl] at hx
      have hn := stepOf_n l hl
      rcases List.mem_cons.1 hx with rfl | hx
      · exact stepOf_t l hl
      · have := pcs_t N _ _ (by rw [List.length_drop]; omega) x hx
        rw [List.length_drop] at this
        omega
set_option maxRecDepth 100000 in
set_option maxHeartbeats 4000000 in
theorem pieces1_in (n : Nat) (hn : 1 ≤ n) (l Bs n₀ : Nat) (s : ByteArray) (hs : s.size ≤ 281474976710656) (xα : List PK) (hα : xα.map Subtype.val = pieces 0 s.data.toList)
    (J Jx : List PK → World → Prop) (B0 : Nat) (hJ : AbidesFrom B0 J)
    (hY : ∀ pre x W, J pre W → pre.length < xα.length → YieldAt Fence.wide (n - 1) Tryz.prog l #[pcV x.1] W fun e W' =>
      (e = .returned (.bool true) ∧ J (pre ++ [x]) W' ∧ Kc n₀ W W') ∨ (e = .returned (.bool false) ∧ Jx (pre ++ [x]) W'))
    (W : World) (hBs : W.heap[Bs]? = some (.cells #[.string s] 9 (0, 0))) (hW : n₀ ≤ W.heap.size) (h0 : J [] W) :
    CallsIn Fence.wide n Tryz.prog 171 #[.func (.yield l) #[] #[], .pointer (some ⟨Bs, 0, none⟩)] W fun e W' => (∃ v, e = .returned v) ∧
      ((∃ ys, ys = xα ∧ J ys W') ∨ (∃ pre, pre <+: xα ∧ Jx pre W')) := by
  have hcb := (cell_of_block hBs).1
  have HB := Lib.hid hBs
  clear hBs
  have hf25 : Fence.wide.fn 172 := trivial
  have hf26 : Fence.wide.fn 173 := trivial
  refine callsIn_of_wp Tryz.func171 rfl trivial ?_ rfl
  simp only [Tryz.ntmps171, List.size_toArray, List.length_cons, List.length_nil, Nat.reduceAdd, Nat.reduceSub, Array.replicate_succ, Array.replicate_zero, List.push_toArray, List.append_toArray, List.nil_append, List.cons_append]
  gi_wp2_with (gi_at_call 172; refine (callsIn_wide.2 (gapEnd_any s 0 (Nat.zero_le _) hs _)).mono ?_; rintro e w1 ⟨i0, rfl, hg0, he0, hb0⟩)
  have hJ0 : J [] w1 := hJ _ _ _ none h0 (grown_of_below hb0) (by simp)
  have hK0 : Kc n₀ W w1 := Kc.of_below hb0 hW
  have hp0 : xα.map Subtype.val = pieces i0 (s.data.toList.drop i0) := by rw [hα]; simpa using hg0.2.2
  have hi0 := hg0.2.1
  have HP0 := Lib.hid hp0
  have HE0 := Lib.hid he0
  clear hp0 he0 hg0 hb0 hcb
  gi_loopw [3] (fun s3 wr => ∃ (j i : Nat), s3 = .int .i64 (i : Int) ∧ i ≤ s.size ∧ j ≤ xα.length ∧ (xα.drop j).map Subtype.val = pieces i (s.data.toList.drop i) ∧ (∀ h : i < s.size, isBlank s[i] = false ∧ s[i] ≠ 35) ∧ J (xα.take j) wr ∧ Kc n₀ W wr) (fun s3 _ => s.size - (intOf s3).toNat)
  case atStart => exact ⟨0, i0, rfl, hi0, Nat.zero_le _, HP0.out, HE0.out, by simpa using hJ0, hK0⟩
  case round =>
    clear hJ0 hK0 hi0 HP0 HE0
    obtain ⟨j, i, rfl, hi, hj, hp, he, hJj, hK⟩ := hrel
    have hcb := (cell_of_block (hK.own Bs _ _ _ (.inr rfl) HB.out)).1
    have hwr : n₀ ≤ wr.heap.size := Nat.le_trans hW hK.below.size
    by_cases hlt : i < s.size
    · have hd : decide ((i : Int) < (s.size : Int)) = true := by simp; omega
      have hne : s.data.toList.drop i ≠ [] := by rw [drop_data hlt]; simp
      have hst := stepOf_n _ hne
      rw [pieces_piece i _ hne (by rw [drop_data hlt]; exact stepOf_piece _ _ (he hlt).1 (he hlt).2), List.drop_drop] at hp
      obtain ⟨y, hy1, hy2, hp'⟩ : ∃ y : PK, xα[j]? = some y ∧ y.1 = ⟨i, stepOf (s.data.toList.drop i)⟩ ∧ (xα.drop (j + 1)).map Subtype.val = pieces (i + (stepOf (s.data.toList.drop i)).n) (s.data.toList.drop (i + (stepOf (s.data.toList.drop i)).n)) := by
        cases hdr : xα.drop j with
        | nil => rw [hdr] at hp; simp at hp
        | cons y r =>
          rw [hdr] at hp
          simp only [List.map_cons, List.cons.injEq] at hp
          refine ⟨y, ?_, hp.1, ?_⟩
          · have : (xα.drop j)[0]? = some y := by rw [hdr]; rfl
            simpa using this
          · have : xα.drop (j + 1) = r := by rw [← List.tail_drop, hdr]; rfl
            rw [this]; exact hp.2
      have hjl : j < xα.length := (List.getElem?_eq_some_iff.1 hy1).1
      have htk : xα.take (j + 1) = xα.take j ++ [y] := by
        obtain ⟨h1, rfl⟩ := List.getElem?_eq_some_iff.1 hy1
        exact List.take_succ_eq_append_getElem h1
      have hpa := pieceAt_any s i hlt hs (he hlt).1 (he hlt).2 wr
      rw [List.length_drop, ← Lib.size_eq] at hst
      rw [← hy2] at hpa
      have hat : y.1.at_ = i := by rw [hy2]
      have hen : y.1.s.n = (stepOf (s.data.toList.drop i)).n := by rw [hy2]
      rw [← hen] at hp' hst
      obtain ⟨y, hyl⟩ := y
      obtain ⟨ya, sn, sk, st, sd⟩ := y
      simp only at hat hp' hst hpa
      subst hat
      have HPA := Lib.hid hpa
      have HP := Lib.hid hp'
      have HTK := Lib.hid htk
      obtain ⟨m, hm⟩ : ∃ m, m = ya + sn := ⟨_, rfl⟩
      have hmi : ya < m := by omega
      have hms : m ≤ s.size := by omega
      rw [← hm] at HP
      have HM := Lib.hid hm
      clear hpa hp' htk hy1 hy2 hen hp hne he hm
      gi_wp2_with fail
      refine (callsIn_wide.2 HPA.out).mono ?_
      rintro e w2 ⟨rfl, hb2⟩
      have hJ1 : J (xα.take j) (w2.alloc (.cells #[.int .i64 sk, .int .i64 ya, .string ⟨st.toArray⟩, .int .i64 (m : Int), .int .i64 sd] 199)) := hJ _ _ _ none (hJ _ _ _ none hJj (grown_of_below hb2) (by simp)) (World.grownBy_alloc _ _ none) (by simp)
      obtain ⟨fn, tmps, assign, body, hy, hR⟩ := hY _ ⟨⟨ya, sn, sk, st, sd⟩, hyl⟩ _ hJ1 (by rw [List.length_take]; omega)
      simp only [pcV, pieceV, ← HM.out] at hy hR ⊢
      have HR := Lib.hid hR
      have hw2 : n₀ ≤ w2.heap.size := Nat.le_trans hwr hb2.size
      have HK1 := Lib.hid (hK.trans (Kc.of_below hb2 hwr))
      have hcb2 := (cell_of_block (HK1.out.own Bs _ _ _ (.inr rfl) HB.out)).1
      clear hR hJ1 hK hb2 hJj hcb
      gi_wp2_with fail
      refine HR.out.mono ?_
      rintro e W3 (⟨rfl, hJ3, hk3⟩ | ⟨rfl, hJx3⟩)
      · have hp3 := hk3.own w2.heap.size _ _ _ (.inl rfl) (heap_alloc_new w2 (.cells #[.int .i64 sk, .int .i64 ya, .string ⟨st.toArray⟩, .int .i64 (m : Int), .int .i64 sd] 199))
        have u3 : W3.cell? ⟨w2.heap.size, 3, none⟩ = some (.int .i64 (m : Int)) := by simp [World.cell?, hp3]
        have HK3 := Lib.hid ((HK1.out.alloc hw2 (.cells #[.int .i64 sk, .int .i64 ya, .string ⟨st.toArray⟩, .int .i64 (m : Int), .int .i64 sd] 199)).trans hk3)
        have hcb3 := (cell_of_block (HK3.out.own Bs _ _ _ (.inr rfl) HB.out)).1
        have HGE := Lib.hid (gapEnd_any s m hms hs W3)
        clear hp3 hk3 hcb2
        gi_wp2_with fail
        refine (callsIn_wide.2 HGE.out).mono ?_
        rintro e W4 ⟨i2, rfl, hg2, he2, hb4⟩
        have HG2 := Lib.hid hg2
        have HE2 := Lib.hid he2
        have hmi2 := hg2.1
        have hi2 := hg2.2.1
        clear hg2 he2
        gi_wp2_with fail
        go_roundw
        case rel => exact ⟨j + 1, i2, rfl, hi2, by omega, by rw [HP.out]; exact HG2.out.2.2, HE2.out, by rw [HTK.out]; exact hJ _ _ _ none hJ3 (grown_of_below hb4) (by simp), HK3.out.trans (Kc.of_below hb4 (Nat.le_trans hW HK3.out.below.size))⟩
        case measure => simp [intOf]; omega
      · gi_wp2
        refine bodyPost_ret (results_none rfl _ _ _) rfl ?_
        exact ⟨⟨_, rfl⟩, .inr ⟨_, by rw [← HTK.out]; exact List.take_prefix _ _, hJx3⟩⟩
    · have hd : decide ((i : Int) < (s.size : Int)) = false := by simp; omega
      have hnil : xα.drop j = [] := by
        rw [List.drop_of_length_le (i := i) (l := s.data.toList) (by rw [← Lib.size_eq]; omega), pieces_nil] at hp
        simpa using hp
      have htk : xα.take j = xα := List.take_of_length_le (by simpa using hnil)
      rw [htk] at hJj
      clear hp hnil htk
      gi_wp2_with fail
      go_end0
      exact ⟨⟨_, rfl⟩, .inl ⟨_, rfl, hJj⟩⟩
theorem pieces_in (n : Nat) (s : ByteArray) (w : World) :
    CallsIn Fence.wide n Tryz.prog 140 #[.string s] w fun e w' => e = .returned (.func (.func 171) #[] #[.pointer (some ⟨w.heap.size, 0, none⟩)]) ∧ w' = w.alloc (.cells #[.string s] 9) := by
  refine callsIn_of_wp Tryz.func140 rfl trivial ?_ rfl
  simp only [Tryz.ntmps140, List.size_toArray, List.length_cons, List.length_nil, Nat.reduceAdd, Nat.reduceSub, Array.replicate_succ, Array.replicate_zero, List.push_toArray, List.append_toArray, List.nil_append, List.cons_append]
  gi_wp2
  go_ret
  exact ⟨rfl, rfl⟩
theorem pieces_stops (n : Nat) (hn : 1 ≤ n) (Bs n₀ : Nat) (s : ByteArray) (hs : s.size ≤ 281474976710656) (xα : List PK) (hα : xα.map Subtype.val = pieces 0 s.data.toList) (w : World) (hB : w.heap[Bs]? = some (.cells #[.string s] 9 (0, 0))) (hn₀ : n₀ ≤ w.heap.size) :
    SeqStopsK Fence.wide n Tryz.prog 171 #[.pointer (some ⟨Bs, 0, none⟩)] (fun x : PK => #[pcV x.1]) (Kc n₀) (fun ys => ys = xα) (fun pre => pre <+: xα) xα.length w :=
  fun l J Jx W hW hJ _ hY h0 =>
  pieces1_in n hn l Bs n₀ s hs xα hα J Jx _ hJ hY W ((hW.block _ (Array.getElem?_eq_some_iff.1 hB).1).trans hB) (Nat.le_trans hn₀ hW.size) h0
end Go.Proofs.YtijnjoonbjdafaaGreatDoor
namespace Go.Proofs.YtijnjoonbjdafaaGreatDoor
set_option maxRecDepth 20000
open Go.RowKit Go.Shelf
structure Tk where
  k : Nat
  a : Nat
  t : Bs
structure Dg where
  a : Nat
  d : Nat
def toksOf (l : List Pc) : List Tk := l.filterMap fun x => if x.s.k = 0 then none else some ⟨x.s.k, x.at_, x.s.t⟩
def toldOf (l : List Pc) : List Dg := l.filterMap fun x => if x.s.d = 0 then none else some ⟨x.at_, x.s.d⟩
def Tk.cells (t : Tk) : List Value := [.int .i64 t.k, .int .i64 t.a, .string ⟨t.t.toArray⟩]
def Dg.cells (t : Dg) : List Value := [.int .i64 t.a, .int .i64 t.d, .string ⟨#[]⟩]
def tkCells (l : List Tk) : List Value := l.flatMap Tk.cells
def dgCells (l : List Dg) : List Value := l.flatMap Dg.cells
theorem toksOf_snoc (l : List Pc) (x : Pc) : toksOf (l ++ [x]) = toksOf l ++ (if x.s.k = 0 then [] else [⟨x.s.k, x.at_, x.s.t⟩]) := by
  simp only [toksOf, List.filterMap_append, List.filterMap_cons, List.filterMap_nil]
  split <;> simp_all
theorem toldOf_snoc (l : List Pc) (x : Pc) : toldOf (l ++ [x]) = toldOf l ++ (if x.s.d = 0 then [] else [⟨x.at_, x.s.d⟩]) := by
  simp only [toldOf, List.filterMap_append, List.filterMap_cons, List.filterMap_nil]
  split <;> simp_all
theorem tkCells_snoc (l : List Tk) (t : Tk) : tkCells (l ++ [t]) = tkCells l ++ t.cells := by simp [tkCells]
theorem dgCells_snoc (l : List Dg) (t : Dg) : dgCells (l ++ [t]) = dgCells l ++ t.cells := by simp [dgCells]
theorem toksOf_le (l : List Pc) : (toksOf l).length ≤ l.length := List.length_filterMap_le _ _
theorem toldOf_le (l : List Pc) : (toldOf l).length ≤ l.length := List.length_filterMap_le _ _
structure Rd (n₀ : Nat) (W W' : World) : Prop where
  os : W'.os = W.os
  tape : W'.tape = W.tape
  output : W'.output = W.output
  size : W.heap.size ≤ W'.heap.size
  block : ∀ (k : Nat) (o : Obj), W.heap[k]? = some o → (k < n₀ ∨ ∀ c t fz, o = .cells c t fz → t ≠ 110 ∧ t ≠ 50 ∧ t ≠ 105 ∧ t ≠ 153) → W'.heap[k]? = some o
theorem Rd.refl (n₀ : Nat) (W : World) : Rd n₀ W W := ⟨rfl, rfl, rfl, Nat.le_refl _, fun _ _ h _ => h⟩
theorem Rd.trans {n₀ : Nat} {A B C : World} (h : Rd n₀ A B) (k : Rd n₀ B C) : Rd n₀ A C :=
  ⟨k.os.trans h.os, k.tape.trans h.tape, k.output.trans h.output, Nat.le_trans h.size k.size, fun i o hi hd => k.block i o (h.block i o hi hd) hd⟩
theorem Rd.of_below {n₀ : Nat} {W W' : World} (h : Below W.heap.size W W') : Rd n₀ W W' :=
  ⟨h.os, h.tape, h.output, h.size, fun k _ hk _ => (h.block k (Array.getElem?_eq_some_iff.1 hk).1).trans hk⟩
theorem Rd.alloc {n₀ : Nat} {w W : World} (h : Rd n₀ w W) (o : Obj) : Rd n₀ w (W.alloc o) := h.trans (Rd.of_below ((Below.refl _ _).alloc (Nat.le_refl _) _))
theorem Rd.below {n₀ : Nat} {w W W' : World} (h : Rd n₀ w W) (hb : Below W.heap.size W W') : Rd n₀ w W' := h.trans (Rd.of_below hb)
theorem Rd.setNew {n₀ : Nat} {w W : World} (h : Rd n₀ w W) {b i : Nat} (hb : w.heap.size ≤ b) (v : Value) : Rd n₀ w (W.setCell ⟨b, i, none⟩ v) :=
  ⟨h.os, h.tape, h.output, by simpa [World.setCell] using h.size, fun k o hk hd => (Below.heap_setCell W ⟨b, i, none⟩ v k (by have := (Array.getElem?_eq_some_iff.1 hk).1; simp; omega)).trans (h.block k o hk hd)⟩
theorem Rd.setSame {n₀ : Nat} {w W : World} (h : Rd n₀ w W) {b : Nat} {v0 v1 v2 v3 v4 : Value} (h5 : Five W b v0 v1 v2 v3 v4) : Rd n₀ w (W.setCell ⟨b, 2, none⟩ v2) :=
  ⟨h.os, h.tape, h.output, by simpa [World.setCell] using h.size, fun k o hk hd => by
    have hk' := h.block k o hk hd
    by_cases e : k = b
    · subst e
      have h6 : (W.setCell ⟨k, 2, none⟩ v2).heap[k]? = some (.cells #[v0, v1, v2, v3, v4] 199 (0, 0)) := heap_setCell_same W k 2 _ _ v2 h5
      rw [show W.heap[k]? = some (.cells #[v0, v1, v2, v3, v4] 199 (0, 0)) from h5] at hk'
      rw [h6, ← hk']
    · exact (Below.heap_setCell W ⟨b, 2, none⟩ v2 k e).trans hk'⟩
theorem Rd.setVar {n₀ : Nat} {w W : World} (h : Rd n₀ w W) {b i : Nat} {c : Array Value} {t : TypeId} {fz : Nat × Nat} (hb : w.heap[b]? = some (.cells c t fz)) (ht : t = 110 ∨ t = 50) (hn : n₀ ≤ b) (v : Value) : Rd n₀ w (W.setCell ⟨b, i, none⟩ v) :=
  ⟨h.os, h.tape, h.output, by simpa [World.setCell] using h.size, fun k o hk hd => (Below.heap_setCell W ⟨b, i, none⟩ v k (by
    intro e
    have e' : k = b := e
    subst e'
    rw [hb] at hk
    cases hk
    rcases hd with hd | hd
    · omega
    · have := hd c t fz rfl
      rcases ht with rfl | rfl
      · exact absurd rfl this.1
      · exact absurd rfl this.2.1)).trans (h.block k o hk hd)⟩
theorem Rd.grown {n₀ : Nat} {w W W' : World} (h : Rd n₀ w W) {e : TypeId} {v : Value} {n : Nat} {xs : List Value} (hr : W.ownsRow n₀ e 3 v n xs) (ht : e = 105 ∨ e = 153) (hg : W.grownBy W' v.ownBlock) : Rd n₀ w W' := by
  refine ⟨hg.os.trans h.os, hg.tape.trans h.tape, hg.output.trans h.output, Nat.le_trans h.size hg.size, fun k o hk hd => ?_⟩
  have hk' := h.block k o hk hd
  refine (hg.block k (Array.getElem?_eq_some_iff.1 hk').1 ?_).trans hk'
  intro e1
  rcases hr.2 with ⟨rfl, _⟩ | ⟨g, cap, cur, rfl, hb, hgg, _⟩
  · cases e1
  · simp only [Value.ownBlock, Option.some.injEq] at e1
    subst e1
    rw [hgg] at hk'
    cases hk'
    rcases hd with hd | hd
    · omega
    · have := hd _ _ _ rfl
      rcases ht with rfl | rfl
      · exact absurd rfl this.2.2.1
      · exact absurd rfl this.2.2.2
theorem Rd.others {n₀ : Nat} {W W' : World} (h : Rd n₀ W W') : KeepsOthers W W' :=
  ⟨h.size, fun k o hk hc => h.block k o hk (.inr fun c t fz e => by subst e; simp [Obj.isCells] at hc)⟩
theorem Rd.belows {n₀ : Nat} {W W' : World} (h : Rd n₀ W W') (hn : n₀ ≤ W.heap.size) : Below n₀ W W' :=
  ⟨h.os, h.tape, h.output, h.size, fun k hk => by
    obtain ⟨o, ho⟩ : ∃ o, W.heap[k]? = some o := ⟨_, Array.getElem?_eq_getElem (by omega)⟩
    rw [ho]; exact h.block k o ho (.inl hk)⟩
theorem Rd.kc {n₀ : Nat} {W W' : World} (h : Rd n₀ W W') (hn : n₀ ≤ W.heap.size) : Kc n₀ W W' :=
  ⟨h.belows hn, fun k c t fz ht hk => h.block k _ hk (.inr fun c' t' fz' e => by cases e; rcases ht with rfl | rfl <;> decide)⟩
structure St (B : Nat) (v : Value) (n : Nat) (xs : List Value) (u : Value) (m : Nat) (ys : List Value) (W : World) : Prop where
  c0 : W.heap[B]? = some (.cells #[v] 110 (0, 0))
  c1 : W.heap[B + 1]? = some (.cells #[u] 50 (0, 0))
  r0 : W.ownsRow B 105 3 v n xs
  r1 : W.ownsRow B 153 3 u m ys
theorem ownsRow_same {w w' : World} {base : Nat} {e : TypeId} {size : Nat} {v : Value} {n : Nat} {xs : List Value} (h : w.ownsRow base e size v n xs) (hk : ∀ (k : Nat) (c : Array Value), w.heap[k]? = some (.cells c e (0, 0)) → w'.heap[k]? = some (.cells c e (0, 0))) : w'.ownsRow base e size v n xs := by
  refine ⟨h.1, ?_⟩
  rcases h.2 with hn' | ⟨g, cap, cur, rfl, hb, hgg, rest⟩
  · exact .inl hn'
  · exact .inr ⟨g, cap, cur, rfl, hb, hk g cur hgg, rest⟩
theorem St.same {B : Nat} {v : Value} {n : Nat} {xs : List Value} {u : Value} {m : Nat} {ys : List Value} {W W' : World} (h : St B v n xs u m ys W)
    (hk : ∀ (k : Nat) (c : Array Value) (t : TypeId), t = 110 ∨ t = 50 ∨ t = 105 ∨ t = 153 → W.heap[k]? = some (.cells c t (0, 0)) → W'.heap[k]? = some (.cells c t (0, 0))) : St B v n xs u m ys W' :=
  ⟨hk _ _ _ (by simp) h.c0, hk _ _ _ (by simp) h.c1, ownsRow_same h.r0 (fun k c hc => hk k c 105 (by simp) hc), ownsRow_same h.r1 (fun k c hc => hk k c 153 (by simp) hc)⟩
theorem St.below {B : Nat} {v : Value} {n : Nat} {xs : List Value} {u : Value} {m : Nat} {ys : List Value} {W W' : World} (h : St B v n xs u m ys W) (hb : Below W.heap.size W W') : St B v n xs u m ys W' :=
  h.same fun k _ _ _ hk => (hb.block k (Array.getElem?_eq_some_iff.1 hk).1).trans hk
theorem St.alloc {B : Nat} {v : Value} {n : Nat} {xs : List Value} {u : Value} {m : Nat} {ys : List Value} {W : World} (h : St B v n xs u m ys W) (o : Obj) : St B v n xs u m ys (W.alloc o) :=
  h.below ((Below.refl _ _).alloc (Nat.le_refl _) _)
theorem St.setOther {B : Nat} {v : Value} {n : Nat} {xs : List Value} {u : Value} {m : Nat} {ys : List Value} {W : World} (h : St B v n xs u m ys W) {b i : Nat} {c : Array Value} (hb : W.heap[b]? = some (.cells c 199 (0, 0))) (x : Value) : St B v n xs u m ys (W.setCell ⟨b, i, none⟩ x) :=
  h.same fun k c' t ht hk => (Below.heap_setCell W ⟨b, i, none⟩ x k (by
    intro e
    have e' : k = b := e
    subst e'
    rw [hb] at hk
    cases hk
    simp at ht)).trans hk
theorem St.toks {B : Nat} {v v' : Value} {n : Nat} {xs : List Value} {u : Value} {m : Nat} {ys : List Value} {W W' : World} (h : St B v n xs u m ys W) {n' : Nat} {xs' : List Value} (hr : W'.ownsRow B 105 3 v' n' xs') (hg : W.grownBy W' v.ownBlock) :
    W'.heap[B]? = some (.cells #[v] 110 (0, 0)) ∧ St B v' n' xs' u m ys (W'.setCell ⟨B, 0, none⟩ v') := by
  have hne : ∀ (k : Nat) (c : Array Value) (t : TypeId), t ≠ 105 → W.heap[k]? = some (.cells c t (0, 0)) → W'.heap[k]? = some (.cells c t (0, 0)) := by
    intro k c t ht hk
    refine (hg.block k (Array.getElem?_eq_some_iff.1 hk).1 ?_).trans hk
    intro e
    rcases h.r0.2 with ⟨rfl, _⟩ | ⟨g, cap, cur, rfl, hb, hgg, _⟩
    · cases e
    · simp only [Value.ownBlock, Option.some.injEq] at e
      subst e
      rw [hgg] at hk
      cases hk
      exact ht rfl
  have h0 := hne _ _ _ (by decide) h.c0
  have hs : ∀ (k : Nat) (c : Array Value) (t : TypeId), t ≠ 110 → W'.heap[k]? = some (.cells c t (0, 0)) → (W'.setCell ⟨B, 0, none⟩ v').heap[k]? = some (.cells c t (0, 0)) := by
    intro k c t ht hk
    refine (Below.heap_setCell W' ⟨B, 0, none⟩ v' k ?_).trans hk
    intro e
    have e' : k = B := e
    subst e'
    rw [h0] at hk
    cases hk
    exact ht rfl
  refine ⟨h0, one_setCell h0, hs _ _ _ (by decide) (hne _ _ _ (by decide) h.c1), ownsRow_same hr (fun k c hc => hs k c 105 (by decide) hc), ownsRow_same h.r1 (fun k c hc => hs k c 153 (by decide) (hne k c 153 (by decide) hc))⟩
theorem St.told {B : Nat} {v u' : Value} {n : Nat} {xs : List Value} {u : Value} {m : Nat} {ys : List Value} {W W' : World} (h : St B v n xs u m ys W) {n' : Nat} {xs' : List Value} (hr : W'.ownsRow B 153 3 u' n' xs') (hg : W.grownBy W' u.ownBlock) :
    W'.heap[B + 1]? = some (.cells #[u] 50 (0, 0)) ∧ St B v n xs u' n' xs' (W'.setCell ⟨B + 1, 0, none⟩ u') := by
  have hne : ∀ (k : Nat) (c : Array Value) (t : TypeId), t ≠ 153 → W.heap[k]? = some (.cells c t (0, 0)) → W'.heap[k]? = some (.cells c t (0, 0)) := by
    intro k c t ht hk
    refine (hg.block k (Array.getElem?_eq_some_iff.1 hk).1 ?_).trans hk
    intro e
    rcases h.r1.2 with ⟨rfl, _⟩ | ⟨g, cap, cur, rfl, hb, hgg, _⟩
    · cases e
    · simp only [Value.ownBlock, Option.some.injEq] at e
      subst e
      rw [hgg] at hk
      cases hk
      exact ht rfl
  have h1 := hne _ _ _ (by decide) h.c1
  have hs : ∀ (k : Nat) (c : Array Value) (t : TypeId), t ≠ 50 → W'.heap[k]? = some (.cells c t (0, 0)) → (W'.setCell ⟨B + 1, 0, none⟩ u').heap[k]? = some (.cells c t (0, 0)) := by
    intro k c t ht hk
    refine (Below.heap_setCell W' ⟨B + 1, 0, none⟩ u' k ?_).trans hk
    intro e
    have e' : k = B + 1 := e
    subst e'
    rw [h1] at hk
    cases hk
    exact ht rfl
  refine ⟨h1, hs _ _ _ (by decide) (hne _ _ _ (by decide) h.c0), one_setCell h1, ownsRow_same h.r0 (fun k c hc => hs k c 105 (by decide) (hne k c 105 (by decide) hc)), ownsRow_same hr (fun k c hc => hs k c 153 (by decide) hc)⟩
theorem five_grown {W W' : World} {b B : Nat} {e : TypeId} {v : Value} {n : Nat} {xs : List Value} {v0 v1 v2 v3 v4 : Value} (h : Five W b v0 v1 v2 v3 v4) (hr : W.ownsRow B e 3 v n xs) (he : e ≠ 199) (hg : W.grownBy W' v.ownBlock) : Five W' b v0 v1 v2 v3 v4 := by
  unfold Five at *
  refine (hg.block b (Array.getElem?_eq_some_iff.1 h).1 ?_).trans h
  intro e1
  rcases hr.2 with ⟨rfl, _⟩ | ⟨g, cap, cur, rfl, hb, hgg, _⟩
  · cases e1
  · simp only [Value.ownBlock, Option.some.injEq] at e1
    subst e1
    rw [hgg] at h
    cases h
    exact he rfl
theorem five_text {W : World} {b : Nat} {v0 v1 v2 v3 v4 : Value} (h : Five W b v0 v1 v2 v3 v4) (x : Value) : Five (W.setCell ⟨b, 2, none⟩ x) b v0 v1 x v3 v4 := heap_setCell_same W b 2 _ _ x h
end Go.Proofs.YtijnjoonbjdafaaGreatDoor
namespace Go.Proofs.YtijnjoonbjdafaaGreatDoor
set_option maxRecDepth 20000
open Go.RowKit Go.Shelf
attribute [local go_sem] Oper.semAt_some
theorem info35 : (Tryz.prog.info? 105).map (fun i => (i.zero, i.size, i.bytes)) = some (some (.agg #[.int .i64 0, .int .i64 0, .string ⟨#[]⟩]), 3, 32) := by kernel_rfl
theorem info41 : (Tryz.prog.info? 153).map (fun i => (i.zero, i.size, i.bytes)) = some (some (.agg #[.int .i64 0, .int .i64 0, .string ⟨#[]⟩]), 3, 32) := by kernel_rfl
theorem cell_at {W : World} {b i : Nat} {c : Array Value} {t : TypeId} (h : W.heap[b]? = some (.cells c t (0, 0))) : W.cell? ⟨b, i, none⟩ = c[i]? := by simp [World.cell?, h]
theorem add_zero (b j : Nat) : (⟨b, 0, none⟩ : Addr).add j = ⟨b, j, none⟩ := by unfold Addr.add; split <;> simp_all
theorem cells3_new (W : World) (x y z : Value) (t : TypeId) : ∀ (j : Nat) (u : Value), [x, y, z][j]? = some u → (W.alloc (.cells #[x, y, z] t)).cell? ((⟨W.heap.size, 0, none⟩ : Addr).add j) = some u := by
  intro j u hj
  rw [add_zero, cell_at (heap_alloc_new W (.cells #[x, y, z] t))]
  simpa using hj
theorem cells3_set (W : World) (b i : Nat) (v x y z : Value) (t : TypeId) : ∀ (j : Nat) (u : Value), [x, y, z][j]? = some u → ((W.setCell ⟨b, i, none⟩ v).alloc (.cells #[x, y, z] t)).cell? ((⟨W.heap.size, 0, none⟩ : Addr).add j) = some u := by
  intro j u hj
  have := cells3_new (W.setCell ⟨b, i, none⟩ v) x y z t j u hj
  simpa [World.setCell] using this
theorem size_setal (W : World) (b i : Nat) (v : Value) (o : Obj) : ((W.setCell ⟨b, i, none⟩ v).alloc o).heap.size = W.heap.size + 1 := by simp [World.setCell]
theorem one3 {k a : Int} {t : ByteArray} : ∀ u ∈ [Value.int .i64 k, .int .i64 a, .string t], u.oneCell' = true := by
  intro u hu
  simp only [List.mem_cons, List.not_mem_nil, or_false] at hu
  rcases hu with rfl | rfl | rfl <;> rfl
theorem pieces_le : ∀ (N a : Nat) (l : Bs), l.length ≤ N → (pieces a l).length ≤ l.length
  | 0, a, l, h => by
    have : l = [] := List.eq_nil_of_length_eq_zero (by omega)
    subst this
    simp [pieces_nil]
  | N + 1, a, l, h => by
    by_cases hl : l = []
    · subst hl
      simp [pieces_nil]
    · have hn := stepOf_n l hl
      have ih := pieces_le N (a + (stepOf l).n) (l.drop (stepOf l).n) (by rw [List.length_drop]; omega)
      rw [List.length_drop] at ih
      by_cases hp : (stepOf l).k ≠ 0 ∨ (stepOf l).d ≠ 0
      · rw [pieces_piece a l hl hp, List.length_cons]
        omega
      · rw [pieces_gap a l hl (by omega) (by omega)]
        omega
theorem far_row {W W' : World} {B : Nat} {e : TypeId} {v : Value} {n : Nat} {xs : List Value} (hr : W.ownsRow B e 3 v n xs) (hg : W.grownBy W' v.ownBlock) {k : Nat} {o : Obj} (hk : W.heap[k]? = some o) (ho : ∀ c fz, o ≠ .cells c e fz) : W'.heap[k]? = some o := by
  refine (hg.block k (Array.getElem?_eq_some_iff.1 hk).1 ?_).trans hk
  intro e1
  rcases hr.2 with ⟨rfl, _⟩ | ⟨g, cap, cur, rfl, hb, hgg, _⟩
  · cases e1
  · simp only [Value.ownBlock, Option.some.injEq] at e1
    subst e1
    rw [hgg] at hk
    cases hk
    exact ho _ _ rfl
def onlyNormal (R : Act → World → Prop) : Exit → Act → World → Prop
  | .normal, a, w => R a w
  | _, _, _ => False
theorem only_intro {R : Act → World → Prop} {a : Act} {w : World} (h : R a w) : onlyNormal R .normal a w := h
theorem wp_only {n : Nat} {P : Program} {c : Code} {Q : Exit → Act → World → Prop} {a : Act} {w : World} (h : c.wp P (onlyNormal (fun a w => Q .normal a w)) a w) : c.wpIn Fence.wide n P Q a w :=
  wpIn_mono (wpIn_wide.2 h) fun e _ _ h => by cases e <;> first | exact h | exact h.elim
theorem round_end {w W W' : World} {B0 : Nat} {v u : Value} {ts : List Tk} {ds : List Dg} {l : List PK} {Ix : Code → List PK → World → Prop} {a' : Act} (hS : St w.heap.size v ts.length (tkCells ts) u ds.length (dgCells ds) W') (hR : Rd w.heap.size W W') (hB : Below w.heap.size w W)
    (h1 : toksOf (l.map Subtype.val) = ts) (h2 : toldOf (l.map Subtype.val) = ds) :
    ownPostG B0 (Kc w.heap.size) (fun (pre : List PK) W => (∃ v u, St w.heap.size v (toksOf (pre.map Subtype.val)).length (tkCells (toksOf (pre.map Subtype.val))) u (toldOf (pre.map Subtype.val)).length (dgCells (toldOf (pre.map Subtype.val))) W) ∧ Below w.heap.size w W) Ix l W Exit.normal a' W' := by
  refine ⟨hR.others.from _, hR.kc hB.size, ⟨v, u, ?_⟩, hB.trans (hR.belows hB.size)⟩
  rw [h1, h2]
  exact hS
set_option maxRecDepth 100000 in
set_option maxHeartbeats 4000000 in
theorem lex_any (s : ByteArray) (hs : s.size ≤ 1000000) (w : World) :
    Calls Tryz.prog 95 #[.string s] w fun e W' => ∃ v u, e = .returned (.tuple #[v, u]) ∧
      W'.ownsRow w.heap.size 105 3 v ((toksOf (pieces 0 s.data.toList)).length + 1) (tkCells (toksOf (pieces 0 s.data.toList) ++ [⟨6, s.size, []⟩])) ∧
      W'.ownsRow w.heap.size 153 3 u (toldOf (pieces 0 s.data.toList)).length (dgCells (toldOf (pieces 0 s.data.toList))) ∧ Below w.heap.size w W' := by
  obtain ⟨xα, hα⟩ := lift_pcs (pieces 0 s.data.toList) (fun x hx => by
    have := pcs_t s.data.toList.length 0 s.data.toList (Nat.le_refl _) x (List.mem_filter.1 hx).1
    rw [← Lib.size_eq] at this
    omega)
  rw [← callsIn_wide (n := 5)]
  have hff : Fence.wide.fn 140 := trivial
  refine callsIn_of_wp_marks Tryz.func95 rfl trivial ?_ rfl
  simp only [Tryz.ntmps95, List.size_toArray, List.length_cons, List.length_nil, Nat.reduceAdd, Nat.reduceSub, Array.replicate_succ, Array.replicate_zero, List.push_toArray, List.append_toArray, List.nil_append, List.cons_append]
  gi_wp2_with (gi_at_call 140; refine (pieces_in _ _ _).mono ?_; rintro e w' ⟨rfl, rfl⟩)
  obtain ⟨W0, hW0⟩ : ∃ W0, ((w.alloc (.cells #[.slice none 0 0] 110)).alloc (.cells #[.slice none 0 0] 50)).alloc (.cells #[.string s] 9) = W0 := ⟨_, rfl⟩
  have hs0 : W0.heap.size = w.heap.size + 3 := by rw [← hW0]; simp
  have hT0 : W0.heap[w.heap.size]? = some (.cells #[.slice none 0 0] 110 (0, 0)) := by
    rw [← hW0]; exact ((Below.heap_alloc _ _ _ (by simp; omega)).trans (Below.heap_alloc _ _ _ (by simp))).trans (World.alloc_heap_new w _)
  have hD0 : W0.heap[w.heap.size + 1]? = some (.cells #[.slice none 0 0] 50 (0, 0)) := by
    rw [← hW0]; refine (Below.heap_alloc _ _ _ (by simp)).trans ?_
    have := World.alloc_heap_new (w.alloc (.cells #[.slice none 0 0] 110)) (.cells #[.slice none 0 0] 50); rwa [World.size_alloc] at this
  have hB0 : W0.heap[w.heap.size + 1 + 1]? = some (.cells #[.string s] 9 (0, 0)) := by
    rw [← hW0]
    have := World.alloc_heap_new ((w.alloc (.cells #[.slice none 0 0] 110)).alloc (.cells #[.slice none 0 0] 50)) (.cells #[.string s] 9); rwa [World.size_alloc, World.size_alloc] at this
  have hBW : Below w.heap.size w W0 := by rw [← hW0]; exact (((Below.refl _ w).alloc (Nat.le_refl _) _).alloc (by simp) _).alloc (by simp; omega) _
  rw [hW0]
  clear hW0
  have hxl : xα.length ≤ s.size := by
    have h1 := congrArg List.length hα
    rw [List.length_map] at h1
    rw [h1, Lib.size_eq]
    exact pieces_le _ _ _ (Nat.le_refl _)
  refine wpIn_rangeFunc_ownH rfl (by omega) (gf := 171) (lb := #[.pointer (some ⟨w.heap.size + 1 + 1, 0, none⟩)]) rfl trivial (enters_of Tryz.func171 (by kernel_rfl) rfl)
    (pieces_stops 4 (by omega) (w.heap.size + 1 + 1) w.heap.size s (by omega) xα hα W0 hB0 (by omega)) (fun h k => Kc.trans h k) (fun W l o o' h1 h2 h3 h4 => Kc.put (w := W0) (by omega) W l o o' h1 h2 h3 h4) (Below.refl _ _) (fun _ => rfl)
    (fun pre W => (∃ v u, St w.heap.size v (toksOf (pre.map Subtype.val)).length (tkCells (toksOf (pre.map Subtype.val))) u (toldOf (pre.map Subtype.val)).length (dgCells (toldOf (pre.map Subtype.val))) W) ∧ Below w.heap.size w W)
    (fun _ _ _ => False)
    (OwnFrom.and (Own.from (I := fun (pre : List PK) W => ∃ v u, St w.heap.size v (toksOf (pre.map Subtype.val)).length (tkCells (toksOf (pre.map Subtype.val))) u (toldOf (pre.map Subtype.val)).length (dgCells (toldOf (pre.map Subtype.val))) W) (fun s A B row ⟨v, u, hs⟩ hg hr => ⟨v, u, hs.same fun k c t _ hk => block_kept hk hg hr⟩) _) (ownFrom_below (Nat.le_refl _) (by omega)))
    (fun _ _ _ _ _ hs _ _ => hs)
    ⟨⟨.slice none 0 0, .slice none 0 0, hT0, hD0, World.ownsRow_nil _ _ _ _, World.ownsRow_nil _ _ _ _⟩, hBW⟩
    (fun x a' W => ∃ b, w.heap.size + 2 ≤ b ∧ a' = { tmps := #[.string s, undef, .slice none 0 0, .slice none 0 0, .pointer (some ⟨w.heap.size, 0, none⟩), .pointer (some ⟨w.heap.size + 1, 0, none⟩), .pointer (some ⟨b, 0, none⟩), .string s, .func (.func 171) #[] #[.pointer (some ⟨w.heap.size + 1 + 1, 0, none⟩)], pcV x.1, undef, undef, undef, undef, undef, undef, undef, undef, undef, undef, undef, undef, undef, undef, undef, undef, undef, undef, undef, undef, undef, undef, undef, undef, undef, undef, undef, undef, undef, undef, undef, undef, undef, undef], defers := [] } ∧ Five W b (.int .i64 x.1.s.k) (.int .i64 x.1.at_) (.string ⟨x.1.s.t.toArray⟩) (.int .i64 ((x.1.at_ + x.1.s.n : Nat) : Int)) (.int .i64 x.1.s.d))
    (fun x a' => Own.from (fun _ A B row ⟨b, h1, h2, h3⟩ hg hr => ⟨b, h1, h2, block_kept h3 hg hr⟩) _)
    ?assign ?body ?done ?stop
  case assign =>
    rintro l pre ⟨⟨ya, sn, sk, st, sd⟩, hyl⟩ W K ⟨⟨v, u, hSt⟩, hB⟩ hK
    have hsz : w.heap.size + 2 ≤ W.heap.size := (Array.getElem?_eq_some_iff.1 hSt.c1).1
    obtain ⟨m, hm⟩ : ∃ m, m = ya + sn := ⟨_, rfl⟩
    have HM := Lib.hid hm
    simp only [pcV, pieceV, ← hm]
    clear hm
    gi_wp2
    have hBa : Below W.heap.size W (W.alloc (.cells #[.int .i64 sk, .int .i64 ya, .string ⟨st.toArray⟩, .int .i64 (m : Int), .int .i64 sd] 199)) := (Below.refl _ _).alloc (Nat.le_refl _) _
    refine hK _ _ ((Rd.of_below (n₀ := w.heap.size) hBa).others.from _) (Kc.of_below hBa hB.size) ⟨⟨v, u, hSt.below hBa⟩, hB.trans (hBa.mono hB.size)⟩ ⟨W.heap.size, hsz, ?_, ?_⟩
    · simp only [pcV, pieceV, ← HM.out]
    · simp only [← HM.out]
      exact five_new W _ _ _ _ _
  case body =>
    rintro l pre ⟨⟨ya, sn, sk, st, sd⟩, hyl⟩ a' W hl hrec ⟨⟨v, u, hSt⟩, hB⟩ ⟨b, hb0, rfl, h5⟩ hlen
    obtain ⟨m, hm⟩ : ∃ m, m = ya + sn := ⟨_, rfl⟩
    simp only [pcV, pieceV, ← hm] at h5 ⊢
    clear hm
    have hbW := (Array.getElem?_eq_some_iff.1 h5).1
    have hne : ¬ w.heap.size = b := by omega
    have hne' : ¬ b = w.heap.size := by omega
    have hne1 : ¬ w.heap.size + 1 = b := by omega
    have hne1' : ¬ b = w.heap.size + 1 := by omega
    obtain ⟨ts, hts⟩ : ∃ ts, ts = toksOf (pre.map Subtype.val) := ⟨_, rfl⟩
    obtain ⟨ds, hds⟩ : ∃ ds, ds = toldOf (pre.map Subtype.val) := ⟨_, rfl⟩
    have htl : ts.length ≤ pre.length := by rw [hts]; simpa using toksOf_le (pre.map Subtype.val)
    have hdl : ds.length ≤ pre.length := by rw [hds]; simpa using toldOf_le (pre.map Subtype.val)
    rw [← hts, ← hds] at hSt
    have HTS := Lib.hid hts
    have HDS := Lib.hid hds
    clear hts hds
    obtain ⟨⟨c0, c1, c2, c3, c4⟩, f0, f1, f2, f3, f4⟩ := five_of h5
    obtain ⟨i0, hi, hz0, hz1, hz2⟩ := info_parts info35
    obtain ⟨j0, hj, hy0, hy1, hy2⟩ := info_parts info41
    have hf17 : Fence.wide.fn 141 := trivial
    rcases Nat.eq_zero_or_pos sk with rfl | hsk
    · rcases Nat.eq_zero_or_pos sd with rfl | hsd
      ·
        gi_wp2
        exact round_end hSt (Rd.refl _ _) hB (by rw [List.map_append, List.map_cons, List.map_nil, toksOf_snoc, ← HTS.out]; simp) (by rw [List.map_append, List.map_cons, List.map_nil, toldOf_snoc, ← HDS.out]; simp)
      ·
        have hd1 : ((sd : Int) == 0) = false := by simp; omega
        have hd2 : ¬ (sd : Int) = 0 := by omega
        have hmy : ds.length + 1 ≤ maxLen := by unfold maxLen; omega
        have HBY : Hid (w.heap.size ≤ (W.alloc (.cells #[.int .i64 ya, .int .i64 sd, .string ⟨#[]⟩] 153)).heap.size) := by
          have h1 := hB.size
          show _ ≤ _
          rw [World.size_alloc]
          omega
        have tu := (cell_of_block hSt.c1).1
        have HS0 := Lib.hid hSt
        gi_wp2_with (first | (gi_at_builtin; refine wpListIn_append_own _ rfl (.tmp 28) (.tmp 35) 50 rfl w.heap.size 153 j0 _ 3 32 Tryz.underlying50 hj hy0 hy1 hy2 rfl (by decide) _ _ _ rfl (HS0.out.r1.alloc _) ⟨W.heap.size, 0, none⟩ 1 1 [.int .i64 ya, .int .i64 sd, .string ⟨#[]⟩] rfl rfl (cells3_new W _ _ _ 153) one3 hmy (by omega) (HBY.out) ?_; intro u' W7 hown7 hg7 hnil7; clear hnil7; obtain ⟨g', cap', rfl⟩ := ownsRow_succ hown7; (have hSt8 := (HS0.out.alloc (.cells #[.int .i64 ya, .int .i64 sd, .string ⟨#[]⟩] 153)).told hown7 hg7); obtain ⟨m0, m1⟩ := cell_of_block hSt8.1; (have HR7 := Lib.hid ((Rd.refl _ _ : Rd w.heap.size W _).alloc (.cells #[.int .i64 ya, .int .i64 sd, .string ⟨#[]⟩] 153) |>.grown (HS0.out.alloc (.cells #[.int .i64 ya, .int .i64 sd, .string ⟨#[]⟩] 153)).r1 (.inr rfl) hg7)); (have HS8 := Lib.hid hSt8.2); clear hSt8 hown7 hg7))
        refine round_end (ts := ts) (ds := ds ++ [⟨ya, sd⟩]) (by rw [List.length_append, dgCells_snoc]; exact HS8.out) (HR7.out.setVar hSt.c1 (.inr rfl) (by omega) _) hB (by rw [List.map_append, List.map_cons, List.map_nil, toksOf_snoc, ← HTS.out]; simp) (by rw [List.map_append, List.map_cons, List.map_nil, toldOf_snoc, ← HDS.out, if_neg (show ¬ sd = 0 by omega)])
    · rcases Nat.eq_zero_or_pos sd with rfl | hsd
      ·
        have hk1 : ((sk : Int) == 0) = false := by simp; omega
        have hk2 : ¬ (sk : Int) = 0 := by omega
        gi_wp2_with fail
        refine (CallsIn.inRound l (callsIn_wide.2 (strings_clone ⟨st.toArray⟩ _ (by rw [Lib.size_eq]; exact hyl)))).mono ?_
        rintro e W2 ⟨rfl, hb2⟩
        have h52 := five_kept h5 hb2 hbW
        have h53 := five_text h52 (.string ⟨st.toArray⟩)
        have hSt2 := hSt.below hb2
        have hSt3 := hSt2.setOther (i := 2) h52 (.string ⟨st.toArray⟩)
        have hR3 := (Rd.of_below (n₀ := w.heap.size) hb2).setSame h52
        obtain ⟨⟨d0, d1, d2, d3, d4⟩, g0, g1, g2, g3, g4⟩ := five_of h52
        obtain ⟨⟨p0, p1, p2, p3, p4⟩, -⟩ := five_of h53
        have t2 := (cell_of_block hSt2.c0).1
        have t3 := (cell_of_block hSt3.c0).1
        have HBS : Hid (w.heap.size ≤ ((W2.setCell ⟨b, 2, none⟩ (.string ⟨st.toArray⟩)).alloc (.cells #[.int .i64 sk, .int .i64 ya, .string ⟨st.toArray⟩] 105)).heap.size) := by
          have h1 := hB.size
          have h2 := hb2.size
          show _ ≤ _
          rw [size_setal]
          omega
        have hmx : ts.length + 1 ≤ maxLen := by unfold maxLen; omega
        have H53 := Lib.hid h53
        have HS3 := Lib.hid (hSt3.alloc (.cells #[.int .i64 sk, .int .i64 ya, .string ⟨st.toArray⟩] 105))
        have HR3 := Lib.hid (hR3.alloc (.cells #[.int .i64 sk, .int .i64 ya, .string ⟨st.toArray⟩] 105))
        clear h53 h52 hSt2 hSt3 hR3 c0 c1 c2 c3 c4 f0 f1 f2 f3 f4
        gi_wp2_with (first | (gi_at_builtin; refine wpListIn_append_own _ rfl (.tmp 20) (.tmp 23) 110 rfl w.heap.size 105 i0 _ 3 32 Tryz.underlying110 hi hz0 hz1 hz2 rfl (by decide) _ _ _ rfl HS3.out.r0 ⟨W2.heap.size, 0, none⟩ 1 1 [.int .i64 sk, .int .i64 ya, .string ⟨st.toArray⟩] rfl rfl (cells3_set W2 b 2 _ _ _ _ 105) one3 hmx (by omega) HBS.out ?_; intro v' W5 hown5 hg5 hnil5; clear hnil5; obtain ⟨g, cap, rfl⟩ := ownsRow_succ hown5; (have hSt6 := HS3.out.toks hown5 hg5); (have h55 := five_grown (five_kept H53.out ((Below.refl _ _).alloc (Nat.le_refl _) _) (Array.getElem?_eq_some_iff.1 H53.out).1) HS3.out.r0 (by decide) hg5); obtain ⟨⟨q0, q1, q2, q3, q4⟩, -⟩ := five_of h55; obtain ⟨k0, k1⟩ := cell_of_block hSt6.1; (have hk5 : W5.heap[w.heap.size + 1]? = some (.cells #[u] 50 (0, 0)) := (Below.heap_setCell W5 ⟨w.heap.size, 0, none⟩ _ _ (by simp)).symm.trans hSt6.2.c1); obtain ⟨k2, k3⟩ := cell_of_block hk5; (have HR5 := Lib.hid (HR3.out.grown HS3.out.r0 (.inl rfl) hg5)); (have HS6 := Lib.hid hSt6.2); clear hSt6 h55 hown5 hg5 hk5 t2 t3 d0 d1 d2 d3 d4 g0 g1 g2 g3 g4 p0 p1 p2 p3 p4))
        refine round_end (ts := ts ++ [⟨sk, ya, st⟩]) (ds := ds) (by rw [List.length_append, tkCells_snoc]; exact HS6.out) (HR5.out.setVar hSt.c0 (.inl rfl) (Nat.le_refl _) _) hB (by rw [List.map_append, List.map_cons, List.map_nil, toksOf_snoc, ← HTS.out, if_neg (show ¬ sk = 0 by omega)]) (by rw [List.map_append, List.map_cons, List.map_nil, toldOf_snoc, ← HDS.out]; simp)
      ·
        have hd1 : ((sd : Int) == 0) = false := by simp; omega
        have hd2 : ¬ (sd : Int) = 0 := by omega
        have hmy : ds.length + 1 ≤ maxLen := by unfold maxLen; omega
        have hk1 : ((sk : Int) == 0) = false := by simp; omega
        have hk2 : ¬ (sk : Int) = 0 := by omega
        gi_wp2_with fail
        refine (CallsIn.inRound l (callsIn_wide.2 (strings_clone ⟨st.toArray⟩ _ (by rw [Lib.size_eq]; exact hyl)))).mono ?_
        rintro e W2 ⟨rfl, hb2⟩
        have h52 := five_kept h5 hb2 hbW
        have h53 := five_text h52 (.string ⟨st.toArray⟩)
        have hSt2 := hSt.below hb2
        have hSt3 := hSt2.setOther (i := 2) h52 (.string ⟨st.toArray⟩)
        have hR3 := (Rd.of_below (n₀ := w.heap.size) hb2).setSame h52
        obtain ⟨⟨d0, d1, d2, d3, d4⟩, g0, g1, g2, g3, g4⟩ := five_of h52
        obtain ⟨⟨p0, p1, p2, p3, p4⟩, -⟩ := five_of h53
        have t2 := (cell_of_block hSt2.c0).1
        have t3 := (cell_of_block hSt3.c0).1
        have HBS : Hid (w.heap.size ≤ ((W2.setCell ⟨b, 2, none⟩ (.string ⟨st.toArray⟩)).alloc (.cells #[.int .i64 sk, .int .i64 ya, .string ⟨st.toArray⟩] 105)).heap.size) := by
          have h1 := hB.size
          have h2 := hb2.size
          show _ ≤ _
          rw [size_setal]
          omega
        have hmx : ts.length + 1 ≤ maxLen := by unfold maxLen; omega
        have H53 := Lib.hid h53
        have HS3 := Lib.hid (hSt3.alloc (.cells #[.int .i64 sk, .int .i64 ya, .string ⟨st.toArray⟩] 105))
        have HR3 := Lib.hid (hR3.alloc (.cells #[.int .i64 sk, .int .i64 ya, .string ⟨st.toArray⟩] 105))
        clear h53 h52 hSt2 hSt3 hR3 c0 c1 c2 c3 c4 f0 f1 f2 f3 f4
        gi_wp2_with (first | (gi_at_builtin; refine wpListIn_append_own _ rfl (.tmp 20) (.tmp 23) 110 rfl w.heap.size 105 i0 _ 3 32 Tryz.underlying110 hi hz0 hz1 hz2 rfl (by decide) _ _ _ rfl HS3.out.r0 ⟨W2.heap.size, 0, none⟩ 1 1 [.int .i64 sk, .int .i64 ya, .string ⟨st.toArray⟩] rfl rfl (cells3_set W2 b 2 _ _ _ _ 105) one3 hmx (by omega) HBS.out ?_; intro v' W5 hown5 hg5 hnil5; clear hnil5; obtain ⟨g, cap, rfl⟩ := ownsRow_succ hown5; (have hSt6 := HS3.out.toks hown5 hg5); (have h55 := five_grown (five_kept H53.out ((Below.refl _ _).alloc (Nat.le_refl _) _) (Array.getElem?_eq_some_iff.1 H53.out).1) HS3.out.r0 (by decide) hg5); obtain ⟨⟨q0, q1, q2, q3, q4⟩, -⟩ := five_of h55; obtain ⟨k0, k1⟩ := cell_of_block hSt6.1; (have hk5 : W5.heap[w.heap.size + 1]? = some (.cells #[u] 50 (0, 0)) := (Below.heap_setCell W5 ⟨w.heap.size, 0, none⟩ _ _ (by simp)).symm.trans hSt6.2.c1); obtain ⟨k2, k3⟩ := cell_of_block hk5; (have HR5 := Lib.hid (HR3.out.grown HS3.out.r0 (.inl rfl) hg5)); (have HS6 := Lib.hid hSt6.2); clear hSt6 h55 hown5 hg5 hk5 t2 t3 d0 d1 d2 d3 d4 g0 g1 g2 g3 g4 p0 p1 p2 p3 p4) | (gi_at_builtin; refine wpListIn_append_own _ rfl (.tmp 28) (.tmp 35) 50 rfl w.heap.size 153 j0 _ 3 32 Tryz.underlying50 hj hy0 hy1 hy2 rfl (by decide) _ _ _ rfl (HS6.out.r1.alloc _) ⟨W5.heap.size, 0, none⟩ 1 1 [.int .i64 ya, .int .i64 sd, .string ⟨#[]⟩] rfl rfl (cells3_set W5 w.heap.size 0 _ _ _ _ 153) one3 hmy (by omega) ((by rw [size_setal]; have h1 := hB.size; have h3 := HR5.out.size; omega)) ?_; intro u' W7 hown7 hg7 hnil7; clear hnil7; obtain ⟨g', cap', rfl⟩ := ownsRow_succ hown7; (have hSt8 := (HS6.out.alloc (.cells #[.int .i64 ya, .int .i64 sd, .string ⟨#[]⟩] 153)).told hown7 hg7); obtain ⟨m0, m1⟩ := cell_of_block hSt8.1; (have HR7 := Lib.hid ((HR5.out.setVar hSt.c0 (.inl rfl) (Nat.le_refl _) _ : Rd w.heap.size W _).alloc (.cells #[.int .i64 ya, .int .i64 sd, .string ⟨#[]⟩] 153) |>.grown (HS6.out.alloc (.cells #[.int .i64 ya, .int .i64 sd, .string ⟨#[]⟩] 153)).r1 (.inr rfl) hg7)); (have HS8 := Lib.hid hSt8.2); clear hSt8 hown7 hg7))
        refine round_end (ts := ts ++ [⟨sk, ya, st⟩]) (ds := ds ++ [⟨ya, sd⟩]) (by rw [List.length_append, List.length_append, tkCells_snoc, dgCells_snoc]; exact HS8.out) (HR7.out.setVar hSt.c1 (.inr rfl) (by omega) _) hB (by rw [List.map_append, List.map_cons, List.map_nil, toksOf_snoc, ← HTS.out, if_neg (show ¬ sk = 0 by omega)]) (by rw [List.map_append, List.map_cons, List.map_nil, toldOf_snoc, ← HDS.out, if_neg (show ¬ sd = 0 by omega)])
  case done =>
    rintro D ys W hD rfl ⟨⟨v, u, hSt⟩, hB⟩ hK
    rw [hα] at hSt
    obtain ⟨ts, hts⟩ : ∃ ts, ts = toksOf (pieces 0 s.data.toList) := ⟨_, rfl⟩
    obtain ⟨ds, hds⟩ : ∃ ds, ds = toldOf (pieces 0 s.data.toList) := ⟨_, rfl⟩
    have htl : ts.length ≤ s.size := by
      rw [hts, Lib.size_eq]; exact Nat.le_trans (toksOf_le _) (pieces_le _ _ _ (Nat.le_refl _))
    rw [← hts, ← hds] at hSt
    have HTS := Lib.hid hts
    have HDS := Lib.hid hds
    clear hts hds
    obtain ⟨i0, hi, hz0, hz1, hz2⟩ := info_parts info35
    have hSd : St w.heap.size v ts.length (tkCells ts) u ds.length (dgCells ds) W.drew := hSt.same fun _ _ _ _ h => h
    have hKd : W.drew.heap[D]? = some (.deferred (some [])) := hK
    have hBd : Below w.heap.size w W.drew := hB.drew
    obtain ⟨t0, -⟩ := cell_of_block hSt.c0
    obtain ⟨t1, -⟩ := cell_of_block hSt.c1
    have hmx : ts.length + 1 ≤ maxLen := by unfold maxLen; omega
    have HS4 := Lib.hid (hSd.alloc (.cells #[.int .i64 6, .int .i64 (s.size : Int), .string ⟨#[]⟩] 105))
    have HB4 := Lib.hid (hBd.alloc hBd.size (.cells #[.int .i64 6, .int .i64 (s.size : Int), .string ⟨#[]⟩] 105))
    have HK4 := Lib.hid ((Below.heap_alloc W.drew (.cells #[.int .i64 6, .int .i64 (s.size : Int), .string ⟨#[]⟩] 105) D (Array.getElem?_eq_some_iff.1 hKd).1).trans hKd)
    have hSa := hSt.alloc (.cells #[.int .i64 6, .int .i64 (s.size : Int), .string ⟨#[]⟩] 105)
    obtain ⟨t2, -⟩ := cell_of_block hSa.c0
    obtain ⟨t3, -⟩ := cell_of_block hSa.c1
    clear hSt hSd hKd hK hBd hB hSa
    gi_wp2
    refine wp_only ?_
    go_region_law (refine step_append_lies _ rfl (.tmp 37) (.tmp 41) 110 rfl w.heap.size 105 i0 _ 3 32 Tryz.underlying110 hi hz0 hz1 hz2 rfl (by decide) v ts.length (tkCells ts) rfl HS4.out.r0 ⟨W.heap.size, 0, none⟩ 1 1 [.int .i64 6, .int .i64 (s.size : Int), .string ⟨#[]⟩] rfl rfl (cells3_new W.drew _ _ _ 105) one3 (by decide) hmx (by omega) HB4.out.size _ rfl ?_; intro g cap W5 hown5 hg5 hloc5 hlt5; clear hloc5 hlt5; (have hc5 := far_row HS4.out.r0 hg5 HS4.out.c1 (fun c fz h => by cases h)); obtain ⟨t5, -⟩ := cell_of_block hc5; (have HO5 := Lib.hid hown5); (have HG5 := Lib.hid hg5); clear hown5 hg5 hc5)
    all_goals
      have hK5 : W5.heap[D]? = some (.deferred (some [])) := far_row HS4.out.r0 HG5.out HK4.out (fun c fz h => by cases h)
      have hR5 : W5.ownsRow w.heap.size 153 3 u ds.length (dgCells ds) := ownsRow_same HS4.out.r1 (fun k c hk => far_row HS4.out.r0 HG5.out hk (fun c fz h => by cases h))
      have hB5 : Below w.heap.size w W5 := HB4.out.trans (Rd.belows (Rd.grown (Rd.refl _ _) HS4.out.r0 (.inl rfl) HG5.out) HB4.out.size)
      have HR5 := Lib.hid hR5
      clear hR5
      refine only_intro ?_
      gi_wp2
      refine ⟨by simp, .inl ⟨_, _, rfl, run_takeDeferred hK5, ?_⟩⟩
      refine ⟨_, results_tmp2 rfl _ _ _, _, _, rfl, ?_, ?_, ?_⟩
      · rw [← HTS.out, tkCells_snoc]
        exact ownsRow_same HO5.out (fun k c hk => (World.putObj_heap_other (by rintro rfl; rw [hK5] at hk; cases hk)).trans hk)
      · rw [← HDS.out]
        exact ownsRow_same HR5.out (fun k c hk => (World.putObj_heap_other (by rintro rfl; rw [hK5] at hk; cases hk)).trans hk)
      · exact hB5.trans (belowK_b (w := w) (Nat.le_refl _) W5 D _ _ (by omega) hK5 rfl rfl)
  case stop =>
    rintro D c pre W _ _ h _
    exact h.elim
end Go.Proofs.YtijnjoonbjdafaaGreatDoor
namespace Go.Proofs.YtijnjoonbjdafaaGreatDoor
set_option maxRecDepth 20000
open Go.RowKit Go.Shelf
abbrev Tri : Type := Value × Value × Value
def Tri.cells (x : Tri) : List Value := [x.1, x.2.1, x.2.2]
def Tk.tri (t : Tk) : Tri := (.int .i64 t.k, .int .i64 t.a, .string ⟨t.t.toArray⟩)
def Dg.tri (t : Dg) : Tri := (.int .i64 t.a, .int .i64 t.d, .string ⟨#[]⟩)
theorem tri_get : ∀ (L : List Tri) (i : Nat) (x : Tri), L[i]? = some x → (L.flatMap Tri.cells)[3 * i]? = some x.1 ∧ (L.flatMap Tri.cells)[3 * i + 1]? = some x.2.1 ∧ (L.flatMap Tri.cells)[3 * i + 2]? = some x.2.2
  | [], i, x, h => by simp at h
  | y :: r, 0, x, h => by
    simp at h
    subst h
    simp [Tri.cells]
  | y :: r, i + 1, x, h => by
    have ih := tri_get r i x (by simpa using h)
    have e : ∀ k, ((y :: r).flatMap Tri.cells)[3 * (i + 1) + k]? = (r.flatMap Tri.cells)[3 * i + k]? := by
      intro k
      rw [List.flatMap_cons, List.getElem?_append_right (by simp [Tri.cells]; omega)]
      congr 1
      simp [Tri.cells]
      omega
    exact ⟨(e 0).trans ih.1, (e 1).trans ih.2.1, (e 2).trans ih.2.2⟩
theorem tk_flat (l : List Tk) : tkCells l = (l.map Tk.tri).flatMap Tri.cells := by
  induction l with
  | nil => rfl
  | cons x r ih => simp only [tkCells, List.flatMap_cons, List.map_cons] at ih ⊢; rw [ih]; rfl
def Tris (W : World) (a0 : Option Addr) (L : List Tri) : Prop :=
  ∀ i x, L[i]? = some x → ∃ g o, a0 = some ⟨g, o, none⟩ ∧ g < W.heap.size ∧ W.cell? ⟨g, o + 3 * i, none⟩ = some x.1 ∧ W.cell? ⟨g, o + 3 * i + 1, none⟩ = some x.2.1 ∧ W.cell? ⟨g, o + 3 * i + 2, none⟩ = some x.2.2
theorem Tris.below {W W' : World} {a0 : Option Addr} {L : List Tri} (h : Tris W a0 L) (hb : Below W.heap.size W W') : Tris W' a0 L := by
  intro i x hx
  obtain ⟨g, o, h1, h2, h3, h4, h5⟩ := h i x hx
  exact ⟨g, o, h1, Nat.lt_of_lt_of_le h2 hb.size, (hb.cell (p := ⟨g, _, none⟩) h2).trans h3, (hb.cell (p := ⟨g, _, none⟩) h2).trans h4, (hb.cell (p := ⟨g, _, none⟩) h2).trans h5⟩
theorem Tris.nil (W : World) (a0 : Option Addr) : Tris W a0 [] := fun i x h => by simp at h
theorem Tris.drop {W : World} {g o : Nat} {L : List Tri} (h : Tris W (some ⟨g, o, none⟩) L) (k : Nat) : Tris W (some ⟨g, o + 3 * k, none⟩) (L.drop k) := by
  intro i x hx
  rw [List.getElem?_drop] at hx
  obtain ⟨g', o', h1, h2, h3, h4, h5⟩ := h (k + i) x hx
  cases h1
  refine ⟨g, o + 3 * k, rfl, h2, ?_, ?_, ?_⟩
  · rw [show o + 3 * k + 3 * i = o + 3 * (k + i) by omega]; exact h3
  · rw [show o + 3 * k + 3 * i + 1 = o + 3 * (k + i) + 1 by omega]; exact h4
  · rw [show o + 3 * k + 3 * i + 2 = o + 3 * (k + i) + 2 by omega]; exact h5
theorem Tris.take {W : World} {a0 : Option Addr} {L : List Tri} (h : Tris W a0 L) (k : Nat) : Tris W a0 (L.take k) := by
  intro i x hx
  rw [List.getElem?_take] at hx
  split at hx
  · exact h i x hx
  · cases hx
theorem tris_of {W : World} {base : Nat} {e : TypeId} {v : Value} {n : Nat} {L : List Tri} (h : W.ownsRow base e 3 v n (L.flatMap Tri.cells)) (hn : n = L.length) :
    ∃ a0 cap, v = .slice a0 L.length cap ∧ L.length ≤ cap ∧ cap ≤ maxLen ∧ (a0 = none → L = [] ∧ cap = 0) ∧ (∀ a, a0 = some a → ∃ g, a = ⟨g, 0, none⟩ ∧ g < W.heap.size) ∧ Tris W a0 L := by
  subst hn
  rcases h.2 with ⟨hv, hn⟩ | ⟨g, cap, cur, hv, hb, hg, hc, hm, hs, ht⟩
  · have hL : L = [] := List.eq_nil_of_length_eq_zero hn
    subst hL
    exact ⟨none, 0, hv, Nat.le_refl _, Nat.zero_le _, fun _ => ⟨rfl, rfl⟩, (fun a h => by cases h), Tris.nil _ _⟩
  · refine ⟨some ⟨g, 0, none⟩, cap, hv, hc, hm, (fun h => by cases h), (fun a h => by cases h; exact ⟨g, rfl, (Array.getElem?_eq_some_iff.1 hg).1⟩), fun i x hx => ?_⟩
    obtain ⟨h1, h2, h3⟩ := tri_get L i x hx
    have hc : ∀ j y, (L.flatMap Tri.cells)[j]? = some y → W.cell? ⟨g, j, none⟩ = some y := by
      intro j y hy
      have := h.cells (g := g) (by rw [hv]; rfl) j y hy
      rw [add_zero] at this
      exact this
    refine ⟨g, 0, rfl, (Array.getElem?_eq_some_iff.1 hg).1, ?_, ?_, ?_⟩
    · rw [Nat.zero_add]; exact hc _ _ h1
    · rw [Nat.zero_add]; exact hc _ _ h2
    · rw [Nat.zero_add]; exact hc _ _ h3
def toks (l : Bs) : List Tk := toksOf (pieces 0 l) ++ [⟨6, l.length, []⟩]
def told (l : Bs) : List Dg := toldOf (pieces 0 l)
structure Sl (W : World) (a0 : Option Addr) (cap : Nat) (L : List Tri) : Prop where
  hcap : L.length ≤ cap
  hmax : cap ≤ maxLen
  hnone : a0 = none → L = [] ∧ cap = 0
  hsome : ∀ a, a0 = some a → ∃ g, a = ⟨g, 0, none⟩ ∧ g < W.heap.size
  tris : Tris W a0 L
theorem Sl.below {W W' : World} {a0 : Option Addr} {cap : Nat} {L : List Tri} (h : Sl W a0 cap L) (hb : Below W.heap.size W W') : Sl W' a0 cap L :=
  ⟨h.hcap, h.hmax, h.hnone, (fun a ha => by obtain ⟨g, h1, h2⟩ := h.hsome a ha; exact ⟨g, h1, Nat.lt_of_lt_of_le h2 hb.size⟩), h.tris.below hb⟩
/-! The pieces by reckoning. -/
def pcsF : Nat → Nat → Bs → List Pc
  | 0, _, _ => []
  | _ + 1, _, [] => []
  | f + 1, a, c :: r => ⟨a, stepOf (c :: r)⟩ :: pcsF f (a + (stepOf (c :: r)).n) ((c :: r).drop (stepOf (c :: r)).n)
theorem pcs_eqF : ∀ (f a : Nat) (l : Bs), l.length ≤ f → pcs a l = pcsF f a l
  | 0, a, l, h => by
    have : l = [] := List.eq_nil_of_length_eq_zero (by omega)
    subst this
    simp [pcs_nil, pcsF]
  | f + 1, a, [], h => by simp [pcs_nil, pcsF]
  | f + 1, a, c :: r, h => by
    have hn := stepOf_n (c :: r) (by simp)
    rw [pcs_cons a (c :: r) (by simp), pcsF, pcs_eqF f _ _ (by rw [List.length_drop]; omega)]
def toksF (l : Bs) : List (Nat × Nat × Bs) := (toksOf ((pcsF l.length 0 l).filter Pc.isPiece) ++ [(⟨6, l.length, []⟩ : Tk)]).map (fun t : Tk => (t.k, t.a, t.t))
theorem toks_eqF (l : Bs) : (toks l).map (fun t => (t.k, t.a, t.t)) = toksF l := by
  rw [toks, toksF, pieces, pcs_eqF _ 0 l (Nat.le_refl _)]
def toldF (l : Bs) : List (Nat × Nat) := (toldOf ((pcsF l.length 0 l).filter Pc.isPiece)).map (fun t : Dg => (t.a, t.d))
theorem told_eqF (l : Bs) : (told l).map (fun t => (t.a, t.d)) = toldF l := by
  rw [told, toldF, pieces, pcs_eqF _ 0 l (Nat.le_refl _)]
end Go.Proofs.YtijnjoonbjdafaaGreatDoor

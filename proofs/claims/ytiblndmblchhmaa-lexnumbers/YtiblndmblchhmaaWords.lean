/-
  The walk of the law LexWords.
-/
import Derived.Test.YtiblndmblchhmaaBlanks
import Derived.Test.YtiblndmblchhmaaName
import Derived.Laws.IdiomStrings
namespace Go.Proofs.Ytiblndmblchhmaa
open Go.RowKit Go.Shelf Go.Sort

/-- A text of bytes of a name alone. -/
def Namy (t : Bs) : Prop := t ≠ [] ∧ (∀ c ∈ t, isPart c = true) ∧ (∀ c, t.head? = some c → isStart c = true)

theorem pieces_namy {t : Bs} (h : Namy t) : pieces 0 t = [⟨0, ⟨t.length, wordKind t, t, 0⟩⟩] := by
  obtain ⟨hne, hall, hhd⟩ := h
  have hst : stepOf t = ⟨t.length, wordKind t, t, 0⟩ := by
    have hsp := spanLen_whole t hall
    cases t with
    | nil => exact absurd rfl hne
    | cons c r =>
      have hs := hhd c rfl
      obtain ⟨hb, h35⟩ := start_not c hs
      simp only [stepOf, hb, h35, hs, hsp, Bool.false_eq_true, if_false, if_true, List.take_length]
  have hk : wordKind t ≠ 0 := by unfold wordKind; split <;> omega
  rw [pieces_piece 0 t hne (by rw [hst]; exact .inl hk), hst, List.drop_length, pieces_nil]
theorem toks_namy {t : Bs} (h : Namy t) : toks t = [⟨wordKind t, 0, t⟩, ⟨6, t.length, []⟩] := by
  have hk : wordKind t ≠ 0 := by unfold wordKind; split <;> omega
  rw [toks, pieces_namy h, toksOf_cons, if_neg hk]
  rfl
theorem told_namy {t : Bs} (h : Namy t) : told t = [] := by
  rw [told, pieces_namy h, toldOf_cons]
  rfl
theorem isName_namy {t : Bs} (h : Namy t) : isName t = (wordKind t == 1) := by
  rw [isName, pieces_namy h]
  simp [pcName]

def wordOf (k : Nat) : Bs := words.getD k [117, 115, 101]
def letterOf (k : Nat) : UInt8 := [97, 98, 122, 95, 48, 57].getD k 97

theorem words_all : (List.range 13).all (fun i => (wordOf i).all isPart && (match wordOf i with | [] => false | c :: _ => isStart c) && wordKind (wordOf i) == 2 && decide ((wordOf i).length ≤ 5) && (List.range 6).all (fun j => isPart (letterOf j) && wordKind (wordOf i ++ [letterOf j]) == 1)) = true := by decide +kernel

theorem word_facts {i j : Nat} (hi : i < 13) (hj : j < 6) : Namy (wordOf i) ∧ Namy (wordOf i ++ [letterOf j]) ∧ wordKind (wordOf i) = 2 ∧ wordKind (wordOf i ++ [letterOf j]) = 1 ∧ (wordOf i).length ≤ 5 := by
  have h := List.all_eq_true.1 words_all i (List.mem_range.2 hi)
  simp only [Bool.and_eq_true, List.all_eq_true, beq_iff_eq, decide_eq_true_eq] at h
  obtain ⟨⟨⟨⟨h1, h2⟩, h3⟩, h4⟩, h5⟩ := h
  have h6 := h5 j (List.mem_range.2 hj)
  cases hw : wordOf i with
  | nil => rw [hw] at h2; cases h2
  | cons c r =>
    rw [hw] at h1 h2 h3 h4 h6
    simp only at h2
    refine ⟨⟨by simp, h1, ?_⟩, ⟨by simp, ?_, ?_⟩, h3, h6.2, h4⟩
    · intro c' hc'
      simp at hc'
      rw [← hc']; exact h2
    · intro c' hc'
      rcases List.mem_append.1 hc' with hc' | hc'
      · exact h1 c' hc'
      · simp only [List.mem_singleton] at hc'
        rw [hc']; exact h6.1
    · intro c' hc'
      simp at hc'
      rw [← hc']; exact h2

/-- Names in a row. -/
def rowOf (t : Bs) : Nat → Bs
  | 0 => []
  | k + 1 => rowOf t k ++ t ++ [32]

theorem row_print {t : Bs} (h : wordKind t = 1) : ∀ k, rowOf t k = printAll [32] (List.replicate k ⟨1, 0, t⟩)
  | 0 => rfl
  | k + 1 => by
    rw [rowOf, row_print h k, List.replicate_succ', printAll_append]
    simp [printAll, printT]
theorem row_toks {t : Bs} (hn : Namy t) (h : wordKind t = 1) (k : Nat) : (toks (rowOf t k)).length = k + 1 ∧ told (rowOf t k) = [] := by
  obtain ⟨ps, h1, h2, h3⟩ := print_back gap0 (List.replicate k ⟨1, 0, t⟩) 0 [] (by
    intro x hx
    rw [List.mem_replicate] at hx
    rw [hx.2]
    exact .inl ⟨h.symm, hn.1, hn.2.1, hn.2.2⟩)
  rw [List.append_nil, pieces_nil, List.append_nil, ← row_print h] at h1
  constructor
  · rw [toks, h1, List.length_append]
    have := congrArg List.length h2
    simp at this
    rw [this]
    rfl
  · rw [told, h1, h3]
theorem row_len (t : Bs) : ∀ k, (rowOf t k).length = k * (t.length + 1)
  | 0 => by simp [rowOf]
  | k + 1 => by simp [rowOf, row_len t k, Nat.succ_mul]

theorem conv_one (W : World) (o : Obj) (c : UInt8) : (convert 43 9 (.slice (some ⟨W.heap.size + 1, 0, none⟩) 1 1)).run Try.prog ((W.alloc o).alloc (.cells #[.int .u8 (c.toNat : Int)] 5)) = .ok (.string ⟨#[c]⟩) ((W.alloc o).alloc (.cells #[.int .u8 (c.toNat : Int)] 5)) := by
  have h := run_convert_bytes_back (P := Try.prog) ((W.alloc o).alloc (.cells #[.int .u8 (c.toNat : Int)] 5)) 43 9 5 ⟨W.heap.size + 1, 0, none⟩ 1 [c] Try.underlying43 Try.underlying5 Try.underlying9 (by
    intro j hj
    have hj0 : j = 0 := by simpa using hj
    subst hj0
    have hn := heap_alloc_new (W.alloc o) (.cells #[.int .u8 (c.toNat : Int)] 5)
    rw [World.size_alloc] at hn
    rw [add_zero, cell_at hn]
    rfl)
  exact h

theorem word_get (p : Nat) (hp : p < 13) : ∀ h, ([Value.string ⟨#[117, 115, 101]⟩, .string ⟨#[116, 121, 112, 101]⟩, .string ⟨#[108, 101, 116]⟩, .string ⟨#[105, 110]⟩, .string ⟨#[105, 102]⟩, .string ⟨#[116, 104, 101, 110]⟩, .string ⟨#[101, 108, 115, 101]⟩, .string ⟨#[102, 117, 110]⟩, .string ⟨#[116, 114, 117, 101]⟩, .string ⟨#[102, 97, 108, 115, 101]⟩, .string ⟨#[105, 110, 116]⟩, .string ⟨#[98, 111, 111, 108]⟩, .string ⟨#[116, 101, 120, 116]⟩] : List Value)[p]'h = .string ⟨(wordOf p).toArray⟩ := by
  intro h
  match p, hp with
  | 0, _ => rfl
  | 1, _ => rfl
  | 2, _ => rfl
  | 3, _ => rfl
  | 4, _ => rfl
  | 5, _ => rfl
  | 6, _ => rfl
  | 7, _ => rfl
  | 8, _ => rfl
  | 9, _ => rfl
  | 10, _ => rfl
  | 11, _ => rfl
  | 12, _ => rfl
theorem letter_get (q : Nat) (hq : q < 6) : ∀ h, (⟨#[97, 98, 122, 95, 48, 57]⟩ : ByteArray)[q]'h = letterOf q := by
  intro h
  match q, hq with
  | 0, _ => rfl
  | 1, _ => rfl
  | 2, _ => rfl
  | 3, _ => rfl
  | 4, _ => rfl
  | 5, _ => rfl

set_option maxRecDepth 20000 in
set_option maxHeartbeats 8000000 in
theorem words_walk (i j n : Nat) (hi : i < 256) (hj : j < 256) (hn : n < 256) (w : World) :
    Calls Try.prog 8 #[.int .u8 (i : Int), .int .u8 (j : Int), .int .u8 (n : Int)] w fun e w' => e = .returned (.bool true) ∧ Below w.heap.size w w' := by
  have hm : ((i : Int).tmod 13) = ((i % 13 : Nat) : Int) := by rw [Int.tmod_eq_emod_of_nonneg (by omega)]; omega
  have hm1 : ((j : Int).tmod 6) = ((j % 6 : Nat) : Int) := by rw [Int.tmod_eq_emod_of_nonneg (by omega)]; omega
  have hm2 : ((n : Int).tmod 30) = ((n % 30 : Nat) : Int) := by rw [Int.tmod_eq_emod_of_nonneg (by omega)]; omega
  obtain ⟨p, hp⟩ : ∃ p, p = i % 13 := ⟨_, rfl⟩
  obtain ⟨q, hq⟩ : ∃ q, q = j % 6 := ⟨_, rfl⟩
  obtain ⟨r, hr⟩ : ∃ r, r = n % 30 := ⟨_, rfl⟩
  have hp2 : p < 13 := by omega
  have hq2 : q < 6 := by omega
  have hr2 : r < 30 := by omega
  rw [← hp] at hm
  rw [← hq] at hm1
  rw [← hr] at hm2
  clear hp hq hr
  obtain ⟨f1, f2, f3, f4, f5⟩ := word_facts hp2 hq2
  have hword := word_get p hp2
  have hlet := letter_get q hq2
  obtain ⟨Wd, hWd⟩ : ∃ Wd : ByteArray, Wd = ⟨(wordOf p).toArray⟩ := ⟨_, rfl⟩
  obtain ⟨c, hc⟩ : ∃ c, c = letterOf q := ⟨_, rfl⟩
  have hWl : Wd.data.toList = wordOf p := by rw [hWd]
  have hWs : Wd.size ≤ 5 := by rw [Lib.size_eq, hWl]; exact f5
  rw [← hc] at f2 f4 hlet
  rw [← hWd] at hword
  have hcl : (Wd ++ (⟨#[c]⟩ : ByteArray)).data.toList = wordOf p ++ [c] := by simp [hWl]
  have hc1 : (⟨#[c]⟩ : ByteArray).size = 1 := rfl
  have l1 := lex_is Wd (by omega)
  have l2 := lex_is (Wd ++ (⟨#[c]⟩ : ByteArray)) (by rw [ByteArray.size_append, hc1]; omega)
  have l3 := name_any Wd (by omega)
  have l4 := name_any (Wd ++ (⟨#[c]⟩ : ByteArray)) (by rw [ByteArray.size_append, hc1]; omega)
  rw [hWl, toks_namy f1, told_namy f1, f3] at l1
  rw [hcl, toks_namy f2, told_namy f2, f4] at l2
  rw [hWl, isName_namy f1, f3] at l3
  rw [hcl, isName_namy f2, f4] at l4
  simp only [List.length_cons, List.length_nil, Nat.reduceAdd] at l1 l2
  have e3 : ((2 : Nat) == 1) = false := rfl
  have e4 : ((1 : Nat) == 1) = true := rfl
  rw [e3] at l3
  rw [e4] at l4
  clear e3 e4
  have HR := Lib.hid (row_toks f2 f4)
  have HRL := Lib.hid (row_len (wordOf p ++ [c]))
  have HCL := Lib.hid hcl
  have HWL := Lib.hid hWl
  have L1 := Lib.hid l1
  have L2 := Lib.hid l2
  have L3 := Lib.hid l3
  have L4 := Lib.hid l4
  have HF5 := Lib.hid f5
  clear hWd hc f1 f2 f3 f4 f5 hcl hWl l1 l2 l3 l4
  have hcv := conv_one
  go_enter Try.func8, Try.ntmps8
  go_wp2_with fail
  refine (alive_any _).mono ?_
  rintro e w1 ⟨rfl, b1⟩
  go_wp2_with fail
  have B2 := (b1.alloc b1.size (.cells #[Value.string ⟨#[117, 115, 101]⟩, .string ⟨#[116, 121, 112, 101]⟩, .string ⟨#[108, 101, 116]⟩, .string ⟨#[105, 110]⟩, .string ⟨#[105, 102]⟩, .string ⟨#[116, 104, 101, 110]⟩, .string ⟨#[101, 108, 115, 101]⟩, .string ⟨#[102, 117, 110]⟩, .string ⟨#[116, 114, 117, 101]⟩, .string ⟨#[102, 97, 108, 115, 101]⟩, .string ⟨#[105, 110, 116]⟩, .string ⟨#[98, 111, 111, 108]⟩, .string ⟨#[116, 101, 120, 116]⟩] 9)).alloc (by simp; have := b1.size; omega) (.cells #[.int .u8 (c.toNat : Int)] 5)
  refine (L1.out _).mono ?_
  rintro e w2 ⟨a0, c0, a1, c1, rfl, s0, s1, b2⟩
  obtain ⟨g, o, rfl, hg, q0, q1, q2⟩ := s0.tris 0 _ rfl
  obtain ⟨g2, e6, _⟩ := s0.hsome _ rfl
  cases e6
  simp only [Tk.tri] at q0
  have B3 := B2.trans (b2.mono B2.size)
  clear q1 q2 s0 s1 b1 b2 B2 hword hlet hcv
  go_wp2_with fail
  refine (L2.out _).mono ?_
  rintro e w3 ⟨a2, c2, a3, c3, rfl, s2, s3, b3⟩
  have q0' := (b3.cell (p := ⟨g, _, none⟩) hg).trans q0
  obtain ⟨g3, o3, rfl, hg3, p0, p1, p2⟩ := s2.tris 0 _ rfl
  obtain ⟨g4, e6, _⟩ := s2.hsome _ rfl
  cases e6
  simp only [Tk.tri] at p0
  have B4 := B3.trans (b3.mono B3.size)
  clear p1 p2 s2 s3 b3 B3 q0
  go_wp2_with fail
  refine (L3.out _).mono ?_
  rintro e w4 ⟨rfl, b4⟩
  have p0' := (b4.cell (p := ⟨g3, _, none⟩) hg3).trans p0
  have B5 := B4.trans (b4.mono B4.size)
  clear p0 q0' b4 B4
  go_wp2_with fail
  refine (L4.out _).mono ?_
  rintro e w5 ⟨rfl, b5⟩
  have B6 := B5.trans (b5.mono B5.size)
  clear p0' b5 B5
  go_wp2_with fail
  go_loopw [14, 16] (fun s14 s16 wr => ∃ (x : Nat) (X : ByteArray), s14 = .string X ∧ s16 = .int .i64 (x : Int) ∧ x ≤ r ∧ X.data.toList = rowOf (wordOf p ++ [c]) x ∧ Below w.heap.size w wr) (fun _ s16 _ => r - (intOf s16).toNat)
  case atStart => exact ⟨0, _, rfl, rfl, Nat.zero_le _, rfl, B6⟩
  case round =>
    clear B6
    obtain ⟨x, X, rfl, rfl, hx, hX, hB⟩ := hrel
    have hXs : X.size ≤ 30 * 8 := by
      rw [Lib.size_eq, hX, HRL.out]
      have h5 := HF5.out
      have : x * ((wordOf p ++ [c]).length + 1) ≤ 30 * 8 := Nat.mul_le_mul (by omega) (by simp; omega)
      exact this
    have HX := Lib.hid hX
    clear hX
    by_cases hlt : x < r
    · go_wp2_with fail
      go_roundw
      case rel =>
        refine ⟨x + 1, _, rfl, by go_num, by omega, ?_, hB⟩
        rw [rowOf]
        simp [HX.out, HWL.out]
      case measure => simp [intOf]; omega
    · have hxr : x = r := by omega
      have hge : decide ((x : Int) < (r : Int)) = false := by simp; omega
      have hge' : decide (x < r) = false := by simp; omega
      have l5 := lex_is X (by omega)
      obtain ⟨M, hM⟩ : ∃ M, M = toks X.data.toList := ⟨_, rfl⟩
      have hMl : M.length = r + 1 := by rw [hM, HX.out, (HR.out x).1, hxr]
      have hTd : told X.data.toList = [] := by rw [HX.out]; exact (HR.out x).2
      rw [← hM, hTd, hMl] at l5
      simp only [List.length_nil] at l5
      have L5 := Lib.hid l5
      clear hM hMl hTd l5 hlt hxr
      go_wp2_with fail
      refine (L5.out _).mono ?_
      rintro e w6 ⟨a4, c4, a5, c5, rfl, s4, s5, b6⟩
      go_wp2_with fail
      go_ret
      exact ⟨rfl, hB.trans (b6.mono hB.size)⟩

end Go.Proofs.Ytiblndmblchhmaa

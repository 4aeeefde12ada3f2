/-
  Plain lists of bytes: what stands at a place of a source, one piece after the other. No walk.
-/
import Derived.Test.YtijnjoonbjdafaaGreatDoorRows
namespace Go.Proofs.YtijnjoonbjdafaaGreatDoor
abbrev Bs := List UInt8
def isBlank (c : UInt8) : Bool := c.toNat == 32 || c.toNat == 9 || c.toNat == 10 || c.toNat == 13
def isInLine (c : UInt8) : Bool := c.toNat != 10
def isInText (c : UInt8) : Bool := c.toNat != 10 && c.toNat != 34
def isStart (c : UInt8) : Bool := decide (97 ≤ c.toNat) && decide (c.toNat ≤ 122) || c.toNat == 95
def isDig (c : UInt8) : Bool := decide (48 ≤ c.toNat) && decide (c.toNat ≤ 57)
def isPart (c : UInt8) : Bool := isStart c || isDig c
def isSg (c : UInt8) : Bool := [61, 58, 59, 44, 46, 40, 41, 123, 125, 124, 63].contains c
def words : List Bs := [[117, 115, 101], [116, 121, 112, 101], [108, 101, 116], [105, 110], [105, 102], [116, 104, 101, 110], [101, 108, 115, 101], [102, 117, 110], [116, 114, 117, 101], [102, 97, 108, 115, 101], [105, 110, 116], [98, 111, 111, 108], [116, 101, 120, 116]]
def isWordB (s : Bs) : Bool := words.contains s
def spanLen (p : UInt8 → Bool) : Bs → Nat
  | [] => 0
  | c :: r => if p c then spanLen p r + 1 else 0
theorem spanLen_le (p : UInt8 → Bool) : ∀ l, spanLen p l ≤ l.length
  | [] => Nat.le_refl _
  | c :: r => by
    have := spanLen_le p r
    simp only [spanLen, List.length_cons]
    split <;> omega
theorem spanLen_all (p : UInt8 → Bool) : ∀ (l : Bs) (i : Nat), i < spanLen p l → ∃ c, l[i]? = some c ∧ p c = true
  | [], i, h => by simp [spanLen] at h
  | c :: r, i, h => by
    simp only [spanLen] at h
    split at h
    · rename_i hc
      cases i with
      | zero => exact ⟨c, rfl, hc⟩
      | succ i => exact spanLen_all p r i (by omega)
    · omega
theorem spanLen_end (p : UInt8 → Bool) : ∀ (l : Bs) (c : UInt8), l[spanLen p l]? = some c → p c = false
  | [], c, h => by simp at h
  | x :: r, c, h => by
    simp only [spanLen] at h
    split at h
    · rename_i hx
      exact spanLen_end p r c (by simpa using h)
    · rename_i hx
      simp at h
      subst h
      simpa using hx
structure Step where
  n : Nat
  k : Nat
  t : Bs
  d : Nat
def wordKind (s : Bs) : Nat := if isWordB s then 2 else 1
def stepOf : Bs → Step
  | [] => ⟨0, 0, [], 0⟩
  | c :: r =>
    if isBlank c then ⟨1, 0, [], 0⟩
    else if c = 35 then ⟨spanLen isInLine (c :: r), 0, [], 0⟩
    else if isStart c then ⟨spanLen isPart (c :: r), wordKind ((c :: r).take (spanLen isPart (c :: r))), (c :: r).take (spanLen isPart (c :: r)), 0⟩
    else if isDig c then (if 18 < spanLen isDig (c :: r) then ⟨spanLen isDig (c :: r), 3, [48], 13⟩ else ⟨spanLen isDig (c :: r), 3, (c :: r).take (spanLen isDig (c :: r)), 0⟩)
    else if c = 34 then (if r[spanLen isInText r]? = some 34 then ⟨spanLen isInText r + 2, 4, r.take (spanLen isInText r), 0⟩ else ⟨spanLen isInText r + 1, 0, [], 1⟩)
    else if c = 45 ∧ r.head? = some 62 then ⟨2, 5, [45, 62], 0⟩
    else if isSg c then ⟨1, 5, [c], 0⟩
    else ⟨1, 0, [], 1⟩
theorem start_part {c : UInt8} (h : isStart c = true) : isPart c = true := by simp [isPart, h]
theorem spanLen_pos {p : UInt8 → Bool} {c : UInt8} (r : Bs) (h : p c = true) : 1 ≤ spanLen p (c :: r) := by simp [spanLen, h]
theorem hash_line : isInLine 35 = true := by decide
theorem stepOf_n : ∀ l : Bs, l ≠ [] → 1 ≤ (stepOf l).n ∧ (stepOf l).n ≤ l.length
  | [], h => absurd rfl h
  | c :: r, _ => by
    simp only [stepOf]
    split
    · simp
    split
    · rename_i h; subst h; exact ⟨spanLen_pos r hash_line, spanLen_le _ _⟩
    split
    · rename_i h; exact ⟨spanLen_pos r (start_part h), spanLen_le _ _⟩
    split
    · rename_i h
      split <;> exact ⟨spanLen_pos r h, spanLen_le _ _⟩
    split
    · have h1 := spanLen_le isInText r
      split
      · rename_i h2
        have := (List.getElem?_eq_some_iff.1 h2).1
        simp only [List.length_cons]; omega
      · simp only [List.length_cons]; omega
    split
    · rename_i h
      cases r with
      | nil => simp at h
      | cons x r => simp
    split <;> simp
structure Pc where
  at_ : Nat
  s : Step
def pcs (at_ : Nat) (l : Bs) : List Pc :=
  if _h : l = [] then [] else ⟨at_, stepOf l⟩ :: pcs (at_ + (stepOf l).n) (l.drop (stepOf l).n)
termination_by l.length
decreasing_by
  have := stepOf_n l (by assumption)
  simp only [List.length_drop]
  omega
theorem pcs_nil (a : Nat) : pcs a [] = [] := by rw [pcs]; simp
theorem pcs_cons (a : Nat) (l : Bs) (h : l ≠ []) : pcs a l = ⟨a, stepOf l⟩ :: pcs (a + (stepOf l).n) (l.drop (stepOf l).n) := by rw [pcs]; simp [h]
def Pc.isPiece (p : Pc) : Bool := p.s.k != 0 || p.s.d != 0
def pieces (a : Nat) (l : Bs) : List Pc := (pcs a l).filter Pc.isPiece
theorem pieces_nil (a : Nat) : pieces a [] = [] := by simp [pieces, pcs_nil]
theorem pieces_gap (a : Nat) (l : Bs) (h : l ≠ []) (h1 : (stepOf l).k = 0) (h2 : (stepOf l).d = 0) : pieces a l = pieces (a + (stepOf l).n) (l.drop (stepOf l).n) := by
  simp [pieces, pcs_cons a l h, Pc.isPiece, h1, h2]
theorem pieces_piece (a : Nat) (l : Bs) (h : l ≠ []) (h1 : (stepOf l).k ≠ 0 ∨ (stepOf l).d ≠ 0) : pieces a l = ⟨a, stepOf l⟩ :: pieces (a + (stepOf l).n) (l.drop (stepOf l).n) := by
  have : Pc.isPiece ⟨a, stepOf l⟩ = true := by
    simp [Pc.isPiece]
    rcases h1 with h1 | h1 <;> simp [h1]
  simp [pieces, pcs_cons a l h, this]
theorem stepOf_gap (c : UInt8) (r : Bs) : (isBlank c = true ∨ c = 35) → (stepOf (c :: r)).k = 0 ∧ (stepOf (c :: r)).d = 0 := by
  intro h
  simp only [stepOf]
  split
  · simp
  · split
    · simp
    · rename_i h1 h2
      rcases h with h | h
      · exact absurd h h1
      · exact absurd h h2
theorem stepOf_piece (c : UInt8) (r : Bs) (h1 : isBlank c = false) (h2 : c ≠ 35) : (stepOf (c :: r)).k ≠ 0 ∨ (stepOf (c :: r)).d ≠ 0 := by
  simp only [stepOf, h1, h2, if_false, Bool.false_eq_true]
  split
  · left; simp only [wordKind]; split <;> simp
  split
  · split <;> simp
  split
  · split <;> simp
  split
  · simp
  split <;> simp
theorem pieces_blanks (a : Nat) : ∀ l : Bs, pieces a l = pieces (a + spanLen isBlank l) (l.drop (spanLen isBlank l)) := by
  intro l
  induction l generalizing a with
  | nil => simp [spanLen]
  | cons c r ih =>
    simp only [spanLen]
    split
    · rename_i hc
      rw [pieces_gap a (c :: r) (by simp) (stepOf_gap c r (.inl hc)).1 (stepOf_gap c r (.inl hc)).2]
      have e : (stepOf (c :: r)).n = 1 := by simp [stepOf, hc]
      rw [e, List.drop_succ_cons, List.drop_zero, ih (a + 1), List.drop_succ_cons, Nat.add_right_comm, ← Nat.add_assoc]
    · simp
theorem pieces_remark (a : Nat) (r : Bs) : pieces a (35 :: r) = pieces (a + spanLen isInLine (35 :: r)) ((35 :: r).drop (spanLen isInLine (35 :: r))) := by
  have h := stepOf_gap 35 r (.inr rfl)
  rw [pieces_gap a (35 :: r) (by simp) h.1 h.2]
  have e : (stepOf (35 :: r)).n = spanLen isInLine (35 :: r) := by
    have : isBlank 35 = false := by decide
    simp only [stepOf, this, Bool.false_eq_true, if_false, if_true]
  rw [e]
end Go.Proofs.YtijnjoonbjdafaaGreatDoor

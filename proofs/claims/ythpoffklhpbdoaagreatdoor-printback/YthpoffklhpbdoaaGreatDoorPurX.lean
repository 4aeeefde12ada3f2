/-
  Plain lists: readers, sources one behind the other, how much is read. No walk.
-/
import Derived.Test.YthpoffklhpbdoaaGreatDoorGrM
import Derived.Test.YthpoffklhpbdoaaGreatDoorLxM
import Derived.Test.YthpoffklhpbdoaaGreatDoorToks
import Derived.Test.YthpoffklhpbdoaaGreatDoorAlv
import Derived.Test.YthpoffklhpbdoaaGreatDoorPsM

/-
  What a reader eats: neither the end nor a ';'; what it eats at least. No walk.
-/
namespace Go.Proofs.YthpoffklhpbdoaaGreatDoor

/-- Is it a ';'? -/
def isSemi (t : Tk) : Bool := (t.k == 2 || t.k == 5) && t.t == [59]
/-- Neither the end nor a ';'. -/
def Qt (t : Tk) : Prop := t.k ≠ 6 ∧ isSemi t = false
/-- What was eaten is a beginning, without the end and without ';'. -/
def Eats {α : Type} (ts : List Tk) (x : R α) : Prop := ∃ p, ts = p ++ x.rest ∧ ∀ t ∈ p, Qt t
theorem Eats.here {α : Type} {ts : List Tk} {x : R α} (h : x.rest = ts) : Eats ts x := ⟨[], by rw [h]; rfl, by simp⟩
theorem R.rest_tell {α : Type} (d : List Dn) (x : R α) : (x.tell d).rest = x.rest := by cases x <;> rfl
theorem Eats.tell {α : Type} {ts : List Tk} {x : R α} (h : Eats ts x) (d : List Dn) : Eats ts (x.tell d) := by
  obtain ⟨p, h1, h2⟩ := h
  exact ⟨p, by rw [R.rest_tell]; exact h1, h2⟩
theorem Eats.more {α : Type} {p ts : List Tk} {x : R α} (h : Eats ts x) (hp : ∀ t ∈ p, Qt t) : Eats (p ++ ts) x := by
  obtain ⟨q, h1, h2⟩ := h
  refine ⟨p ++ q, by rw [List.append_assoc, ← h1], fun t ht => ?_⟩
  rcases List.mem_append.1 ht with ht | ht
  · exact hp t ht
  · exact h2 t ht
theorem Eats.bind {α β : Type} {ts : List Tk} {x : R α} {f : α → List Tk → R β} (h : Eats ts x) (hf : ∀ a r, Eats r (f a r)) : Eats ts (x.bind f) := by
  cases x with
  | bad y r d => exact h
  | ok a r d =>
    obtain ⟨p, h1, h2⟩ := h
    have h1 : ts = p ++ r := h1
    rw [h1]
    exact ((hf a r).tell d).more h2
theorem Eats.ok {α : Type} (x : α) (r : List Tk) (d : List Dn) : Eats r (R.ok x r d) := .here rfl
theorem Eats.bad {α : Type} (x : Dn) (r : List Tk) (d : List Dn) : Eats r (R.bad x r d : R α) := .here rfl
/-- One is passed. -/
theorem Eats.step {α : Type} {ts : List Tk} {x : R α} (h : Eats ts.tail x) (hq : ts ≠ [] → Qt (hd ts)) : Eats ts x := by
  cases ts with
  | nil => exact h
  | cons t r => exact h.more (p := [t]) (by intro u hu; simp at hu; subst hu; exact hq (by simp))
theorem isM_q {m : Bs} {ts : List Tk} (h : isM m ts = true) (hm : m ≠ [59]) : Qt (hd ts) := by
  simp only [isM, Bool.and_eq_true, Bool.or_eq_true, beq_iff_eq] at h
  refine ⟨by omega, ?_⟩
  simp only [isSemi, Bool.and_eq_false_iff]
  right
  rw [h.2]
  simpa using hm
theorem kind_q {ts : List Tk} {k : Nat} (h : (hd ts).k = k) (h6 : k ≠ 6 ∧ k ≠ 2 ∧ k ≠ 5) : Qt (hd ts) := by
  refine ⟨by omega, ?_⟩
  simp only [isSemi, Bool.and_eq_false_iff, Bool.or_eq_false_iff, beq_eq_false_iff_ne]
  left
  omega
theorem want_eats {m : Bs} (hm : m ≠ [59]) (ts : List Tk) : Eats ts (want m ts) := by
  unfold want; split
  next h => exact (Eats.ok _ _ _).step fun _ => isM_q h hm
  · exact .here rfl
theorem wantName_eats (ts : List Tk) : Eats ts (wantName ts) := by
  unfold wantName; split
  next h => exact (Eats.ok _ _ _).step fun _ => kind_q h (by omega)
  · exact .here rfl
theorem fields_eats {α : Type} {sign : Bs} (hs : sign ≠ [59]) {read : List Tk → R α} (hr : ∀ ts, Eats ts (read ts)) : ∀ (n : Nat) (seen : List Bs) (acc : List (Bs × α)) (ts : List Tk), Eats ts (fieldsP sign read n seen acc ts)
  | 0, _, _, ts => .here rfl
  | n + 1, seen, acc, ts => by
    unfold fieldsP
    refine (wantName_eats ts).bind fun nm r => Eats.tell ((want_eats hs r).bind fun _ r => (hr r).bind fun v r => ?_) _
    split
    next h => exact (fields_eats hs hr n _ _ _).step fun _ => isM_q h (by decide)
    · exact (want_eats (by decide) r).bind fun _ r => Eats.ok _ _ _
theorem read_eats {α : Type} {sign : Bs} (hs : sign ≠ [59]) {read : List Tk → R α} (hr : ∀ ts, Eats ts (read ts)) (ts : List Tk) : Eats ts (readP sign read ts) := by
  unfold readP; split
  next h => exact (Eats.ok _ _ _).step fun _ => isM_q h (by decide)
  · exact fields_eats hs hr _ _ _ _
theorem plain_eats {typ : List Tk → R PT} (ht : ∀ ts, Eats ts (typ ts)) (ts : List Tk) : Eats ts (plainP typ ts) := by
  unfold plainP
  split
  next h => exact (Eats.ok _ _ _).step fun _ => kind_q h (by omega)
  split
  next h => exact (Eats.ok _ _ _).step fun _ => isM_q h (by decide)
  split
  next h => exact (Eats.ok _ _ _).step fun _ => isM_q h (by decide)
  split
  next h => exact (Eats.ok _ _ _).step fun _ => isM_q h (by decide)
  split
  next h => exact (Eats.ok _ _ _).step fun _ => isM_q h (by decide)
  split
  next h => exact ((read_eats (by decide) ht _).bind fun _ r => Eats.ok _ _ _).step fun _ => isM_q h (by decide)
  split
  next h => exact ((ht _).bind fun t r => (want_eats (by decide) r).bind fun _ r => Eats.ok _ _ _).step fun _ => isM_q h (by decide)
  · exact .here rfl
theorem arrow_eats {plain arrow : List Tk → R PT} (hp : ∀ ts, Eats ts (plain ts)) (ha : ∀ ts, Eats ts (arrow ts)) (ts : List Tk) : Eats ts (arrowP plain arrow ts) := by
  unfold arrowP
  refine (hp ts).bind fun t r => ?_
  split
  next h => exact ((ha _).bind fun _ r => Eats.ok _ _ _).step fun _ => isM_q h (by decide)
  · exact .here rfl
theorem union_eats {arrow : List Tk → R PT} (ha : ∀ ts, Eats ts (arrow ts)) : ∀ (n : Nat) (acc : List PT) (ts : List Tk), Eats ts (unionP arrow n acc ts)
  | 0, _, ts => .here rfl
  | n + 1, acc, ts => by
    unfold unionP; split
    next h => exact ((ha _).bind fun _ r => union_eats ha n _ r).step fun _ => isM_q h (by decide)
    · exact .here rfl
theorem typP_eats {arrow : List Tk → R PT} (ha : ∀ ts, Eats ts (arrow ts)) (ts : List Tk) : Eats ts (typP arrow ts) := by
  unfold typP
  exact (ha ts).bind fun t r => (union_eats ha _ _ r).bind fun l r => Eats.ok _ _ _
theorem lvT_eats : ∀ n, (∀ ts, Eats ts (typ n ts)) ∧ (∀ ts, Eats ts (arr n ts))
  | 0 => ⟨fun _ => .here rfl, fun _ => .here rfl⟩
  | n + 1 => by
    have ih := lvT_eats n
    have ha : ∀ ts, Eats ts (arr (n + 1) ts) := arrow_eats (plain_eats ih.1) ih.2
    exact ⟨typP_eats ha, ha⟩
theorem call_eats {expr : List Tk → R PE} (he : ∀ ts, Eats ts (expr ts)) : ∀ (n : Nat) (e : PE) (ts : List Tk), Eats ts (callP expr n e ts)
  | 0, _, ts => .here rfl
  | n + 1, e, ts => by
    unfold callP
    split
    next h => exact ((he _).bind fun _ r => (want_eats (by decide) r).bind fun _ r => call_eats he n _ r).step fun _ => isM_q h (by decide)
    split
    next h => exact ((wantName_eats _).bind fun _ r => call_eats he n _ r).step fun _ => isM_q h (by decide)
    · exact .here rfl
theorem basic_eats {typ : List Tk → R PT} {expr : List Tk → R PE} (ht : ∀ ts, Eats ts (typ ts)) (he : ∀ ts, Eats ts (expr ts)) (ts : List Tk) : Eats ts (basicP typ expr ts) := by
  unfold basicP
  split
  next h => exact (Eats.ok _ _ _).step fun _ => kind_q h (by omega)
  split
  next h => exact (Eats.ok _ _ _).step fun _ => kind_q h (by omega)
  split
  next h => exact (Eats.ok _ _ _).step fun _ => kind_q h (by omega)
  split
  next h => exact (Eats.ok _ _ _).step fun _ => isM_q h (by decide)
  split
  next h => exact (Eats.ok _ _ _).step fun _ => isM_q h (by decide)
  split
  next h => exact ((read_eats (by decide) he _).bind fun _ r => Eats.ok _ _ _).step fun _ => isM_q h (by decide)
  split
  next h =>
    refine Eats.step ((he _).bind fun e r => ?_) fun _ => isM_q h (by decide)
    split
    next h => exact ((ht _).bind fun t r => (want_eats (by decide) r).bind fun _ r => Eats.ok _ _ _).step fun _ => isM_q h (by decide)
    · exact (want_eats (by decide) r).bind fun _ r => Eats.ok _ _ _
  · exact .here rfl
theorem expr_eats {typ : List Tk → R PT} {expr : List Tk → R PE} (ht : ∀ ts, Eats ts (typ ts)) (he : ∀ ts, Eats ts (expr ts)) (ts : List Tk) : Eats ts (exprP typ expr ts) := by
  unfold exprP
  split
  next h => exact Eats.step ((want_eats (by decide) _).bind fun _ r => (wantName_eats r).bind fun _ r => (want_eats (by decide) r).bind fun _ r => (ht r).bind fun _ r => (want_eats (by decide) r).bind fun _ r => (he r).bind fun _ r => Eats.ok _ _ _) fun _ => isM_q h (by decide)
  split
  next h => exact Eats.step ((wantName_eats _).bind fun _ r => (want_eats (by decide) r).bind fun _ r => (he r).bind fun _ r => (want_eats (by decide) r).bind fun _ r => (he r).bind fun _ r => Eats.ok _ _ _) fun _ => isM_q h (by decide)
  split
  next h => exact Eats.step ((he _).bind fun _ r => (want_eats (by decide) r).bind fun _ r => (he r).bind fun _ r => (want_eats (by decide) r).bind fun _ r => (he r).bind fun _ r => Eats.ok _ _ _) fun _ => isM_q h (by decide)
  · exact (basic_eats ht he ts).bind fun e r => call_eats he _ _ r
theorem exp_eats : ∀ n ts, Eats ts (exp n ts)
  | 0, _ => .here rfl
  | n + 1, ts => expr_eats (lvT_eats n).1 (exp_eats n) ts

theorem R.bind_assoc {α β γ : Type} (x : R α) (f : α → List Tk → R β) (g : β → List Tk → R γ) : (x.bind f).bind g = x.bind fun a r => (f a r).bind g := by
  cases x with
  | bad y r d => rfl
  | ok a r d => simp only [R.bind_ok, R.bind_tell]
/-- A declaration without its ';'. -/
def headP (ts : List Tk) : R PD :=
  if isM [117, 115, 101] ts then (wantName ts.tail).bind fun nm r => .ok ⟨1, nm.a, nm.t, [], []⟩ r []
  else if isM [116, 121, 112, 101] ts then (wantName ts.tail).bind fun nm r => (want [61] r).bind fun _ r => (typ 64 r).bind fun t r => .ok ⟨2, nm.a, nm.t, [t], []⟩ r []
  else (want [108, 101, 116] ts).bind fun _ r => (wantName r).bind fun nm r =>
    if isM [58] r then (typ 64 r.tail).bind fun t r => (want [61] r).bind fun _ r => (exp 64 r).bind fun e r => .ok ⟨3, nm.a, nm.t, [t], [e]⟩ r []
    else (want [61] r).bind fun _ r => (exp 64 r).bind fun e r => .ok ⟨3, nm.a, nm.t, [], [e]⟩ r []
theorem declP_head (ts : List Tk) : declP ts = (headP ts).bind fun d r => (want [59] r).bind fun _ r => .ok d r [] := by
  unfold declP headP
  split
  · simp only [R.bind_assoc, R.bind_ok, R.tell_nil]
  split
  · simp only [R.bind_assoc, R.bind_ok, R.tell_nil]
  · simp only [R.bind_assoc]
    congr 1
    funext u r
    congr 1
    funext nm r
    split <;> simp only [R.bind_assoc, R.bind_ok, R.tell_nil]
theorem head_eats (ts : List Tk) : Eats ts (headP ts) := by
  have hT := (lvT_eats 64).1
  have hE := exp_eats 64
  unfold headP
  split
  next h => exact Eats.step ((wantName_eats _).bind fun _ r => Eats.ok _ _ _) fun _ => isM_q h (by decide)
  split
  next h => exact Eats.step ((wantName_eats _).bind fun _ r => (want_eats (by decide) r).bind fun _ r => (hT r).bind fun _ r => Eats.ok _ _ _) fun _ => isM_q h (by decide)
  · refine (want_eats (by decide) ts).bind fun _ r => (wantName_eats r).bind fun _ r => ?_
    split
    next h => exact Eats.step ((hT _).bind fun _ r => (want_eats (by decide) r).bind fun _ r => (hE r).bind fun _ r => Eats.ok _ _ _) fun _ => isM_q h (by decide)
    · exact (want_eats (by decide) r).bind fun _ r => (hE r).bind fun _ r => Eats.ok _ _ _
/-- What a declaration eats. -/
theorem decl_eats (ts : List Tk) : (∀ d r e, declP ts = .ok d r e → ∃ p c, ts = p ++ c :: r ∧ (∀ t ∈ p, Qt t) ∧ (isM [59] (c :: r) = true ∨ r = [])) ∧ (∀ y r e, declP ts = .bad y r e → ∃ p, ts = p ++ r ∧ ∀ t ∈ p, Qt t) := by
  obtain ⟨p, h1, h2⟩ := head_eats ts
  rw [declP_head]
  cases h : headP ts with
  | bad y r e =>
    rw [h] at h1
    refine ⟨fun _ _ _ h => (by cases h), fun y' r' e' h' => ?_⟩
    rw [R.bind_bad] at h'
    cases h'
    exact ⟨p, h1, h2⟩
  | ok d r e =>
    rw [h] at h1
    have h1 : ts = p ++ r := h1
    rw [R.bind_ok]
    unfold want
    split
    next hm =>
      refine ⟨fun d' r' e' h' => ?_, fun _ _ _ h => (by cases h)⟩
      cases h'
      cases r with
      | nil => simp [isM, hd] at hm
      | cons c r => exact ⟨p, c, h1, h2, .inl hm⟩
    next hm =>
      refine ⟨fun _ _ _ h => (by cases h), fun y' r' e' h' => ?_⟩
      cases h'
      exact ⟨p, h1, h2⟩
end Go.Proofs.YthpoffklhpbdoaaGreatDoor

/-
  What follows plays no part, and more depth changes nothing that went well. No walk.
-/
namespace Go.Proofs.YthpoffklhpbdoaaGreatDoor

theorem Eats.le {α : Type} {ts : List Tk} {x : R α} (h : Eats ts x) : x.rest.length ≤ ts.length := by
  obtain ⟨p, h, -⟩ := h
  have := congrArg List.length h
  rw [List.length_append] at this
  omega
/-- It eats one at least, where it goes well. -/
def Strict {α : Type} (f : List Tk → R α) : Prop := ∀ ts x r d, f ts = .ok x r d → r.length < ts.length
theorem isM_cons {m : Bs} {ts : List Tk} (h : isM m ts = true) : ∃ t r, ts = t :: r := by
  cases ts with
  | nil => simp [isM, hd] at h
  | cons t r => exact ⟨t, r, rfl⟩
theorem kind_cons {ts : List Tk} {k : Nat} (h : (hd ts).k = k) (h6 : k ≠ 6) : ∃ t r, ts = t :: r := by
  cases ts with
  | nil => exact absurd h.symm h6
  | cons t r => exact ⟨t, r, rfl⟩
theorem tail_lt {ts : List Tk} (h : ∃ t r, ts = t :: r) : ts.tail.length < ts.length := by
  obtain ⟨t, r, rfl⟩ := h
  simp
theorem eats_lt {α : Type} {ts : List Tk} {y : R α} (h : Eats ts.tail y) (hc : ∃ t r, ts = t :: r) : y.rest.length < ts.length := Nat.lt_of_le_of_lt h.le (tail_lt hc)
theorem Strict.of {α : Type} {f : List Tk → R α} (h : ∀ ts, (∃ y r d, f ts = .bad y r d) ∨ (f ts).rest.length < ts.length) : Strict f := by
  intro ts x r d e
  rcases h ts with ⟨y, r', d', h⟩ | h
  · rw [h] at e; cases e
  · rw [e] at h; exact h
theorem R.bind_rest_lt {α β : Type} {n : Nat} {x : R α} {f : α → List Tk → R β} (h : (∃ y r d, x = .bad y r d) ∨ x.rest.length < n) (hf : ∀ a r, Eats r (f a r)) : (∃ y r d, x.bind f = .bad y r d) ∨ (x.bind f).rest.length < n := by
  cases x with
  | bad y r d => exact .inl ⟨y, r, d, rfl⟩
  | ok a r d =>
    rcases h with ⟨_, _, _, h⟩ | h
    · cases h
    · right
      rw [R.bind_ok, R.rest_tell]
      exact Nat.lt_of_le_of_lt (hf a r).le h
theorem want_lt (m : Bs) (ts : List Tk) : (∃ y r d, want m ts = .bad y r d) ∨ (want m ts).rest.length < ts.length := by
  unfold want; split
  next h => exact .inr (tail_lt (isM_cons h))
  · exact .inl ⟨_, _, _, rfl⟩
theorem wantName_lt (ts : List Tk) : (∃ y r d, wantName ts = .bad y r d) ∨ (wantName ts).rest.length < ts.length := by
  unfold wantName; split
  next h => exact .inr (tail_lt (kind_cons h (by decide)))
  · exact .inl ⟨_, _, _, rfl⟩
theorem Strict.want {β : Type} {m : Bs} {k : Unit → List Tk → R β} (hk : ∀ a r, Eats r (k a r)) : Strict fun r => (want m r).bind k := .of fun ts => R.bind_rest_lt (want_lt m ts) hk
theorem Strict.name {β : Type} {k : Tk → List Tk → R β} (hk : ∀ a r, Eats r (k a r)) : Strict fun r => (wantName r).bind k := .of fun ts => R.bind_rest_lt (wantName_lt ts) hk
theorem plain_strict {typ : List Tk → R PT} (ht : ∀ ts, Eats ts (typ ts)) : Strict (plainP typ) := .of fun ts => by
  unfold plainP
  split
  next h => exact .inr (tail_lt (kind_cons h (by decide)))
  split
  next h => exact .inr (tail_lt (isM_cons h))
  split
  next h => exact .inr (tail_lt (isM_cons h))
  split
  next h => exact .inr (tail_lt (isM_cons h))
  split
  next h => exact .inr (tail_lt (isM_cons h))
  split
  next h => exact .inr (eats_lt ((read_eats (by decide) ht _).bind fun _ r => Eats.ok _ _ _) (isM_cons h))
  split
  next h => exact .inr (eats_lt ((ht _).bind fun t r => (want_eats (by decide) r).bind fun _ r => Eats.ok _ _ _) (isM_cons h))
  · exact .inl ⟨_, _, _, rfl⟩
theorem Strict.bind {α β : Type} {f : List Tk → R α} {g : α → List Tk → R β} (hf : Strict f) (hg : ∀ a r, Eats r (g a r)) : Strict fun ts => (f ts).bind g := by
  refine .of fun ts => R.bind_rest_lt ?_ hg
  cases h : f ts with
  | bad y r d => exact .inl ⟨_, _, _, rfl⟩
  | ok x r d => exact .inr (hf ts x r d h)
theorem arrow_strict {plain arrow : List Tk → R PT} (hp : Strict plain) (ha : ∀ ts, Eats ts (arrow ts)) : Strict (arrowP plain arrow) := by
  refine Strict.bind hp fun t r => ?_
  split
  next h => exact ((ha _).bind fun _ r => Eats.ok _ _ _).step fun _ => isM_q h (by decide)
  · exact .here rfl
theorem lvT_strict : ∀ n, Strict (typ n) ∧ Strict (arr n)
  | 0 => ⟨(fun _ _ _ _ h => by cases h), (fun _ _ _ _ h => by cases h)⟩
  | n + 1 => by
    have ha : Strict (arr (n + 1)) := arrow_strict (plain_strict (lvT_eats n).1) (lvT_eats n).2
    exact ⟨Strict.bind ha fun t r => (union_eats (lvT_eats (n + 1)).2 _ _ r).bind fun l r => Eats.ok _ _ _, ha⟩
theorem basic_strict {typ : List Tk → R PT} {expr : List Tk → R PE} (ht : ∀ ts, Eats ts (typ ts)) (he : ∀ ts, Eats ts (expr ts)) : Strict (basicP typ expr) := .of fun ts => by
  unfold basicP
  split
  next h => exact .inr (tail_lt (kind_cons h (by decide)))
  split
  next h => exact .inr (tail_lt (kind_cons h (by decide)))
  split
  next h => exact .inr (tail_lt (kind_cons h (by decide)))
  split
  next h => exact .inr (tail_lt (isM_cons h))
  split
  next h => exact .inr (tail_lt (isM_cons h))
  split
  next h => exact .inr (eats_lt ((read_eats (by decide) he _).bind fun _ r => Eats.ok _ _ _) (isM_cons h))
  split
  next h =>
    refine .inr (eats_lt ((he _).bind fun e r => ?_) (isM_cons h))
    split
    next h => exact ((ht _).bind fun t r => (want_eats (by decide) r).bind fun _ r => Eats.ok _ _ _).step fun _ => isM_q h (by decide)
    · exact (want_eats (by decide) r).bind fun _ r => Eats.ok _ _ _
  · exact .inl ⟨_, _, _, rfl⟩

theorem fields_strict {α : Type} {sign : Bs} (hsg : sign ≠ [59]) {read : List Tk → R α} (er : ∀ r, Eats r (read r)) (n : Nat) (seen : List Bs) (acc : List (Bs × α)) : Strict (fieldsP sign read (n + 1) seen acc) := by
  refine .of fun ts => ?_
  unfold fieldsP
  refine R.bind_rest_lt (wantName_lt ts) fun nm r => Eats.tell ((want_eats hsg r).bind fun _ r => (er r).bind fun v r => ?_) _
  split
  next h => exact (fields_eats hsg er n _ _ _).step fun _ => isM_q h (by decide)
  · exact (want_eats (by decide) r).bind fun _ r => Eats.ok _ _ _

section
variable {ts ts' : List Tk}
/-- Where it goes well up to ts, it goes so with ts' in its place. -/
def Lc (ts ts' : List Tk) {α : Type} (s : Prop) (f f' : List Tk → R α) (p : List Tk) : Prop := ∀ x r d, f (p ++ ts) = .ok x (r ++ ts) d → (r = [] → s) → f' (p ++ ts') = .ok x (r ++ ts') d

theorem Lc.weak {α : Type} {s s' : Prop} {f f' : List Tk → R α} {p : List Tk} (h : Lc ts ts' s f f' p) (hs : s' → s) : Lc ts ts' s' f f' p := fun x r d e k => h x r d e fun hr => hs (k hr)
theorem Lc.ok {α : Type} (s : Prop) (a : α) (d : List Dn) (p : List Tk) : Lc ts ts' s (fun r => .ok a r d) (fun r => .ok a r d) p := by
  intro x r d' e k
  injection e with e1 e e2
  rw [e1, List.append_cancel_right e, e2]
theorem Lc.bind {α β : Type} {sf sg : Prop} {f f' : List Tk → R α} {g g' : α → List Tk → R β} {p : List Tk} (hf : Lc ts ts' sf f f' p) (ef : ∀ r, Eats r (f r)) (eg : ∀ a r, Eats r (g a r)) (hg : ∀ a q, q.length ≤ p.length → Lc ts ts' sg (g a) (g' a) q) (hs : (sg → sf) ∨ ∀ a, Strict (g a)) : Lc ts ts' sg (fun r => (f r).bind g) (fun r => (f' r).bind g') p := by
  intro x r d e k
  have el := (ef (p ++ ts)).le
  cases h1 : f (p ++ ts) with
  | bad y r1 d1 => simp only [h1, R.bind_bad] at e; cases e
  | ok a r1 d1 =>
    simp only [h1, R.bind_ok] at e
    rw [h1] at el
    cases h2 : g a r1 with
    | bad y r2 d2 => rw [h2] at e; cases e
    | ok x2 r2 d2 =>
      rw [h2, R.tell_ok] at e
      cases e
      obtain ⟨q, e2, -⟩ := eg a r1
      rw [h2] at e2
      have e2 : r1 = (q ++ r) ++ ts := by rw [List.append_assoc]; exact e2
      subst e2
      have hq : (q ++ r).length ≤ p.length := by
        have : (q ++ r ++ ts).length ≤ (p ++ ts).length := el
        simp only [List.length_append] at this ⊢
        omega
      have h3 := hf a (q ++ r) d1 h1 fun hr => by
        obtain ⟨rfl, rfl⟩ := List.append_eq_nil_iff.1 hr
        rcases hs with hs | hs
        · exact hs (k rfl)
        · have := hs a _ _ _ _ h2
          simp at this
      have h4 := hg a (q ++ r) hq x r d2 h2 k
      simp only [h3, R.bind_ok, h4, R.tell_ok]
theorem isM_app {m : Bs} {t : Tk} (r r' : List Tk) : isM m (t :: r) = isM m (t :: r') := rfl
theorem Lc.ite {α : Type} {s : Prop} {m : Bs} {A B A' B' : List Tk → R α} {p : List Tk} (hm : s → isM m ts' = false) (hA : ∀ q, q.length < p.length → Lc ts ts' s A A' q) (eA : ∀ r, Eats r (A r)) (hB : Lc ts ts' s B B' p) (eB : ∀ r, Eats r (B r)) : Lc ts ts' s (fun r => if isM m r then A r.tail else B r) (fun r => if isM m r then A' r.tail else B' r) p := by
  intro x r d e k
  cases p with
  | nil =>
    simp only [List.nil_append] at e ⊢
    split at e
    next h =>
      have := (eA ts.tail).le
      rw [e] at this
      have := tail_lt (isM_cons h)
      simp only [R.rest, List.length_append] at *
      omega
    next h =>
      have hr : r = [] := by
        have := (eB ts).le
        rw [e] at this
        simp only [R.rest, List.length_append] at this
        exact List.eq_nil_of_length_eq_zero (by omega)
      have h1 := hB x r d e k
      rw [if_neg (by rw [hm (k hr)]; decide)]
      exact h1
  | cons t0 p =>
    simp only [List.cons_append, List.tail_cons] at e ⊢
    split at e
    next h => rw [if_pos (show isM m (t0 :: (p ++ ts')) = true from h)]; exact hA p (by simp) x r d e k
    next h => rw [if_neg (show ¬ isM m (t0 :: (p ++ ts')) = true from h)]; exact hB x r d e k
theorem Lc.want (s : Prop) (m : Bs) (p : List Tk) : Lc ts ts' s (want m) (want m) p := by
  intro x r d e k
  unfold Proofs.YthpoffklhpbdoaaGreatDoor.want at e ⊢
  split at e
  next h =>
    cases p with
    | nil =>
      simp only [List.nil_append] at e h
      have h1 := tail_lt (isM_cons h)
      injection e with _ e _
      have := congrArg List.length e
      rw [List.length_append] at this
      omega
    | cons t p =>
      simp only [List.cons_append, List.tail_cons] at e h ⊢
      rw [isM_app (p ++ ts) (p ++ ts')] at h
      rw [if_pos h]
      injection e with _ e e2
      rw [List.append_cancel_right e, e2]
  next h => cases e
theorem Lc.name (s : Prop) (p : List Tk) : Lc ts ts' s wantName wantName p := by
  intro x r d e k
  unfold wantName at e ⊢
  split at e
  next h =>
    cases p with
    | nil =>
      simp only [List.nil_append] at e h
      have h1 := tail_lt (kind_cons h (by decide))
      injection e with _ e _
      have := congrArg List.length e
      rw [List.length_append] at this
      omega
    | cons t p =>
      simp only [List.cons_append, List.tail_cons] at e h ⊢
      have h' : (hd (t :: (p ++ ts'))).k = 1 := h
      rw [if_pos h']
      injection e with e1 e e2
      rw [List.append_cancel_right e, ← e1, e2]
      rfl
  next h => cases e
theorem Lc.tell {α : Type} {s : Prop} {f f' : List Tk → R α} {p : List Tk} (d0 : List Dn) (h : Lc ts ts' s f f' p) : Lc ts ts' s (fun r => (f r).tell d0) (fun r => (f' r).tell d0) p := by
  intro x r d e k
  cases h1 : f (p ++ ts) with
  | bad y r1 d1 => simp only [h1, R.tell_bad] at e; cases e
  | ok a r1 d1 =>
    simp only [h1, R.tell_ok] at e
    cases e
    simp only [h x r d1 h1 k, R.tell_ok]

theorem fields_lc {α : Type} {s : Prop} {sign : Bs} (hts : ts ≠ []) (hts' : ts' ≠ []) (hsg : sign ≠ [59]) {read read' : List Tk → R α} (er : ∀ r, Eats r (read r)) (p0 : Nat) (hr : ∀ q, q.length < p0 → Lc ts ts' s read read' q) : ∀ (n m : Nat) (seen : List Bs) (acc : List (Bs × α)) (p : List Tk), p.length ≤ p0 → (p ++ ts).length ≤ n → (p ++ ts').length ≤ m → Lc ts ts' True (fieldsP sign read n seen acc) (fieldsP sign read' m seen acc) p
  | 0, m, seen, acc, p, h0, h1, h2 => by
    rw [List.length_append] at h1
    have := List.length_pos_iff.2 hts
    omega
  | n + 1, 0, seen, acc, p, h0, h1, h2 => by
    rw [List.length_append] at h2
    have := List.length_pos_iff.2 hts'
    omega
  | n + 1, m + 1, seen, acc, p, h0, h1, h2 => by
    intro x r d e k
    cases p with
    | nil =>
      exfalso
      have h3 := fields_strict hsg er n seen acc
      have := h3 _ _ _ _ e
      simp at this
      omega
    | cons t0 p =>
      have hk : (hd (t0 :: p ++ ts)).k = 1 := by
        unfold fieldsP wantName at e
        split at e
        next h => exact h
        next h => cases e
      have hk' : (hd (t0 :: p ++ ts')).k = 1 := hk
      have e1 : wantName (t0 :: p ++ ts) = .ok t0 (p ++ ts) [] := by unfold wantName; rw [if_pos hk]; rfl
      have e2 : wantName (t0 :: p ++ ts') = .ok t0 (p ++ ts') [] := by unfold wantName; rw [if_pos hk']; rfl
      unfold fieldsP at e ⊢
      rw [e1, R.bind_ok, R.tell_nil] at e
      rw [e2, R.bind_ok, R.tell_nil]
      revert e
      simp only [List.length_append, List.length_cons] at h0 h1 h2
      refine fun e => Lc.tell _ (Lc.bind (sf := True) (sg := True) (Lc.want True sign p) (want_eats hsg) (fun _ r => (er r).bind fun v r => ?_) (fun u q hq => Lc.bind (sf := s) (sg := True) (hr q (by omega)) er (fun v r => ?_) (fun v q' hq' => ?_) (.inr fun v => ?_)) (.inl id)) x r d e (fun _ => trivial)
      · split
        next h => exact (fields_eats hsg er n _ _ _).step fun _ => isM_q h (by decide)
        · exact (want_eats (by decide) r).bind fun _ r => Eats.ok _ _ _
      · split
        next h => exact (fields_eats hsg er n _ _ _).step fun _ => isM_q h (by decide)
        · exact (want_eats (by decide) r).bind fun _ r => Eats.ok _ _ _
      · intro x r d e k
        cases q' with
        | nil =>
          exfalso
          simp only [List.nil_append] at e
          split at e
          next h =>
            have := (fields_eats hsg er n (t0.t :: seen) (if t0.t ∈ seen then acc else acc ++ [(t0.t, v)]) ts.tail).le
            rw [e] at this
            have := tail_lt (isM_cons h)
            simp only [R.rest, List.length_append] at *
            omega
          next h =>
            have := Strict.want (m := [125]) (k := fun _ r => .ok (if t0.t ∈ seen then acc else acc ++ [(t0.t, v)]) r []) (fun _ _ => Eats.ok _ _ _) _ _ _ _ e
            simp at this
            omega
        | cons t1 q' =>
          simp only [List.cons_append, List.tail_cons] at e ⊢
          simp only [List.length_cons] at hq'
          split at e
          next h =>
            rw [if_pos (show isM [44] (t1 :: (q' ++ ts')) = true from h)]
            exact fields_lc hts hts' hsg er p0 hr n m _ _ q' (by omega) (by rw [List.length_append]; omega) (by rw [List.length_append]; omega) x r d e (fun _ => trivial)
          next h =>
            rw [if_neg (show ¬ isM [44] (t1 :: (q' ++ ts')) = true from h)]
            exact Lc.bind (f' := want [125]) (sf := True) (sg := True) (Lc.want True [125] (t1 :: q')) (want_eats (by decide)) (fun _ r => Eats.ok _ _ _) (fun _ q _ => Lc.ok True _ _ q) (.inl id) x r d e (fun _ => trivial)
      · refine .of fun r => ?_
        split
        next h => exact .inr (eats_lt (fields_eats hsg er n _ _ _) (isM_cons h))
        · exact R.bind_rest_lt (want_lt _ r) fun _ _ => Eats.ok _ _ _
theorem read_lc {α : Type} {s : Prop} {sign : Bs} (hts : ts ≠ []) (hts' : ts' ≠ []) (hsg : sign ≠ [59]) {read read' : List Tk → R α} (er : ∀ r, Eats r (read r)) (p : List Tk) (hr : ∀ q, q.length < p.length → Lc ts ts' s read read' q) : Lc ts ts' True (readP sign read) (readP sign read') p := by
  intro x r d e k
  unfold readP at e ⊢
  cases p with
  | nil =>
    exfalso
    simp only [List.nil_append] at e
    split at e
    next h =>
      have := tail_lt (isM_cons h)
      injection e with _ e _
      rw [e, List.length_append] at this
      omega
    next h =>
      cases hn : ts.length with
      | zero => exact hts (List.eq_nil_of_length_eq_zero hn)
      | succ n =>
        rw [hn] at e
        have h3 := fields_strict hsg er n [] []
        have := h3 _ _ _ _ e
        simp at this
        omega
  | cons t p =>
    have ha : isM [125] (t :: p ++ ts') = isM [125] (t :: p ++ ts) := rfl
    rw [ha]
    split at e
    next h =>
      rw [if_pos h]
      simp only [List.cons_append, List.tail_cons] at e ⊢
      injection e with e1 e e2
      rw [List.append_cancel_right e, ← e1, e2]
    next h =>
      rw [if_neg h]
      exact fields_lc hts hts' hsg er (t :: p).length hr _ _ _ _ (t :: p) (Nat.le_refl _) (Nat.le_refl _) (Nat.le_refl _) x r d e (fun _ => trivial)
end
end Go.Proofs.YthpoffklhpbdoaaGreatDoor

/-
  What follows plays no part, and more depth changes nothing that went well: types, expressions, declarations. No walk.
-/
namespace Go.Proofs.YthpoffklhpbdoaaGreatDoor
section
variable {ts ts' : List Tk}

/-- A reader that always eats needs to be looked at behind one token only. -/
theorem Lc.strict {α : Type} {s : Prop} {f f' : List Tk → R α} {p : List Tk} (hf : Strict f) (h : ∀ t q, p = t :: q → ∀ x r d, f (t :: (q ++ ts)) = .ok x (r ++ ts) d → (r = [] → s) → f' (t :: (q ++ ts')) = .ok x (r ++ ts') d) : Lc ts ts' s f f' p := by
  intro x r d e k
  cases p with
  | nil =>
    exfalso
    have := hf _ _ _ _ e
    simp at this
    omega
  | cons t q => exact h t q rfl x r d e k
theorem ok_tail {α : Type} {a x : α} {q r : List Tk} {d : List Dn} (e : R.ok a (q ++ ts) [] = .ok x (r ++ ts) d) : R.ok a (q ++ ts') [] = .ok x (r ++ ts') d := by
  injection e with e1 e e2
  rw [e1, List.append_cancel_right e, e2]

theorem bindE {α β : Type} {sf sg : Prop} {f f' : List Tk → R α} {g g' : α → List Tk → R β} {p : List Tk} {x : β} {r : List Tk} {d : List Dn} (e : (f (p ++ ts)).bind g = .ok x (r ++ ts) d) (k : r = [] → sg) (hf : Lc ts ts' sf f f' p) (ef : ∀ r, Eats r (f r)) (eg : ∀ a r, Eats r (g a r)) (hg : ∀ a q, q.length ≤ p.length → Lc ts ts' sg (g a) (g' a) q) (hs : (sg → sf) ∨ ∀ a, Strict (g a)) : (f' (p ++ ts')).bind g' = .ok x (r ++ ts') d :=
  Lc.bind hf ef eg hg hs x r d e k

theorem plain_lc {s : Prop} {ty ty' : List Tk → R PT} (hts : ts ≠ []) (hts' : ts' ≠ []) (et : ∀ r, Eats r (ty r)) (p : List Tk) (ht : ∀ q, q.length < p.length → Lc ts ts' s ty ty' q) : Lc ts ts' True (plainP ty) (plainP ty') p := by
  refine Lc.strict (plain_strict et) fun t q hp x r d e k => ?_
  unfold plainP at e ⊢
  have hl : q.length < p.length := by rw [hp]; simp
  split at e
  next h => rw [if_pos (show (hd (t :: (q ++ ts'))).k = 1 from h)]; exact ok_tail e
  next h =>
  rw [if_neg (show ¬ (hd (t :: (q ++ ts'))).k = 1 from h)]
  split at e
  next h => rw [if_pos (show isM [105, 110, 116] (t :: (q ++ ts')) = true from h)]; exact ok_tail e
  next h =>
  rw [if_neg (show ¬ isM [105, 110, 116] (t :: (q ++ ts')) = true from h)]
  split at e
  next h => rw [if_pos (show isM [98, 111, 111, 108] (t :: (q ++ ts')) = true from h)]; exact ok_tail e
  next h =>
  rw [if_neg (show ¬ isM [98, 111, 111, 108] (t :: (q ++ ts')) = true from h)]
  split at e
  next h => rw [if_pos (show isM [116, 101, 120, 116] (t :: (q ++ ts')) = true from h)]; exact ok_tail e
  next h =>
  rw [if_neg (show ¬ isM [116, 101, 120, 116] (t :: (q ++ ts')) = true from h)]
  split at e
  next h => rw [if_pos (show isM [63] (t :: (q ++ ts')) = true from h)]; exact ok_tail e
  next h =>
  rw [if_neg (show ¬ isM [63] (t :: (q ++ ts')) = true from h)]
  split at e
  next h =>
    rw [if_pos (show isM [123] (t :: (q ++ ts')) = true from h)]
    try simp only [List.tail_cons] at e ⊢
    exact bindE (e := e) (k := k) (sf := True) (sg := True) (read_lc hts hts' (by decide) et q fun q' hq' => ht q' (by omega)) (read_eats (by decide) et) (fun _ r => Eats.ok _ _ _) (fun _ q _ => Lc.ok True _ _ q) (.inl id)
  next h =>
  rw [if_neg (show ¬ isM [123] (t :: (q ++ ts')) = true from h)]
  split at e
  next h =>
    rw [if_pos (show isM [40] (t :: (q ++ ts')) = true from h)]
    try simp only [List.tail_cons] at e ⊢
    exact bindE (e := e) (k := k) (sg := True) (ht q hl) et (fun _ r => (want_eats (by decide) r).bind fun _ r => Eats.ok _ _ _) (fun _ q _ => Lc.bind (Lc.want True _ q) (want_eats (by decide)) (fun _ r => Eats.ok _ _ _) (fun _ q _ => Lc.ok True _ _ q) (.inl id)) (.inr fun _ => Strict.want fun _ r => Eats.ok _ _ _)
  next h => cases e
theorem arrow_lc {s : Prop} {pl pl' ar ar' : List Tk → R PT} (hn : s → isM [45, 62] ts' = false) (ep : ∀ r, Eats r (pl r)) (ea : ∀ r, Eats r (ar r)) (p : List Tk) (hp : Lc ts ts' True pl pl' p) (ha : ∀ q, q.length < p.length → Lc ts ts' s ar ar' q) : Lc ts ts' s (arrowP pl ar) (arrowP pl' ar') p := by
  refine Lc.bind (sf := True) hp ep (fun t r => ?_) (fun t q hq => Lc.ite (B := fun r => .ok t r []) (A := fun r => (ar r).bind fun u r => .ok (.mk 6 [] [] [t, u]) r []) (A' := fun r => (ar' r).bind fun u r => .ok (.mk 6 [] [] [t, u]) r []) (B' := fun r => .ok t r []) hn (fun q' hq' => Lc.bind (sf := s) (ha q' (by omega)) ea (fun _ r => Eats.ok _ _ _) (fun _ q _ => Lc.ok s _ _ q) (.inl id)) (fun r => (ea r).bind fun _ r => Eats.ok _ _ _) (Lc.ok s _ _ q) (fun r => Eats.ok _ _ _)) (.inl fun _ => trivial)
  split
  next h => exact ((ea _).bind fun _ r => Eats.ok _ _ _).step fun _ => isM_q h (by decide)
  · exact .here rfl
theorem union_lc {s : Prop} {ar ar' : List Tk → R PT} (hts : ts ≠ []) (hts' : ts' ≠ []) (hn : s → isM [124] ts' = false) (ea : ∀ r, Eats r (ar r)) (p0 : Nat) (ha : ∀ q, q.length < p0 → Lc ts ts' s ar ar' q) : ∀ (n m : Nat) (acc : List PT) (p : List Tk), p.length ≤ p0 → (p ++ ts).length ≤ n → (p ++ ts').length ≤ m → Lc ts ts' s (unionP ar n acc) (unionP ar' m acc) p
  | 0, m, acc, p, h0, h1, h2 => by
    rw [List.length_append] at h1
    have := List.length_pos_iff.2 hts
    omega
  | n + 1, 0, acc, p, h0, h1, h2 => by
    rw [List.length_append] at h2
    have := List.length_pos_iff.2 hts'
    omega
  | n + 1, m + 1, acc, p, h0, h1, h2 => by
    rw [List.length_append] at h1 h2
    have e1 : unionP ar (n + 1) acc = fun r => if isM [124] r then (fun r => (ar r).bind fun t r => unionP ar n (acc ++ [t]) r) r.tail else .ok acc r [] := by funext r; rw [unionP]
    have e2 : unionP ar' (m + 1) acc = fun r => if isM [124] r then (fun r => (ar' r).bind fun t r => unionP ar' m (acc ++ [t]) r) r.tail else .ok acc r [] := by funext r; rw [unionP]
    rw [e1, e2]
    exact Lc.ite (A := fun r => (ar r).bind fun t r => unionP ar n (acc ++ [t]) r) (A' := fun r => (ar' r).bind fun t r => unionP ar' m (acc ++ [t]) r) (B := fun r => .ok acc r []) (B' := fun r => .ok acc r []) hn (fun q hq => Lc.bind (sf := s) (ha q (by omega)) ea (fun t r => union_eats ea n _ r) (fun t q' hq' => union_lc hts hts' hn ea p0 ha n m _ q' (by omega) (by rw [List.length_append]; omega) (by rw [List.length_append]; omega)) (.inl id)) (fun r => (ea r).bind fun t r => union_eats ea n _ r) (Lc.ok s _ _ p) (fun r => Eats.ok _ _ _)
theorem typP_lc {s : Prop} {ar ar' : List Tk → R PT} (hts : ts ≠ []) (hts' : ts' ≠ []) (hn : s → isM [124] ts' = false) (ea : ∀ r, Eats r (ar r)) (p : List Tk) (ha : ∀ q, q.length ≤ p.length → Lc ts ts' s ar ar' q) : Lc ts ts' s (typP ar) (typP ar') p := by
  refine Lc.bind (sf := s) (ha p (Nat.le_refl _)) ea (fun t r => (union_eats ea _ _ r).bind fun l r => Eats.ok _ _ _) (fun t q hq => ?_) (.inl id)
  intro x r d e k
  exact bindE (e := e) (k := k) (f := unionP ar (q ++ ts).length [t]) (f' := unionP ar' (q ++ ts').length [t]) (sf := s) (union_lc hts hts' hn ea q.length (fun q' hq' => ha q' (by omega)) _ _ [t] q (Nat.le_refl _) (Nat.le_refl _) (Nat.le_refl _)) (fun r => union_eats ea _ _ r) (fun _ r => Eats.ok _ _ _) (fun _ q _ => Lc.ok s _ _ q) (.inl id)

theorem lvT_lc (hts : ts ≠ []) (hts' : ts' ≠ []) : ∀ (n m : Nat), n ≤ m → ∀ p, Lc ts ts' (isM [45, 62] ts' = false ∧ isM [124] ts' = false) (typ n) (typ m) p ∧ Lc ts ts' (isM [45, 62] ts' = false ∧ isM [124] ts' = false) (arr n) (arr m) p
  | 0, m, _, p => ⟨(fun x r d e _ => by cases e), (fun x r d e _ => by cases e)⟩
  | n + 1, 0, h, p => by omega
  | n + 1, m + 1, h, p => by
    have ih := lvT_lc hts hts' n m (by omega)
    have ha : ∀ p, Lc ts ts' (isM [45, 62] ts' = false ∧ isM [124] ts' = false) (arr (n + 1)) (arr (m + 1)) p := fun p =>
      arrow_lc And.left (plain_eats (lvT_eats n).1) (lvT_eats n).2 p (plain_lc hts hts' (lvT_eats n).1 p fun q _ => (ih q).1) fun q _ => (ih q).2
    exact ⟨typP_lc hts hts' And.right (lvT_eats (n + 1)).2 p fun q _ => ha q, ha p⟩

theorem call_lc {s : Prop} {ex ex' : List Tk → R PE} (hts : ts ≠ []) (hts' : ts' ≠ []) (h3 : s → isM [40] ts' = false) (h4 : s → isM [46] ts' = false) (ee : ∀ r, Eats r (ex r)) (p0 : Nat) (he : ∀ q, q.length < p0 → Lc ts ts' s ex ex' q) : ∀ (n m : Nat) (a : PE) (p : List Tk), p.length ≤ p0 → (p ++ ts).length ≤ n → (p ++ ts').length ≤ m → Lc ts ts' s (callP ex n a) (callP ex' m a) p
  | 0, m, a, p, h0, h1, h2 => by
    rw [List.length_append] at h1
    have := List.length_pos_iff.2 hts
    omega
  | n + 1, 0, a, p, h0, h1, h2 => by
    rw [List.length_append] at h2
    have := List.length_pos_iff.2 hts'
    omega
  | n + 1, m + 1, a, p, h0, h1, h2 => by
    rw [List.length_append] at h1 h2
    intro x r d e k
    unfold callP at e ⊢
    cases p with
    | nil =>
      simp only [List.nil_append] at e ⊢
      split at e
      next h =>
        exfalso
        have := eats_lt ((ee _).bind fun g r => (want_eats (by decide : ([41] : Bs) ≠ [59]) r).bind fun _ r => call_eats ee n (.mk 7 (hd ts).a [] 0 [] [a, g] []) r) (isM_cons h)
        rw [e] at this
        simp [R.rest] at this
        omega
      next h =>
      split at e
      next h' =>
        exfalso
        have := eats_lt ((wantName_eats _).bind fun nm r => call_eats ee n (.mk 6 nm.a nm.t 0 [] [a] []) r) (isM_cons h')
        rw [e] at this
        simp [R.rest] at this
        omega
      next h' =>
        injection e with e1 e e2
        have hr : r = [] := by
          have := congrArg List.length e
          rw [List.length_append] at this
          exact List.eq_nil_of_length_eq_zero (by omega)
        rw [if_neg (by rw [h3 (k hr)]; decide), if_neg (by rw [h4 (k hr)]; decide), e1, e2, hr]
        rfl
    | cons t q =>
      simp only [List.cons_append, List.tail_cons, List.length_cons] at e h0 h1 h2 ⊢
      split at e
      next h =>
        rw [if_pos (show isM [40] (t :: (q ++ ts')) = true from h)]
        try simp only [List.tail_cons] at e ⊢
        exact bindE (e := e) (k := k) (he q (by omega)) ee (fun g r => (want_eats (by decide) r).bind fun _ r => call_eats ee n _ r) (fun g q' hq' => Lc.bind (sf := True) (Lc.want True _ q') (want_eats (by decide)) (fun _ r => call_eats ee n _ r) (fun _ q2 hq2 => call_lc hts hts' h3 h4 ee p0 he n m _ q2 (by omega) (by rw [List.length_append]; omega) (by rw [List.length_append]; omega)) (.inl fun _ => trivial)) (.inr fun g => Strict.want fun _ r => call_eats ee n _ r)
      next h =>
      rw [if_neg (show ¬ isM [40] (t :: (q ++ ts')) = true from h)]
      split at e
      next h =>
        rw [if_pos (show isM [46] (t :: (q ++ ts')) = true from h)]
        try simp only [List.tail_cons] at e ⊢
        exact bindE (e := e) (k := k) (sf := True) (Lc.name True q) wantName_eats (fun nm r => call_eats ee n _ r) (fun nm q' hq' => call_lc hts hts' h3 h4 ee p0 he n m _ q' (by omega) (by rw [List.length_append]; omega) (by rw [List.length_append]; omega)) (.inl fun _ => trivial)
      next h =>
        rw [if_neg (show ¬ isM [46] (t :: (q ++ ts')) = true from h)]
        exact Lc.ok s a [] (t :: q) x r d e k
theorem basic_lc {s sT : Prop} {ty ty' : List Tk → R PT} {ex ex' : List Tk → R PE} (hts : ts ≠ []) (hts' : ts' ≠ []) (et : ∀ r, Eats r (ty r)) (ee : ∀ r, Eats r (ex r)) (p : List Tk) (ht : ∀ q, q.length < p.length → Lc ts ts' sT ty ty' q) (he : ∀ q, q.length < p.length → Lc ts ts' s ex ex' q) : Lc ts ts' True (basicP ty ex) (basicP ty' ex') p := by
  refine Lc.strict (basic_strict et ee) fun t q hp x r d e k => ?_
  unfold basicP at e ⊢
  have hl : q.length < p.length := by rw [hp]; simp
  split at e
  next h => rw [if_pos (show (hd (t :: (q ++ ts'))).k = 3 from h)]; exact ok_tail e
  next h =>
  rw [if_neg (show ¬ (hd (t :: (q ++ ts'))).k = 3 from h)]
  split at e
  next h => rw [if_pos (show (hd (t :: (q ++ ts'))).k = 4 from h)]; exact ok_tail e
  next h =>
  rw [if_neg (show ¬ (hd (t :: (q ++ ts'))).k = 4 from h)]
  split at e
  next h => rw [if_pos (show (hd (t :: (q ++ ts'))).k = 1 from h)]; exact ok_tail e
  next h =>
  rw [if_neg (show ¬ (hd (t :: (q ++ ts'))).k = 1 from h)]
  split at e
  next h => rw [if_pos (show isM [116, 114, 117, 101] (t :: (q ++ ts')) = true from h)]; exact ok_tail e
  next h =>
  rw [if_neg (show ¬ isM [116, 114, 117, 101] (t :: (q ++ ts')) = true from h)]
  split at e
  next h => rw [if_pos (show isM [102, 97, 108, 115, 101] (t :: (q ++ ts')) = true from h)]; exact ok_tail e
  next h =>
  rw [if_neg (show ¬ isM [102, 97, 108, 115, 101] (t :: (q ++ ts')) = true from h)]
  split at e
  next h =>
    rw [if_pos (show isM [123] (t :: (q ++ ts')) = true from h)]
    try simp only [List.tail_cons] at e ⊢
    exact bindE (e := e) (k := k) (sf := True) (sg := True) (read_lc hts hts' (by decide) ee q fun q' hq' => he q' (by omega)) (read_eats (by decide) ee) (fun _ r => Eats.ok _ _ _) (fun _ q _ => Lc.ok True _ _ q) (.inl id)
  next h =>
  rw [if_neg (show ¬ isM [123] (t :: (q ++ ts')) = true from h)]
  split at e
  next h =>
    rw [if_pos (show isM [40] (t :: (q ++ ts')) = true from h)]
    have hA : ∀ (e0 : PE) r, Eats r ((fun r => (ty r).bind fun t' r => (want [41] r).bind fun _ r => .ok (.mk 11 (hd (t :: (q ++ ts))).a [] 0 [] [e0] [t']) r []) r : R PE) := fun e0 r => (et r).bind fun _ r => (want_eats (by decide) r).bind fun _ r => Eats.ok _ _ _
    have hB : ∀ (e0 : PE) r, Eats r ((fun r => (want [41] r).bind fun _ r => .ok e0 r []) r : R PE) := fun e0 r => (want_eats (by decide) r).bind fun _ r => Eats.ok _ _ _
    try simp only [List.tail_cons] at e ⊢
    refine bindE (e := e) (k := k) (sg := True) (he q hl) ee (fun e0 r => ?_) (fun e0 q' hq' => ?_) (.inr fun e0 => ?_)
    · split
      next h => exact (hA e0 _).step fun _ => isM_q h (by decide)
      · exact hB e0 r
    · intro x r d e k
      cases q' with
      | nil =>
        exfalso
        simp only [List.nil_append] at e
        split at e
        next h =>
          have := eats_lt (hA e0 _) (isM_cons h)
          simp only [e] at this
          simp [R.rest] at this
          omega
        next h =>
          have := Strict.want (fun _ _ => Eats.ok _ _ _) _ _ _ _ e
          simp at this
          omega
      | cons t1 q' =>
        simp only [List.cons_append, List.tail_cons, List.length_cons] at e hq' ⊢
        split at e
        next h =>
          rw [if_pos (show isM [58] (t1 :: (q' ++ ts')) = true from h)]
          try simp only [List.tail_cons] at e ⊢
          exact bindE (e := e) (k := k) (sg := True) (ht q' (by omega)) et (fun _ r => (want_eats (by decide) r).bind fun _ r => Eats.ok _ _ _) (fun _ q _ => Lc.bind (Lc.want True _ q) (want_eats (by decide)) (fun _ r => Eats.ok _ _ _) (fun _ q _ => Lc.ok True _ _ q) (.inl id)) (.inr fun _ => Strict.want fun _ r => Eats.ok _ _ _)
        next h =>
          rw [if_neg (show ¬ isM [58] (t1 :: (q' ++ ts')) = true from h)]
          try simp only [List.tail_cons] at e ⊢
          exact bindE (e := e) (k := k) (Lc.want True _ (t1 :: q')) (want_eats (by decide)) (fun _ r => Eats.ok _ _ _) (fun _ q _ => Lc.ok True _ _ q) (.inl id)
    · refine .of fun r => ?_
      split
      next h => exact .inr (eats_lt (hA e0 _) (isM_cons h))
      · exact R.bind_rest_lt (want_lt _ r) fun _ _ => Eats.ok _ _ _
  next h => cases e
theorem expr_lc {s sT : Prop} {ty ty' : List Tk → R PT} {ex ex' : List Tk → R PE} (hts : ts ≠ []) (hts' : ts' ≠ []) (h3 : s → isM [40] ts' = false) (h4 : s → isM [46] ts' = false) (et : ∀ r, Eats r (ty r)) (ee : ∀ r, Eats r (ex r)) (p : List Tk) (ht : ∀ q, q.length < p.length → Lc ts ts' sT ty ty' q) (he : ∀ q, q.length < p.length → Lc ts ts' s ex ex' q) : Lc ts ts' s (exprP ty ex) (exprP ty' ex') p := by
  refine Lc.strict ?_ fun t q hp x r d e k => ?_
  · refine .of fun r => ?_
    unfold exprP
    split
    next h => exact .inr (eats_lt ((want_eats (by decide) _).bind fun _ r => (wantName_eats r).bind fun _ r => (want_eats (by decide) r).bind fun _ r => (et r).bind fun _ r => (want_eats (by decide) r).bind fun _ r => (ee r).bind fun _ r => Eats.ok _ _ _) (isM_cons h))
    split
    next h => exact .inr (eats_lt ((wantName_eats _).bind fun _ r => (want_eats (by decide) r).bind fun _ r => (ee r).bind fun _ r => (want_eats (by decide) r).bind fun _ r => (ee r).bind fun _ r => Eats.ok _ _ _) (isM_cons h))
    split
    next h => exact .inr (eats_lt ((ee _).bind fun _ r => (want_eats (by decide) r).bind fun _ r => (ee r).bind fun _ r => (want_eats (by decide) r).bind fun _ r => (ee r).bind fun _ r => Eats.ok _ _ _) (isM_cons h))
    refine R.bind_rest_lt ?_ fun e r => call_eats ee _ _ r
    cases hb : basicP ty ex r with
    | bad y r d => exact .inl ⟨_, _, _, rfl⟩
    | ok x r d => exact .inr (basic_strict et ee _ _ _ _ hb)
  unfold exprP at e ⊢
  have hl : q.length < p.length := by rw [hp]; simp
  split at e
  next h =>
    rw [if_pos (show isM [102, 117, 110] (t :: (q ++ ts')) = true from h)]
    try simp only [List.tail_cons] at e ⊢
    exact bindE (e := e) (k := k) (sf := True) (Lc.want True _ q) (want_eats (by decide)) (fun _ r => (wantName_eats r).bind fun _ r => (want_eats (by decide) r).bind fun _ r => (et r).bind fun _ r => (want_eats (by decide) r).bind fun _ r => (ee r).bind fun _ r => Eats.ok _ _ _) (fun _ q1 l1 =>
      Lc.bind (sf := True) (Lc.name True q1) wantName_eats (fun _ r => (want_eats (by decide) r).bind fun _ r => (et r).bind fun _ r => (want_eats (by decide) r).bind fun _ r => (ee r).bind fun _ r => Eats.ok _ _ _) (fun _ q2 l2 =>
      Lc.bind (sf := True) (Lc.want True _ q2) (want_eats (by decide)) (fun _ r => (et r).bind fun _ r => (want_eats (by decide) r).bind fun _ r => (ee r).bind fun _ r => Eats.ok _ _ _) (fun _ q3 l3 =>
      Lc.bind (sf := sT) (ht q3 (by omega)) et (fun _ r => (want_eats (by decide) r).bind fun _ r => (ee r).bind fun _ r => Eats.ok _ _ _) (fun _ q4 l4 =>
      Lc.bind (sf := True) (Lc.want True _ q4) (want_eats (by decide)) (fun _ r => (ee r).bind fun _ r => Eats.ok _ _ _) (fun _ q5 l5 =>
      Lc.bind (sf := s) (he q5 (by omega)) ee (fun _ r => Eats.ok _ _ _) (fun _ q _ => Lc.ok s _ _ q) (.inl id)) (.inl fun _ => trivial)) (.inr fun _ => Strict.want fun _ r => (ee r).bind fun _ r => Eats.ok _ _ _)) (.inl fun _ => trivial)) (.inl fun _ => trivial)) (.inl fun _ => trivial)
  next h =>
  rw [if_neg (show ¬ isM [102, 117, 110] (t :: (q ++ ts')) = true from h)]
  split at e
  next h =>
    rw [if_pos (show isM [108, 101, 116] (t :: (q ++ ts')) = true from h)]
    try simp only [List.tail_cons] at e ⊢
    exact bindE (e := e) (k := k) (sf := True) (Lc.name True q) wantName_eats (fun _ r => (want_eats (by decide) r).bind fun _ r => (ee r).bind fun _ r => (want_eats (by decide) r).bind fun _ r => (ee r).bind fun _ r => Eats.ok _ _ _) (fun _ q1 l1 =>
      Lc.bind (sf := True) (Lc.want True _ q1) (want_eats (by decide)) (fun _ r => (ee r).bind fun _ r => (want_eats (by decide) r).bind fun _ r => (ee r).bind fun _ r => Eats.ok _ _ _) (fun _ q2 l2 =>
      Lc.bind (sf := s) (he q2 (by omega)) ee (fun _ r => (want_eats (by decide) r).bind fun _ r => (ee r).bind fun _ r => Eats.ok _ _ _) (fun _ q3 l3 =>
      Lc.bind (sf := True) (Lc.want True _ q3) (want_eats (by decide)) (fun _ r => (ee r).bind fun _ r => Eats.ok _ _ _) (fun _ q4 l4 =>
      Lc.bind (sf := s) (he q4 (by omega)) ee (fun _ r => Eats.ok _ _ _) (fun _ q _ => Lc.ok s _ _ q) (.inl id)) (.inl fun _ => trivial)) (.inl id)) (.inl fun _ => trivial)) (.inl fun _ => trivial)
  next h =>
  rw [if_neg (show ¬ isM [108, 101, 116] (t :: (q ++ ts')) = true from h)]
  split at e
  next h =>
    rw [if_pos (show isM [105, 102] (t :: (q ++ ts')) = true from h)]
    try simp only [List.tail_cons] at e ⊢
    exact bindE (e := e) (k := k) (sf := s) (he q hl) ee (fun _ r => (want_eats (by decide) r).bind fun _ r => (ee r).bind fun _ r => (want_eats (by decide) r).bind fun _ r => (ee r).bind fun _ r => Eats.ok _ _ _) (fun _ q1 l1 =>
      Lc.bind (sf := True) (Lc.want True _ q1) (want_eats (by decide)) (fun _ r => (ee r).bind fun _ r => (want_eats (by decide) r).bind fun _ r => (ee r).bind fun _ r => Eats.ok _ _ _) (fun _ q2 l2 =>
      Lc.bind (sf := s) (he q2 (by omega)) ee (fun _ r => (want_eats (by decide) r).bind fun _ r => (ee r).bind fun _ r => Eats.ok _ _ _) (fun _ q3 l3 =>
      Lc.bind (sf := True) (Lc.want True _ q3) (want_eats (by decide)) (fun _ r => (ee r).bind fun _ r => Eats.ok _ _ _) (fun _ q4 l4 =>
      Lc.bind (sf := s) (he q4 (by omega)) ee (fun _ r => Eats.ok _ _ _) (fun _ q _ => Lc.ok s _ _ q) (.inl id)) (.inl fun _ => trivial)) (.inl id)) (.inl fun _ => trivial)) (.inl id)
  next h =>
  rw [if_neg (show ¬ isM [105, 102] (t :: (q ++ ts')) = true from h)]
  refine bindE (e := e) (k := k) (f := basicP ty ex) (f' := basicP ty' ex') (p := t :: q) (sf := True) (basic_lc hts hts' et ee (t :: q) (fun q' h => ht q' (by rw [hp]; exact h)) (fun q' h => he q' (by rw [hp]; exact h))) (basic_eats et ee) (fun e r => call_eats ee _ _ r) (fun e0 q' hq' => ?_) (.inl fun _ => trivial)
  intro x r d e k
  exact call_lc hts hts' h3 h4 ee q'.length (fun q2 hq2 => he q2 (by rw [hp]; omega)) _ _ e0 q' (Nat.le_refl _) (Nat.le_refl _) (Nat.le_refl _) x r d e k
theorem exp_lc (hts : ts ≠ []) (hts' : ts' ≠ []) : ∀ (n m : Nat), n ≤ m → ∀ p, Lc ts ts' (isM [40] ts' = false ∧ isM [46] ts' = false) (exp n) (exp m) p
  | 0, m, _, p => (fun x r d e _ => by cases e)
  | n + 1, 0, h, p => by omega
  | n + 1, m + 1, h, p => expr_lc hts hts' And.left And.right (lvT_eats n).1 (exp_eats n) p (fun q _ => (lvT_lc hts hts' n m (by omega) q).1) (fun q _ => exp_lc hts hts' n m (by omega) q)
end
end Go.Proofs.YthpoffklhpbdoaaGreatDoor

/-
  Sources one behind the other: their pieces and tokens. No walk.
-/
namespace Go.Proofs.YthpoffklhpbdoaaGreatDoor

theorem spanLen_join {p : UInt8 → Bool} {c : UInt8} (hc : p c = false) (b : Bs) : ∀ l : Bs, spanLen p (l ++ c :: b) = spanLen p l
  | [] => by simp [spanLen, hc]
  | x :: r => by simp only [List.cons_append, spanLen, spanLen_join hc b r]
theorem spanLen_lt_app {p : UInt8 → Bool} : ∀ (l b : Bs), spanLen p l < l.length → spanLen p (l ++ b) = spanLen p l
  | [], b, h => by simp [spanLen] at h
  | c :: r, b, h => by
    simp only [List.cons_append, spanLen, List.length_cons] at h ⊢
    by_cases hc : p c = true
    · simp only [hc, if_true] at h ⊢
      rw [spanLen_lt_app r b (by omega)]
    · simp only [hc]
      rfl
theorem spanLen_whole {p : UInt8 → Bool} : ∀ (t : Bs), (∀ c ∈ t, p c = true) → spanLen p t = t.length
  | [], _ => by simp [spanLen]
  | x :: r, h => by simp only [spanLen, h x (by simp), if_true, spanLen_whole r (fun c hc => h c (by simp [hc])), List.length_cons]
theorem spanLen_app {p : UInt8 → Bool} : ∀ (l b : Bs), spanLen p l = l.length → spanLen p (l ++ b) = l.length + spanLen p b
  | [], b, _ => by simp
  | c :: r, b, h => by
    simp only [List.cons_append, spanLen, List.length_cons] at h ⊢
    by_cases hc : p c = true
    · simp only [hc, if_true] at h ⊢
      rw [spanLen_app r b (by omega)]
      omega
    · simp [hc] at h

theorem take_join (l b : Bs) {n : Nat} (h : n ≤ l.length) : (l ++ b).take n = l.take n := List.take_append_of_le_length h
theorem get_join (l b : Bs) (n : Nat) (h : n ≤ l.length) : (l ++ 10 :: b)[n]? = some 34 ↔ l[n]? = some 34 := by
  rcases Nat.lt_or_ge n l.length with h1 | h1
  · rw [List.getElem?_append_left h1]
  · have : n = l.length := by omega
    subst this
    simp
theorem step_join (l b : Bs) (h : l ≠ []) : stepOf (l ++ 10 :: b) = stepOf l := by
  cases l with
  | nil => exact absurd rfl h
  | cons c r =>
    have e1 := spanLen_join (p := isInLine) (c := 10) (by decide) b (c :: r)
    have e2 := spanLen_join (p := isPart) (c := 10) (by decide) b (c :: r)
    have e3 := spanLen_join (p := isDig) (c := 10) (by decide) b (c :: r)
    have e4 := spanLen_join (p := isInText) (c := 10) (by decide) b r
    have t2 := take_join (c :: r) (10 :: b) (spanLen_le isPart (c :: r))
    have t3 := take_join (c :: r) (10 :: b) (spanLen_le isDig (c :: r))
    have t4 := take_join r (10 :: b) (spanLen_le isInText r)
    have g4 := get_join r b (spanLen isInText r) (spanLen_le isInText r)
    have h5 : (r ++ 10 :: b).head? = some 62 ↔ r.head? = some 62 := by cases r <;> simp
    rw [List.cons_append] at e1 e2 e3 t2 t3
    simp only [List.cons_append, stepOf, e1, e2, e3, e4, t2, t3, t4, g4, h5]
theorem pieces_join : ∀ (N a : Nat) (l b : Bs), l.length ≤ N → pieces a (l ++ 10 :: b) = pieces a l ++ pieces (a + l.length + 1) b
  | N, a, [], b, _ => by
    have h := stepOf_gap 10 b (.inl (by decide))
    rw [List.nil_append, pieces_gap a (10 :: b) (by simp) h.1 h.2, pieces_nil]
    have e : (stepOf (10 :: b)).n = 1 := by simp [stepOf, show isBlank 10 = true by decide]
    rw [e]
    simp
  | 0, a, c :: r, b, h => by simp at h
  | N + 1, a, c :: r, b, h => by
    have hn := stepOf_n (c :: r) (by simp)
    have hs := step_join (c :: r) b (by simp)
    have ih := pieces_join N (a + (stepOf (c :: r)).n) ((c :: r).drop (stepOf (c :: r)).n) b (by rw [List.length_drop]; omega)
    have hd : ((c :: r) ++ 10 :: b).drop (stepOf (c :: r)).n = (c :: r).drop (stepOf (c :: r)).n ++ 10 :: b := List.drop_append_of_le_length hn.2
    have hl : a + (stepOf (c :: r)).n + ((c :: r).drop (stepOf (c :: r)).n).length + 1 = a + (c :: r).length + 1 := by rw [List.length_drop]; omega
    rw [hl] at ih
    by_cases hp : (stepOf (c :: r)).k ≠ 0 ∨ (stepOf (c :: r)).d ≠ 0
    · rw [pieces_piece a ((c :: r) ++ 10 :: b) (by simp) (by rw [hs]; exact hp), pieces_piece a (c :: r) (by simp) hp, hs, hd, ih, List.cons_append]
    · rw [pieces_gap a ((c :: r) ++ 10 :: b) (by simp) (by rw [hs]; omega) (by rw [hs]; omega), pieces_gap a (c :: r) (by simp) (by omega) (by omega), hs, hd, ih]

/-- The same further on, or at other places. -/
def Pc.up (k : Nat) (x : Pc) : Pc := ⟨x.at_ + k, x.s⟩
def Tk.pl (φ : Nat → Nat) (t : Tk) : Tk := ⟨t.k, φ t.a, t.t⟩
def Dn.pl (φ : Nat → Nat) (d : Dn) : Dn := ⟨φ d.a, d.d, d.n⟩
theorem pieces_up (k : Nat) : ∀ (N a : Nat) (l : Bs), l.length ≤ N → pieces (a + k) l = (pieces a l).map (Pc.up k)
  | N, a, [], _ => by simp [pieces_nil]
  | 0, a, c :: r, h => by simp at h
  | N + 1, a, c :: r, h => by
    have hn := stepOf_n (c :: r) (by simp)
    have ih := pieces_up k N (a + (stepOf (c :: r)).n) ((c :: r).drop (stepOf (c :: r)).n) (by rw [List.length_drop]; omega)
    rw [Nat.add_right_comm] at ih
    by_cases hp : (stepOf (c :: r)).k ≠ 0 ∨ (stepOf (c :: r)).d ≠ 0
    · rw [pieces_piece (a + k) (c :: r) (by simp) hp, pieces_piece a (c :: r) (by simp) hp, ih]
      rfl
    · rw [pieces_gap (a + k) (c :: r) (by simp) (by omega) (by omega), pieces_gap a (c :: r) (by simp) (by omega) (by omega), ih]

theorem toksOf_cons (x : Pc) (l : List Pc) : toksOf (x :: l) = (if x.s.k = 0 then [] else [⟨x.s.k, x.at_, x.s.t⟩]) ++ toksOf l := by
  unfold toksOf
  by_cases h : x.s.k = 0 <;> simp [h]
theorem toldOf_cons (x : Pc) (l : List Pc) : toldOf (x :: l) = (if x.s.d = 0 then [] else [⟨x.at_, x.s.d⟩]) ++ toldOf l := by
  unfold toldOf
  by_cases h : x.s.d = 0 <;> simp [h]
theorem toksOf_append (l m : List Pc) : toksOf (l ++ m) = toksOf l ++ toksOf m := List.filterMap_append
theorem toldOf_append (l m : List Pc) : toldOf (l ++ m) = toldOf l ++ toldOf m := List.filterMap_append
theorem toksOf_up (k : Nat) (l : List Pc) : toksOf (l.map (Pc.up k)) = (toksOf l).map (Tk.pl (· + k)) := by
  induction l with
  | nil => rfl
  | cons x r ih =>
    rw [List.map_cons, toksOf_cons, toksOf_cons, ih, List.map_append]
    by_cases h : x.s.k = 0 <;> simp [h, Pc.up, Tk.pl]

/-- Tokens of a source that begins at a place, without the end; what is told. -/
def tk (a : Nat) (l : Bs) : List Tk := toksOf (pieces a l)
def td (a : Nat) (l : Bs) : List Dn := (toldOf (pieces a l)).map fun d => ⟨d.a, d.d, []⟩
theorem toks_tk (l : Bs) : toks l = tk 0 l ++ [⟨6, l.length, []⟩] := rfl
theorem dns_td (l : Bs) : dns l = td 0 l := rfl
theorem tk_nil (a : Nat) : tk a [] = [] := by rw [tk, pieces_nil]; rfl
theorem td_nil (a : Nat) : td a [] = [] := by rw [td, pieces_nil]; rfl
theorem tk_up (a k : Nat) (l : Bs) : tk (a + k) l = (tk a l).map (Tk.pl (· + k)) := by rw [tk, pieces_up k l.length a l (Nat.le_refl _), toksOf_up]; rfl
theorem td_up (a k : Nat) (l : Bs) : td (a + k) l = (td a l).map (Dn.pl (· + k)) := by
  rw [td, pieces_up k l.length a l (Nat.le_refl _), td]
  induction pieces a l with
  | nil => rfl
  | cons x r ih =>
    rw [List.map_cons, toldOf_cons, toldOf_cons, List.map_append, ih, List.map_append, List.map_append]
    by_cases h : x.s.d = 0 <;> simp [h, Pc.up, Dn.pl]
theorem tk_join (a : Nat) (l b : Bs) : tk a (l ++ 10 :: b) = tk a l ++ tk (a + l.length + 1) b := by rw [tk, pieces_join l.length a l b (Nat.le_refl _), toksOf_append]; rfl
theorem td_join (a : Nat) (l b : Bs) : td a (l ++ 10 :: b) = td a l ++ td (a + l.length + 1) b := by rw [td, pieces_join l.length a l b (Nat.le_refl _), toldOf_append, List.map_append]; rfl
theorem tk_kind (l : Bs) : ∀ t ∈ tk 0 l, t.k ≠ 6 := fun t ht => by have := toks_kind l t ht; omega
theorem tk_kinds (a : Nat) (l : Bs) : ∀ t ∈ tk a l, t.k ≠ 6 := fun t ht => by
  rw [show a = 0 + a by omega, tk_up] at ht
  obtain ⟨u, hu, rfl⟩ := List.mem_map.1 ht
  exact tk_kind l u hu

/-- A byte that ends names and numbers, and no '>'. -/
def brk (c : UInt8) : Bool := !isPart c && c != 62
/-- No remark and no text is open at the end. -/
inductive Cl : Bs → Prop
  | nil : Cl []
  | step {l : Bs} (h : l ≠ []) (h1 : l.head? = some 35 → spanLen isInLine l < l.length) (h2 : l.head? = some 34 → (stepOf l).k ≠ 0) (hr : Cl (l.drop (stepOf l).n)) : Cl l
theorem step_cut {l : Bs} (h : l ≠ []) (h1 : l.head? = some 35 → spanLen isInLine l < l.length) (h2 : l.head? = some 34 → (stepOf l).k ≠ 0) {c : UInt8} (hc : brk c = true) (b : Bs) : stepOf (l ++ c :: b) = stepOf l := by
  cases l with
  | nil => exact absurd rfl h
  | cons x r =>
    simp only [brk, Bool.and_eq_true, Bool.not_eq_true', bne_iff_ne] at hc
    have hdg : isDig c = false := by
      have := hc.1
      simp only [isPart, Bool.or_eq_false_iff] at this
      exact this.2
    have e2 := spanLen_join (p := isPart) hc.1 b (x :: r)
    have e3 := spanLen_join (p := isDig) hdg b (x :: r)
    have t2 := take_join (x :: r) (c :: b) (spanLen_le isPart (x :: r))
    have t3 := take_join (x :: r) (c :: b) (spanLen_le isDig (x :: r))
    have h5 : (r ++ c :: b).head? = some 62 ↔ r.head? = some 62 := by cases r <;> simp [hc.2]
    rw [List.cons_append] at e2 e3 t2 t3
    by_cases hx : x = 35
    · subst hx
      have e1 := spanLen_lt_app (35 :: r) (c :: b) (h1 rfl)
      rw [List.cons_append] at e1
      simp only [List.cons_append, stepOf, e1, if_true]
    by_cases hy : x = 34
    · subst hy
      have hq : r[spanLen isInText r]? = some 34 := by
        rcases Classical.em (r[spanLen isInText r]? = some 34) with hq | hq
        · exact hq
        · exact absurd (by rw [stepOf_34, if_neg hq]) (h2 rfl)
      have hlt : spanLen isInText r < r.length := (List.getElem?_eq_some_iff.1 hq).1
      have e4 := spanLen_lt_app r (c :: b) hlt
      have g4 : (r ++ c :: b)[spanLen isInText r]? = some 34 := by rw [List.getElem?_append_left hlt]; exact hq
      have t4 := take_join r (c :: b) (spanLen_le isInText r)
      rw [List.cons_append, stepOf_34, stepOf_34, e4, if_pos g4, if_pos hq, t4]
    · simp only [List.cons_append, stepOf, hx, hy, if_false, e2, e3, t2, t3, h5]
theorem pieces_cut {l : Bs} (h : Cl l) {c : UInt8} (hc : brk c = true) (b : Bs) : ∀ a, pieces a (l ++ c :: b) = pieces a l ++ pieces (a + l.length) (c :: b) := by
  induction h with
  | nil => intro a; simp [pieces_nil]
  | @step l h h1 h2 hr ih =>
    intro a
    have hn := stepOf_n l h
    have hs := step_cut h h1 h2 hc b
    have ih := ih (a + (stepOf l).n)
    have hd : (l ++ c :: b).drop (stepOf l).n = l.drop (stepOf l).n ++ c :: b := List.drop_append_of_le_length hn.2
    have hl : a + (stepOf l).n + (l.drop (stepOf l).n).length = a + l.length := by rw [List.length_drop]; omega
    rw [hl] at ih
    have hne : l ++ c :: b ≠ [] := by simp
    by_cases hp : (stepOf l).k ≠ 0 ∨ (stepOf l).d ≠ 0
    · rw [pieces_piece a (l ++ c :: b) hne (by rw [hs]; exact hp), pieces_piece a l h hp, hs, hd, ih, List.cons_append]
    · rw [pieces_gap a (l ++ c :: b) hne (by rw [hs]; omega) (by rw [hs]; omega), pieces_gap a l h (by omega) (by omega), hs, hd, ih]
theorem tk_cut {l : Bs} (h : Cl l) {c : UInt8} (hc : brk c = true) (a : Nat) (b : Bs) : tk a (l ++ c :: b) = tk a l ++ tk (a + l.length) (c :: b) := by rw [tk, pieces_cut h hc b a, toksOf_append]; rfl
theorem td_cut {l : Bs} (h : Cl l) {c : UInt8} (hc : brk c = true) (a : Nat) (b : Bs) : td a (l ++ c :: b) = td a l ++ td (a + l.length) (c :: b) := by rw [td, pieces_cut h hc b a, toldOf_append, List.map_append]; rfl
theorem cl_plain : ∀ (N : Nat) (l : Bs), l.length ≤ N → (∀ c ∈ l, c ≠ 35 ∧ c ≠ 34) → Cl l
  | N, [], _, _ => .nil
  | 0, c :: r, h, _ => by simp at h
  | N + 1, c :: r, h, hh => by
    have hn := stepOf_n (c :: r) (by simp)
    refine .step (by simp) (fun e => ?_) (fun e => ?_) (cl_plain N _ (by rw [List.length_drop]; omega) fun x hx => hh x (List.mem_of_mem_drop hx))
    · simp at e; exact absurd e (hh c (by simp)).1
    · simp at e; exact absurd e (hh c (by simp)).2

/-- Where the first piece does not reach the end, what follows plays no part in it. -/
theorem step_far {l : Bs} (h : (stepOf l).n < l.length) (h2 : l.head? = some 34 → (stepOf l).k ≠ 0) (b : Bs) : stepOf (l ++ b) = stepOf l := by
  cases l with
  | nil => simp at h
  | cons x r =>
    have h5 : ∀ y ys, r = y :: ys → ((r ++ b).head? = some 62 ↔ r.head? = some 62) := by rintro y ys rfl; simp
    by_cases hb : isBlank x = true
    · simp only [List.cons_append, stepOf, hb, if_true]
    by_cases hx : x = 35
    · subst hx
      simp only [stepOf, hb, if_true, if_false, Bool.false_eq_true] at h
      have e1 := spanLen_lt_app (35 :: r) b h
      rw [List.cons_append] at e1
      simp only [List.cons_append, stepOf, e1, if_true]
    by_cases hs : isStart x = true
    · simp only [stepOf, hb, hx, hs, if_true, if_false, Bool.false_eq_true] at h
      have e1 := spanLen_lt_app (x :: r) b h
      have t2 := take_join (x :: r) b (spanLen_le isPart (x :: r))
      rw [List.cons_append] at e1 t2
      simp only [List.cons_append, stepOf, hb, hx, hs, e1, t2, if_true, if_false, Bool.false_eq_true]
    by_cases hd : isDig x = true
    · have h : spanLen isDig (x :: r) < (x :: r).length := by
        simp only [stepOf, hb, hx, hs, hd, if_true, if_false, Bool.false_eq_true] at h
        split at h <;> exact h
      have e1 := spanLen_lt_app (x :: r) b h
      have t2 := take_join (x :: r) b (spanLen_le isDig (x :: r))
      rw [List.cons_append] at e1 t2
      simp only [List.cons_append, stepOf, hb, hx, hs, hd, e1, t2, if_true, if_false, Bool.false_eq_true]
    by_cases hy : x = 34
    · subst hy
      have hq : r[spanLen isInText r]? = some 34 := by
        rcases Classical.em (r[spanLen isInText r]? = some 34) with hq | hq
        · exact hq
        · exact absurd (by rw [stepOf_34, if_neg hq]) (h2 rfl)
      have hlt : spanLen isInText r < r.length := (List.getElem?_eq_some_iff.1 hq).1
      have e4 := spanLen_lt_app r b hlt
      have g4 : (r ++ b)[spanLen isInText r]? = some 34 := by rw [List.getElem?_append_left hlt]; exact hq
      have t4 := take_join r b (spanLen_le isInText r)
      rw [List.cons_append, stepOf_34, stepOf_34, e4, if_pos g4, if_pos hq, t4]
    · cases r with
      | nil =>
        have := stepOf_n [x] (by simp)
        simp only [List.length_singleton] at h this
        omega
      | cons y ys =>
        have h5 := h5 y ys rfl
        simp only [List.cons_append] at h5
        simp only [List.cons_append, stepOf, hb, hx, hs, hd, hy, if_false, h5, Bool.false_eq_true]

/-- Nothing told: all is closed, or a remark is open up to the end. -/
theorem cl_or_open : ∀ (N : Nat) (l : Bs), l.length ≤ N → ∀ a0, toldOf (pieces a0 l) = [] → Cl l ∨ ∀ b : Bs, (∀ c ∈ b, c ≠ 10) → ∀ a, pieces a (l ++ b) = pieces a l
  | N, [], _, _, _ => .inl .nil
  | 0, c :: r, h, _, _ => by simp at h
  | N + 1, c :: r, h, a0, ht => by
    have hn := stepOf_n (c :: r) (by simp)
    have hd0 : (stepOf (c :: r)).d = 0 ∧ toldOf (pieces (a0 + (stepOf (c :: r)).n) ((c :: r).drop (stepOf (c :: r)).n)) = [] := by
      by_cases hp : (stepOf (c :: r)).k ≠ 0 ∨ (stepOf (c :: r)).d ≠ 0
      · rw [pieces_piece a0 (c :: r) (by simp) hp, toldOf_cons] at ht
        have := List.append_eq_nil_iff.1 ht
        refine ⟨?_, this.2⟩
        have h1 := this.1
        split at h1
        · assumption
        · simp at h1
      · rw [pieces_gap a0 (c :: r) (by simp) (by omega) (by omega)] at ht
        exact ⟨by omega, ht⟩
    have h2 : (c :: r).head? = some 34 → (stepOf (c :: r)).k ≠ 0 := by
      intro e
      simp at e
      subst e
      have := hd0.1
      rw [stepOf_34] at this ⊢
      by_cases hq : r[spanLen isInText r]? = some 34
      · rw [if_pos hq]; simp
      · rw [if_neg hq] at this; simp at this
    by_cases ho : c = 35 ∧ spanLen isInLine (c :: r) = (c :: r).length
    · right
      intro b hb a
      obtain ⟨rfl, ho⟩ := ho
      have h1 : spanLen isInLine (35 :: r ++ b) = (35 :: r ++ b).length := by
        rw [spanLen_app _ _ ho, List.length_append, spanLen_whole b (fun c hc => by simp only [isInLine, bne_iff_ne]; intro e; exact hb c hc (UInt8.toNat_inj.1 e))]
      rw [List.cons_append] at h1 ⊢
      rw [pieces_remark, pieces_remark, h1, ho, List.drop_length, List.drop_length, pieces_nil, pieces_nil]
    · have h1 : (c :: r).head? = some 35 → spanLen isInLine (c :: r) < (c :: r).length := by
        intro e
        simp at e
        have := spanLen_le isInLine (c :: r)
        rcases Nat.lt_or_ge (spanLen isInLine (c :: r)) (c :: r).length with hh | hh
        · exact hh
        · exact absurd ⟨e, by omega⟩ ho
      by_cases he : (c :: r).drop (stepOf (c :: r)).n = []
      · exact .inl (.step (by simp) h1 h2 (by rw [he]; exact .nil))
      · have hlt : (stepOf (c :: r)).n < (c :: r).length := by
          rcases Nat.lt_or_ge (stepOf (c :: r)).n (c :: r).length with hh | hh
          · exact hh
          · exact absurd (List.drop_eq_nil_of_le hh) he
        rcases cl_or_open N _ (by rw [List.length_drop]; omega) _ hd0.2 with ih | ih
        · exact .inl (.step (by simp) h1 h2 ih)
        · right
          intro b hb a
          have hs := step_far hlt h2 b
          have hd : ((c :: r) ++ b).drop (stepOf (c :: r)).n = (c :: r).drop (stepOf (c :: r)).n ++ b := List.drop_append_of_le_length hn.2
          by_cases hp : (stepOf (c :: r)).k ≠ 0 ∨ (stepOf (c :: r)).d ≠ 0
          · rw [pieces_piece a ((c :: r) ++ b) (by simp) (by rw [hs]; exact hp), pieces_piece a (c :: r) (by simp) hp, hs, hd, ih b hb]
          · rw [pieces_gap a ((c :: r) ++ b) (by simp) (by rw [hs]; omega) (by rw [hs]; omega), pieces_gap a (c :: r) (by simp) (by omega) (by omega), hs, hd, ih b hb]

/-- A blank, a sign. -/
theorem pieces_blank {c : UInt8} (hc : isBlank c = true) (a : Nat) (rest : Bs) : pieces a (c :: rest) = pieces (a + 1) rest := by
  have h := stepOf_gap c rest (.inl hc)
  rw [pieces_gap a (c :: rest) (by simp) h.1 h.2]
  have e : (stepOf (c :: rest)).n = 1 := by simp [stepOf, hc]
  rw [e]
  rfl
theorem sg_not (c : UInt8) : isSg c = true → isBlank c = false ∧ c ≠ 35 ∧ isStart c = false ∧ isDig c = false ∧ c ≠ 34 ∧ c ≠ 45 := by
  have := u8_all (fun c => !isSg c || (!isBlank c && c != 35 && !isStart c && !isDig c && c != 34 && c != 45)) (by decide +kernel) c
  simp at this
  intro h
  simp [h] at this
  exact ⟨this.1.1.1.1.1, this.1.1.1.1.2, this.1.1.1.2, this.1.1.2, this.1.2, this.2⟩
theorem pieces_sign {c : UInt8} (hc : isSg c = true) (a : Nat) (rest : Bs) : pieces a (c :: rest) = ⟨a, ⟨1, 5, [c], 0⟩⟩ :: pieces (a + 1) rest := by
  obtain ⟨h1, h2, h3, h4, h5, h6⟩ := sg_not c hc
  have hs : stepOf (c :: rest) = ⟨1, 5, [c], 0⟩ := by
    simp only [stepOf, h1, h2, h3, h4, h5, h6, hc, Bool.false_eq_true, if_false, if_true, false_and]
  rw [pieces_piece a (c :: rest) (by simp) (by rw [hs]; simp), hs]
  rfl
theorem tk_blank {c : UInt8} (hc : isBlank c = true) (a : Nat) (rest : Bs) : tk a (c :: rest) = tk (a + 1) rest := by rw [tk, pieces_blank hc]; rfl
theorem td_blank {c : UInt8} (hc : isBlank c = true) (a : Nat) (rest : Bs) : td a (c :: rest) = td (a + 1) rest := by rw [td, pieces_blank hc]; rfl
theorem tk_sign {c : UInt8} (hc : isSg c = true) (a : Nat) (rest : Bs) : tk a (c :: rest) = ⟨5, a, [c]⟩ :: tk (a + 1) rest := by rw [tk, pieces_sign hc, toksOf_cons]; rfl
theorem td_sign {c : UInt8} (hc : isSg c = true) (a : Nat) (rest : Bs) : td a (c :: rest) = td (a + 1) rest := by rw [td, pieces_sign hc, toldOf_cons]; rfl

/-- The tokens of a text without ';' are no ';'. -/
theorem tk_semi : ∀ (N a : Nat) (l : Bs), l.length ≤ N → (∀ c ∈ l, c ≠ 59) → ∀ x ∈ pieces a l, x.s.t ≠ [59]
  | N, a, [], _, _ => by simp [pieces_nil]
  | 0, a, c :: r, h, _ => by simp at h
  | N + 1, a, c :: r, h, hh => by
    have hn := stepOf_n (c :: r) (by simp)
    have ih := tk_semi N (a + (stepOf (c :: r)).n) ((c :: r).drop (stepOf (c :: r)).n) (by rw [List.length_drop]; omega) (fun x hx => hh x (List.mem_of_mem_drop hx))
    by_cases hp : (stepOf (c :: r)).k ≠ 0 ∨ (stepOf (c :: r)).d ≠ 0
    · rw [pieces_piece a (c :: r) (by simp) hp]
      intro x hx
      rcases List.mem_cons.1 hx with rfl | hx
      · intro e
        have key : ∀ t : Bs, (∀ c ∈ t, c ≠ 59) → t ≠ [59] := fun t ht e => ht 59 (by rw [e]; simp) rfl
        have hc := hh c (by simp)
        have hr : ∀ x ∈ r, x ≠ 59 := fun x hx => hh x (by simp [hx])
        have e : (stepOf (c :: r)).t = [59] := e
        revert e
        simp only [stepOf]
        have tk2 : ∀ n, ((c :: r).take n) ≠ [59] := fun n => key _ fun x hx => hh x (List.mem_of_mem_take hx)
        have tk3 : ∀ n, (r.take n) ≠ [59] := fun n => key _ fun x hx => hr x (List.mem_of_mem_take hx)
        split
        · simp
        split
        · simp
        split
        · exact tk2 _
        split
        · split
          · simp
          · exact tk2 _
        split
        · split
          · exact tk3 _
          · simp
        split
        · simp
        split
        · simp [hc]
        · simp
      · exact ih x hx
    · rw [pieces_gap a (c :: r) (by simp) (by omega) (by omega)]
      exact ih
end Go.Proofs.YthpoffklhpbdoaaGreatDoor

/-
  A reader looks at no place: with other places it tells the same at those. No walk.
-/
namespace Go.Proofs.YthpoffklhpbdoaaGreatDoor

mutual
def PE.pl (φ : Nat → Nat) : PE → PE
  | .mk k a n m ns l ts => .mk k (φ a) n m ns (PE.pls φ l) ts
def PE.pls (φ : Nat → Nat) : List PE → List PE
  | [] => []
  | x :: r => PE.pl φ x :: PE.pls φ r
end
theorem pls_map (φ : Nat → Nat) : ∀ l, PE.pls φ l = l.map (PE.pl φ)
  | [] => by rw [PE.pls]; rfl
  | x :: r => by rw [PE.pls, pls_map φ r]; rfl
def PD.pl (φ : Nat → Nat) (d : PD) : PD := ⟨d.k, φ d.a, d.n, d.ts, PE.pls φ d.es⟩
def R.pl {α β : Type} (φ : Nat → Nat) (f : α → β) : R α → R β
  | .ok x r d => .ok (f x) (r.map (Tk.pl φ)) (d.map (Dn.pl φ))
  | .bad y r d => .bad (y.pl φ) (r.map (Tk.pl φ)) (d.map (Dn.pl φ))
theorem R.pl_tell {α β : Type} (φ : Nat → Nat) (f : α → β) (d : List Dn) (x : R α) : (x.tell d).pl φ f = (x.pl φ f).tell (d.map (Dn.pl φ)) := by
  cases x <;> simp [R.tell, R.pl]

/-- The end is among them. -/
def En (ts : List Tk) : Prop := ∃ t ∈ ts, t.k = 6
theorem En.eats {α : Type} {ts : List Tk} {x : R α} (h : En ts) (he : Eats ts x) : En x.rest := by
  obtain ⟨p, h1, h2⟩ := he
  obtain ⟨t, ht, hk⟩ := h
  rw [h1] at ht
  rcases List.mem_append.1 ht with ht | ht
  · exact absurd hk (h2 t ht).1
  · exact ⟨t, ht, hk⟩
theorem En.ne {ts : List Tk} (h : En ts) : ts ≠ [] := by rintro rfl; obtain ⟨t, ht, -⟩ := h; cases ht
theorem En.tail {ts : List Tk} (h : En ts) (hk : (hd ts).k ≠ 6) : En ts.tail := by
  obtain ⟨t, ht, h6⟩ := h
  cases ts with
  | nil => cases ht
  | cons c r =>
    rcases List.mem_cons.1 ht with rfl | ht
    · exact absurd h6 hk
    · exact ⟨t, ht, h6⟩
theorem En.map {ts : List Tk} (h : En ts) (φ : Nat → Nat) : En (ts.map (Tk.pl φ)) := by
  obtain ⟨t, ht, h6⟩ := h
  exact ⟨t.pl φ, List.mem_map_of_mem ht, h6⟩

section
variable {φ : Nat → Nat}
theorem hd_k (ts : List Tk) : (hd (ts.map (Tk.pl φ))).k = (hd ts).k := by cases ts <;> rfl
theorem hd_t (ts : List Tk) : (hd (ts.map (Tk.pl φ))).t = (hd ts).t := by cases ts <;> rfl
theorem hd_pl {ts : List Tk} (h : En ts) : hd (ts.map (Tk.pl φ)) = (hd ts).pl φ := by
  cases ts with
  | nil => exact absurd rfl h.ne
  | cons c r => rfl
theorem hd_a {ts : List Tk} (h : En ts) : (hd (ts.map (Tk.pl φ))).a = φ (hd ts).a := by rw [hd_pl h]; rfl
theorem isM_pl (m : Bs) (ts : List Tk) : isM m (ts.map (Tk.pl φ)) = isM m ts := by unfold isM; rw [hd_k, hd_t]
theorem syn_pl {ts : List Tk} (h : En ts) : syn (ts.map (Tk.pl φ)) = (syn ts).pl φ := by unfold syn; rw [hd_pl h]; rfl
theorem deep_pl {ts : List Tk} (h : En ts) : deep (ts.map (Tk.pl φ)) = (deep ts).pl φ := by unfold deep; rw [hd_pl h]; rfl
theorem isM_6 {m : Bs} {ts : List Tk} (h : isM m ts = true) : (hd ts).k ≠ 6 := by
  simp only [isM, Bool.and_eq_true, Bool.or_eq_true, beq_iff_eq] at h
  omega
theorem bind_pl {α α' β β' : Type} {ts : List Tk} {x : R α} {x' : R α'} {k : α → List Tk → R β} {k' : α' → List Tk → R β'} {f : α → α'} {g : β → β'} (hx : x' = x.pl φ f) (he : Eats ts x) (hen : En ts) (hk : ∀ a r, En r → k' (f a) (r.map (Tk.pl φ)) = (k a r).pl φ g) : x'.bind k' = (x.bind k).pl φ g := by
  subst hx
  have := hen.eats he
  cases x with
  | bad y r d => rfl
  | ok a r d =>
    show (k' (f a) (r.map (Tk.pl φ))).tell _ = ((k a r).tell d).pl φ g
    rw [hk a r this, R.pl_tell]
theorem want_pl (m : Bs) (ts : List Tk) (h : En ts) : want m (ts.map (Tk.pl φ)) = (want m ts).pl φ id := by
  unfold want
  rw [isM_pl]
  split
  · simp only [R.pl, List.map_tail]; rfl
  · rw [syn_pl h]; rfl
theorem wantName_pl (ts : List Tk) (h : En ts) : wantName (ts.map (Tk.pl φ)) = (wantName ts).pl φ (Tk.pl φ) := by
  unfold wantName
  rw [hd_k]
  split
  · rw [hd_pl h]; simp only [R.pl, List.map_tail]; rfl
  · rw [syn_pl h]; rfl
theorem fields_pl {α : Type} {f : α → α} {sign : Bs} (hs : sign ≠ [59]) {read : List Tk → R α} (er : ∀ ts, Eats ts (read ts)) (hr : ∀ ts, En ts → read (ts.map (Tk.pl φ)) = (read ts).pl φ f) : ∀ (n : Nat) (seen : List Bs) (acc : List (Bs × α)) (ts : List Tk), En ts → fieldsP sign read n seen (acc.map (Prod.map id f)) (ts.map (Tk.pl φ)) = (fieldsP sign read n seen acc ts).pl φ (List.map (Prod.map id f))
  | 0, _, acc, ts, h => rfl
  | n + 1, seen, acc, ts, h => by
    unfold fieldsP
    refine bind_pl (wantName_pl ts h) (wantName_eats ts) h fun nm r h1 => ?_
    rw [R.pl_tell]
    have e1 : (if (nm.pl φ).t ∈ seen then [(⟨(nm.pl φ).a, 4, (nm.pl φ).t⟩ : Dn)] else []) = (if nm.t ∈ seen then [(⟨nm.a, 4, nm.t⟩ : Dn)] else []).map (Dn.pl φ) := by
      by_cases hm : nm.t ∈ seen
      · rw [if_pos hm, if_pos (show (nm.pl φ).t ∈ seen from hm)]; rfl
      · rw [if_neg hm, if_neg (show ¬ (nm.pl φ).t ∈ seen from hm)]; rfl
    rw [e1]
    congr 1
    refine bind_pl (want_pl sign r h1) (want_eats hs r) h1 fun _ r h2 => bind_pl (hr r h2) (er r) h2 fun v r h3 => ?_
    have e2 : (if (nm.pl φ).t ∈ seen then acc.map (Prod.map id f) else acc.map (Prod.map id f) ++ [((nm.pl φ).t, f v)]) = (if nm.t ∈ seen then acc else acc ++ [(nm.t, v)]).map (Prod.map id f) := by
      by_cases hm : nm.t ∈ seen
      · rw [if_pos hm, if_pos (show (nm.pl φ).t ∈ seen from hm)]
      · rw [if_neg hm, if_neg (show ¬ (nm.pl φ).t ∈ seen from hm)]; simp [Tk.pl, Prod.map]
    rw [isM_pl, e2]
    split
    next hm =>
      rw [← List.map_tail]
      exact fields_pl hs er hr n _ _ _ (h3.tail (isM_6 hm))
    · exact bind_pl (want_pl _ r h3) (want_eats (by decide) r) h3 fun _ r _ => rfl
theorem read_pl {α : Type} {f : α → α} {sign : Bs} (hs : sign ≠ [59]) {read : List Tk → R α} (er : ∀ ts, Eats ts (read ts)) (hr : ∀ ts, En ts → read (ts.map (Tk.pl φ)) = (read ts).pl φ f) (ts : List Tk) (h : En ts) : readP sign read (ts.map (Tk.pl φ)) = (readP sign read ts).pl φ (List.map (Prod.map id f)) := by
  unfold readP
  rw [isM_pl, List.length_map]
  split
  · simp only [R.pl, List.map_tail]; rfl
  · exact fields_pl hs er hr _ _ [] ts h
theorem map_id_fields {α : Type} (l : List (Bs × α)) : l.map (Prod.map id id) = l := by
  rw [show (Prod.map id id : Bs × α → Bs × α) = id from by funext x; rfl, List.map_id]
theorem plain_pl {ty : List Tk → R PT} (et : ∀ ts, Eats ts (ty ts)) (ht : ∀ ts, En ts → ty (ts.map (Tk.pl φ)) = (ty ts).pl φ id) (ts : List Tk) (h : En ts) : plainP ty (ts.map (Tk.pl φ)) = (plainP ty ts).pl φ id := by
  unfold plainP
  simp only [isM_pl, hd_k, hd_t, ← List.map_tail]
  split
  · rfl
  split
  · rfl
  split
  · rfl
  split
  · rfl
  split
  · rfl
  split
  next hm => exact bind_pl (read_pl (by decide) et ht _ (h.tail (isM_6 hm))) (read_eats (by decide) et _) (h.tail (isM_6 hm)) fun a r _ => by rw [map_id_fields]; rfl
  split
  next hm => exact bind_pl (ht _ (h.tail (isM_6 hm))) (et _) (h.tail (isM_6 hm)) fun t r h1 => bind_pl (want_pl _ r h1) (want_eats (by decide) r) h1 fun _ r _ => rfl
  · rw [syn_pl h]; rfl
theorem arrow_pl {pl ar : List Tk → R PT} (ep : ∀ ts, Eats ts (pl ts)) (hp : ∀ ts, En ts → pl (ts.map (Tk.pl φ)) = (pl ts).pl φ id) (ea : ∀ ts, Eats ts (ar ts)) (ha : ∀ ts, En ts → ar (ts.map (Tk.pl φ)) = (ar ts).pl φ id) (ts : List Tk) (h : En ts) : arrowP pl ar (ts.map (Tk.pl φ)) = (arrowP pl ar ts).pl φ id := by
  unfold arrowP
  refine bind_pl (hp ts h) (ep ts) h fun t r h1 => ?_
  rw [isM_pl]
  split
  next hm =>
    rw [← List.map_tail]
    exact bind_pl (ha _ (h1.tail (isM_6 hm))) (ea _) (h1.tail (isM_6 hm)) fun u r _ => rfl
  · rfl
theorem union_pl {ar : List Tk → R PT} (ea : ∀ ts, Eats ts (ar ts)) (ha : ∀ ts, En ts → ar (ts.map (Tk.pl φ)) = (ar ts).pl φ id) : ∀ (n : Nat) (acc : List PT) (ts : List Tk), En ts → unionP ar n acc (ts.map (Tk.pl φ)) = (unionP ar n acc ts).pl φ id
  | 0, _, _, _ => rfl
  | n + 1, acc, ts, h => by
    unfold unionP
    rw [isM_pl]
    split
    next hm =>
      rw [← List.map_tail]
      exact bind_pl (ha _ (h.tail (isM_6 hm))) (ea _) (h.tail (isM_6 hm)) fun t r h1 => union_pl ea ha n _ r h1
    · rfl
theorem typP_pl {ar : List Tk → R PT} (ea : ∀ ts, Eats ts (ar ts)) (ha : ∀ ts, En ts → ar (ts.map (Tk.pl φ)) = (ar ts).pl φ id) (ts : List Tk) (h : En ts) : typP ar (ts.map (Tk.pl φ)) = (typP ar ts).pl φ id := by
  unfold typP
  refine bind_pl (ha ts h) (ea ts) h fun t r h1 => ?_
  rw [List.length_map]
  exact bind_pl (union_pl ea ha _ _ r h1) (union_eats ea _ _ r) h1 fun l r _ => rfl
theorem lvT_pl : ∀ n, (∀ ts, En ts → typ n (ts.map (Tk.pl φ)) = (typ n ts).pl φ id) ∧ (∀ ts, En ts → arr n (ts.map (Tk.pl φ)) = (arr n ts).pl φ id)
  | 0 => by
    refine ⟨fun ts h => ?_, fun ts h => ?_⟩
    · show R.bad (deep _) _ _ = _
      rw [deep_pl h]; rfl
    · show R.bad (deep _) _ _ = _
      rw [deep_pl h]; rfl
  | n + 1 => by
    have ih := lvT_pl n
    have eh := lvT_eats n
    have ha : ∀ ts, En ts → arr (n + 1) (ts.map (Tk.pl φ)) = (arr (n + 1) ts).pl φ id := arrow_pl (plain_eats eh.1) (plain_pl eh.1 ih.1) eh.2 ih.2
    exact ⟨typP_pl (lvT_eats (n + 1)).2 ha, ha⟩
theorem call_pl {ex : List Tk → R PE} (ee : ∀ ts, Eats ts (ex ts)) (he : ∀ ts, En ts → ex (ts.map (Tk.pl φ)) = (ex ts).pl φ (PE.pl φ)) : ∀ (n : Nat) (e : PE) (ts : List Tk), En ts → callP ex n (e.pl φ) (ts.map (Tk.pl φ)) = (callP ex n e ts).pl φ (PE.pl φ)
  | 0, _, _, _ => rfl
  | n + 1, e, ts, h => by
    unfold callP
    rw [isM_pl, isM_pl, ← List.map_tail, hd_a h]
    split
    next hm =>
      refine bind_pl (he _ (h.tail (isM_6 hm))) (ee _) (h.tail (isM_6 hm)) fun g r h1 => bind_pl (want_pl _ r h1) (want_eats (by decide) r) h1 fun _ r h2 => ?_
      have := call_pl ee he n (.mk 7 (hd ts).a [] 0 [] [e, g] []) r h2
      simpa only [PE.pl, PE.pls] using this
    split
    next hm =>
      refine bind_pl (wantName_pl _ (h.tail (isM_6 hm))) (wantName_eats _) (h.tail (isM_6 hm)) fun nm r h1 => ?_
      have := call_pl ee he n (.mk 6 nm.a nm.t 0 [] [e] []) r h1
      simp only [PE.pl, PE.pls] at this
      exact this
    · rfl
theorem recE_pl (a : Nat) (fs : List (Bs × PE)) : recE (φ a) (fs.map (Prod.map id (PE.pl φ))) = (recE a fs).pl φ := by
  simp only [recE, PE.pl, pls_map, List.map_map]
  congr 1
theorem basic_pl {ty : List Tk → R PT} {ex : List Tk → R PE} (et : ∀ ts, Eats ts (ty ts)) (ht : ∀ ts, En ts → ty (ts.map (Tk.pl φ)) = (ty ts).pl φ id) (ee : ∀ ts, Eats ts (ex ts)) (he : ∀ ts, En ts → ex (ts.map (Tk.pl φ)) = (ex ts).pl φ (PE.pl φ)) (ts : List Tk) (h : En ts) : basicP ty ex (ts.map (Tk.pl φ)) = (basicP ty ex ts).pl φ (PE.pl φ) := by
  unfold basicP
  simp only [isM_pl, hd_k, hd_t, hd_a h, ← List.map_tail]
  split
  · simp only [R.pl, PE.pl, PE.pls]; rfl
  split
  · simp only [R.pl, PE.pl, PE.pls]; rfl
  split
  · simp only [R.pl, PE.pl, PE.pls]; rfl
  split
  · simp only [R.pl, PE.pl, PE.pls]; rfl
  split
  · simp only [R.pl, PE.pl, PE.pls]; rfl
  split
  next hm => exact bind_pl (read_pl (by decide) ee he _ (h.tail (isM_6 hm))) (read_eats (by decide) ee _) (h.tail (isM_6 hm)) fun a r _ => by rw [recE_pl]; rfl
  split
  next hm =>
    refine bind_pl (he _ (h.tail (isM_6 hm))) (ee _) (h.tail (isM_6 hm)) fun e r h1 => ?_
    rw [isM_pl]
    split
    next hm2 =>
      rw [← List.map_tail]
      exact bind_pl (ht _ (h1.tail (isM_6 hm2))) (et _) (h1.tail (isM_6 hm2)) fun t r h2 => bind_pl (want_pl _ r h2) (want_eats (by decide) r) h2 fun _ r _ => by simp only [R.pl, PE.pl, PE.pls]; rfl
    · exact bind_pl (want_pl _ r h1) (want_eats (by decide) r) h1 fun _ r _ => rfl
  · rw [syn_pl h]; rfl
theorem expr_pl {ty : List Tk → R PT} {ex : List Tk → R PE} (et : ∀ ts, Eats ts (ty ts)) (ht : ∀ ts, En ts → ty (ts.map (Tk.pl φ)) = (ty ts).pl φ id) (ee : ∀ ts, Eats ts (ex ts)) (he : ∀ ts, En ts → ex (ts.map (Tk.pl φ)) = (ex ts).pl φ (PE.pl φ)) (ts : List Tk) (h : En ts) : exprP ty ex (ts.map (Tk.pl φ)) = (exprP ty ex ts).pl φ (PE.pl φ) := by
  unfold exprP
  simp only [isM_pl, hd_a h, ← List.map_tail]
  split
  next hm =>
    have h0 := h.tail (isM_6 hm)
    unfold funP
    refine bind_pl (want_pl _ _ h0) (want_eats (by decide) _) h0 fun _ r h1 => bind_pl (wantName_pl r h1) (wantName_eats r) h1 fun nm r h2 => bind_pl (want_pl _ r h2) (want_eats (by decide) r) h2 fun _ r h3 => bind_pl (ht r h3) (et r) h3 fun t r h4 => bind_pl (want_pl _ r h4) (want_eats (by decide) r) h4 fun _ r h5 => bind_pl (he r h5) (ee r) h5 fun e r _ => ?_
    simp only [R.pl, PE.pl, PE.pls]; rfl
  split
  next hm =>
    have h0 := h.tail (isM_6 hm)
    unfold letP
    refine bind_pl (wantName_pl _ h0) (wantName_eats _) h0 fun nm r h1 => bind_pl (want_pl _ r h1) (want_eats (by decide) r) h1 fun _ r h2 => bind_pl (he r h2) (ee r) h2 fun v r h3 => bind_pl (want_pl _ r h3) (want_eats (by decide) r) h3 fun _ r h4 => bind_pl (he r h4) (ee r) h4 fun b r _ => ?_
    simp only [R.pl, PE.pl, PE.pls]; rfl
  split
  next hm =>
    have h0 := h.tail (isM_6 hm)
    unfold ifP
    refine bind_pl (he _ h0) (ee _) h0 fun x r h1 => bind_pl (want_pl _ r h1) (want_eats (by decide) r) h1 fun _ r h2 => bind_pl (he r h2) (ee r) h2 fun y r h3 => bind_pl (want_pl _ r h3) (want_eats (by decide) r) h3 fun _ r h4 => bind_pl (he r h4) (ee r) h4 fun z r _ => ?_
    simp only [R.pl, PE.pl, PE.pls]; rfl
  · refine bind_pl (basic_pl et ht ee he ts h) (basic_eats et ee ts) h fun e r h1 => ?_
    rw [List.length_map]
    exact call_pl ee he _ e r h1
theorem exp_pl : ∀ n ts, En ts → exp n (ts.map (Tk.pl φ)) = (exp n ts).pl φ (PE.pl φ)
  | 0, ts, h => by
    show R.bad (deep _) _ _ = _
    rw [deep_pl h]; rfl
  | n + 1, ts, h => expr_pl (lvT_eats n).1 (lvT_pl n).1 (exp_eats n) (exp_pl n) ts h
theorem head_pl (ts : List Tk) (h : En ts) : headP (ts.map (Tk.pl φ)) = (headP ts).pl φ (PD.pl φ) := by
  have hT := (lvT_pl (φ := φ) 64).1
  have eT := (lvT_eats 64).1
  have hE := exp_pl (φ := φ) 64
  have eE := exp_eats 64
  unfold headP
  simp only [isM_pl, ← List.map_tail]
  split
  next hm => exact bind_pl (wantName_pl _ (h.tail (isM_6 hm))) (wantName_eats _) (h.tail (isM_6 hm)) fun nm r _ => by simp only [R.pl, PD.pl, PE.pls]; rfl
  split
  next hm => exact bind_pl (wantName_pl _ (h.tail (isM_6 hm))) (wantName_eats _) (h.tail (isM_6 hm)) fun nm r h1 => bind_pl (want_pl _ r h1) (want_eats (by decide) r) h1 fun _ r h2 => bind_pl (hT r h2) (eT r) h2 fun t r _ => by simp only [R.pl, PD.pl, PE.pls]; rfl
  · refine bind_pl (want_pl _ ts h) (want_eats (by decide) ts) h fun _ r h1 => bind_pl (wantName_pl r h1) (wantName_eats r) h1 fun nm r h2 => ?_
    rw [isM_pl]
    split
    next hm =>
      rw [← List.map_tail]
      exact bind_pl (hT _ (h2.tail (isM_6 hm))) (eT _) (h2.tail (isM_6 hm)) fun t r h3 => bind_pl (want_pl _ r h3) (want_eats (by decide) r) h3 fun _ r h4 => bind_pl (hE r h4) (eE r) h4 fun e r _ => by simp only [R.pl, PD.pl, PE.pls]; rfl
    · exact bind_pl (want_pl _ r h2) (want_eats (by decide) r) h2 fun _ r h4 => bind_pl (hE r h4) (eE r) h4 fun e r _ => by simp only [R.pl, PD.pl, PE.pls]; rfl
theorem decl_pl (ts : List Tk) (h : En ts) : declP (ts.map (Tk.pl φ)) = (declP ts).pl φ (PD.pl φ) := by
  rw [declP_head, declP_head]
  refine bind_pl (head_pl ts h) (head_eats ts) h fun d r h1 => ?_
  rw [want_pl _ r h1]
  unfold want
  split <;> rfl
theorem passD_pl : ∀ ts : List Tk, passD (ts.map (Tk.pl φ)) = (passD ts).map (Tk.pl φ)
  | [] => rfl
  | t :: r => by
    simp only [List.map_cons, passD]
    have e : isM [59] (t.pl φ :: r.map (Tk.pl φ)) = isM [59] (t :: r) := isM_pl [59] (t :: r)
    rw [e, passD_pl r]
    show (if t.k = 6 then _ else _) = _
    split
    · rfl
    split
    · rfl
    · rfl
theorem passD_en : ∀ ts : List Tk, En ts → En (passD ts)
  | [], h => h
  | t :: r, h => by
    simp only [passD]
    split
    · exact h
    next hk =>
      have h1 : En r := h.tail (by exact hk)
      split
      · exact h1
      · exact passD_en r h1
theorem decl_en {ts : List Tk} (h : En ts) : En (declP ts).rest := by
  rw [declP_head]
  have h1 := h.eats (head_eats ts)
  cases hh : headP ts with
  | bad y r d => rw [hh] at h1; exact h1
  | ok x r d =>
    rw [hh] at h1
    rw [R.bind_ok, R.rest_tell]
    unfold want
    split
    next hm => exact En.tail h1 (isM_6 hm)
    · exact h1
theorem parse_pl : ∀ (n : Nat) (ts : List Tk), En ts → parseP n (ts.map (Tk.pl φ)) = ((parseP n ts).1.map (PD.pl φ), (parseP n ts).2.map (Dn.pl φ))
  | 0, ts, h => rfl
  | n + 1, ts, h => by
    unfold parseP
    rw [hd_k]
    split
    · rfl
    · rw [decl_pl ts h]
      have h1 := decl_en h
      cases hd : declP ts with
      | ok d r e =>
        rw [hd] at h1
        simp only [R.pl, parse_pl n r h1, List.map_cons, List.map_append]
      | bad y r e =>
        rw [hd] at h1
        simp only [R.pl, passD_pl, parse_pl n _ (passD_en r h1), List.map_cons, List.map_append]
end
end Go.Proofs.YthpoffklhpbdoaaGreatDoor

/-
  Declarations one behind the other: how many rounds plays no part; what follows plays no part; what is wrong stays there. No walk.
-/
namespace Go.Proofs.YthpoffklhpbdoaaGreatDoor

theorem pass_le : ∀ r : List Tk, (passD r).length ≤ r.length
  | [] => Nat.le_refl _
  | t :: r => by
    simp only [passD]
    split
    · exact Nat.le_refl _
    split
    · simp
    · have := pass_le r
      simp only [List.length_cons]; omega
theorem pass_lt {r : List Tk} (h : (hd r).k ≠ 6) : (passD r).length < r.length := by
  cases r with
  | nil => exact absurd rfl h
  | cons t r =>
    simp only [passD]
    rw [if_neg (show ¬ t.k = 6 from h)]
    split
    · simp
    · have := pass_le r
      simp only [List.length_cons]; omega
/-- Each round eats one at least. -/
theorem decl_less {ts : List Tk} (h : (hd ts).k ≠ 6) : (∀ d r e, declP ts = .ok d r e → r.length < ts.length) ∧ (∀ y r e, declP ts = .bad y r e → (passD r).length < ts.length) := by
  obtain ⟨h1, h2⟩ := decl_eats ts
  refine ⟨fun d r e hh => ?_, fun y r e hh => ?_⟩
  · obtain ⟨p, c, e1, -⟩ := h1 d r e hh
    rw [e1]; simp only [List.length_append, List.length_cons]; omega
  · obtain ⟨p, e1, -⟩ := h2 y r e hh
    cases p with
    | nil =>
      rw [List.nil_append] at e1
      rw [← e1]
      exact pass_lt h
    | cons c p =>
      have := pass_le r
      rw [e1]; simp only [List.length_append, List.length_cons]; omega
theorem parse_end {n : Nat} {ts : List Tk} (h : (hd ts).k = 6) : parseP n ts = ([], []) := by
  cases n with
  | zero => rfl
  | succ n => rw [parseP, if_pos h]
theorem parse_fuel : ∀ (n m : Nat) (ts : List Tk), ts.length ≤ n → ts.length ≤ m → parseP n ts = parseP m ts
  | 0, m, ts, h, _ => by
    obtain rfl : ts = [] := List.eq_nil_of_length_eq_zero (by omega)
    rw [parse_end rfl, parse_end rfl]
  | n + 1, 0, ts, _, h => by
    obtain rfl : ts = [] := List.eq_nil_of_length_eq_zero (by omega)
    rw [parse_end rfl, parse_end rfl]
  | n + 1, m + 1, ts, h1, h2 => by
    by_cases hk : (hd ts).k = 6
    · rw [parse_end hk, parse_end hk]
    · rw [parse_step hk, parse_step hk]
      obtain ⟨l1, l2⟩ := decl_less hk
      cases hd : declP ts with
      | ok d r e =>
        have := l1 d r e hd
        simp only [parse_fuel n m r (by omega) (by omega)]
      | bad y r e =>
        have := l2 y r e hd
        simp only [parse_fuel n m (passD r) (by omega) (by omega)]

section
variable {ts ts' : List Tk}
/-- What follows a declaration plays no part. -/
theorem head_lc (hts : ts ≠ []) (hts' : ts' ≠ []) (p : List Tk) : Lc ts ts' False headP headP p := by
  have eT := (lvT_eats 64).1
  have eE := exp_eats 64
  have hT : ∀ q, Lc ts ts' False (typ 64) (typ 64) q := fun q => (lvT_lc hts hts' 64 64 (Nat.le_refl _) q).1.weak False.elim
  have hE : ∀ q, Lc ts ts' False (exp 64) (exp 64) q := fun q => (exp_lc hts hts' 64 64 (Nat.le_refl _) q).weak False.elim
  have E1 : ∀ nm : Tk, ∀ r, Eats r (R.ok (⟨1, nm.a, nm.t, [], []⟩ : PD) r []) := fun _ _ => Eats.ok _ _ _
  have hU : ∀ q, Lc ts ts' False (fun r => (wantName r).bind fun nm r => .ok (⟨1, nm.a, nm.t, [], []⟩ : PD) r []) (fun r => (wantName r).bind fun nm r => .ok (⟨1, nm.a, nm.t, [], []⟩ : PD) r []) q := fun q =>
    Lc.bind (sf := False) (Lc.name False q) wantName_eats (fun _ r => Eats.ok _ _ _) (fun _ q _ => Lc.ok False _ _ q) (.inl id)
  have eU : ∀ r, Eats r ((wantName r).bind fun nm r => .ok (⟨1, nm.a, nm.t, [], []⟩ : PD) r []) := fun r => (wantName_eats r).bind fun _ r => Eats.ok _ _ _
  have hY : ∀ q, Lc ts ts' False (fun r => (wantName r).bind fun nm r => (want [61] r).bind fun _ r => (typ 64 r).bind fun t r => .ok (⟨2, nm.a, nm.t, [t], []⟩ : PD) r []) (fun r => (wantName r).bind fun nm r => (want [61] r).bind fun _ r => (typ 64 r).bind fun t r => .ok (⟨2, nm.a, nm.t, [t], []⟩ : PD) r []) q := fun q =>
    Lc.bind (sf := False) (Lc.name False q) wantName_eats (fun _ r => (want_eats (by decide) r).bind fun _ r => (eT r).bind fun _ r => Eats.ok _ _ _) (fun _ q _ =>
    Lc.bind (sf := False) (Lc.want False _ q) (want_eats (by decide)) (fun _ r => (eT r).bind fun _ r => Eats.ok _ _ _) (fun _ q _ =>
    Lc.bind (sf := False) (hT q) eT (fun _ r => Eats.ok _ _ _) (fun _ q _ => Lc.ok False _ _ q) (.inl id)) (.inl id)) (.inl id)
  have eY : ∀ r, Eats r ((wantName r).bind fun nm r => (want [61] r).bind fun _ r => (typ 64 r).bind fun t r => .ok (⟨2, nm.a, nm.t, [t], []⟩ : PD) r []) := fun r => (wantName_eats r).bind fun _ r => (want_eats (by decide) r).bind fun _ r => (eT r).bind fun _ r => Eats.ok _ _ _
  have eA : ∀ nm : Tk, ∀ r, Eats r ((typ 64 r).bind fun t r => (want [61] r).bind fun _ r => (exp 64 r).bind fun e r => .ok (⟨3, nm.a, nm.t, [t], [e]⟩ : PD) r []) := fun _ r => (eT r).bind fun _ r => (want_eats (by decide) r).bind fun _ r => (eE r).bind fun _ r => Eats.ok _ _ _
  have eB : ∀ nm : Tk, ∀ r, Eats r ((want [61] r).bind fun _ r => (exp 64 r).bind fun e r => .ok (⟨3, nm.a, nm.t, [], [e]⟩ : PD) r []) := fun _ r => (want_eats (by decide) r).bind fun _ r => (eE r).bind fun _ r => Eats.ok _ _ _
  have hLA : ∀ nm : Tk, ∀ q, Lc ts ts' False (fun r => (typ 64 r).bind fun t r => (want [61] r).bind fun _ r => (exp 64 r).bind fun e r => .ok (⟨3, nm.a, nm.t, [t], [e]⟩ : PD) r []) (fun r => (typ 64 r).bind fun t r => (want [61] r).bind fun _ r => (exp 64 r).bind fun e r => .ok (⟨3, nm.a, nm.t, [t], [e]⟩ : PD) r []) q := fun nm q =>
    Lc.bind (sf := False) (hT q) eT (fun _ r => (want_eats (m := [61]) (by decide) r).bind fun _ r => (eE r).bind fun _ r => Eats.ok _ _ _) (fun _ q _ =>
      Lc.bind (sf := False) (Lc.want False [61] q) (want_eats (m := [61]) (by decide)) (fun _ r => (eE r).bind fun _ r => Eats.ok _ _ _) (fun _ q _ =>
      Lc.bind (sf := False) (hE q) eE (fun _ r => Eats.ok _ _ _) (fun _ q _ => Lc.ok False _ _ q) (.inl id)) (.inl id)) (.inl id)
  have hLB : ∀ nm : Tk, ∀ q, Lc ts ts' False (fun r => (want [61] r).bind fun _ r => (exp 64 r).bind fun e r => .ok (⟨3, nm.a, nm.t, [], [e]⟩ : PD) r []) (fun r => (want [61] r).bind fun _ r => (exp 64 r).bind fun e r => .ok (⟨3, nm.a, nm.t, [], [e]⟩ : PD) r []) q := fun nm q =>
    Lc.bind (sf := False) (Lc.want False [61] q) (want_eats (m := [61]) (by decide)) (fun _ r => (eE r).bind fun _ r => Eats.ok _ _ _) (fun _ q _ =>
      Lc.bind (sf := False) (hE q) eE (fun _ r => Eats.ok _ _ _) (fun _ q _ => Lc.ok False _ _ q) (.inl id)) (.inl id)
  have hL : ∀ nm : Tk, ∀ q, Lc ts ts' False (fun r => if isM [58] r then (fun r => (typ 64 r).bind fun t r => (want [61] r).bind fun _ r => (exp 64 r).bind fun e r => .ok (⟨3, nm.a, nm.t, [t], [e]⟩ : PD) r []) r.tail else (fun r => (want [61] r).bind fun _ r => (exp 64 r).bind fun e r => .ok (⟨3, nm.a, nm.t, [], [e]⟩ : PD) r []) r) (fun r => if isM [58] r then (fun r => (typ 64 r).bind fun t r => (want [61] r).bind fun _ r => (exp 64 r).bind fun e r => .ok (⟨3, nm.a, nm.t, [t], [e]⟩ : PD) r []) r.tail else (fun r => (want [61] r).bind fun _ r => (exp 64 r).bind fun e r => .ok (⟨3, nm.a, nm.t, [], [e]⟩ : PD) r []) r) q := fun nm q =>
    Lc.ite (m := [58]) False.elim (fun q _ => hLA nm q) (eA nm) (hLB nm q) (eB nm)
  have eL : ∀ nm : Tk, ∀ r, Eats r (if isM [58] r then (typ 64 r.tail).bind fun t r => (want [61] r).bind fun _ r => (exp 64 r).bind fun e r => .ok (⟨3, nm.a, nm.t, [t], [e]⟩ : PD) r [] else (want [61] r).bind fun _ r => (exp 64 r).bind fun e r => .ok (⟨3, nm.a, nm.t, [], [e]⟩ : PD) r []) := fun nm r => by
    split
    next h => exact (eA nm _).step fun _ => isM_q h (by decide)
    · exact eB nm r
  have eW : ∀ r, Eats r (want [108, 101, 116] r) := want_eats (by decide)
  have eV : ∀ r, Eats r ((want [108, 101, 116] r).bind fun _ r => (wantName r).bind fun nm r => if isM [58] r then (typ 64 r.tail).bind fun t r => (want [61] r).bind fun _ r => (exp 64 r).bind fun e r => .ok (⟨3, nm.a, nm.t, [t], [e]⟩ : PD) r [] else (want [61] r).bind fun _ r => (exp 64 r).bind fun e r => .ok (⟨3, nm.a, nm.t, [], [e]⟩ : PD) r []) := fun r => (eW r).bind fun _ r => (wantName_eats r).bind fun nm r => eL nm r
  have hV : ∀ q, Lc ts ts' False (fun r => (want [108, 101, 116] r).bind fun _ r => (wantName r).bind fun nm r => if isM [58] r then (typ 64 r.tail).bind fun t r => (want [61] r).bind fun _ r => (exp 64 r).bind fun e r => .ok (⟨3, nm.a, nm.t, [t], [e]⟩ : PD) r [] else (want [61] r).bind fun _ r => (exp 64 r).bind fun e r => .ok (⟨3, nm.a, nm.t, [], [e]⟩ : PD) r []) (fun r => (want [108, 101, 116] r).bind fun _ r => (wantName r).bind fun nm r => if isM [58] r then (typ 64 r.tail).bind fun t r => (want [61] r).bind fun _ r => (exp 64 r).bind fun e r => .ok (⟨3, nm.a, nm.t, [t], [e]⟩ : PD) r [] else (want [61] r).bind fun _ r => (exp 64 r).bind fun e r => .ok (⟨3, nm.a, nm.t, [], [e]⟩ : PD) r []) q := fun q =>
    Lc.bind (sf := False) (Lc.want False _ q) eW (fun _ r => (wantName_eats r).bind fun nm r => eL nm r) (fun _ q _ => Lc.bind (sf := False) (Lc.name False q) wantName_eats (fun nm r => eL nm r) (fun nm q _ => hL nm q) (.inl id)) (.inl id)
  have eX : ∀ r, Eats r (if isM [116, 121, 112, 101] r then (fun r => (wantName r).bind fun nm r => (want [61] r).bind fun _ r => (typ 64 r).bind fun t r => .ok (⟨2, nm.a, nm.t, [t], []⟩ : PD) r []) r.tail else (fun r => (want [108, 101, 116] r).bind fun _ r => (wantName r).bind fun nm r => if isM [58] r then (typ 64 r.tail).bind fun t r => (want [61] r).bind fun _ r => (exp 64 r).bind fun e r => .ok (⟨3, nm.a, nm.t, [t], [e]⟩ : PD) r [] else (want [61] r).bind fun _ r => (exp 64 r).bind fun e r => .ok (⟨3, nm.a, nm.t, [], [e]⟩ : PD) r []) r) := fun r => by
    split
    next h => exact (eY _).step fun _ => isM_q h (by decide)
    · exact eV r
  have hX := fun q => Lc.ite (m := [116, 121, 112, 101]) (p := q) (ts := ts) (ts' := ts') (s := False) False.elim (fun q _ => hY q) eY (hV q) eV
  exact Lc.ite (m := [117, 115, 101]) False.elim (fun q _ => hU q) eU (hX p) eX
end

/-- A declaration that goes well ahead of the end goes so ahead of anything. -/
theorem decl_app {p : List Tk} {e : Tk} (he : e.k = 6) {d : PD} {r : List Tk} {x : List Dn} (h : declP (p ++ [e]) = .ok d r x) : ∃ q p1 c, r = q ++ [e] ∧ p = p1 ++ c :: q ∧ ∀ ts', ts' ≠ [] → declP (p ++ ts') = .ok d (q ++ ts') x := by
  rw [declP_head] at h
  obtain ⟨p1, e1, -⟩ := head_eats (p ++ [e])
  cases hh : headP (p ++ [e]) with
  | bad y r d => rw [hh] at h; cases h
  | ok d' r1 x1 =>
    rw [hh, R.bind_ok] at h
    rw [hh] at e1
    have e1 : p ++ [e] = p1 ++ r1 := e1
    unfold want at h
    split at h
    next hm =>
      cases r1 with
      | nil => simp [isM, hd] at hm
      | cons c r2 =>
        injection h with h1 h2 h3
        subst h1
        have h2 : r2 = r := h2
        subst h2
        have hce : c.k ≠ 6 := isM_6 hm
        rcases List.eq_nil_or_concat r2 with rfl | ⟨q, e', rfl⟩
        · have := List.append_inj' e1 rfl
          simp at this
          rw [this.2] at he
          exact absurd he hce
        · rw [List.concat_eq_append] at *
          have e2 : p ++ [e] = (p1 ++ c :: q) ++ [e'] := by rw [e1]; simp
          have := List.append_inj' e2 rfl
          obtain ⟨e3, e4⟩ := this
          simp at e4
          subst e4
          refine ⟨q, p1, c, rfl, e3, fun ts' hts' => ?_⟩
          have h4 := head_lc (ts := [e]) (ts' := ts') (by simp) hts' p d' (c :: q) x1 hh (by simp)
          rw [declP_head, h4, R.bind_ok]
          unfold want
          rw [if_pos (show isM [59] (c :: q ++ ts') = true from hm)]
          rw [← h3]
          rfl
    · cases h
/-- Declarations of which nothing is told stand so ahead of anything. -/
theorem parse_app {e : Tk} (he : e.k = 6) : ∀ (N : Nat) (p : List Tk) (L : List PD), p.length ≤ N → (∀ t ∈ p, t.k ≠ 6) → parseP (p.length + 1) (p ++ [e]) = (L, []) → ∀ (ts' : List Tk) (m : Nat), ts' ≠ [] → (p ++ ts').length ≤ m → parseP m (p ++ ts') = (L ++ (parseP m ts').1, (parseP m ts').2)
  | N, [], L, _, _, h, ts', m, _, hm => by
    rw [parse_end (show (hd ([] ++ [e])).k = 6 from he)] at h
    injection h with h1 h2
    subst h1
    rfl
  | 0, t :: p, L, h, _, _, _, _, _, _ => by simp at h
  | N + 1, t :: p, L, hN, hp, h, ts', m, hts, hm => by
    have hk : (hd (t :: p ++ [e])).k ≠ 6 := hp t (by simp)
    have hk' : (hd (t :: p ++ ts')).k ≠ 6 := hp t (by simp)
    rw [parse_step hk] at h
    cases m with
    | zero => simp at hm
    | succ m =>
    rw [parse_step hk']
    cases hd : declP (t :: p ++ [e]) with
    | bad y r x =>
      rw [hd] at h
      injection h with h1 h2
      simp at h2
    | ok d r x =>
      rw [hd] at h
      injection h with h1 h2
      obtain ⟨hx, h2'⟩ := List.append_eq_nil_iff.1 h2
      subst hx
      obtain ⟨q, p1, c, rfl, e1, hall⟩ := decl_app he hd
      rw [hall ts' hts]
      have hl : q.length < (t :: p).length := by rw [e1]; simp only [List.length_append, List.length_cons]; omega
      have hq : parseP (q.length + 1) (q ++ [e]) = ((parseP (t :: p).length (q ++ [e])).1, []) := by
        rw [parse_fuel (q.length + 1) (t :: p).length (q ++ [e]) (by simp) (by simp only [List.length_append, List.length_cons, List.length_nil] at *; omega)]
        rw [← h2']
      have ih := parse_app he N q _ (by simp only [List.length_cons] at *; omega) (fun u hu => hp u (by rw [e1]; simp [hu])) hq ts' m hts (by simp only [List.length_append, List.length_cons] at *; omega)
      have hfu : parseP m ts' = parseP (m + 1) ts' := parse_fuel _ _ _ (by simp only [List.length_append, List.length_cons] at *; omega) (by simp only [List.length_append, List.length_cons] at *; omega)
      simp only [ih, List.nil_append, hfu]
      rw [← h1]
      rfl

/-- A source of which nothing is told, ahead of any other: the declarations of both, and what is told of the other. -/
theorem joins_pure (a b : Bs) (h : (parseAll a).2 = []) : parseAll (a ++ 10 :: b) = ((parseAll a).1 ++ (parseAll b).1.map (PD.pl (· + (a.length + 1))), (parseAll b).2.map (Dn.pl (· + (a.length + 1)))) := by
  obtain ⟨h1, h2⟩ := List.append_eq_nil_iff.1 h
  have ht : toks (a ++ 10 :: b) = tk 0 a ++ (toks b).map (Tk.pl (· + (a.length + 1))) := by
    rw [toks_tk, tk_join, show 0 + a.length + 1 = 0 + (a.length + 1) by omega, tk_up, List.append_assoc, toks_tk, List.map_append]
    congr 2
    simp only [List.map_cons, List.map_nil, Tk.pl, List.length_append, List.length_cons]
    rw [show a.length + (b.length + 1) = b.length + (a.length + 1) by omega]
  have hd : dns (a ++ 10 :: b) = (dns b).map (Dn.pl (· + (a.length + 1))) := by
    rw [dns_td, td_join, ← dns_td, h1, List.nil_append, show 0 + a.length + 1 = 0 + (a.length + 1) by omega, td_up, dns_td]
  have hE : En (toks b) := ⟨⟨6, b.length, []⟩, by rw [toks_tk]; simp, rfl⟩
  have ha : parseP ((tk 0 a).length + 1) (tk 0 a ++ [⟨6, a.length, []⟩]) = ((parseAll a).1, []) := by
    rw [← h2, show (tk 0 a).length + 1 = (toks a).length by rw [toks_tk]; simp, ← toks_tk]
    rfl
  have happ := parse_app (e := ⟨6, a.length, []⟩) rfl (tk 0 a).length (tk 0 a) (parseAll a).1 (Nat.le_refl _) (tk_kind a) ha ((toks b).map (Tk.pl (· + (a.length + 1)))) ((toks (a ++ 10 :: b)).length) (by rw [toks_tk]; simp) (by rw [ht]; exact Nat.le_refl _)
  have hp := parse_pl (φ := (· + (a.length + 1))) (toks (a ++ 10 :: b)).length (toks b) hE
  have hf : parseP (toks (a ++ 10 :: b)).length (toks b) = parseP (toks b).length (toks b) := parse_fuel _ _ _ (by rw [ht, List.length_append, List.length_map]; omega) (Nat.le_refl _)
  rw [hp, hf, ← ht] at happ
  show (_, _) = _
  rw [happ, hd, ← List.map_append]
  rfl

/-- A text without ';' and the ';' behind it: one declaration at most, and what follows is as it is. -/
theorem parse_mid {M U : List Tk} {c : Tk} (hM : ∀ t ∈ M, Qt t) (hc : isSemi c = true) (n : Nat) : ∃ mid x, mid.length ≤ 1 ∧ parseP (n + 1) (M ++ c :: U) = (mid ++ (parseP n U).1, x) := by
  have hcm : ∀ r, isM [59] (c :: r) = true := fun r => hc
  have hk : (hd (M ++ c :: U)).k ≠ 6 := by
    cases M with
    | nil => exact isM_6 (hcm U)
    | cons t r => exact (hM t (by simp)).1
  have hcut : ∀ (p r M : List Tk), (∀ t ∈ M, Qt t) → M ++ c :: U = p ++ r → (∀ t ∈ p, Qt t) → ∃ q, r = q ++ c :: U ∧ ∀ t ∈ q, Qt t := by
    intro p
    induction p with
    | nil => intro r M hM e _; exact ⟨M, e.symm, hM⟩
    | cons t p ih =>
      intro r M hM e hp
      cases M with
      | nil =>
        simp only [List.nil_append, List.cons_append, List.cons.injEq] at e
        have := (hp t (by simp)).2
        rw [← e.1, hc] at this
        cases this
      | cons u M =>
        simp only [List.cons_append, List.cons.injEq] at e
        exact ih r M (fun t ht => hM t (by simp [ht])) e.2 (fun t ht => hp t (by simp [ht]))
  have hpass : ∀ q : List Tk, (∀ t ∈ q, Qt t) → passD (q ++ c :: U) = U := by
    intro q
    induction q with
    | nil =>
      intro _
      simp only [List.nil_append, passD]
      rw [if_neg (show ¬ c.k = 6 from isM_6 (hcm U)), if_pos (hcm U)]
    | cons t q ih =>
      intro h
      simp only [List.cons_append, passD]
      have ht := h t (by simp)
      have h2 : ¬ isM [59] (t :: (q ++ c :: U)) = true := by
        have := ht.2
        intro e
        have e : isSemi t = true := e
        rw [this] at e; cases e
      rw [if_neg ht.1, if_neg h2]
      exact ih fun t ht => h t (by simp [ht])
  rw [parse_step hk, declP_head]
  obtain ⟨p, e1, h2⟩ := head_eats (M ++ c :: U)
  obtain ⟨q, hq, hqq⟩ := hcut p _ M hM e1 h2
  cases hh : headP (M ++ c :: U) with
  | bad y r x =>
    rw [hh] at hq
    have hq : r = q ++ c :: U := hq
    refine ⟨[], x ++ (y :: (parseP n U).2), by simp, ?_⟩
    simp only [R.bind_bad, hq, hpass q hqq]
    rfl
  | ok d r x =>
    rw [hh] at hq
    have hq : r = q ++ c :: U := hq
    by_cases hm : isM [59] r = true
    · cases q with
      | nil =>
        have e0 : (R.ok d r x).bind (fun d r => (want [59] r).bind fun _ r => R.ok d r []) = .ok d U x := by
          rw [R.bind_ok, want, if_pos hm, hq]
          simp [R.bind, R.tell]
        rw [e0]
        exact ⟨[d], x ++ (parseP n U).2, by simp, rfl⟩
      | cons t q =>
        exfalso
        have h3 := (hqq t (by simp)).2
        rw [hq] at hm
        have hm : isSemi t = true := hm
        rw [h3] at hm; cases hm
    · have e0 : (R.ok d r x).bind (fun d r => (want [59] r).bind fun _ r => R.ok d r []) = .bad (syn r) r x := by
        rw [R.bind_ok, want, if_neg hm]
        simp [R.bind, R.tell]
      rw [e0]
      refine ⟨[], x ++ (syn r :: (parseP n U).2), by simp, ?_⟩
      simp only [hq, hpass q hqq]
      rfl

/-- The two declarations around a text. -/
def srcA : Bs := [108, 101, 116, 32, 97, 32, 61, 32, 123, 98, 32, 61, 32, 49, 125, 59]
def srcC : Bs := [117, 115, 101, 32, 99, 59]
def dA : PD := ⟨3, 4, [97], [], [.mk 5 8 [] 0 [[98]] [.mk 1 13 [] 1 [] [] []] []]⟩
theorem toks_A : tk 0 srcA = [⟨2, 0, [108, 101, 116]⟩, ⟨1, 4, [97]⟩, ⟨5, 6, [61]⟩, ⟨5, 8, [123]⟩, ⟨1, 9, [98]⟩, ⟨5, 11, [61]⟩, ⟨3, 13, [49]⟩, ⟨5, 14, [125]⟩, ⟨5, 15, [59]⟩] := by
  have h := toks_lit (l := srcA) (L := [(2, 0, [108, 101, 116]), (1, 4, [97]), (5, 6, [61]), (5, 8, [123]), (1, 9, [98]), (5, 11, [61]), (3, 13, [49]), (5, 14, [125]), (5, 15, [59]), (6, 16, [])]) (by decide)
  rw [toks_tk] at h
  exact (List.append_inj' (t₁ := [(⟨6, srcA.length, []⟩ : Tk)]) (t₂ := [⟨6, 16, []⟩]) h rfl).1
theorem toks_C : tk 0 srcC = [⟨2, 0, [117, 115, 101]⟩, ⟨1, 4, [99]⟩, ⟨5, 5, [59]⟩] := by
  have h := toks_lit (l := srcC) (L := [(2, 0, [117, 115, 101]), (1, 4, [99]), (5, 5, [59]), (6, 6, [])]) (by decide)
  rw [toks_tk] at h
  exact (List.append_inj' (t₁ := [(⟨6, srcC.length, []⟩ : Tk)]) (t₂ := [⟨6, 6, []⟩]) h rfl).1
theorem lit_A : parseAll (srcA ++ [10]) = ([dA], []) := by
  rw [parseAll, toks_lit (l := srcA ++ [10]) (L := [(2, 0, [108, 101, 116]), (1, 4, [97]), (5, 6, [61]), (5, 8, [123]), (1, 9, [98]), (5, 11, [61]), (3, 13, [49]), (5, 14, [125]), (5, 15, [59]), (6, 17, [])]) (by decide), dns_lit (L := []) (by decide)]
  rfl
theorem rest_pure (s : Bs) (hs : ∀ c ∈ s, c ≠ 59 ∧ c ≠ 34 ∧ c ≠ 35) : ∃ mid x, mid.length ≤ 1 ∧ parseAll (srcA ++ 10 :: (s ++ 59 :: 10 :: srcC)) = (dA :: (mid ++ [⟨1, 23 + s.length, [99], [], []⟩]), x) := by
  have hcl : Cl s := cl_plain s.length s (Nat.le_refl _) fun c hc => ⟨(hs c hc).2.2, (hs c hc).2.1⟩
  have hq : ∀ t ∈ tk 17 s, Qt t := by
    intro t ht
    refine ⟨tk_kinds 17 s t ht, ?_⟩
    simp only [tk, toksOf] at ht
    obtain ⟨x, hx, he⟩ := List.mem_filterMap.1 ht
    have := tk_semi s.length 17 s (Nat.le_refl _) (fun c hc => (hs c hc).1) x hx
    split at he
    · cases he
    · cases he
      simp only [isSemi, Bool.and_eq_false_iff]
      right
      simpa using this
  obtain ⟨E, hE⟩ : ∃ E : Tk, E = ⟨6, (srcA ++ 10 :: (s ++ 59 :: 10 :: srcC)).length, []⟩ := ⟨_, rfl⟩
  have hT : toks (srcA ++ 10 :: (s ++ 59 :: 10 :: srcC)) = tk 0 srcA ++ (tk 17 s ++ (⟨5, 17 + s.length, [59]⟩ : Tk) :: ([⟨2, 19 + s.length, [117, 115, 101]⟩, ⟨1, 23 + s.length, [99]⟩, ⟨5, 24 + s.length, [59]⟩] ++ [E])) := by
    rw [toks_tk, ← hE, tk_join, show 0 + srcA.length + 1 = 17 from rfl, tk_cut hcl (by decide), tk_sign (by decide), tk_blank (by decide), show 17 + s.length + 1 + 1 = 0 + (19 + s.length) by omega, tk_up, toks_C]
    simp only [List.map_cons, List.map_nil, Tk.pl, List.append_assoc, List.cons_append, List.nil_append]
    rw [show 0 + (19 + s.length) = 19 + s.length by omega, show 4 + (19 + s.length) = 23 + s.length by omega, show 5 + (19 + s.length) = 24 + s.length by omega]
  obtain ⟨n, hn⟩ : ∃ n, (toks (srcA ++ 10 :: (s ++ 59 :: 10 :: srcC))).length = n + 1 + 1 := by
    rw [hT]
    refine ⟨(tk 0 srcA).length + (tk 17 s).length + 3, ?_⟩
    simp only [List.length_append, List.length_cons, List.length_nil]
    omega
  have ha : parseP ((tk 0 srcA).length + 1) (tk 0 srcA ++ [E]) = ([dA], []) := by
    rw [toks_A, hE]
    rfl
  have happ := parse_app (e := E) (by rw [hE]) (tk 0 srcA).length (tk 0 srcA) [dA] (Nat.le_refl _) (tk_kind srcA) ha (tk 17 s ++ (⟨5, 17 + s.length, [59]⟩ : Tk) :: ([⟨2, 19 + s.length, [117, 115, 101]⟩, ⟨1, 23 + s.length, [99]⟩, ⟨5, 24 + s.length, [59]⟩] ++ [E])) (n + 1 + 1) (by simp) (by rw [← hT, hn]; exact Nat.le_refl _)
  obtain ⟨mid, x, h1, h2⟩ := parse_mid (U := [⟨2, 19 + s.length, [117, 115, 101]⟩, ⟨1, 23 + s.length, [99]⟩, ⟨5, 24 + s.length, [59]⟩] ++ [E]) (c := ⟨5, 17 + s.length, [59]⟩) hq rfl (n + 1)
  have h3 : parseP (n + 1) ([⟨2, 19 + s.length, [117, 115, 101]⟩, ⟨1, 23 + s.length, [99]⟩, ⟨5, 24 + s.length, [59]⟩] ++ [E]) = ([⟨1, 23 + s.length, [99], [], []⟩], []) := by
    have h4 : parseP n [E] = ([], []) := parse_end (by rw [hE]; rfl)
    have h5 : declP ([⟨2, 19 + s.length, [117, 115, 101]⟩, ⟨1, 23 + s.length, [99]⟩, ⟨5, 24 + s.length, [59]⟩] ++ [E]) = .ok ⟨1, 23 + s.length, [99], [], []⟩ [E] [] := rfl
    have h6 : (hd ([(⟨2, 19 + s.length, [117, 115, 101]⟩ : Tk), ⟨1, 23 + s.length, [99]⟩, ⟨5, 24 + s.length, [59]⟩] ++ [E])).k ≠ 6 := show (2 : Nat) ≠ 6 by decide
    rw [parse_step h6, h5]
    simp only [h4]
    rfl
  rw [h3] at h2
  refine ⟨mid, dns (srcA ++ 10 :: (s ++ 59 :: 10 :: srcC)) ++ x, h1, ?_⟩
  rw [parseAll, hn, hT, happ, h2]
  rfl
end Go.Proofs.YthpoffklhpbdoaaGreatDoor

/-
  A reader reads no more parts than there are tokens. No walk.
-/
namespace Go.Proofs.YthpoffklhpbdoaaGreatDoor

mutual
def szT : PT → Nat
  | .mk _ _ ns l => 1 + ns.length + szTs l
def szTs : List PT → Nat
  | [] => 0
  | t :: r => szT t + szTs r
end
mutual
def szE : PE → Nat
  | .mk _ _ _ _ ns l ts => 1 + ns.length + szEs l + szTs ts
def szEs : List PE → Nat
  | [] => 0
  | t :: r => szE t + szEs r
end
def szD (d : PD) : Nat := 1 + szEs d.es + szTs d.ts
def szDs (l : List PD) : Nat := (l.map szD).sum
theorem szT_pos (t : PT) : 1 ≤ szT t := by cases t; rw [szT]; omega
theorem szE_pos (t : PE) : 1 ≤ szE t := by cases t; rw [szE]; omega
theorem szTs_len : ∀ l, l.length ≤ szTs l
  | [] => Nat.le_refl _
  | t :: r => by have := szTs_len r; have := szT_pos t; rw [szTs, List.length_cons]; omega
theorem szEs_len : ∀ l, l.length ≤ szEs l
  | [] => Nat.le_refl _
  | t :: r => by have := szEs_len r; have := szE_pos t; rw [szEs, List.length_cons]; omega
theorem szTs_append : ∀ l m, szTs (l ++ m) = szTs l + szTs m
  | [], m => by simp [szTs]
  | t :: r, m => by rw [List.cons_append, szTs, szTs, szTs_append r m]; omega
theorem szEs_append : ∀ l m, szEs (l ++ m) = szEs l + szEs m
  | [], m => by simp [szEs]
  | t :: r, m => by rw [List.cons_append, szEs, szEs, szEs_append r m]; omega
theorem szTs_get : ∀ (l : List PT) (i : Nat) (t : PT), l[i]? = some t → szT t ≤ szTs l
  | [], i, t, h => by simp at h
  | x :: r, 0, t, h => by simp at h; subst h; rw [szTs]; omega
  | x :: r, i + 1, t, h => by have := szTs_get r i t (by simpa using h); rw [szTs]; omega
theorem szEs_get : ∀ (l : List PE) (i : Nat) (t : PE), l[i]? = some t → szE t ≤ szEs l
  | [], i, t, h => by simp at h
  | x :: r, 0, t, h => by simp at h; subst h; rw [szEs]; omega
  | x :: r, i + 1, t, h => by have := szEs_get r i t (by simpa using h); rw [szEs]; omega
theorem szDs_get : ∀ (l : List PD) (i : Nat) (t : PD), l[i]? = some t → szD t ≤ szDs l
  | [], i, t, h => by simp at h
  | x :: r, 0, t, h => by simp at h; subst h; simp [szDs]
  | x :: r, i + 1, t, h => by have := szDs_get r i t (by simpa using h); simp [szDs] at *; omega
theorem szDs_len : ∀ l, l.length ≤ szDs l
  | [] => Nat.le_refl _
  | t :: r => by have := szDs_len r; simp [szDs, szD] at *; omega
theorem szDs_append (l m : List PD) : szDs (l ++ m) = szDs l + szDs m := by simp [szDs]
mutual
theorem szE_pl (φ : Nat → Nat) : ∀ x, szE (PE.pl φ x) = szE x
  | .mk k a n m ns l ts => by rw [PE.pl, szE, szE, szEs_pl φ l]
theorem szEs_pl (φ : Nat → Nat) : ∀ l, szEs (PE.pls φ l) = szEs l
  | [] => by rw [PE.pls]
  | x :: r => by rw [PE.pls, szEs, szEs, szE_pl φ x, szEs_pl φ r]
end

/-- So many parts and tokens that are left, not more than n. -/
def Sb {α : Type} (n : Nat) (m : α → Nat) (x : R α) : Prop := ∀ a r d, x = .ok a r d → m a + r.length ≤ n
theorem Sb.tell {α : Type} {n : Nat} {m : α → Nat} {x : R α} (h : Sb n m x) (d : List Dn) : Sb n m (x.tell d) := by
  intro a r e he
  cases x with
  | bad y r' d' => cases he
  | ok a' r' d' => injection he with h1 h2 h3; subst h1 h2; exact h _ _ _ rfl
theorem Sb.bind {α β : Type} {n n' : Nat} {m : α → Nat} {m' : β → Nat} {x : R α} {f : α → List Tk → R β} (h : Sb n m x) (hf : ∀ a r, m a + r.length ≤ n → Sb n' m' (f a r)) : Sb n' m' (x.bind f) := by
  cases x with
  | bad y r d => intro _ _ _ e; cases e
  | ok a r d => exact (hf a r (h _ _ _ rfl)).tell d
theorem Sb.ok {α : Type} {n : Nat} {m : α → Nat} {a : α} {r : List Tk} {d : List Dn} (h : m a + r.length ≤ n) : Sb n m (.ok a r d) := by
  intro _ _ _ e; injection e with h1 h2 h3; subst h1 h2; exact h
theorem Sb.bad {α : Type} {n : Nat} {m : α → Nat} {y : Dn} {r : List Tk} {d : List Dn} : Sb n m (.bad y r d : R α) := by intro _ _ _ e; cases e
theorem tail_k {ts : List Tk} (h : (hd ts).k ≠ 6) : ts.tail.length + 1 = ts.length := by
  cases ts with
  | nil => exact absurd rfl h
  | cons t r => rfl
theorem tail_m {m : Bs} {ts : List Tk} (h : isM m ts = true) : ts.tail.length + 1 = ts.length := tail_k (isM_6 h)
theorem want_sb (m : Bs) (ts : List Tk) : Sb ts.length (fun _ => 1) (want m ts) := by
  unfold want; split
  next h => exact .ok (by have := tail_m h; omega)
  · exact .bad
theorem name_sb (ts : List Tk) : Sb ts.length (fun _ => 1) (wantName ts) := by
  unfold wantName; split
  next h => exact .ok (by have := tail_k (ts := ts) (by omega); omega)
  · exact .bad
def sF {α : Type} (m : α → Nat) (l : List (Bs × α)) : Nat := (l.map fun x => m x.2 + 1).sum
theorem sF_append {α : Type} (m : α → Nat) (l k : List (Bs × α)) : sF m (l ++ k) = sF m l + sF m k := by simp [sF]
theorem sF_ins {α : Type} (m : α → Nat) (x : Bs × α) : ∀ l, sF m (insF x l) = m x.2 + 1 + sF m l
  | [] => by simp [insF, sF]
  | y :: r => by
    rw [insF]
    split
    · have := sF_ins m x r
      simp only [sF, List.map_cons, List.sum_cons] at this ⊢; omega
    · simp [sF]
theorem sF_sort {α : Type} (m : α → Nat) : ∀ l : List (Bs × α), sF m (sortF l) = sF m l
  | [] => rfl
  | x :: r => by rw [sortF, sF_ins, sF_sort m r]; simp [sF]
theorem sF_T : ∀ l : List (Bs × PT), szTs (l.map (·.2)) + l.length = sF szT l
  | [] => rfl
  | x :: r => by have := sF_T r; simp only [List.map_cons, szTs, sF, List.sum_cons, List.length_cons] at this ⊢; omega
theorem sF_E : ∀ l : List (Bs × PE), szEs (l.map (·.2)) + l.length = sF szE l
  | [] => rfl
  | x :: r => by have := sF_E r; simp only [List.map_cons, szEs, sF, List.sum_cons, List.length_cons] at this ⊢; omega
theorem fields_sb {α : Type} (m : α → Nat) (sign : Bs) (read : List Tk → R α) (hr : ∀ ts, Sb ts.length m (read ts)) : ∀ (n : Nat) (seen : List Bs) (acc : List (Bs × α)) (ts : List Tk), Sb (ts.length + sF m acc) (sF m) (fieldsP sign read n seen acc ts)
  | 0, _, acc, ts => .ok (by omega)
  | n + 1, seen, acc, ts => by
    unfold fieldsP
    refine (name_sb ts).bind fun nm r h1 => Sb.tell ((want_sb sign r).bind fun _ r h2 => (hr r).bind fun v r h3 => ?_) _
    have ha : sF m (if nm.t ∈ seen then acc else acc ++ [(nm.t, v)]) ≤ sF m acc + (m v + 1) := by
      split
      · omega
      · rw [sF_append]; simp [sF]
    split
    next hm =>
      have := tail_m hm
      intro a r' d e
      have := fields_sb m sign read hr n _ _ _ a r' d e
      omega
    · refine (want_sb _ r).bind fun _ r h4 => .ok ?_
      omega
theorem read_sb {α : Type} (m : α → Nat) (sign : Bs) (read : List Tk → R α) (hr : ∀ ts, Sb ts.length m (read ts)) (ts : List Tk) : Sb ts.length (sF m) (readP sign read ts) := by
  unfold readP; split
  next h => exact .ok (by have := tail_m h; simp only [sF, List.map_nil, List.sum_nil]; omega)
  · intro a r d e
    have := fields_sb m sign read hr _ _ _ _ a r d e
    simpa [sF] using this
theorem plain_sb (ty : List Tk → R PT) (ht : ∀ ts, Sb ts.length szT (ty ts)) (ts : List Tk) : Sb ts.length szT (plainP ty ts) := by
  unfold plainP
  split
  next h => exact .ok (by have := tail_k (ts := ts) (by omega); simp [szT, szTs]; omega)
  split
  next h => exact .ok (by have := tail_m h; simp [tInt, szT, szTs]; omega)
  split
  next h => exact .ok (by have := tail_m h; simp [tBool, szT, szTs]; omega)
  split
  next h => exact .ok (by have := tail_m h; simp [tText, szT, szTs]; omega)
  split
  next h => exact .ok (by have := tail_m h; simp [tDyn, szT, szTs]; omega)
  split
  next h => exact (read_sb szT _ _ ht _).bind fun fs r h1 => .ok (by have := tail_m h; have h2 := sF_T (sortF fs); rw [sF_sort] at h2; rw [recT, szT, List.length_map]; omega)
  split
  next h => exact (ht _).bind fun t r h1 => (want_sb _ r).bind fun _ r h2 => .ok (by have := tail_m h; omega)
  · exact .bad
theorem arrow_sb (pl ar : List Tk → R PT) (hp : ∀ ts, Sb ts.length szT (pl ts)) (ha : ∀ ts, Sb ts.length szT (ar ts)) (ts : List Tk) : Sb ts.length szT (arrowP pl ar ts) := by
  unfold arrowP
  refine (hp ts).bind fun t r h1 => ?_
  split
  next h => exact (ha _).bind fun u r h2 => .ok (by have := tail_m h; simp [szT, szTs]; omega)
  · exact .ok h1
theorem union_sb (ar : List Tk → R PT) (ha : ∀ ts, Sb ts.length szT (ar ts)) : ∀ (n : Nat) (acc : List PT) (ts : List Tk), Sb (ts.length + szTs acc + acc.length) (fun l => szTs l + l.length) (unionP ar n acc ts)
  | 0, acc, ts => .ok (by omega)
  | n + 1, acc, ts => by
    unfold unionP
    split
    next h =>
      refine (ha _).bind fun t r h1 => ?_
      intro a r' d e
      have h2 : szTs a + a.length + r'.length ≤ r.length + szTs (acc ++ [t]) + (acc ++ [t]).length := union_sb ar ha n _ _ a r' d e
      have := tail_m h
      show szTs a + a.length + r'.length ≤ _
      simp only [szTs_append, szTs, List.length_append, List.length_cons, List.length_nil] at h2
      omega
    · exact .ok (by omega)
theorem join_sz (l : List PT) : szT (joinT l) ≤ szTs l + l.length - 1 ∨ l.length = 0 := by
  match l with
  | [] => right; rfl
  | [t] => left; simp [joinT, szTs]
  | t :: u :: r => left; simp only [joinT, szT, List.length_cons, List.length_nil]; omega
theorem union_pos (ar : List Tk → R PT) : ∀ (n : Nat) (acc : List PT) (ts : List Tk) (l : List PT) (r : List Tk) (d : List Dn), unionP ar n acc ts = .ok l r d → acc.length ≤ l.length
  | 0, acc, ts, l, r, d, h => by injection h with h1; subst h1; exact Nat.le_refl _
  | n + 1, acc, ts, l, r, d, h => by
    unfold unionP at h
    split at h
    · cases ha : ar ts.tail with
      | bad y r' d' => rw [ha] at h; cases h
      | ok t r' d' =>
        rw [ha, R.bind_ok] at h
        cases hu : unionP ar n (acc ++ [t]) r' with
        | bad y r2 d2 => rw [hu] at h; cases h
        | ok l2 r2 d2 =>
          rw [hu] at h
          injection h with h1
          subst h1
          have := union_pos ar n _ _ _ _ _ hu
          simp at this
          omega
    · injection h with h1; subst h1; exact Nat.le_refl _
theorem typP_sb (ar : List Tk → R PT) (ha : ∀ ts, Sb ts.length szT (ar ts)) (ts : List Tk) : Sb ts.length szT (typP ar ts) := by
  unfold typP
  refine (ha ts).bind fun t r h1 => ?_
  cases hu : unionP ar r.length [t] r with
  | bad y r' d' => exact .bad
  | ok l r' d' =>
    have h2 := union_sb ar ha _ _ _ l r' d' hu
    have h3 := union_pos ar _ _ _ _ _ _ hu
    have h4 := join_sz l
    refine Sb.tell (.ok ?_) d'
    simp [szTs] at h2 h3
    omega
theorem lvT_sb : ∀ n, (∀ ts, Sb ts.length szT (typ n ts)) ∧ (∀ ts, Sb ts.length szT (arr n ts))
  | 0 => ⟨fun _ => .bad, fun _ => .bad⟩
  | n + 1 => by
    have ih := lvT_sb n
    have ha : ∀ ts, Sb ts.length szT (arr (n + 1) ts) := arrow_sb _ _ (plain_sb _ ih.1) ih.2
    exact ⟨typP_sb _ ha, ha⟩
theorem call_sb (ex : List Tk → R PE) (he : ∀ ts, Sb ts.length szE (ex ts)) : ∀ (n : Nat) (e : PE) (ts : List Tk), Sb (ts.length + szE e) szE (callP ex n e ts)
  | 0, e, ts => .ok (by omega)
  | n + 1, e, ts => by
    unfold callP
    split
    next h =>
      refine (he _).bind fun g r h1 => (want_sb _ r).bind fun _ r h2 => ?_
      intro a r' d ee
      have h3 := call_sb ex he n _ _ a r' d ee
      have := tail_m h
      simp [szE, szEs, szTs] at h3
      omega
    split
    next h =>
      refine (name_sb _).bind fun nm r h1 => ?_
      intro a r' d ee
      have h3 := call_sb ex he n _ _ a r' d ee
      have := tail_m h
      simp [szE, szEs, szTs] at h3
      omega
    · exact .ok (by omega)
theorem basic_sb (ty : List Tk → R PT) (ex : List Tk → R PE) (ht : ∀ ts, Sb ts.length szT (ty ts)) (he : ∀ ts, Sb ts.length szE (ex ts)) (ts : List Tk) : Sb ts.length szE (basicP ty ex ts) := by
  unfold basicP
  split
  next h => exact .ok (by have := tail_k (ts := ts) (by omega); simp [szE, szEs, szTs]; omega)
  split
  next h => exact .ok (by have := tail_k (ts := ts) (by omega); simp [szE, szEs, szTs]; omega)
  split
  next h => exact .ok (by have := tail_k (ts := ts) (by omega); simp [szE, szEs, szTs]; omega)
  split
  next h => exact .ok (by have := tail_m h; simp [szE, szEs, szTs]; omega)
  split
  next h => exact .ok (by have := tail_m h; simp [szE, szEs, szTs]; omega)
  split
  next h => exact (read_sb szE _ _ he _).bind fun fs r h1 => .ok (by have := tail_m h; have h2 := sF_E fs; rw [recE, szE, List.length_map, szTs]; omega)
  split
  next h =>
    refine (he _).bind fun e r h1 => ?_
    have := tail_m h
    split
    next h2 => exact (ht _).bind fun t r h3 => (want_sb _ r).bind fun _ r h4 => .ok (by have := tail_m h2; simp [szE, szEs, szTs]; omega)
    · exact (want_sb _ r).bind fun _ r h4 => .ok (by omega)
  · exact .bad
theorem expr_sb (ty : List Tk → R PT) (ex : List Tk → R PE) (ht : ∀ ts, Sb ts.length szT (ty ts)) (he : ∀ ts, Sb ts.length szE (ex ts)) (ts : List Tk) : Sb ts.length szE (exprP ty ex ts) := by
  unfold exprP
  split
  next h =>
    unfold funP
    have := tail_m h
    exact (want_sb _ _).bind fun _ r h1 => (name_sb r).bind fun _ r h2 => (want_sb _ r).bind fun _ r h3 => (ht r).bind fun t r h4 => (want_sb _ r).bind fun _ r h5 => (he r).bind fun e r h6 => .ok (by simp [szE, szEs, szTs]; omega)
  split
  next h =>
    unfold letP
    have := tail_m h
    exact (name_sb _).bind fun _ r h1 => (want_sb _ r).bind fun _ r h2 => (he r).bind fun _ r h3 => (want_sb _ r).bind fun _ r h4 => (he r).bind fun _ r h5 => .ok (by simp [szE, szEs, szTs]; omega)
  split
  next h =>
    unfold ifP
    have := tail_m h
    exact (he _).bind fun _ r h1 => (want_sb _ r).bind fun _ r h2 => (he r).bind fun _ r h3 => (want_sb _ r).bind fun _ r h4 => (he r).bind fun _ r h5 => .ok (by simp [szE, szEs, szTs]; omega)
  · refine (basic_sb ty ex ht he ts).bind fun e r h1 => ?_
    intro a r' d ee
    have := call_sb ex he _ _ _ a r' d ee
    omega
theorem exp_sb : ∀ n ts, Sb ts.length szE (exp n ts)
  | 0, _ => .bad
  | n + 1, ts => expr_sb _ _ (lvT_sb n).1 (exp_sb n) ts
theorem head_sb (ts : List Tk) : Sb ts.length szD (headP ts) := by
  have hT := (lvT_sb 64).1
  have hE := exp_sb 64
  unfold headP
  split
  next h => exact (name_sb _).bind fun _ r h1 => .ok (by have := tail_m h; simp [szD, szEs, szTs]; omega)
  split
  next h => exact (name_sb _).bind fun _ r h1 => (want_sb _ r).bind fun _ r h2 => (hT r).bind fun _ r h3 => .ok (by have := tail_m h; simp [szD, szEs, szTs]; omega)
  · refine (want_sb _ ts).bind fun _ r h1 => (name_sb r).bind fun _ r h2 => ?_
    split
    next h => exact (hT _).bind fun _ r h3 => (want_sb _ r).bind fun _ r h4 => (hE r).bind fun _ r h5 => .ok (by have := tail_m h; simp [szD, szEs, szTs]; omega)
    · exact (want_sb _ r).bind fun _ r h4 => (hE r).bind fun _ r h5 => .ok (by simp [szD, szEs, szTs]; omega)
theorem decl_sb (ts : List Tk) : Sb ts.length szD (declP ts) := by
  rw [declP_head]
  exact (head_sb ts).bind fun d r h1 => (want_sb _ r).bind fun _ r h2 => .ok (by omega)
theorem rest_le {ts : List Tk} {α : Type} {x : R α} (h : Eats ts x) : x.rest.length ≤ ts.length := h.le
theorem passD_le' : ∀ r : List Tk, (passD r).length ≤ r.length
  | [] => Nat.le_refl _
  | t :: r => by
    simp only [passD]
    split
    · exact Nat.le_refl _
    split
    · simp
    · have := passD_le' r
      simp only [List.length_cons]; omega
theorem parse_sb : ∀ (n : Nat) (ts : List Tk), szDs (parseP n ts).1 ≤ ts.length
  | 0, ts => Nat.zero_le _
  | n + 1, ts => by
    unfold parseP
    split
    · exact Nat.zero_le _
    · have hs := decl_sb ts
      have he := (decl_eats ts).2
      cases hd : declP ts with
      | ok d r e =>
        have h1 := hs _ _ _ hd
        have h2 := parse_sb n r
        simp [szDs] at *
        omega
      | bad y r e =>
        obtain ⟨p, h1, -⟩ := he _ _ _ hd
        have h2 := parse_sb n (passD r)
        have h3 := passD_le' r
        have h4 : r.length ≤ ts.length := by rw [h1]; simp
        simp only
        omega
theorem all_sb (l : Bs) : szDs (parseAll l).1 ≤ l.length + 1 := Nat.le_trans (parse_sb _ _) (toks_len l)
end Go.Proofs.YthpoffklhpbdoaaGreatDoor

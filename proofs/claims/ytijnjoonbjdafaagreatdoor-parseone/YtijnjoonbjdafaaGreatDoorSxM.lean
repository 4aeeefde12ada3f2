/-
  Plain lists: readers, sources one behind the other, how much is read. No walk.
  The laws' own functions: the program's data told as the document's.
  The document's Same functions, of two that are alike.
-/
import Derived.Test.YtijnjoonbjdafaaGreatDoorGrM
import Derived.Test.YtijnjoonbjdafaaGreatDoorLxM
import Derived.Test.YtijnjoonbjdafaaGreatDoorToks
import Derived.Test.YtijnjoonbjdafaaGreatDoorAlv
import Derived.Test.YtijnjoonbjdafaaGreatDoorPsM
import Derived.Lib.QuietBelow
/-
  What a reader eats: neither the end nor a ';'; what it eats at least. No walk.
-/
namespace Go.Proofs.YtijnjoonbjdafaaGreatDoor
def isSemi (t : Tk) : Bool := (t.k == 2 || t.k == 5) && t.t == [59]
def Qt (t : Tk) : Prop := t.k ≠ 6 ∧ isSemi t = false
def Eats {α : Type} (ts : List Tk) (x : R α) : Prop := ∃ p, ts = p ++ x.rest ∧ ∀ t ∈ p, Qt t
theorem Eats.here {α : Type} {ts : List Tk} {x : R α} (h : x.rest = ts) : Eats ts x := ⟨[], by rw [h]; rfl, by simp⟩
theorem R.rest_tell {α : Type} (d : List Dn) (x : R α) : (x.tell d).rest = x.rest := by cases x <;> rfl
theorem Eats.tell {α : Type} {ts : List Tk} {x : R α} (h : Eats ts x) (d : List Dn) : Eats ts (x.tell d) := by
  obtain ⟨p, h1, h2⟩ := h
  exact ⟨p, by rw [R.rest_tell]; exact h1, h2⟩
theorem Eats.more {α : Type} {p ts : List Tk} {x : R α} (h : Eats ts x) (hp : ∀ t ∈ p, Qt t) : Eats (p ++ ts) x := by
  obtain ⟨q, h1, h2⟩ := h
  refine ⟨p ++ q, by rw [List.append_assoc, ← h1], fun t ht => ?_⟩
  rcases List.mem_append.1 ht with ht | ht
  · exact hp t ht
  · exact h2 t ht
theorem Eats.bind {α β : Type} {ts : List Tk} {x : R α} {f : α → List Tk → R β} (h : Eats ts x) (hf : ∀ a r, Eats r (f a r)) : Eats ts (x.bind f) := by
  cases x with
  | bad y r d => exact h
  | ok a r d =>
    obtain ⟨p, h1, h2⟩ := h
    have h1 : ts = p ++ r := h1
    rw [h1]
    exact ((hf a r).tell d).more h2
theorem Eats.ok {α : Type} (x : α) (r : List Tk) (d : List Dn) : Eats r (R.ok x r d) := .here rfl
theorem Eats.bad {α : Type} (x : Dn) (r : List Tk) (d : List Dn) : Eats r (R.bad x r d : R α) := .here rfl
end Go.Proofs.YtijnjoonbjdafaaGreatDoor
/-
  What follows plays no part, and more depth changes nothing that went well. No walk.
-/
namespace Go.Proofs.YtijnjoonbjdafaaGreatDoor
theorem Eats.le {α : Type} {ts : List Tk} {x : R α} (h : Eats ts x) : x.rest.length ≤ ts.length := by
  obtain ⟨p, h, -⟩ := h
  have := congrArg List.length h
  rw [List.length_append] at this
  omega
def Strict {α : Type} (f : List Tk → R α) : Prop := ∀ ts x r d, f ts = .ok x r d → r.length < ts.length
theorem isM_cons {m : Bs} {ts : List Tk} (h : isM m ts = true) : ∃ t r, ts = t :: r := by
  cases ts with
  | nil => simp [isM, hd] at h
  | cons t r => exact ⟨t, r, rfl⟩
theorem kind_cons {ts : List Tk} {k : Nat} (h : (hd ts).k = k) (h6 : k ≠ 6) : ∃ t r, ts = t :: r := by
  cases ts with
  | nil => exact absurd h.symm h6
  | cons t r => exact ⟨t, r, rfl⟩
theorem tail_lt {ts : List Tk} (h : ∃ t r, ts = t :: r) : ts.tail.length < ts.length := by
  obtain ⟨t, r, rfl⟩ := h
  simp
theorem Strict.of {α : Type} {f : List Tk → R α} (h : ∀ ts, (∃ y r d, f ts = .bad y r d) ∨ (f ts).rest.length < ts.length) : Strict f := by
  intro ts x r d e
  rcases h ts with ⟨y, r', d', h⟩ | h
  · rw [h] at e; cases e
  · rw [e] at h; exact h
theorem R.bind_rest_lt {α β : Type} {n : Nat} {x : R α} {f : α → List Tk → R β} (h : (∃ y r d, x = .bad y r d) ∨ x.rest.length < n) (hf : ∀ a r, Eats r (f a r)) : (∃ y r d, x.bind f = .bad y r d) ∨ (x.bind f).rest.length < n := by
  cases x with
  | bad y r d => exact .inl ⟨y, r, d, rfl⟩
  | ok a r d =>
    rcases h with ⟨_, _, _, h⟩ | h
    · cases h
    · right
      rw [R.bind_ok, R.rest_tell]
      exact Nat.lt_of_le_of_lt (hf a r).le h
theorem want_lt (m : Bs) (ts : List Tk) : (∃ y r d, want m ts = .bad y r d) ∨ (want m ts).rest.length < ts.length := by
  unfold want; split
  next h => exact .inr (tail_lt (isM_cons h))
  · exact .inl ⟨_, _, _, rfl⟩
theorem wantName_lt (ts : List Tk) : (∃ y r d, wantName ts = .bad y r d) ∨ (wantName ts).rest.length < ts.length := by
  unfold wantName; split
  next h => exact .inr (tail_lt (kind_cons h (by decide)))
  · exact .inl ⟨_, _, _, rfl⟩
theorem Strict.want {β : Type} {m : Bs} {k : Unit → List Tk → R β} (hk : ∀ a r, Eats r (k a r)) : Strict fun r => (want m r).bind k := .of fun ts => R.bind_rest_lt (want_lt m ts) hk
theorem Strict.name {β : Type} {k : Tk → List Tk → R β} (hk : ∀ a r, Eats r (k a r)) : Strict fun r => (wantName r).bind k := .of fun ts => R.bind_rest_lt (wantName_lt ts) hk
theorem Strict.bind {α β : Type} {f : List Tk → R α} {g : α → List Tk → R β} (hf : Strict f) (hg : ∀ a r, Eats r (g a r)) : Strict fun ts => (f ts).bind g := by
  refine .of fun ts => R.bind_rest_lt ?_ hg
  cases h : f ts with
  | bad y r d => exact .inl ⟨_, _, _, rfl⟩
  | ok x r d => exact .inr (hf ts x r d h)
section
variable {ts ts' : List Tk}
def Lc (ts ts' : List Tk) {α : Type} (s : Prop) (f f' : List Tk → R α) (p : List Tk) : Prop := ∀ x r d, f (p ++ ts) = .ok x (r ++ ts) d → (r = [] → s) → f' (p ++ ts') = .ok x (r ++ ts') d
theorem Lc.ok {α : Type} (s : Prop) (a : α) (d : List Dn) (p : List Tk) : Lc ts ts' s (fun r => .ok a r d) (fun r => .ok a r d) p := by
  intro x r d' e k
  injection e with e1 e e2
  rw [e1, List.append_cancel_right e, e2]
theorem Lc.bind {α β : Type} {sf sg : Prop} {f f' : List Tk → R α} {g g' : α → List Tk → R β} {p : List Tk} (hf : Lc ts ts' sf f f' p) (ef : ∀ r, Eats r (f r)) (eg : ∀ a r, Eats r (g a r)) (hg : ∀ a q, q.length ≤ p.length → Lc ts ts' sg (g a) (g' a) q) (hs : (sg → sf) ∨ ∀ a, Strict (g a)) : Lc ts ts' sg (fun r => (f r).bind g) (fun r => (f' r).bind g') p := by
  intro x r d e k
  have el := (ef (p ++ ts)).le
  cases h1 : f (p ++ ts) with
  | bad y r1 d1 => simp only [h1, R.bind_bad] at e; cases e
  | ok a r1 d1 =>
    simp only [h1, R.bind_ok] at e
    rw [h1] at el
    cases h2 : g a r1 with
    | bad y r2 d2 => rw [h2] at e; cases e
    | ok x2 r2 d2 =>
      rw [h2, R.tell_ok] at e
      cases e
      obtain ⟨q, e2, -⟩ := eg a r1
      rw [h2] at e2
      have e2 : r1 = (q ++ r) ++ ts := by rw [List.append_assoc]; exact e2
      subst e2
      have hq : (q ++ r).length ≤ p.length := by
        have : (q ++ r ++ ts).length ≤ (p ++ ts).length := el
        simp only [List.length_append] at this ⊢
        omega
      have h3 := hf a (q ++ r) d1 h1 fun hr => by
        obtain ⟨rfl, rfl⟩ := List.append_eq_nil_iff.1 hr
        rcases hs with hs | hs
        · exact hs (k rfl)
        · have := hs a _ _ _ _ h2
          simp at this
      have h4 := hg a (q ++ r) hq x r d2 h2 k
      simp only [h3, R.bind_ok, h4, R.tell_ok]
theorem isM_app {m : Bs} {t : Tk} (r r' : List Tk) : isM m (t :: r) = isM m (t :: r') := rfl
theorem Lc.want (s : Prop) (m : Bs) (p : List Tk) : Lc ts ts' s (want m) (want m) p := by
  intro x r d e k
  unfold Proofs.YtijnjoonbjdafaaGreatDoor.want at e ⊢
  split at e
  next h =>
    cases p with
    | nil =>
      simp only [List.nil_append] at e h
      have h1 := tail_lt (isM_cons h)
      injection e with _ e _
      have := congrArg List.length e
      rw [List.length_append] at this
      omega
    | cons t p =>
      simp only [List.cons_append, List.tail_cons] at e h ⊢
      rw [isM_app (p ++ ts) (p ++ ts')] at h
      rw [if_pos h]
      injection e with _ e e2
      rw [List.append_cancel_right e, e2]
  next h => cases e
theorem Lc.name (s : Prop) (p : List Tk) : Lc ts ts' s wantName wantName p := by
  intro x r d e k
  unfold wantName at e ⊢
  split at e
  next h =>
    cases p with
    | nil =>
      simp only [List.nil_append] at e h
      have h1 := tail_lt (kind_cons h (by decide))
      injection e with _ e _
      have := congrArg List.length e
      rw [List.length_append] at this
      omega
    | cons t p =>
      simp only [List.cons_append, List.tail_cons] at e h ⊢
      have h' : (hd (t :: (p ++ ts'))).k = 1 := h
      rw [if_pos h']
      injection e with e1 e e2
      rw [List.append_cancel_right e, ← e1, e2]
      rfl
  next h => cases e
theorem Lc.tell {α : Type} {s : Prop} {f f' : List Tk → R α} {p : List Tk} (d0 : List Dn) (h : Lc ts ts' s f f' p) : Lc ts ts' s (fun r => (f r).tell d0) (fun r => (f' r).tell d0) p := by
  intro x r d e k
  cases h1 : f (p ++ ts) with
  | bad y r1 d1 => simp only [h1, R.tell_bad] at e; cases e
  | ok a r1 d1 =>
    simp only [h1, R.tell_ok] at e
    cases e
    simp only [h x r d1 h1 k, R.tell_ok]
end
end Go.Proofs.YtijnjoonbjdafaaGreatDoor
/-
  What follows plays no part, and more depth changes nothing that went well: types, expressions, declarations. No walk.
-/
namespace Go.Proofs.YtijnjoonbjdafaaGreatDoor
section
variable {ts ts' : List Tk}
end
end Go.Proofs.YtijnjoonbjdafaaGreatDoor
/-
  Sources one behind the other: their pieces and tokens. No walk.
-/
namespace Go.Proofs.YtijnjoonbjdafaaGreatDoor
def Pc.up (k : Nat) (x : Pc) : Pc := ⟨x.at_ + k, x.s⟩
def Tk.pl (φ : Nat → Nat) (t : Tk) : Tk := ⟨t.k, φ t.a, t.t⟩
def Dn.pl (φ : Nat → Nat) (d : Dn) : Dn := ⟨φ d.a, d.d, d.n⟩
def tk (a : Nat) (l : Bs) : List Tk := toksOf (pieces a l)
end Go.Proofs.YtijnjoonbjdafaaGreatDoor
/-
  A reader looks at no place: with other places it tells the same at those. No walk.
-/
namespace Go.Proofs.YtijnjoonbjdafaaGreatDoor
mutual
def PE.pl (φ : Nat → Nat) : PE → PE
  | .mk k a n m ns l ts => .mk k (φ a) n m ns (PE.pls φ l) ts
def PE.pls (φ : Nat → Nat) : List PE → List PE
  | [] => []
  | x :: r => PE.pl φ x :: PE.pls φ r
end
theorem pls_map (φ : Nat → Nat) : ∀ l, PE.pls φ l = l.map (PE.pl φ)
  | [] => by rw [PE.pls]; rfl
  | x :: r => by rw [PE.pls, pls_map φ r]; rfl
def PD.pl (φ : Nat → Nat) (d : PD) : PD := ⟨d.k, φ d.a, d.n, d.ts, PE.pls φ d.es⟩
def R.pl {α β : Type} (φ : Nat → Nat) (f : α → β) : R α → R β
  | .ok x r d => .ok (f x) (r.map (Tk.pl φ)) (d.map (Dn.pl φ))
  | .bad y r d => .bad (y.pl φ) (r.map (Tk.pl φ)) (d.map (Dn.pl φ))
def En (ts : List Tk) : Prop := ∃ t ∈ ts, t.k = 6
theorem En.ne {ts : List Tk} (h : En ts) : ts ≠ [] := by rintro rfl; obtain ⟨t, ht, -⟩ := h; cases ht
theorem En.tail {ts : List Tk} (h : En ts) (hk : (hd ts).k ≠ 6) : En ts.tail := by
  obtain ⟨t, ht, h6⟩ := h
  cases ts with
  | nil => cases ht
  | cons c r =>
    rcases List.mem_cons.1 ht with rfl | ht
    · exact absurd h6 hk
    · exact ⟨t, ht, h6⟩
theorem En.map {ts : List Tk} (h : En ts) (φ : Nat → Nat) : En (ts.map (Tk.pl φ)) := by
  obtain ⟨t, ht, h6⟩ := h
  exact ⟨t.pl φ, List.mem_map_of_mem ht, h6⟩
section
variable {φ : Nat → Nat}
theorem isM_6 {m : Bs} {ts : List Tk} (h : isM m ts = true) : (hd ts).k ≠ 6 := by
  simp only [isM, Bool.and_eq_true, Bool.or_eq_true, beq_iff_eq] at h
  omega
end
end Go.Proofs.YtijnjoonbjdafaaGreatDoor
/-
  Declarations one behind the other: how many rounds plays no part; what follows plays no part; what is wrong stays there. No walk.
-/
namespace Go.Proofs.YtijnjoonbjdafaaGreatDoor
section
variable {ts ts' : List Tk}
end
end Go.Proofs.YtijnjoonbjdafaaGreatDoor
/-
  A reader reads no more parts than there are tokens. No walk.
-/
namespace Go.Proofs.YtijnjoonbjdafaaGreatDoor
mutual
def szT : PT → Nat
  | .mk _ _ ns l => 1 + ns.length + szTs l
def szTs : List PT → Nat
  | [] => 0
  | t :: r => szT t + szTs r
end
mutual
def szE : PE → Nat
  | .mk _ _ _ _ ns l ts => 1 + ns.length + szEs l + szTs ts
def szEs : List PE → Nat
  | [] => 0
  | t :: r => szE t + szEs r
end
theorem szT_pos (t : PT) : 1 ≤ szT t := by cases t; rw [szT]; omega
theorem szE_pos (t : PE) : 1 ≤ szE t := by cases t; rw [szE]; omega
theorem szTs_len : ∀ l, l.length ≤ szTs l
  | [] => Nat.le_refl _
  | t :: r => by have := szTs_len r; have := szT_pos t; rw [szTs, List.length_cons]; omega
theorem szEs_len : ∀ l, l.length ≤ szEs l
  | [] => Nat.le_refl _
  | t :: r => by have := szEs_len r; have := szE_pos t; rw [szEs, List.length_cons]; omega
theorem szTs_append : ∀ l m, szTs (l ++ m) = szTs l + szTs m
  | [], m => by simp [szTs]
  | t :: r, m => by rw [List.cons_append, szTs, szTs, szTs_append r m]; omega
theorem szTs_get : ∀ (l : List PT) (i : Nat) (t : PT), l[i]? = some t → szT t ≤ szTs l
  | [], i, t, h => by simp at h
  | x :: r, 0, t, h => by simp at h; subst h; rw [szTs]; omega
  | x :: r, i + 1, t, h => by have := szTs_get r i t (by simpa using h); rw [szTs]; omega
theorem szEs_get : ∀ (l : List PE) (i : Nat) (t : PE), l[i]? = some t → szE t ≤ szEs l
  | [], i, t, h => by simp at h
  | x :: r, 0, t, h => by simp at h; subst h; rw [szEs]; omega
  | x :: r, i + 1, t, h => by have := szEs_get r i t (by simpa using h); rw [szEs]; omega
def Sb {α : Type} (n : Nat) (m : α → Nat) (x : R α) : Prop := ∀ a r d, x = .ok a r d → m a + r.length ≤ n
theorem Sb.tell {α : Type} {n : Nat} {m : α → Nat} {x : R α} (h : Sb n m x) (d : List Dn) : Sb n m (x.tell d) := by
  intro a r e he
  cases x with
  | bad y r' d' => cases he
  | ok a' r' d' => injection he with h1 h2 h3; subst h1 h2; exact h _ _ _ rfl
theorem Sb.bind {α β : Type} {n n' : Nat} {m : α → Nat} {m' : β → Nat} {x : R α} {f : α → List Tk → R β} (h : Sb n m x) (hf : ∀ a r, m a + r.length ≤ n → Sb n' m' (f a r)) : Sb n' m' (x.bind f) := by
  cases x with
  | bad y r d => intro _ _ _ e; cases e
  | ok a r d => exact (hf a r (h _ _ _ rfl)).tell d
theorem Sb.ok {α : Type} {n : Nat} {m : α → Nat} {a : α} {r : List Tk} {d : List Dn} (h : m a + r.length ≤ n) : Sb n m (.ok a r d) := by
  intro _ _ _ e; injection e with h1 h2 h3; subst h1 h2; exact h
theorem Sb.bad {α : Type} {n : Nat} {m : α → Nat} {y : Dn} {r : List Tk} {d : List Dn} : Sb n m (.bad y r d : R α) := by intro _ _ _ e; cases e
theorem tail_k {ts : List Tk} (h : (hd ts).k ≠ 6) : ts.tail.length + 1 = ts.length := by
  cases ts with
  | nil => exact absurd rfl h
  | cons t r => rfl
theorem tail_m {m : Bs} {ts : List Tk} (h : isM m ts = true) : ts.tail.length + 1 = ts.length := tail_k (isM_6 h)
theorem want_sb (m : Bs) (ts : List Tk) : Sb ts.length (fun _ => 1) (want m ts) := by
  unfold want; split
  next h => exact .ok (by have := tail_m h; omega)
  · exact .bad
theorem name_sb (ts : List Tk) : Sb ts.length (fun _ => 1) (wantName ts) := by
  unfold wantName; split
  next h => exact .ok (by have := tail_k (ts := ts) (by omega); omega)
  · exact .bad
def sF {α : Type} (m : α → Nat) (l : List (Bs × α)) : Nat := (l.map fun x => m x.2 + 1).sum
theorem sF_append {α : Type} (m : α → Nat) (l k : List (Bs × α)) : sF m (l ++ k) = sF m l + sF m k := by simp [sF]
theorem sF_ins {α : Type} (m : α → Nat) (x : Bs × α) : ∀ l, sF m (insF x l) = m x.2 + 1 + sF m l
  | [] => by simp [insF, sF]
  | y :: r => by
    rw [insF]
    split
    · have := sF_ins m x r
      simp only [sF, List.map_cons, List.sum_cons] at this ⊢; omega
    · simp [sF]
theorem sF_sort {α : Type} (m : α → Nat) : ∀ l : List (Bs × α), sF m (sortF l) = sF m l
  | [] => rfl
  | x :: r => by rw [sortF, sF_ins, sF_sort m r]; simp [sF]
theorem sF_T : ∀ l : List (Bs × PT), szTs (l.map (·.2)) + l.length = sF szT l
  | [] => rfl
  | x :: r => by have := sF_T r; simp only [List.map_cons, szTs, sF, List.sum_cons, List.length_cons] at this ⊢; omega
theorem sF_E : ∀ l : List (Bs × PE), szEs (l.map (·.2)) + l.length = sF szE l
  | [] => rfl
  | x :: r => by have := sF_E r; simp only [List.map_cons, szEs, sF, List.sum_cons, List.length_cons] at this ⊢; omega
theorem fields_sb {α : Type} (m : α → Nat) (sign : Bs) (read : List Tk → R α) (hr : ∀ ts, Sb ts.length m (read ts)) : ∀ (n : Nat) (seen : List Bs) (acc : List (Bs × α)) (ts : List Tk), Sb (ts.length + sF m acc) (sF m) (fieldsP sign read n seen acc ts)
  | 0, _, acc, ts => .ok (by omega)
  | n + 1, seen, acc, ts => by
    unfold fieldsP
    refine (name_sb ts).bind fun nm r h1 => Sb.tell ((want_sb sign r).bind fun _ r h2 => (hr r).bind fun v r h3 => ?_) _
    have ha : sF m (if nm.t ∈ seen then acc else acc ++ [(nm.t, v)]) ≤ sF m acc + (m v + 1) := by
      split
      · omega
      · rw [sF_append]; simp [sF]
    split
    next hm =>
      have := tail_m hm
      intro a r' d e
      have := fields_sb m sign read hr n _ _ _ a r' d e
      omega
    · refine (want_sb _ r).bind fun _ r h4 => .ok ?_
      omega
theorem read_sb {α : Type} (m : α → Nat) (sign : Bs) (read : List Tk → R α) (hr : ∀ ts, Sb ts.length m (read ts)) (ts : List Tk) : Sb ts.length (sF m) (readP sign read ts) := by
  unfold readP; split
  next h => exact .ok (by have := tail_m h; simp only [sF, List.map_nil, List.sum_nil]; omega)
  · intro a r d e
    have := fields_sb m sign read hr _ _ _ _ a r d e
    simpa [sF] using this
theorem plain_sb (ty : List Tk → R PT) (ht : ∀ ts, Sb ts.length szT (ty ts)) (ts : List Tk) : Sb ts.length szT (plainP ty ts) := by
  unfold plainP
  split
  next h => exact .ok (by have := tail_k (ts := ts) (by omega); simp [szT, szTs]; omega)
  split
  next h => exact .ok (by have := tail_m h; simp [tInt, szT, szTs]; omega)
  split
  next h => exact .ok (by have := tail_m h; simp [tBool, szT, szTs]; omega)
  split
  next h => exact .ok (by have := tail_m h; simp [tText, szT, szTs]; omega)
  split
  next h => exact .ok (by have := tail_m h; simp [tDyn, szT, szTs]; omega)
  split
  next h => exact (read_sb szT _ _ ht _).bind fun fs r h1 => .ok (by have := tail_m h; have h2 := sF_T (sortF fs); rw [sF_sort] at h2; rw [recT, szT, List.length_map]; omega)
  split
  next h => exact (ht _).bind fun t r h1 => (want_sb _ r).bind fun _ r h2 => .ok (by have := tail_m h; omega)
  · exact .bad
theorem arrow_sb (pl ar : List Tk → R PT) (hp : ∀ ts, Sb ts.length szT (pl ts)) (ha : ∀ ts, Sb ts.length szT (ar ts)) (ts : List Tk) : Sb ts.length szT (arrowP pl ar ts) := by
  unfold arrowP
  refine (hp ts).bind fun t r h1 => ?_
  split
  next h => exact (ha _).bind fun u r h2 => .ok (by have := tail_m h; simp [szT, szTs]; omega)
  · exact .ok h1
theorem union_sb (ar : List Tk → R PT) (ha : ∀ ts, Sb ts.length szT (ar ts)) : ∀ (n : Nat) (acc : List PT) (ts : List Tk), Sb (ts.length + szTs acc + acc.length) (fun l => szTs l + l.length) (unionP ar n acc ts)
  | 0, acc, ts => .ok (by omega)
  | n + 1, acc, ts => by
    unfold unionP
    split
    next h =>
      refine (ha _).bind fun t r h1 => ?_
      intro a r' d e
      have h2 : szTs a + a.length + r'.length ≤ r.length + szTs (acc ++ [t]) + (acc ++ [t]).length := union_sb ar ha n _ _ a r' d e
      have := tail_m h
      show szTs a + a.length + r'.length ≤ _
      simp only [szTs_append, szTs, List.length_append, List.length_cons, List.length_nil] at h2
      omega
    · exact .ok (by omega)
theorem join_sz (l : List PT) : szT (joinT l) ≤ szTs l + l.length - 1 ∨ l.length = 0 := by
  match l with
  | [] => right; rfl
  | [t] => left; simp [joinT, szTs]
  | t :: u :: r => left; simp only [joinT, szT, List.length_cons, List.length_nil]; omega
theorem union_pos (ar : List Tk → R PT) : ∀ (n : Nat) (acc : List PT) (ts : List Tk) (l : List PT) (r : List Tk) (d : List Dn), unionP ar n acc ts = .ok l r d → acc.length ≤ l.length
  | 0, acc, ts, l, r, d, h => by injection h with h1; subst h1; exact Nat.le_refl _
  | n + 1, acc, ts, l, r, d, h => by
    unfold unionP at h
    split at h
    · cases ha : ar ts.tail with
      | bad y r' d' => rw [ha] at h; cases h
      | ok t r' d' =>
        rw [ha, R.bind_ok] at h
        cases hu : unionP ar n (acc ++ [t]) r' with
        | bad y r2 d2 => rw [hu] at h; cases h
        | ok l2 r2 d2 =>
          rw [hu] at h
          injection h with h1
          subst h1
          have := union_pos ar n _ _ _ _ _ hu
          simp at this
          omega
    · injection h with h1; subst h1; exact Nat.le_refl _
theorem typP_sb (ar : List Tk → R PT) (ha : ∀ ts, Sb ts.length szT (ar ts)) (ts : List Tk) : Sb ts.length szT (typP ar ts) := by
  unfold typP
  refine (ha ts).bind fun t r h1 => ?_
  cases hu : unionP ar r.length [t] r with
  | bad y r' d' => exact .bad
  | ok l r' d' =>
    have h2 := union_sb ar ha _ _ _ l r' d' hu
    have h3 := union_pos ar _ _ _ _ _ _ hu
    have h4 := join_sz l
    refine Sb.tell (.ok ?_) d'
    simp [szTs] at h2 h3
    omega
theorem lvT_sb : ∀ n, (∀ ts, Sb ts.length szT (typ n ts)) ∧ (∀ ts, Sb ts.length szT (arr n ts))
  | 0 => ⟨fun _ => .bad, fun _ => .bad⟩
  | n + 1 => by
    have ih := lvT_sb n
    have ha : ∀ ts, Sb ts.length szT (arr (n + 1) ts) := arrow_sb _ _ (plain_sb _ ih.1) ih.2
    exact ⟨typP_sb _ ha, ha⟩
theorem call_sb (ex : List Tk → R PE) (he : ∀ ts, Sb ts.length szE (ex ts)) : ∀ (n : Nat) (e : PE) (ts : List Tk), Sb (ts.length + szE e) szE (callP ex n e ts)
  | 0, e, ts => .ok (by omega)
  | n + 1, e, ts => by
    unfold callP
    split
    next h =>
      refine (he _).bind fun g r h1 => (want_sb _ r).bind fun _ r h2 => ?_
      intro a r' d ee
      have h3 := call_sb ex he n _ _ a r' d ee
      have := tail_m h
      simp [szE, szEs, szTs] at h3
      omega
    split
    next h =>
      refine (name_sb _).bind fun nm r h1 => ?_
      intro a r' d ee
      have h3 := call_sb ex he n _ _ a r' d ee
      have := tail_m h
      simp [szE, szEs, szTs] at h3
      omega
    · exact .ok (by omega)
theorem basic_sb (ty : List Tk → R PT) (ex : List Tk → R PE) (ht : ∀ ts, Sb ts.length szT (ty ts)) (he : ∀ ts, Sb ts.length szE (ex ts)) (ts : List Tk) : Sb ts.length szE (basicP ty ex ts) := by
  unfold basicP
  split
  next h => exact .ok (by have := tail_k (ts := ts) (by omega); simp [szE, szEs, szTs]; omega)
  split
  next h => exact .ok (by have := tail_k (ts := ts) (by omega); simp [szE, szEs, szTs]; omega)
  split
  next h => exact .ok (by have := tail_k (ts := ts) (by omega); simp [szE, szEs, szTs]; omega)
  split
  next h => exact .ok (by have := tail_m h; simp [szE, szEs, szTs]; omega)
  split
  next h => exact .ok (by have := tail_m h; simp [szE, szEs, szTs]; omega)
  split
  next h => exact (read_sb szE _ _ he _).bind fun fs r h1 => .ok (by have := tail_m h; have h2 := sF_E fs; rw [recE, szE, List.length_map, szTs]; omega)
  split
  next h =>
    refine (he _).bind fun e r h1 => ?_
    have := tail_m h
    split
    next h2 => exact (ht _).bind fun t r h3 => (want_sb _ r).bind fun _ r h4 => .ok (by have := tail_m h2; simp [szE, szEs, szTs]; omega)
    · exact (want_sb _ r).bind fun _ r h4 => .ok (by omega)
  · exact .bad
theorem expr_sb (ty : List Tk → R PT) (ex : List Tk → R PE) (ht : ∀ ts, Sb ts.length szT (ty ts)) (he : ∀ ts, Sb ts.length szE (ex ts)) (ts : List Tk) : Sb ts.length szE (exprP ty ex ts) := by
  unfold exprP
  split
  next h =>
    unfold funP
    have := tail_m h
    exact (want_sb _ _).bind fun _ r h1 => (name_sb r).bind fun _ r h2 => (want_sb _ r).bind fun _ r h3 => (ht r).bind fun t r h4 => (want_sb _ r).bind fun _ r h5 => (he r).bind fun e r h6 => .ok (by simp [szE, szEs, szTs]; omega)
  split
  next h =>
    unfold letP
    have := tail_m h
    exact (name_sb _).bind fun _ r h1 => (want_sb _ r).bind fun _ r h2 => (he r).bind fun _ r h3 => (want_sb _ r).bind fun _ r h4 => (he r).bind fun _ r h5 => .ok (by simp [szE, szEs, szTs]; omega)
  split
  next h =>
    unfold ifP
    have := tail_m h
    exact (he _).bind fun _ r h1 => (want_sb _ r).bind fun _ r h2 => (he r).bind fun _ r h3 => (want_sb _ r).bind fun _ r h4 => (he r).bind fun _ r h5 => .ok (by simp [szE, szEs, szTs]; omega)
  · refine (basic_sb ty ex ht he ts).bind fun e r h1 => ?_
    intro a r' d ee
    have := call_sb ex he _ _ _ a r' d ee
    omega
theorem exp_sb : ∀ n ts, Sb ts.length szE (exp n ts)
  | 0, _ => .bad
  | n + 1, ts => expr_sb _ _ (lvT_sb n).1 (exp_sb n) ts
end Go.Proofs.YtijnjoonbjdafaaGreatDoor
/-
  The laws' own types: the program's types told as the document's.
-/
namespace Go.Proofs.YtijnjoonbjdafaaGreatDoor
set_option maxRecDepth 20000
open Go.RowKit Go.Shelf
theorem info44 : (Tryz.prog.info? 31).map (fun i => (i.zero, i.size, i.bytes)) = some (some (.agg #[.int .i64 0, .string ⟨#[]⟩, .slice none 0 0, .slice none 0 0]), 4, 72) := by kernel_rfl
theorem ret44 {f : Func} {R : Ending → World → Prop} {a : Act} {w : World} {b s : Nat} {u0 u1 u2 u3 : Value} (hf : f.results = #[.cell s 31]) (ht : a.eval (.tmp s) = .pointer (some ⟨b, 0, none⟩)) (hd : a.defers = [])
    (h : Fou w b 31 u0 u1 u2 u3) (hR : R (.returned (.agg #[u0, u1, u2, u3])) w) : bodyPost Tryz.prog f R Exit.ret a w := by
  obtain ⟨⟨c0, c1, c2, c3⟩, -⟩ := fou_of h
  refine bodyPost_ret ?_ hd hR
  simp [Act.eval] at ht
  simp [results, hf, go_sem, c0, c1, c2, c3, ht]
theorem cells_TT {e : TypeId} {A : Nat → Prop} {w : World} {k : Nat} {n : Bs} {ns : List Bs} {l : List PT} {cs : List Value} (h : IsCs A w (encT e (.mk k n ns l)) cs) : ∃ v2 v3, cs = [.int .i64 k, .string ⟨n.toArray⟩, v2, v3] ∧ IsC A w (.row 9 1 ns.length (ns.map .str)) v2 ∧ IsC A w (.row e 4 l.length (encTs e l)) v3 := by
  rw [encT] at h
  obtain ⟨x0, ys, rfl, k0, h⟩ := h.uncons
  obtain ⟨x1, ys, rfl, k1, h⟩ := h.uncons
  obtain ⟨x2, ys, rfl, k2, h⟩ := h.uncons
  obtain ⟨x3, ys, rfl, k3, h⟩ := h.uncons
  simp only [IsC] at k0 k1
  obtain rfl : ys = [] := by simpa only [IsCs] using h
  subst k0 k1
  exact ⟨x2, x3, rfl, k2, k3⟩
def ToOk (t : PT) : Prop := ∀ (A : Nat → Prop) (w : World) (cs : List Value), IsCs A w (encT 26 t) cs → Calls Tryz.prog 15 #[.agg cs.toArray] w (fun e w' => ∃ us, e = .returned (.agg us.toArray) ∧ Below w.heap.size w w' ∧ IsCs (fun b => A b ∨ w.heap.size ≤ b) w' (encT 31 t) us)
def TsOk (l : List PT) : Prop := ∀ (A : Nat → Prop) (w : World) (v : Value), Sub A w (encTs 26 l) l.length v → Calls Tryz.prog 51 #[v] w (fun e w' => ∃ u, e = .returned u ∧ Below w.heap.size w w' ∧ IsC (fun b => A b ∨ w.heap.size ≤ b) w' (.row 31 4 l.length (encTs 31 l)) u)
set_option maxHeartbeats 1000000 in
theorem to_step (k : Nat) (n : Bs) (ns : List Bs) (l : List PT) (HT : TsOk l) : ToOk (.mk k n ns l) := by
  intro A w cs h
  obtain ⟨v2, v3, rfl, h2, h3⟩ := cells_TT h
  obtain ⟨xs2, r2, -, -⟩ := h2.unrow
  obtain ⟨a2, c2, rfl⟩ := row_slice r2
  obtain ⟨xs3, r3, -, -⟩ := h3.unrow
  obtain ⟨a3, c3, rfl⟩ := row_slice r3
  have S3 := Lib.hid ((Sub.of_row h3 (by rw [encTs_flat]; exact flat_length (encT_length 26) l)).mono (A' := fun b => A b ∧ b < w.heap.size) (fun b hb ha => ⟨ha, hb⟩))
  have S2 := Lib.hid (h2.mono (A' := fun b => A b ∧ b < w.heap.size) (fun b hb ha => ⟨ha, hb⟩))
  obtain ⟨W, hW⟩ : ∃ W, W = (w.alloc (.cells #[.int .i64 k, .string ⟨n.toArray⟩, .slice a2 ns.length c2, .slice a3 l.length c3] 26)).alloc (.cells #[.int .i64 0, .string ⟨#[]⟩, .slice none 0 0, .slice none 0 0] 31) := ⟨_, rfl⟩
  have HB := Lib.hid (show Below w.heap.size w W by rw [hW]; exact ((Below.refl _ _).alloc (Nat.le_refl _) _).alloc (by simp) _)
  have HSZ := Lib.hid (show W.heap.size = w.heap.size + 2 by rw [hW]; simp)
  have A0 := Lib.hid (show Fou W w.heap.size 26 (.int .i64 k) (.string ⟨n.toArray⟩) (.slice a2 ns.length c2) (.slice a3 l.length c3) by rw [hW]; exact blk_alloc (heap_alloc_new w _) _)
  have A1 := Lib.hid (show Fou W (w.heap.size + 1) 31 (.int .i64 0) (.string ⟨#[]⟩) (.slice none 0 0) (.slice none 0 0) by rw [hW]; have := heap_alloc_new (w.alloc (.cells #[.int .i64 k, .string ⟨n.toArray⟩, .slice a2 ns.length c2, .slice a3 l.length c3] 26)) (.cells #[.int .i64 0, .string ⟨#[]⟩, .slice none 0 0, .slice none 0 0] 31); rw [World.size_alloc] at this; exact this)
  have HC : Hid (∀ X : World, X.heap = W.heap ∧ X.os = W.os ∧ X.tape = W.tape ∧ X.output = W.output → Calls Tryz.prog 51 #[.slice a3 l.length c3] X (fun e w' => ∃ u, e = .returned u ∧ Below W.heap.size W w' ∧ IsC (fun b => (A b ∧ b < w.heap.size) ∨ W.heap.size ≤ b) w' (.row 31 4 l.length (encTs 31 l)) u)) := by
    rintro X ⟨e1, e2, e3, e4⟩
    have hX : Below W.heap.size W X := ⟨e2, e3, e4, by rw [e1]; exact Nat.le_refl _, fun k _ => by rw [e1]⟩
    have S := (S3.out.below HB.out).below hX
    refine (HT _ X _ S).mono ?_
    rintro e w' ⟨u, h1, h2, h3⟩
    rw [e1] at h2 h3
    exact ⟨u, h1, hX.trans h2, h3⟩
  obtain ⟨⟨p0, p1, p2, p3⟩, t0, t1, t2, t3⟩ := fou_of A0.out
  obtain ⟨⟨q0, q1, q2, q3⟩, u0, u1, u2, u3⟩ := fou_of A1.out
  clear h h2 h3 r2 r3 HT
  go_enter Tryz.func15, Tryz.ntmps15
  go_wp2_with fail
  rw [← hW]
  clear hW
  obtain ⟨b1, hb1⟩ : ∃ b, b = w.heap.size + 1 := ⟨_, rfl⟩
  obtain ⟨b0, hb0⟩ : ∃ b, b = w.heap.size := ⟨_, rfl⟩
  rw [← hb1] at A1 q0 q1 q2 q3 u0 u1 u2 u3 ⊢
  rw [← hb0] at A0 p0 p1 p2 p3 t0 t1 t2 t3 ⊢
  have HB1 := Lib.hid hb1
  have HB0 := Lib.hid hb0
  have hne : ¬ b1 = b0 := by omega
  have hne' : ¬ b0 = b1 := by omega
  clear hb1 hb0
  go_region_held3 (fun w' => w'.cell? ⟨b0, 0, none⟩ = some (.int .i64 k) ∧ w'.cell? ⟨b0, 1, none⟩ = some (.string ⟨n.toArray⟩) ∧ w'.cell? ⟨b0, 2, none⟩ = some (.slice a2 ns.length c2) ∧ w'.cell? ⟨b0, 3, none⟩ = some (.slice a3 l.length c3)) (go_keep)
    (first | (go_at_call 51; refine (HC.out _ ?_).mono ?_; exact ⟨rfl, rfl, rfl, rfl⟩; rintro e w3 ⟨u, rfl, b3, i3⟩; obtain ⟨xs, r3, -, -⟩ := i3.unrow; obtain ⟨au, cu, rfl⟩ := row_slice r3; obtain ⟨⟨s0, s1, s2, s3⟩, -⟩ := fou_of (show Fou w3 b0 26 (.int .i64 k) (.string ⟨n.toArray⟩) (.slice a2 ns.length c2) (.slice a3 l.length c3) from (b3.block _ (by rw [HSZ.out, HB0.out]; omega)).trans A0.out); (have hA3 : Fou w3 b1 31 (.int .i64 0) (.string ⟨#[]⟩) (.slice none 0 0) (.slice none 0 0) := (b3.block _ (by rw [HSZ.out, HB1.out]; omega)).trans A1.out); obtain ⟨⟨q0, q1, q2, q3⟩, u0, u1, u2, u3⟩ := fou_of (t := 31) hA3; (have HA3 := Lib.hid hA3); (have B3 := Lib.hid b3); (have I3 := Lib.hid i3); clear b3 i3 r3 hA3))
  all_goals
    go_wp2_with fail
    have B4 : Below w.heap.size w (putL w3 b1 [.int .i64 k, .string ⟨n.toArray⟩, .slice a2 ns.length c2, .slice au l.length cu]) := Below.putL (HB.out.trans (B3.out.mono HB.out.size)) (by rw [HB1.out]; omega) _
    have S2' : IsC (fun b => (A b ∨ w.heap.size ≤ b) ∧ b ≠ b1) w3 (.row 9 1 ns.length (ns.map .str)) (.slice a2 ns.length c2) := ((S2.out.below HB.out).below B3.out).mono (fun b _ hb => ⟨.inl hb.1, by have := HB1.out; omega⟩)
    have I4 : IsC (fun b => (A b ∨ w.heap.size ≤ b) ∧ b ≠ b1) w3 (.row 31 4 l.length (encTs 31 l)) (.slice au l.length cu) := I3.out.mono (fun b _ hb => by rw [HSZ.out] at hb; rcases hb with hb | hb; exact ⟨.inl hb.1, by have := HB1.out; omega⟩; exact ⟨.inr (by omega), by have := HB1.out; omega⟩)
    have CC : IsCs (fun b => (A b ∨ w.heap.size ≤ b) ∧ b ≠ b1) w3 (encT 31 (.mk k n ns l)) [.int .i64 k, .string ⟨n.toArray⟩, .slice a2 ns.length c2, .slice au l.length cu] := by
      rw [encT]
      exact .cons (.num _ _ _) (.cons (.str _ _ _) (.cons S2' (.cons I4 (.nil _ _))))
    have F4 : Fou (putL w3 b1 [.int .i64 k, .string ⟨n.toArray⟩, .slice a2 ns.length c2, .slice au l.length cu]) b1 31 (.int .i64 k) (.string ⟨n.toArray⟩) (.slice a2 ns.length c2) (.slice au l.length cu) := putL_at (vs := [.int .i64 k, .string ⟨n.toArray⟩, .slice a2 ns.length c2, .slice au l.length cu]) HA3.out rfl
    have C4 := (CC.putL b1 (fun b hb => hb.2) [.int .i64 k, .string ⟨n.toArray⟩, .slice a2 ns.length c2, .slice au l.length cu]).mono (A' := fun b => A b ∨ w.heap.size ≤ b) (fun b _ hb => hb.1)
    refine ret44 (s := 2) (b := b1) rfl rfl rfl F4 ?_
    exact ⟨[.int .i64 k, .string ⟨n.toArray⟩, .slice a2 ns.length c2, .slice au l.length cu], rfl, B4, C4⟩
theorem below_grown {w w' w'' : World} {row : Option Nat} (h : Below w.heap.size w w') (hg : w'.grownBy w'' row) (hr : ∀ b, row = some b → w.heap.size ≤ b) : Below w.heap.size w w'' :=
  ⟨hg.os.trans h.os, hg.tape.trans h.tape, hg.output.trans h.output, Nat.le_trans h.size hg.size, fun k hk => (hg.block k (Nat.lt_of_lt_of_le hk h.size) (fun e => by have := hr k e.symm; omega)).trans (h.block k hk)⟩
set_option maxHeartbeats 1000000 in
theorem ts_step (l : List PT) (hsz : l.length ≤ 1000000) (HT : ∀ t ∈ l, ToOk t) : TsOk l := by
  intro A w v h
  obtain ⟨i0, hi, hz0, hz1, hz2⟩ := info_parts info44
  obtain ⟨a0, cap, xs, rfl, -, -⟩ := id h
  have S := Lib.hid ((h.mono (A' := fun b => A b ∧ b < w.heap.size) (fun b hb ha => ⟨ha, hb⟩)))
  have HT := Lib.hid HT
  have HSZ := Lib.hid hsz
  clear h hsz
  go_enter Tryz.func51, Tryz.ntmps51
  go_wp2_with fail
  go_loopw [3, 4] (fun s3 s4 wr => ∃ (i : Nat) (ys : List Value), s4 = .int .i64 (i : Nat) ∧ i ≤ l.length ∧ Hid (Below w.heap.size w wr) ∧ Hid (wr.ownsRow w.heap.size 31 4 s3 i ys) ∧ Hid (IsCs (fun b => (A b ∨ w.heap.size ≤ b) ∧ some b ≠ s3.ownBlock) wr (encTs 31 (l.take i)) ys)) (fun _ s4 _ => l.length - (intOf s4).toNat)
  case atStart =>
    exact ⟨0, [], rfl, Nat.zero_le _, Below.refl _ _, World.ownsRow_nil _ _ _ _, (show IsCs _ _ (encTs 31 (l.take 0)) [] by rw [List.take_zero, encTs]; exact IsCs.nil _ _)⟩
  case round =>
    obtain ⟨i, ys, rfl, hil, hB, hR, hC⟩ := hrel
    have SR := Lib.hid (S.out.below hB.out)
    by_cases hi2 : i < l.length
    · have hlt : decide ((i : Int) < (l.length : Int)) = true := by simp only [decide_eq_true_eq]; omega
      have hltn : decide (i < l.length) = true := by simp only [decide_eq_true_eq]; exact hi2
      have hget : l[i]? = some l[i] := List.getElem?_eq_getElem hi2
      obtain ⟨t, ht⟩ : ∃ t, t = l[i] := ⟨_, rfl⟩
      rw [← ht] at hget
      have HGT := Lib.hid hget
      have hmem : t ∈ l := by rw [ht]; exact List.getElem_mem hi2
      have HTO := Lib.hid (HT.out t hmem)
      have hSR := SR.out
      rw [encTs_flat] at hSR
      obtain ⟨g, o, cs, rfl, hg, hcs, hcell⟩ := Sub.at (encT_length 26) hSR hget (by omega)
      obtain ⟨tk, tn, a2, n2, c2, a3, n3, c3, rfl⟩ := cells_T hcs
      have d0 := hcell 0 _ rfl
      have d1 := hcell 1 _ rfl
      have d2 := hcell 2 _ rfl
      have d3 := hcell 3 _ rfl
      rw [Nat.add_zero] at d0
      have HCS := Lib.hid hcs
      clear hget ht hmem hSR hcs hcell
      have hbig := HSZ.out
      go_wp2_with fail
      refine (HTO.out _ wr _ HCS.out).mono ?_
      rintro e w3 ⟨us, rfl, b3, i3⟩
      obtain ⟨k', n', ns', l'⟩ := t
      obtain ⟨v2, v3, rfl, hv2, hv3⟩ := cells_TT i3
      obtain ⟨xs2, r2, -, -⟩ := hv2.unrow
      obtain ⟨x2, y2, rfl⟩ := row_slice r2
      obtain ⟨xs3, r3, -, -⟩ := hv3.unrow
      obtain ⟨x3, y3, rfl⟩ := row_slice r3
      have hb3 : Below w.heap.size w (w3.alloc (.cells #[.int .i64 (k' : Nat), .string ⟨n'.toArray⟩, .slice x2 ns'.length y2, .slice x3 l'.length y3] 31)) := (hB.out.trans (b3.mono hB.out.size)).alloc (Nat.le_trans hB.out.size b3.size) _
      have HB3 := Lib.hid hb3
      have R3 := Lib.hid ((row_below hR.out b3).alloc (.cells #[.int .i64 (k' : Nat), .string ⟨n'.toArray⟩, .slice x2 ns'.length y2, .slice x3 l'.length y3] 31))
      have C3 := Lib.hid ((hC.out.below b3).below ((Below.refl _ _).alloc (Nat.le_refl _) (.cells #[.int .i64 (k' : Nat), .string ⟨n'.toArray⟩, .slice x2 ns'.length y2, .slice x3 l'.length y3] 31)))
      have E3 := Lib.hid ((i3.mono (A' := fun b => (A b ∨ w.heap.size ≤ b) ∧ some b ≠ u3.ownBlock) (fun b _ hb => by
        rcases hb with hb | hb
        · exact ⟨.inl hb.1, fun e => by have := (hR.out.lt b e.symm).1; omega⟩
        · exact ⟨.inr (Nat.le_trans hB.out.size hb), fun e => by have := (hR.out.lt b e.symm).2; omega⟩)).below ((Below.refl _ _).alloc (Nat.le_refl _) (.cells #[.int .i64 (k' : Nat), .string ⟨n'.toArray⟩, .slice x2 ns'.length y2, .slice x3 l'.length y3] 31)))
      have HNB := Lib.hid (World.news_of_block (heap_alloc_new w3 (.cells #[.int .i64 (k' : Nat), .string ⟨n'.toArray⟩, .slice x2 ns'.length y2, .slice x3 l'.length y3] 31)))
      have HONE := Lib.hid (i3.one)
      have hmx : i + 1 ≤ maxLen := by unfold maxLen; omega
      have hmb : (i + 1) * 72 ≤ 140737488355328 := by omega
      have HR := Lib.hid hR.out
      have HBS := Lib.hid (show w.heap.size ≤ (w3.alloc (.cells #[.int .i64 (k' : Nat), .string ⟨n'.toArray⟩, .slice x2 ns'.length y2, .slice x3 l'.length y3] 31)).heap.size from hb3.size)
      clear b3 i3 hv2 hv3 r2 r3 hb3
      go_wp2_with (first | (at_builtin; refine wpList_append_lies _ rfl (.tmp 11) (.tmp 17) 29 rfl w.heap.size 31 i0 _ 4 72 Tryz.underlying29 hi hz0 hz1 hz2 rfl (by decide) u3 i ys rfl R3.out ⟨w3.heap.size, 0, none⟩ 1 1 [.int .i64 (k' : Nat), .string ⟨n'.toArray⟩, .slice x2 ns'.length y2, .slice x3 l'.length y3] rfl rfl HNB.out HONE.out (by decide) hmx hmb HBS.out (w3.heap.size + 1) (World.size_alloc _ _) ?_; intro g' cap' w4 hown4 hg4 hat4 hlt4))
      refine ⟨⟨i + 1, ys ++ [.int .i64 (k' : Nat), .string ⟨n'.toArray⟩, .slice x2 ns'.length y2, .slice x3 l'.length y3], by simp, by omega, Lib.hid (below_grown HB3.out hg4 (fun b hb => (HR.out.lt b hb).1)), Lib.hid hown4, Lib.hid ?_⟩, ?_⟩
      · have c1 := (C3.out.mono (A' := fun b => (A b ∨ w.heap.size ≤ b) ∧ some b ≠ u3.ownBlock ∧ b < w3.heap.size + 1) (fun b hb hb' => ⟨hb'.1, hb'.2, by simpa using hb⟩)).grown hg4 (fun b hb e => hb.2.1 e)
        have c2 := (E3.out.mono (A' := fun b => (A b ∨ w.heap.size ≤ b) ∧ some b ≠ u3.ownBlock ∧ b < w3.heap.size + 1) (fun b hb hb' => ⟨hb'.1, hb'.2, by simpa using hb⟩)).grown hg4 (fun b hb e => hb.2.1 e)
        have e1 : encTs 31 (l.take (i + 1)) = encTs 31 (l.take i) ++ encT 31 (.mk k' n' ns' l') := by
          rw [List.take_add_one, HGT.out, Option.toList_some, encTs_append, encTs, encTs, List.append_nil]
        show IsCs _ _ (encTs 31 (l.take (i + 1))) _
        rw [e1]
        refine (c1.append _ _ _ _ c2).mono (fun b _ hb => ⟨hb.1, ?_⟩)
        rcases hat4 with e | e
        · intro e2; exact hb.2.1 (e2.trans e.symm)
        · intro e2
          have : b = g' := Option.some.inj e2
          omega
      · simp [intOf]; omega
    · have hge : i = l.length := by omega
      have hlt : decide ((i : Int) < (l.length : Int)) = false := by simp only [decide_eq_false_iff_not]; omega
      have hltn : decide (i < l.length) = false := by simp only [decide_eq_false_iff_not]; exact hi2
      have HGE := Lib.hid hge
      clear hge
      go_wp2_with fail
      go_ret
      have hc := hC.out
      have hr := hR.out
      rw [HGE.out] at hr hc
      rw [List.take_length] at hc
      exact ⟨u3, rfl, hB.out, IsC.row (by decide) hr (fun b hb => .inr (hr.lt b hb).1) (hc.mono (fun b _ hb => hb.1))⟩
theorem ts_any : ∀ (N : Nat), (∀ t, szT t ≤ N → szT t ≤ 1000000 → ToOk t) ∧ (∀ l, szTs l ≤ N → szTs l ≤ 1000000 → TsOk l)
  | 0 => by
    refine ⟨fun t h => absurd (szT_pos t) (by omega), fun l h _ => ?_⟩
    have := szTs_len l
    obtain rfl : l = [] := List.eq_nil_of_length_eq_zero (by omega)
    exact ts_step [] (by simp) (by simp)
  | N + 1 => by
    have ih := ts_any N
    have hT : ∀ t, szT t ≤ N + 1 → szT t ≤ 1000000 → ToOk t := by
      rintro ⟨k, n, ns, l⟩ h h2
      rw [szT] at h h2
      exact to_step k n ns l (ih.2 l (by omega) (by omega))
    refine ⟨hT, fun l h h2 => ts_step l (by have := szTs_len l; omega) fun t ht => ?_⟩
    obtain ⟨i, hi, rfl⟩ := List.getElem_of_mem ht
    have := szTs_get l i _ (List.getElem?_eq_getElem hi)
    exact hT _ (by omega) (by omega)
theorem tsOk (l : List PT) (h : szTs l ≤ 1000000) : TsOk l := (ts_any (szTs l)).2 l (Nat.le_refl _) h
theorem toOk (t : PT) (h : szT t ≤ 1000000) : ToOk t := (ts_any (szT t)).1 t (Nat.le_refl _) h
end Go.Proofs.YtijnjoonbjdafaaGreatDoor
/-
  The laws' own expressions: the program's told as the document's.
-/
namespace Go.Proofs.YtijnjoonbjdafaaGreatDoor
set_option maxRecDepth 20000
open Go.RowKit Go.Shelf
theorem info54 : (Tryz.prog.info? 41).map (fun i => (i.zero, i.size, i.bytes)) = some (some (.agg #[.int .i64 0, .int .i64 0, .string ⟨#[]⟩, .int .i64 0, .slice none 0 0, .slice none 0 0, .slice none 0 0]), 7, 112) := by kernel_rfl
theorem cells_EE {e f : TypeId} {A : Nat → Prop} {w : World} {k a : Nat} {n : Bs} {m : Nat} {ns : List Bs} {l : List PE} {ts : List PT} {cs : List Value} (h : IsCs A w (encE e f (.mk k a n m ns l ts)) cs) : ∃ v4 v5 v6, cs = [.int .i64 k, .int .i64 a, .string ⟨n.toArray⟩, .int .i64 m, v4, v5, v6] ∧ IsC A w (.row 9 1 ns.length (ns.map .str)) v4 ∧ IsC A w (.row f 7 l.length (encEs e f l)) v5 ∧ IsC A w (.row e 4 ts.length (encTs e ts)) v6 := by
  rw [encE] at h
  obtain ⟨x0, ys, rfl, k0, h⟩ := h.uncons
  obtain ⟨x1, ys, rfl, k1, h⟩ := h.uncons
  obtain ⟨x2, ys, rfl, k2, h⟩ := h.uncons
  obtain ⟨x3, ys, rfl, k3, h⟩ := h.uncons
  obtain ⟨x4, ys, rfl, k4, h⟩ := h.uncons
  obtain ⟨x5, ys, rfl, k5, h⟩ := h.uncons
  obtain ⟨x6, ys, rfl, k6, h⟩ := h.uncons
  simp only [IsC] at k0 k1 k2 k3
  obtain rfl : ys = [] := by simpa only [IsCs] using h
  subst k0 k1 k2 k3
  exact ⟨x4, x5, x6, rfl, k4, k5, k6⟩
def EsOk (l : List PE) : Prop := ∀ (A : Nat → Prop) (w : World) (v : Value), Sub A w (encEs 26 36 l) l.length v → Calls Tryz.prog 17 #[v] w (fun e w' => ∃ u, e = .returned u ∧ Below w.heap.size w w' ∧ IsC (fun b => A b ∨ w.heap.size ≤ b) w' (.row 41 7 l.length (encEs 31 41 l)) u)
set_option maxHeartbeats 1000000 in
theorem es_step (l : List PE) (hsz : l.length ≤ 1000000) (HE : ∀ k a n m ns l' ts, PE.mk k a n m ns l' ts ∈ l → EsOk l' ∧ TsOk ts) : EsOk l := by
  intro A w v h
  obtain ⟨i0, hi, hz0, hz1, hz2⟩ := info_parts info54
  obtain ⟨a0, cap, xs, rfl, -, -⟩ := id h
  have S := Lib.hid ((h.mono (A' := fun b => A b ∧ b < w.heap.size) (fun b hb ha => ⟨ha, hb⟩)))
  have HE := Lib.hid HE
  have HSZ := Lib.hid hsz
  clear h hsz
  go_enter Tryz.func17, Tryz.ntmps17
  go_wp2_with fail
  go_loopw [3, 4] (fun s3 s4 wr => ∃ (i : Nat) (ys : List Value), s4 = .int .i64 (i : Nat) ∧ i ≤ l.length ∧ Hid (Below w.heap.size w wr) ∧ Hid (wr.ownsRow w.heap.size 41 7 s3 i ys) ∧ Hid (IsCs (fun b => (A b ∨ w.heap.size ≤ b) ∧ some b ≠ s3.ownBlock) wr (encEs 31 41 (l.take i)) ys)) (fun _ s4 _ => l.length - (intOf s4).toNat)
  case atStart =>
    exact ⟨0, [], rfl, Nat.zero_le _, Below.refl _ _, World.ownsRow_nil _ _ _ _, (show IsCs _ _ (encEs 31 41 (l.take 0)) [] by rw [List.take_zero, encEs]; exact IsCs.nil _ _)⟩
  case round =>
    obtain ⟨i, ys, rfl, hil, hB, hR, hC⟩ := hrel
    have SR := Lib.hid (S.out.below hB.out)
    by_cases hi2 : i < l.length
    · have hlt : decide ((i : Int) < (l.length : Int)) = true := by simp only [decide_eq_true_eq]; omega
      have hltn : decide (i < l.length) = true := by simp only [decide_eq_true_eq]; exact hi2
      have hget : l[i]? = some l[i] := List.getElem?_eq_getElem hi2
      obtain ⟨t, ht⟩ : ∃ t, t = l[i] := ⟨_, rfl⟩
      rw [← ht] at hget
      have HGT := Lib.hid hget
      have hmem : t ∈ l := by rw [ht]; exact List.getElem_mem hi2
      have hSR := SR.out
      rw [encEs_flat] at hSR
      obtain ⟨g, o, cs, rfl, hg, hcs, hcell⟩ := Sub.at (encE_length 26 36) hSR hget (by omega)
      clear ht
      obtain ⟨k, a, n, m, ns, l', ts⟩ := t
      obtain ⟨v4, v5, v6, rfl, h4, h5, h6⟩ := cells_EE hcs
      obtain ⟨H1, H2⟩ := HE.out k a n m ns l' ts hmem
      obtain ⟨_, r4, -, -⟩ := h4.unrow
      obtain ⟨a4, c4, rfl⟩ := row_slice r4
      obtain ⟨_, r5, -, -⟩ := h5.unrow
      obtain ⟨a5, c5, rfl⟩ := row_slice r5
      obtain ⟨_, r6, -, -⟩ := h6.unrow
      obtain ⟨a6, c6, rfl⟩ := row_slice r6
      have d0 := hcell 0 _ rfl
      have d1 := hcell 1 _ rfl
      have d2 := hcell 2 _ rfl
      have d3 := hcell 3 _ rfl
      have d4 := hcell 4 _ rfl
      have d5 := hcell 5 _ rfl
      have d6 := hcell 6 _ rfl
      rw [Nat.add_zero] at d0
      have G4 := Lib.hid h4
      have G5 := Lib.hid (Sub.of_row h5 (by rw [encEs_flat]; exact flat_length (encE_length 26 36) l'))
      have G6 := Lib.hid (Sub.of_row h6 (by rw [encTs_flat]; exact flat_length (encT_length 26) ts))
      have H1 := Lib.hid H1
      have H2 := Lib.hid H2
      have hbig := HSZ.out
      have HTH := Lib.hid (there_of (heap_alloc_new wr zE) (n := 7) rfl)
      clear hget hmem hSR hcs hcell h4 h5 h6 r4 r5 r6
      go_wp2_with (first | (refine wpList_store_put rfl 36 (.tmp 5) (.tmp 15) rfl wr.heap.size _ rfl rfl HTH.out size49 (all_oneCell_toArray (by simp [Value.oneCell'])) ?_; intro W9 hW9))
      have e9 : W9 = putL (wr.alloc zE) wr.heap.size [.int .i64 (k : Nat), .int .i64 (a : Nat), .string ⟨n.toArray⟩, .int .i64 (m : Nat), .slice a4 ns.length c4, .slice a5 l'.length c5, .slice a6 ts.length c6] := hW9.out
      have hA9 : Sev W9 wr.heap.size 36 (.int .i64 (k : Nat)) (.int .i64 (a : Nat)) (.string ⟨n.toArray⟩) (.int .i64 (m : Nat)) (.slice a4 ns.length c4) (.slice a5 l'.length c5) (.slice a6 ts.length c6) := by rw [e9]; exact putL_at (vs := [.int .i64 (k : Nat), .int .i64 (a : Nat), .string ⟨n.toArray⟩, .int .i64 (m : Nat), .slice a4 ns.length c4, .slice a5 l'.length c5, .slice a6 ts.length c6]) (heap_alloc_new wr zE) rfl
      have hBR : Below wr.heap.size wr W9 := by rw [e9]; exact Below.putL ((Below.refl _ _).alloc (Nat.le_refl _) _) (Nat.le_refl _) _
      have hS9 : W9.heap.size = wr.heap.size + 1 := by rw [e9, (putL_same _ _ _ _).2.2.2, World.size_alloc]
      obtain ⟨b5, hb5⟩ : ∃ b, b = wr.heap.size := ⟨_, rfl⟩
      rw [← hb5] at hA9 ⊢
      have HB5 := Lib.hid hb5
      have HA9 := Lib.hid hA9
      have HBR := Lib.hid hBR
      have HS9 := Lib.hid hS9
      have HB9 := Lib.hid (hB.out.trans (hBR.mono hB.out.size))
      have HC1 : Hid (∀ X : World, Below W9.heap.size W9 X → Calls Tryz.prog 17 #[.slice a5 l'.length c5] X (fun e w' => ∃ u, e = .returned u ∧ Below W9.heap.size W9 w' ∧ IsC (fun b => (A b ∧ b < w.heap.size) ∨ W9.heap.size ≤ b) w' (.row 41 7 l'.length (encEs 31 41 l')) u)) := by
        intro X hX
        refine (H1.out _ X _ ((G5.out.below HBR.out).below hX)).mono ?_
        rintro e w' ⟨u, q1, q2, q3⟩
        exact ⟨u, q1, hX.trans (q2.mono hX.size), q3.mono (fun b _ hb => hb.imp id (Nat.le_trans hX.size))⟩
      have HC2 : Hid (∀ W X : World, Below W9.heap.size W9 W → X.heap = W.heap ∧ X.os = W.os ∧ X.tape = W.tape ∧ X.output = W.output → Calls Tryz.prog 51 #[.slice a6 ts.length c6] X (fun e w' => ∃ u, e = .returned u ∧ Below W.heap.size W w' ∧ IsC (fun b => (A b ∧ b < w.heap.size) ∨ W9.heap.size ≤ b) w' (.row 31 4 ts.length (encTs 31 ts)) u)) := by
        rintro W X hW ⟨e1, e2, e3, e4⟩
        have hX : Below W.heap.size W X := ⟨e2, e3, e4, by rw [e1]; exact Nat.le_refl _, fun k _ => by rw [e1]⟩
        refine (H2.out _ X _ (((G6.out.below HBR.out).below hW).below hX)).mono ?_
        rintro e w' ⟨u, q1, q2, q3⟩
        rw [e1] at q2 q3
        exact ⟨u, q1, hX.trans q2, q3.mono (fun b _ hb => hb.imp id (Nat.le_trans hW.size))⟩
      obtain ⟨⟨p0, p1, p2, p3, p4, p5, p6⟩, t0, t1, t2, t3, t4, t5, t6⟩ := sev_of HA9.out
      have hmx : i + 1 ≤ maxLen := by unfold maxLen; omega
      have hmb : (i + 1) * 112 ≤ 140737488355328 := by omega
      clear hW9 e9 hA9 hBR hS9 hb5 HTH d0 d1 d2 d3 d4 d5 d6
      go_region_held3 (fun w' => w'.cell? ⟨b5, 0, none⟩ = some (.int .i64 (k : Nat)) ∧ w'.cell? ⟨b5, 1, none⟩ = some (.int .i64 (a : Nat)) ∧ w'.cell? ⟨b5, 2, none⟩ = some (.string ⟨n.toArray⟩) ∧ w'.cell? ⟨b5, 3, none⟩ = some (.int .i64 (m : Nat)) ∧ w'.cell? ⟨b5, 4, none⟩ = some (.slice a4 ns.length c4) ∧ w'.cell? ⟨b5, 5, none⟩ = some (.slice a5 l'.length c5) ∧ w'.cell? ⟨b5, 6, none⟩ = some (.slice a6 ts.length c6)) (go_keep)
        (first
          | (go_at_call 17; refine (HC1.out _ ?_).mono ?_; exact ⟨rfl, rfl, rfl, Nat.le_refl _, fun _ _ => rfl⟩; rintro e w3 ⟨u5, rfl, b3, i3⟩; obtain ⟨_, r5, -, -⟩ := i3.unrow; obtain ⟨x5, y5, rfl⟩ := row_slice r5; obtain ⟨⟨s0, s1, s2, s3, s4, s5, s6⟩, -⟩ := sev_of (show Sev w3 b5 36 (.int .i64 (k : Nat)) (.int .i64 (a : Nat)) (.string ⟨n.toArray⟩) (.int .i64 (m : Nat)) (.slice a4 ns.length c4) (.slice a5 l'.length c5) (.slice a6 ts.length c6) from (b3.block _ (by rw [HS9.out, HB5.out]; omega)).trans HA9.out); (have B3 := Lib.hid b3); (have I3 := Lib.hid i3); clear b3 i3 r5)
          | (go_at_call 51; refine (HC2.out w3 _ B3.out ⟨rfl, rfl, rfl, rfl⟩).mono ?_; rintro e w4 ⟨u6, rfl, b4, i4⟩; obtain ⟨_, r6, -, -⟩ := i4.unrow; obtain ⟨x6, y6, rfl⟩ := row_slice r6; obtain ⟨⟨s0, s1, s2, s3, s4, s5, s6⟩, -⟩ := sev_of (show Sev w4 b5 36 (.int .i64 (k : Nat)) (.int .i64 (a : Nat)) (.string ⟨n.toArray⟩) (.int .i64 (m : Nat)) (.slice a4 ns.length c4) (.slice a5 l'.length c5) (.slice a6 ts.length c6) from (b4.block _ (by have := B3.out.size; have := HS9.out; have := HB5.out; omega)).trans ((B3.out.block _ (by rw [HS9.out, HB5.out]; omega)).trans HA9.out)); (have hn1 : ¬ b5 = w4.heap.size := by have := b4.size; have := B3.out.size; have := HS9.out; have := HB5.out; omega); (have hn2 : b5 < w4.heap.size := by have := b4.size; have := B3.out.size; have := HS9.out; have := HB5.out; omega); (have B4 := Lib.hid b4); (have I4 := Lib.hid i4);
             (have R4 := Lib.hid ((row_below (row_below (row_below hR.out HBR.out) B3.out) b4).alloc (.cells #[.int .i64 (k : Nat), .int .i64 (a : Nat), .string ⟨n.toArray⟩, .int .i64 (m : Nat), .slice a4 ns.length c4, .slice x5 l'.length y5, .slice x6 ts.length y6] 41))); (have HNB := Lib.hid (World.news_of_block (heap_alloc_new w4 (.cells #[.int .i64 (k : Nat), .int .i64 (a : Nat), .string ⟨n.toArray⟩, .int .i64 (m : Nat), .slice a4 ns.length c4, .slice x5 l'.length y5, .slice x6 ts.length y6] 41)))); (have HONE := Lib.hid (show ∀ u ∈ ([.int .i64 (k : Nat), .int .i64 (a : Nat), .string ⟨n.toArray⟩, .int .i64 (m : Nat), .slice a4 ns.length c4, .slice x5 l'.length y5, .slice x6 ts.length y6] : List Value), u.oneCell' = true by intro u hu; simp only [List.mem_cons, List.not_mem_nil, or_false] at hu; rcases hu with rfl | rfl | rfl | rfl | rfl | rfl | rfl <;> rfl)); (have HBS := Lib.hid (show w.heap.size ≤ (w4.alloc (.cells #[.int .i64 (k : Nat), .int .i64 (a : Nat), .string ⟨n.toArray⟩, .int .i64 (m : Nat), .slice a4 ns.length c4, .slice x5 l'.length y5, .slice x6 ts.length y6] 41)).heap.size by rw [World.size_alloc]; have := b4.size; have := B3.out.size; have := HB9.out.size; omega)); clear b4 i4 r6)
          | (refine step_append_lies _ rfl (.tmp 16) (.tmp 34) 39 rfl w.heap.size 41 i0 _ 7 112 Tryz.underlying39 hi hz0 hz1 hz2 rfl (by decide) u3 i ys rfl R4.out ⟨w4.heap.size, 0, none⟩ 1 1 [.int .i64 (k : Nat), .int .i64 (a : Nat), .string ⟨n.toArray⟩, .int .i64 (m : Nat), .slice a4 ns.length c4, .slice x5 l'.length y5, .slice x6 ts.length y6] rfl rfl HNB.out HONE.out (by decide) hmx hmb HBS.out (w4.heap.size + 1) (World.size_alloc _ _) ?_; intro g' cap' w5 hown5 hg5 hat5 hlt5; obtain ⟨⟨s0, s1, s2, s3, s4, s5, s6⟩, -⟩ := sev_of (show Sev w5 b5 36 (.int .i64 (k : Nat)) (.int .i64 (a : Nat)) (.string ⟨n.toArray⟩) (.int .i64 (m : Nat)) (.slice a4 ns.length c4) (.slice a5 l'.length c5) (.slice a6 ts.length c6) from (hg5.block _ (by rw [World.size_alloc]; omega) (fun e => by have := (hR.out.lt b5 e.symm).2; have := HB5.out; omega)).trans ((Below.heap_alloc _ _ _ hn2).trans ((B4.out.block _ (by have := B3.out.size; have := HS9.out; have := HB5.out; omega)).trans ((B3.out.block _ (by rw [HS9.out, HB5.out]; omega)).trans HA9.out))))))
      go_wp2_with fail
      have HB4 : Below w.heap.size w (w4.alloc (.cells #[.int .i64 (k : Nat), .int .i64 (a : Nat), .string ⟨n.toArray⟩, .int .i64 (m : Nat), .slice a4 ns.length c4, .slice x5 l'.length y5, .slice x6 ts.length y6] 41)) := (HB9.out.trans ((B3.out.trans (B4.out.mono B3.out.size)).mono HB9.out.size)).alloc (Nat.le_trans HB9.out.size (Nat.le_trans B3.out.size B4.out.size)) _
      have hal : Below w4.heap.size w4 (w4.alloc (.cells #[.int .i64 (k : Nat), .int .i64 (a : Nat), .string ⟨n.toArray⟩, .int .i64 (m : Nat), .slice a4 ns.length c4, .slice x5 l'.length y5, .slice x6 ts.length y6] 41)) := (Below.refl _ _).alloc (Nat.le_refl _) _
      refine ⟨⟨i + 1, ys ++ [.int .i64 (k : Nat), .int .i64 (a : Nat), .string ⟨n.toArray⟩, .int .i64 (m : Nat), .slice a4 ns.length c4, .slice x5 l'.length y5, .slice x6 ts.length y6], by simp, by omega, Lib.hid (below_grown HB4 hg5 (fun b hb => (hR.out.lt b hb).1)), Lib.hid hown5, Lib.hid ?_⟩, ?_⟩
      · have c1 := (((((hC.out.below HBR.out).below B3.out).below B4.out).below hal).mono (A' := fun b => (A b ∨ w.heap.size ≤ b) ∧ some b ≠ u3.ownBlock ∧ b < w4.heap.size + 1) (fun b hb hb' => ⟨hb'.1, hb'.2, by simpa using hb⟩)).grown hg5 (fun b hb e => hb.2.1 e)
        have hno : ∀ b, W9.heap.size ≤ b → some b ≠ u3.ownBlock := fun b hb e => by have := (hR.out.lt b e.symm).2; have := HBR.out.size; omega
        have hno2 : ∀ b, b < w.heap.size → some b ≠ u3.ownBlock := fun b hb e => by have := (hR.out.lt b e.symm).1; omega
        have q5 := (I3.out.below B4.out).mono (A' := fun b => (A b ∨ w.heap.size ≤ b) ∧ some b ≠ u3.ownBlock) (fun b _ hb => hb.elim (fun hb => ⟨.inl hb.1, hno2 b hb.2⟩) (fun hb => ⟨.inr (Nat.le_trans HB9.out.size hb), hno b hb⟩))
        have q6 := I4.out.mono (A' := fun b => (A b ∨ w.heap.size ≤ b) ∧ some b ≠ u3.ownBlock) (fun b _ hb => hb.elim (fun hb => ⟨.inl hb.1, hno2 b hb.2⟩) (fun hb => ⟨.inr (Nat.le_trans HB9.out.size hb), hno b hb⟩))
        have q4 := (((G4.out.below HBR.out).below B3.out).below B4.out).mono (A' := fun b => (A b ∨ w.heap.size ≤ b) ∧ some b ≠ u3.ownBlock) (fun b _ hb => ⟨.inl hb.1, hno2 b hb.2⟩)
        have q0 : IsCs (fun b => (A b ∨ w.heap.size ≤ b) ∧ some b ≠ u3.ownBlock) w4 (encE 31 41 (.mk k a n m ns l' ts)) [.int .i64 (k : Nat), .int .i64 (a : Nat), .string ⟨n.toArray⟩, .int .i64 (m : Nat), .slice a4 ns.length c4, .slice x5 l'.length y5, .slice x6 ts.length y6] := by
          rw [encE]
          exact .cons (.num _ _ _) (.cons (.num _ _ _) (.cons (.str _ _ _) (.cons (.num _ _ _) (.cons q4 (.cons q5 (.cons q6 (.nil _ _)))))))
        have c2 := ((q0.below hal).mono (A' := fun b => (A b ∨ w.heap.size ≤ b) ∧ some b ≠ u3.ownBlock ∧ b < w4.heap.size + 1) (fun b hb hb' => ⟨hb'.1, hb'.2, by simpa using hb⟩)).grown hg5 (fun b hb e => hb.2.1 e)
        have e1 : encEs 31 41 (l.take (i + 1)) = encEs 31 41 (l.take i) ++ encE 31 41 (.mk k a n m ns l' ts) := by
          rw [List.take_add_one, HGT.out, Option.toList_some, encEs_append, encEs, encEs, List.append_nil]
        show IsCs _ _ (encEs 31 41 (l.take (i + 1))) _
        rw [e1]
        refine (c1.append _ _ _ _ c2).mono (fun b _ hb => ⟨hb.1, ?_⟩)
        rcases hat5 with e | e
        · intro e2; exact hb.2.1 (e2.trans e.symm)
        · intro e2
          have : b = g' := Option.some.inj e2
          omega
      · simp [intOf]; omega
    · have hge : i = l.length := by omega
      have hlt : decide ((i : Int) < (l.length : Int)) = false := by simp only [decide_eq_false_iff_not]; omega
      have hltn : decide (i < l.length) = false := by simp only [decide_eq_false_iff_not]; exact hi2
      have HGE := Lib.hid hge
      clear hge
      go_wp2_with fail
      go_ret
      have hc := hC.out
      have hr := hR.out
      rw [HGE.out] at hr hc
      rw [List.take_length] at hc
      exact ⟨u3, rfl, hB.out, IsC.row (by decide) hr (fun b hb => .inr (hr.lt b hb).1) (hc.mono (fun b _ hb => hb.1))⟩
theorem es_any : ∀ (N : Nat) (l : List PE), szEs l ≤ N → szEs l ≤ 1000000 → EsOk l
  | 0, l, h, _ => by
    have := szEs_len l
    obtain rfl : l = [] := List.eq_nil_of_length_eq_zero (by omega)
    exact es_step [] (by simp) (fun _ _ _ _ _ _ _ h => by cases h)
  | N + 1, l, h, h2 => by
    refine es_step l (by have := szEs_len l; omega) fun k a n m ns l' ts hm => ?_
    obtain ⟨i, hi, he⟩ := List.getElem_of_mem hm
    have h3 := szEs_get l i _ (List.getElem?_eq_getElem hi)
    rw [he, szE] at h3
    exact ⟨es_any N l' (by omega) (by omega), tsOk ts (by omega)⟩
theorem esOk (l : List PE) (h : szEs l ≤ 1000000) : EsOk l := es_any (szEs l) l (Nat.le_refl _) h
end Go.Proofs.YtijnjoonbjdafaaGreatDoor
/-
  The laws' own declarations: the program's told as the document's.
-/
namespace Go.Proofs.YtijnjoonbjdafaaGreatDoor
set_option maxRecDepth 20000
open Go.RowKit Go.Shelf
end Go.Proofs.YtijnjoonbjdafaaGreatDoor
/-
  The document's Same, of two that are alike: names, types.
-/
namespace Go.Proofs.YtijnjoonbjdafaaGreatDoor
set_option maxRecDepth 20000
open Go.RowKit Go.Shelf
theorem strs_flat : ∀ ns : List Bs, ns.map Dt.str = ns.flatMap fun s => [Dt.str s]
  | [] => rfl
  | x :: r => by rw [List.map_cons, strs_flat r]; rfl
def Tells (w : World) (e : Ending) (w' : World) : Prop := e = .returned (.bool true) ∧ Below w.heap.size w w'
set_option maxHeartbeats 1000000 in
theorem names_any (ns : List Bs) (hsz : ns.length ≤ 1000000) (A A' : Nat → Prop) (w : World) (v1 v2 : Value) (h1 : Sub A w (ns.map .str) ns.length v1) (h2 : Sub A' w (ns.map .str) ns.length v2) : Calls Tryz.prog 49 #[v1, v2] w (Tells w) := by
  obtain ⟨a0, cap, _, rfl, -, -⟩ := id h1
  obtain ⟨b0, bcap, _, rfl, -, -⟩ := id h2
  rw [strs_flat] at h1 h2
  have S1 := Lib.hid h1
  have S2 := Lib.hid h2
  have HSZ := Lib.hid hsz
  clear h1 h2 hsz
  go_enter Tryz.func49, Tryz.ntmps49
  go_wp2_with fail
  go_loopw [5] (fun s5 wr => ∃ i : Nat, s5 = .int .i64 (i : Nat) ∧ i ≤ ns.length ∧ Hid (Below w.heap.size w wr)) (fun s5 _ => ns.length - (intOf s5).toNat)
  case atStart => exact ⟨0, rfl, Nat.zero_le _, Below.refl _ _⟩
  case round =>
    obtain ⟨i, rfl, hil, hB⟩ := hrel
    by_cases hi2 : i < ns.length
    · have hlt : decide ((i : Int) < (ns.length : Int)) = true := by simp only [decide_eq_true_eq]; omega
      have hltn : decide (i < ns.length) = true := by simp only [decide_eq_true_eq]; exact hi2
      obtain ⟨s, hget⟩ : ∃ s, ns[i]? = some s := ⟨_, List.getElem?_eq_getElem hi2⟩
      obtain ⟨g, o, cs, rfl, hg, hcs, hcell⟩ := Sub.at (k := 1) (fun _ => rfl) (S1.out.below hB.out) hget (by omega)
      obtain ⟨g', o', cs', rfl, hg', hcs', hcell'⟩ := Sub.at (k := 1) (fun _ => rfl) (S2.out.below hB.out) hget (by omega)
      obtain ⟨x, ys, rfl, k0, -⟩ := hcs.uncons
      obtain ⟨x', ys', rfl, k0', -⟩ := hcs'.uncons
      simp only [IsC] at k0 k0'
      subst k0 k0'
      have d0 := hcell 0 _ rfl
      have d0' := hcell' 0 _ rfl
      rw [Nat.add_zero, Nat.mul_one] at d0 d0'
      have hbig := HSZ.out
      clear hget hcs hcs' hcell hcell'
      go_wp2_with fail
      go_quiet (fail)
      go_wp2_with fail
      refine ⟨⟨i + 1, by simp, by omega, Lib.hid ?_⟩, ?_⟩
      · exact hB.out.trans ⟨rfl, rfl, rfl, Nat.le_refl _, fun _ _ => rfl⟩
      · simp [intOf]; omega
    · have hge : i = ns.length := by omega
      have hlt : decide ((i : Int) < (ns.length : Int)) = false := by simp only [decide_eq_false_iff_not]; omega
      have hltn : decide (i < ns.length) = false := by simp only [decide_eq_false_iff_not]; exact hi2
      clear hge
      go_wp2_with fail
      go_ret
      exact ⟨rfl, hB.out⟩
def SmOk (t : PT) : Prop := ∀ (A A' : Nat → Prop) (w : World) (cs cs' : List Value), IsCs A w (encT 31 t) cs → IsCs A' w (encT 31 t) cs' → Calls Tryz.prog 14 #[.agg cs.toArray, .agg cs'.toArray] w (Tells w)
def SaOk (l : List PT) : Prop := ∀ (A A' : Nat → Prop) (w : World) (v v' : Value), Sub A w (encTs 31 l) l.length v → Sub A' w (encTs 31 l) l.length v' → Calls Tryz.prog 50 #[v, v'] w (Tells w)
set_option maxHeartbeats 1000000 in
theorem same_step (k : Nat) (n : Bs) (ns : List Bs) (l : List PT) (hn : ns.length ≤ 1000000) (HA : SaOk l) : SmOk (.mk k n ns l) := by
  intro A A' w cs cs' h h'
  obtain ⟨v2, v3, rfl, h2, h3⟩ := cells_TT h
  obtain ⟨u2, u3, rfl, q2, q3⟩ := cells_TT h'
  obtain ⟨_, r2, -, -⟩ := h2.unrow
  obtain ⟨a2, c2, rfl⟩ := row_slice r2
  obtain ⟨_, r3, -, -⟩ := h3.unrow
  obtain ⟨a3, c3, rfl⟩ := row_slice r3
  obtain ⟨_, r4, -, -⟩ := q2.unrow
  obtain ⟨b2, e2, rfl⟩ := row_slice r4
  obtain ⟨_, r5, -, -⟩ := q3.unrow
  obtain ⟨b3, e3, rfl⟩ := row_slice r5
  have S2 := Lib.hid (Sub.of_row h2 (by simp))
  have S3 := Lib.hid (Sub.of_row h3 (by rw [encTs_flat]; exact flat_length (encT_length 31) l))
  have T2 := Lib.hid (Sub.of_row q2 (by simp))
  have T3 := Lib.hid (Sub.of_row q3 (by rw [encTs_flat]; exact flat_length (encT_length 31) l))
  obtain ⟨W, hW⟩ : ∃ W, W = (w.alloc (.cells #[.int .i64 k, .string ⟨n.toArray⟩, .slice a2 ns.length c2, .slice a3 l.length c3] 31)).alloc (.cells #[.int .i64 k, .string ⟨n.toArray⟩, .slice b2 ns.length e2, .slice b3 l.length e3] 31) := ⟨_, rfl⟩
  have HB := Lib.hid (show Below w.heap.size w W by rw [hW]; exact ((Below.refl _ _).alloc (Nat.le_refl _) _).alloc (by simp) _)
  have HSZ := Lib.hid (show W.heap.size = w.heap.size + 2 by rw [hW]; simp)
  have A0 := Lib.hid (show Fou W w.heap.size 31 (.int .i64 k) (.string ⟨n.toArray⟩) (.slice a2 ns.length c2) (.slice a3 l.length c3) by rw [hW]; exact blk_alloc (heap_alloc_new w _) _)
  have A1 := Lib.hid (show Fou W (w.heap.size + 1) 31 (.int .i64 k) (.string ⟨n.toArray⟩) (.slice b2 ns.length e2) (.slice b3 l.length e3) by rw [hW]; have := heap_alloc_new (w.alloc (.cells #[.int .i64 k, .string ⟨n.toArray⟩, .slice a2 ns.length c2, .slice a3 l.length c3] 31)) (.cells #[.int .i64 k, .string ⟨n.toArray⟩, .slice b2 ns.length e2, .slice b3 l.length e3] 31); rw [World.size_alloc] at this; exact this)
  obtain ⟨⟨p0, p1, p2, p3⟩, -⟩ := fou_of A0.out
  obtain ⟨⟨z0, z1, z2, z3⟩, -⟩ := fou_of A1.out
  have HN := Lib.hid (names_any ns hn)
  have HA := Lib.hid HA
  clear h h' h2 h3 q2 q3 r2 r3 r4 r5 hn
  subst hW
  go_enter Tryz.func14, Tryz.ntmps14
  go_wp2_with fail
  refine (HN.out _ _ _ _ _ (S2.out.below HB.out) (T2.out.below HB.out)).mono ?_
  rintro e w3 ⟨rfl, b3'⟩
  obtain ⟨⟨-, -, -, s3⟩, -⟩ := fou_of (show Fou w3 w.heap.size 31 (.int .i64 k) (.string ⟨n.toArray⟩) (.slice a2 ns.length c2) (.slice a3 l.length c3) from (b3'.block _ (by rw [HSZ.out]; omega)).trans A0.out)
  obtain ⟨⟨-, -, -, y3⟩, -⟩ := fou_of (show Fou w3 (w.heap.size + 1) 31 (.int .i64 k) (.string ⟨n.toArray⟩) (.slice b2 ns.length e2) (.slice b3 l.length e3) from (b3'.block _ (by rw [HSZ.out]; omega)).trans A1.out)
  have B3 := Lib.hid b3'
  clear b3'
  go_wp2_with fail
  refine (HA.out _ _ w3 _ _ ((S3.out.below HB.out).below B3.out) ((T3.out.below HB.out).below B3.out)).mono ?_
  rintro e w4 ⟨rfl, b4⟩
  go_wp2_with fail
  go_ret
  exact ⟨rfl, HB.out.trans ((B3.out.trans (b4.mono B3.out.size)).mono HB.out.size)⟩
theorem four {A : Nat → Prop} {w : World} {t : PT} {e : TypeId} {cs : List Value} (h : IsCs A w (encT e t) cs) : ∃ x0 x1 x2 x3, cs = [x0, x1, x2, x3] := by
  have := IsCs.length _ _ h
  rw [encT_length] at this
  match cs, this with
  | [x0, x1, x2, x3], _ => exact ⟨x0, x1, x2, x3, rfl⟩
set_option maxHeartbeats 1000000 in
theorem all_step (l : List PT) (hsz : l.length ≤ 1000000) (HT : ∀ t ∈ l, SmOk t) : SaOk l := by
  intro A A' w v v' h h'
  obtain ⟨a0, cap, _, rfl, -, -⟩ := id h
  obtain ⟨b0, bcap, _, rfl, -, -⟩ := id h'
  rw [encTs_flat] at h h'
  have S1 := Lib.hid h
  have S2 := Lib.hid h'
  have HT := Lib.hid HT
  have HSZ := Lib.hid hsz
  clear h h' hsz
  go_enter Tryz.func50, Tryz.ntmps50
  go_wp2_with fail
  go_loopw [5] (fun s5 wr => ∃ i : Nat, s5 = .int .i64 (i : Nat) ∧ i ≤ l.length ∧ Hid (Below w.heap.size w wr)) (fun s5 _ => l.length - (intOf s5).toNat)
  case atStart => exact ⟨0, rfl, Nat.zero_le _, Below.refl _ _⟩
  case round =>
    obtain ⟨i, rfl, hil, hB⟩ := hrel
    by_cases hi2 : i < l.length
    · have hlt : decide ((i : Int) < (l.length : Int)) = true := by simp only [decide_eq_true_eq]; omega
      have hltn : decide (i < l.length) = true := by simp only [decide_eq_true_eq]; exact hi2
      obtain ⟨t, ht⟩ : ∃ t, t = l[i] := ⟨_, rfl⟩
      have hmem : t ∈ l := by rw [ht]; exact List.getElem_mem hi2
      have hget : l[i]? = some t := by rw [ht]; exact List.getElem?_eq_getElem hi2
      obtain ⟨g, o, cs, rfl, hg, hcs, hcell⟩ := Sub.at (encT_length 31) (S1.out.below hB.out) hget (by omega)
      obtain ⟨g', o', cs', rfl, hg', hcs', hcell'⟩ := Sub.at (encT_length 31) (S2.out.below hB.out) hget (by omega)
      obtain ⟨x0, x1, x2, x3, rfl⟩ := four hcs
      obtain ⟨y0, y1, y2, y3, rfl⟩ := four hcs'
      have d0 := hcell 0 _ rfl
      have d1 := hcell 1 _ rfl
      have d2 := hcell 2 _ rfl
      have d3 := hcell 3 _ rfl
      have f0 := hcell' 0 _ rfl
      have f1 := hcell' 1 _ rfl
      have f2 := hcell' 2 _ rfl
      have f3 := hcell' 3 _ rfl
      rw [Nat.add_zero] at d0 f0
      have HG := Lib.hid hg
      have HG' := Lib.hid hg'
      have hbig := HSZ.out
      have HC : Hid (∀ X : World, X.heap = wr.heap ∧ X.os = wr.os ∧ X.tape = wr.tape ∧ X.output = wr.output → Calls Tryz.prog 14 #[.agg #[x0, x1, x2, x3], .agg #[y0, y1, y2, y3]] X (fun e w' => e = .returned (.bool true) ∧ Below wr.heap.size wr w')) := by
        rintro X ⟨e1, e2, e3, e4⟩
        have hX : Below wr.heap.size wr X := ⟨e2, e3, e4, by rw [e1]; exact Nat.le_refl _, fun k _ => by rw [e1]⟩
        refine (HT.out t hmem _ _ X _ _ (hcs.below hX) (hcs'.below hX)).mono ?_
        rintro e w' ⟨q1, q2⟩
        rw [e1] at q2
        exact ⟨q1, hX.trans q2⟩
      clear hget hcs hcs' hcell hcell' ht hmem hg hg'
      go_wp2_with fail
      go_region_held3 (fun w' => w'.cell? ⟨g, o + i * 4, none⟩ = some x0 ∧ w'.cell? ⟨g, o + i * 4 + 1, none⟩ = some x1 ∧ w'.cell? ⟨g, o + i * 4 + 2, none⟩ = some x2 ∧ w'.cell? ⟨g, o + i * 4 + 3, none⟩ = some x3 ∧ w'.cell? ⟨g', o' + i * 4, none⟩ = some y0 ∧ w'.cell? ⟨g', o' + i * 4 + 1, none⟩ = some y1 ∧ w'.cell? ⟨g', o' + i * 4 + 2, none⟩ = some y2 ∧ w'.cell? ⟨g', o' + i * 4 + 3, none⟩ = some y3) (go_keep)
        (first | (go_at_call 14; refine (HC.out _ ?_).mono ?_; exact ⟨rfl, rfl, rfl, rfl⟩; rintro e w3 ⟨rfl, b3⟩; (have s0 := (b3.cell (p := ⟨g, o + i * 4, none⟩) HG.out).trans d0); (have s1 := (b3.cell (p := ⟨g, o + i * 4 + 1, none⟩) HG.out).trans d1); (have s2 := (b3.cell (p := ⟨g, o + i * 4 + 2, none⟩) HG.out).trans d2); (have s3 := (b3.cell (p := ⟨g, o + i * 4 + 3, none⟩) HG.out).trans d3); (have z0 := (b3.cell (p := ⟨g', o' + i * 4, none⟩) HG'.out).trans f0); (have z1 := (b3.cell (p := ⟨g', o' + i * 4 + 1, none⟩) HG'.out).trans f1); (have z2 := (b3.cell (p := ⟨g', o' + i * 4 + 2, none⟩) HG'.out).trans f2); (have z3 := (b3.cell (p := ⟨g', o' + i * 4 + 3, none⟩) HG'.out).trans f3); (have B3 := Lib.hid b3); clear b3))
      go_wp2_with fail
      refine ⟨⟨i + 1, by simp, by omega, Lib.hid (hB.out.trans (B3.out.mono hB.out.size))⟩, ?_⟩
      simp [intOf]; omega
    · have hlt : decide ((i : Int) < (l.length : Int)) = false := by simp only [decide_eq_false_iff_not]; omega
      have hltn : decide (i < l.length) = false := by simp only [decide_eq_false_iff_not]; exact hi2
      go_wp2_with fail
      go_ret
      exact ⟨rfl, hB.out⟩
theorem sa_any : ∀ (N : Nat), (∀ t, szT t ≤ N → szT t ≤ 1000000 → SmOk t) ∧ (∀ l, szTs l ≤ N → szTs l ≤ 1000000 → SaOk l)
  | 0 => by
    refine ⟨fun t h => absurd (szT_pos t) (by omega), fun l h _ => ?_⟩
    have := szTs_len l
    obtain rfl : l = [] := List.eq_nil_of_length_eq_zero (by omega)
    exact all_step [] (by simp) (by simp)
  | N + 1 => by
    have ih := sa_any N
    have hT : ∀ t, szT t ≤ N + 1 → szT t ≤ 1000000 → SmOk t := by
      rintro ⟨k, n, ns, l⟩ h h2
      rw [szT] at h h2
      exact same_step k n ns l (by omega) (ih.2 l (by omega) (by omega))
    refine ⟨hT, fun l h h2 => all_step l (by have := szTs_len l; omega) fun t ht => ?_⟩
    obtain ⟨i, hi, rfl⟩ := List.getElem_of_mem ht
    have := szTs_get l i _ (List.getElem?_eq_getElem hi)
    exact hT _ (by omega) (by omega)
theorem saOk (l : List PT) (h : szTs l ≤ 1000000) : SaOk l := (sa_any (szTs l)).2 l (Nat.le_refl _) h
theorem smOk (t : PT) (h : szT t ≤ 1000000) : SmOk t := (sa_any (szT t)).1 t (Nat.le_refl _) h
end Go.Proofs.YtijnjoonbjdafaaGreatDoor
/-
  The document's SameExprs and SameDecls, of two that are alike but for places.
-/
namespace Go.Proofs.YtijnjoonbjdafaaGreatDoor
set_option maxRecDepth 20000
open Go.RowKit Go.Shelf
def EqA (at_ : Bool) (l l' : List PE) : Prop := PE.pls (fun _ => 0) l = PE.pls (fun _ => 0) l' ∧ (at_ = true → l = l')
theorem EqA.len {at_ : Bool} {l l' : List PE} (h : EqA at_ l l') : l'.length = l.length := by
  have := congrArg List.length h.1
  rw [pls_map, pls_map, List.length_map, List.length_map] at this
  exact this.symm
theorem EqA.get {at_ : Bool} {l l' : List PE} (h : EqA at_ l l') {i : Nat} {k a : Nat} {n : Bs} {m : Nat} {ns : List Bs} {L1 : List PE} {ts : List PT} (hi : l[i]? = some (.mk k a n m ns L1 ts)) : ∃ a' L2, l'[i]? = some (.mk k a' n m ns L2 ts) ∧ (at_ = true → a = a') ∧ EqA at_ L1 L2 := by
  have h1 : (PE.pls (fun _ => 0) l)[i]? = some (PE.pl (fun _ => 0) (.mk k a n m ns L1 ts)) := by rw [pls_map, List.getElem?_map, hi]; rfl
  rw [h.1, pls_map, List.getElem?_map] at h1
  cases hx : l'[i]? with
  | none => rw [hx] at h1; cases h1
  | some y =>
    rw [hx] at h1
    obtain ⟨k', a', n', m', ns', L2, ts'⟩ := y
    simp only [Option.map_some, Option.some.injEq, PE.pl, PE.mk.injEq] at h1
    obtain ⟨rfl, -, rfl, rfl, rfl, h6, rfl⟩ := h1
    refine ⟨a', L2, rfl, fun e => ?_, h6.symm, fun e => ?_⟩
    · have := h.2 e
      subst this
      rw [hi] at hx
      cases hx
      rfl
    · have := h.2 e
      subst this
      rw [hi] at hx
      cases hx
      rfl
def SeOk (at_ : Bool) (l l' : List PE) : Prop := ∀ (A A' : Nat → Prop) (w : World) (v v' : Value), Sub A w (encEs 31 41 l) l.length v → Sub A' w (encEs 31 41 l') l.length v' → Calls Tryz.prog 16 #[v, v', .bool at_] w (Tells w)
set_option maxHeartbeats 2000000 in
theorem se_step (at_ : Bool) (l l' : List PE) (hE : EqA at_ l l') (hsz : l.length ≤ 1000000) (HT : ∀ k a n m ns L1 ts, PE.mk k a n m ns L1 ts ∈ l → ns.length ≤ 1000000 ∧ SaOk ts ∧ ∀ L2, EqA at_ L1 L2 → SeOk at_ L1 L2) : SeOk at_ l l' := by
  intro A A' w v v' h h'
  obtain ⟨a0, cap, _, rfl, -, -⟩ := id h
  obtain ⟨b0, bcap, _, rfl, -, -⟩ := id h'
  rw [encEs_flat] at h h'
  have S1 := Lib.hid h
  have S2 := Lib.hid h'
  have HT := Lib.hid HT
  have HSZ := Lib.hid hsz
  have HE := Lib.hid hE
  clear h h' hsz hE
  go_enter Tryz.func16, Tryz.ntmps16
  go_wp2_with fail
  go_loopw [7] (fun s7 wr => ∃ i : Nat, s7 = .int .i64 (i : Nat) ∧ i ≤ l.length ∧ Hid (Below w.heap.size w wr)) (fun s7 _ => l.length - (intOf s7).toNat)
  case atStart => exact ⟨0, rfl, Nat.zero_le _, Below.refl _ _⟩
  case round =>
    obtain ⟨i, rfl, hil, hB⟩ := hrel
    by_cases hi2 : i < l.length
    · have hlt : decide ((i : Int) < (l.length : Int)) = true := by simp only [decide_eq_true_eq]; omega
      have hltn : decide (i < l.length) = true := by simp only [decide_eq_true_eq]; exact hi2
      obtain ⟨t, ht⟩ : ∃ t, t = l[i] := ⟨_, rfl⟩
      have hmem : t ∈ l := by rw [ht]; exact List.getElem_mem hi2
      have hget : l[i]? = some t := by rw [ht]; exact List.getElem?_eq_getElem hi2
      clear ht
      obtain ⟨k, a, n, m, ns, L1, ts⟩ := t
      obtain ⟨a', L2, hget', hat, hL⟩ := HE.out.get hget
      have hlen := hL.len
      obtain ⟨g, o, cs, rfl, hg, hcs, hcell⟩ := Sub.at (encE_length 31 41) (S1.out.below hB.out) hget (by omega)
      obtain ⟨g', o', cs', rfl, hg', hcs', hcell'⟩ := Sub.at (encE_length 31 41) (S2.out.below hB.out) hget' (by omega)
      obtain ⟨v4, v5, v6, rfl, h4, h5, h6⟩ := cells_EE hcs
      obtain ⟨u4, u5, u6, rfl, q4, q5, q6⟩ := cells_EE hcs'
      obtain ⟨_, r4, -, -⟩ := h4.unrow
      obtain ⟨a4, ac4, rfl⟩ := row_slice r4
      obtain ⟨_, r5, -, -⟩ := h5.unrow
      obtain ⟨a5, ac5, rfl⟩ := row_slice r5
      obtain ⟨_, r6, -, -⟩ := h6.unrow
      obtain ⟨a6, ac6, rfl⟩ := row_slice r6
      obtain ⟨_, z4, -, -⟩ := q4.unrow
      obtain ⟨b4, bc4, rfl⟩ := row_slice z4
      obtain ⟨_, z5, -, -⟩ := q5.unrow
      obtain ⟨b5, bc5, rfl⟩ := row_slice z5
      obtain ⟨_, z6, -, -⟩ := q6.unrow
      obtain ⟨b6, bc6, rfl⟩ := row_slice z6
      have G4 := Lib.hid (Sub.of_row h4 (by simp))
      have G5 := Lib.hid (Sub.of_row h5 (by rw [encEs_flat]; exact flat_length (encE_length 31 41) L1))
      have G6 := Lib.hid (Sub.of_row h6 (by rw [encTs_flat]; exact flat_length (encT_length 31) ts))
      have K4 := Lib.hid (Sub.of_row q4 (by simp))
      have K5 := Lib.hid (Sub.of_row q5 (by rw [encEs_flat]; exact flat_length (encE_length 31 41) L2))
      have K6 := Lib.hid (Sub.of_row q6 (by rw [encTs_flat]; exact flat_length (encT_length 31) ts))
      rw [hlen] at K5 hcell'
      obtain ⟨H1, H2, H3⟩ := HT.out k a n m ns L1 ts hmem
      have H4 := Lib.hid (names_any ns H1)
      have H6 := Lib.hid H2
      have H5 := Lib.hid (H3 L2 hL)
      have HAT := Lib.hid hat
      have d0 := hcell 0 _ rfl
      have d1 := hcell 1 _ rfl
      have d2 := hcell 2 _ rfl
      have d3 := hcell 3 _ rfl
      have d4 := hcell 4 _ rfl
      have d5 := hcell 5 _ rfl
      have d6 := hcell 6 _ rfl
      have f0 := hcell' 0 _ rfl
      have f1 := hcell' 1 _ rfl
      have f2 := hcell' 2 _ rfl
      have f3 := hcell' 3 _ rfl
      have f4 := hcell' 4 _ rfl
      have f5 := hcell' 5 _ rfl
      have f6 := hcell' 6 _ rfl
      rw [Nat.add_zero] at d0 f0
      have HG := Lib.hid hg
      have HG' := Lib.hid hg'
      have hbig := HSZ.out
      have hn1 : ¬ g = wr.heap.size := by omega
      have hn2 : ¬ g' = wr.heap.size := by omega
      have hn3 : ¬ g = wr.heap.size + 1 := by omega
      have hn4 : ¬ g' = wr.heap.size + 1 := by omega
      clear hget hget' hcs hcs' hcell hcell' hmem h4 h5 h6 q4 q5 q6 r4 r5 r6 z4 z5 z6 H1 H2 H3 hL hlen hat
      go_wp2_with fail
      go_region_held3 (fun w' => w'.cell? ⟨g, o + i * 7, none⟩ = some (.int .i64 (k : Nat)) ∧ w'.cell? ⟨g, o + i * 7 + 1, none⟩ = some (.int .i64 (a : Nat)) ∧ w'.cell? ⟨g, o + i * 7 + 2, none⟩ = some (.string ⟨n.toArray⟩) ∧ w'.cell? ⟨g, o + i * 7 + 3, none⟩ = some (.int .i64 (m : Nat)) ∧ w'.cell? ⟨g, o + i * 7 + 4, none⟩ = some (.slice a4 ns.length ac4) ∧ w'.cell? ⟨g, o + i * 7 + 5, none⟩ = some (.slice a5 L1.length ac5) ∧ w'.cell? ⟨g, o + i * 7 + 6, none⟩ = some (.slice a6 ts.length ac6) ∧ w'.cell? ⟨g', o' + i * 7, none⟩ = some (.int .i64 (k : Nat)) ∧ w'.cell? ⟨g', o' + i * 7 + 1, none⟩ = some (.int .i64 (a' : Nat)) ∧ w'.cell? ⟨g', o' + i * 7 + 2, none⟩ = some (.string ⟨n.toArray⟩) ∧ w'.cell? ⟨g', o' + i * 7 + 3, none⟩ = some (.int .i64 (m : Nat)) ∧ w'.cell? ⟨g', o' + i * 7 + 4, none⟩ = some (.slice b4 ns.length bc4) ∧ w'.cell? ⟨g', o' + i * 7 + 5, none⟩ = some (.slice b5 L1.length bc5) ∧ w'.cell? ⟨g', o' + i * 7 + 6, none⟩ = some (.slice b6 ts.length bc6)) (go_keep) (fail)
      · obtain ⟨W, hW⟩ : ∃ W, W = ((wr.alloc (.cells #[.int .i64 (k : Nat), .int .i64 (a : Nat), .string ⟨n.toArray⟩, .int .i64 (m : Nat), .slice a4 ns.length ac4, .slice a5 L1.length ac5, .slice a6 ts.length ac6] 41)).alloc (.cells #[.int .i64 (k : Nat), .int .i64 (a' : Nat), .string ⟨n.toArray⟩, .int .i64 (m : Nat), .slice b4 ns.length bc4, .slice b5 L1.length bc5, .slice b6 ts.length bc6] 41)).drew := ⟨_, rfl⟩
        have HBW := Lib.hid (show Below wr.heap.size wr W by rw [hW]; exact (((Below.refl _ _).alloc (Nat.le_refl _) _).alloc (by simp) _).drew)
        have HSW := Lib.hid (show W.heap.size = wr.heap.size + 2 by rw [hW]; simp)
        have X0 := Lib.hid (show Sev W (wr.heap.size) 41 (.int .i64 (k : Nat)) (.int .i64 (a : Nat)) (.string ⟨n.toArray⟩) (.int .i64 (m : Nat)) (.slice a4 ns.length ac4) (.slice a5 L1.length ac5) (.slice a6 ts.length ac6) by rw [hW]; exact blk_alloc (heap_alloc_new wr (.cells #[.int .i64 (k : Nat), .int .i64 (a : Nat), .string ⟨n.toArray⟩, .int .i64 (m : Nat), .slice a4 ns.length ac4, .slice a5 L1.length ac5, .slice a6 ts.length ac6] 41)) _)
        have Y0 := Lib.hid (show Sev W (wr.heap.size + 1) 41 (.int .i64 (k : Nat)) (.int .i64 (a' : Nat)) (.string ⟨n.toArray⟩) (.int .i64 (m : Nat)) (.slice b4 ns.length bc4) (.slice b5 L1.length bc5) (.slice b6 ts.length bc6) by rw [hW]; exact (by have := heap_alloc_new (wr.alloc (.cells #[.int .i64 (k : Nat), .int .i64 (a : Nat), .string ⟨n.toArray⟩, .int .i64 (m : Nat), .slice a4 ns.length ac4, .slice a5 L1.length ac5, .slice a6 ts.length ac6] 41)) (.cells #[.int .i64 (k : Nat), .int .i64 (a' : Nat), .string ⟨n.toArray⟩, .int .i64 (m : Nat), .slice b4 ns.length bc4, .slice b5 L1.length bc5, .slice b6 ts.length bc6] 41); rw [World.size_alloc] at this; exact this))
        rw [← hW]
        clear hW
        obtain ⟨by', hY⟩ : ∃ b, b = wr.heap.size + 1 := ⟨_, rfl⟩
        rw [← hY] at Y0 ⊢
        have HY := Lib.hid (show by' < W.heap.size by rw [hY, HSW.out]; omega)
        clear hY
        obtain ⟨bx, hX⟩ : ∃ b, b = wr.heap.size := ⟨_, rfl⟩
        rw [← hX] at X0 ⊢
        have HX := Lib.hid (show bx < W.heap.size by rw [hX, HSW.out]; omega)
        clear hX
        cases at_ with
        | true =>
          obtain rfl : a = a' := HAT.out rfl
          obtain ⟨⟨p0, p1, p2, p3, p4, p5, p6⟩, -⟩ := sev_of X0.out
          obtain ⟨⟨z0, z1, z2, z3, z4, z5, z6⟩, -⟩ := sev_of Y0.out
          go_wp2_with fail
          refine (H4.out _ _ W _ _ (G4.out.below HBW.out) (K4.out.below HBW.out)).mono ?_
          rintro e w3 ⟨rfl, b3'⟩
          obtain ⟨⟨-, -, -, -, -, s5, s6⟩, -⟩ := sev_of (show Sev w3 bx 41 (.int .i64 (k : Nat)) (.int .i64 (a : Nat)) (.string ⟨n.toArray⟩) (.int .i64 (m : Nat)) (.slice a4 ns.length ac4) (.slice a5 L1.length ac5) (.slice a6 ts.length ac6) from (b3'.block _ HX.out).trans X0.out)
          obtain ⟨⟨-, -, -, -, -, y5, y6⟩, -⟩ := sev_of (show Sev w3 by' 41 (.int .i64 (k : Nat)) (.int .i64 (a : Nat)) (.string ⟨n.toArray⟩) (.int .i64 (m : Nat)) (.slice b4 ns.length bc4) (.slice b5 L1.length bc5) (.slice b6 ts.length bc6) from (b3'.block _ HY.out).trans Y0.out)
          have B3 := Lib.hid b3'
          clear b3'
          go_wp2_with fail
          refine (H6.out _ _ w3 _ _ ((G6.out.below HBW.out).below B3.out) ((K6.out.below HBW.out).below B3.out)).mono ?_
          rintro e w4 ⟨rfl, b4'⟩
          have B4 := Lib.hid (B3.out.trans (b4'.mono B3.out.size))
          clear b4'
          obtain ⟨⟨-, -, -, -, -, s5', -⟩, -⟩ := sev_of (show Sev w4 bx 41 (.int .i64 (k : Nat)) (.int .i64 (a : Nat)) (.string ⟨n.toArray⟩) (.int .i64 (m : Nat)) (.slice a4 ns.length ac4) (.slice a5 L1.length ac5) (.slice a6 ts.length ac6) from (B4.out.block _ HX.out).trans X0.out)
          obtain ⟨⟨-, -, -, -, -, y5', -⟩, -⟩ := sev_of (show Sev w4 by' 41 (.int .i64 (k : Nat)) (.int .i64 (a : Nat)) (.string ⟨n.toArray⟩) (.int .i64 (m : Nat)) (.slice b4 ns.length bc4) (.slice b5 L1.length bc5) (.slice b6 ts.length bc6) from (B4.out.block _ HY.out).trans Y0.out)
          go_wp2_with fail
          refine (H5.out _ _ w4 _ _ ((G5.out.below HBW.out).below B4.out) ((K5.out.below HBW.out).below B4.out)).mono ?_
          rintro e w5 ⟨rfl, b5'⟩
          have B5 := Lib.hid (HBW.out.trans ((B4.out.trans (b5'.mono B4.out.size)).mono HBW.out.size))
          clear b5'
          go_wp2_with fail
          refine ⟨⟨i + 1, by simp, by omega, Lib.hid (hB.out.trans (B5.out.mono hB.out.size))⟩, ?_⟩
          simp [intOf]; omega
        | false =>
          obtain ⟨⟨p0, p1, p2, p3, p4, p5, p6⟩, -⟩ := sev_of X0.out
          obtain ⟨⟨z0, z1, z2, z3, z4, z5, z6⟩, -⟩ := sev_of Y0.out
          go_wp2_with fail
          refine (H4.out _ _ W _ _ (G4.out.below HBW.out) (K4.out.below HBW.out)).mono ?_
          rintro e w3 ⟨rfl, b3'⟩
          obtain ⟨⟨-, -, -, -, -, s5, s6⟩, -⟩ := sev_of (show Sev w3 bx 41 (.int .i64 (k : Nat)) (.int .i64 (a : Nat)) (.string ⟨n.toArray⟩) (.int .i64 (m : Nat)) (.slice a4 ns.length ac4) (.slice a5 L1.length ac5) (.slice a6 ts.length ac6) from (b3'.block _ HX.out).trans X0.out)
          obtain ⟨⟨-, -, -, -, -, y5, y6⟩, -⟩ := sev_of (show Sev w3 by' 41 (.int .i64 (k : Nat)) (.int .i64 (a' : Nat)) (.string ⟨n.toArray⟩) (.int .i64 (m : Nat)) (.slice b4 ns.length bc4) (.slice b5 L1.length bc5) (.slice b6 ts.length bc6) from (b3'.block _ HY.out).trans Y0.out)
          have B3 := Lib.hid b3'
          clear b3'
          go_wp2_with fail
          refine (H6.out _ _ w3 _ _ ((G6.out.below HBW.out).below B3.out) ((K6.out.below HBW.out).below B3.out)).mono ?_
          rintro e w4 ⟨rfl, b4'⟩
          have B4 := Lib.hid (B3.out.trans (b4'.mono B3.out.size))
          clear b4'
          obtain ⟨⟨-, -, -, -, -, s5', -⟩, -⟩ := sev_of (show Sev w4 bx 41 (.int .i64 (k : Nat)) (.int .i64 (a : Nat)) (.string ⟨n.toArray⟩) (.int .i64 (m : Nat)) (.slice a4 ns.length ac4) (.slice a5 L1.length ac5) (.slice a6 ts.length ac6) from (B4.out.block _ HX.out).trans X0.out)
          obtain ⟨⟨-, -, -, -, -, y5', -⟩, -⟩ := sev_of (show Sev w4 by' 41 (.int .i64 (k : Nat)) (.int .i64 (a' : Nat)) (.string ⟨n.toArray⟩) (.int .i64 (m : Nat)) (.slice b4 ns.length bc4) (.slice b5 L1.length bc5) (.slice b6 ts.length bc6) from (B4.out.block _ HY.out).trans Y0.out)
          go_wp2_with fail
          refine (H5.out _ _ w4 _ _ ((G5.out.below HBW.out).below B4.out) ((K5.out.below HBW.out).below B4.out)).mono ?_
          rintro e w5 ⟨rfl, b5'⟩
          have B5 := Lib.hid (HBW.out.trans ((B4.out.trans (b5'.mono B4.out.size)).mono HBW.out.size))
          clear b5'
          go_wp2_with fail
          refine ⟨⟨i + 1, by simp, by omega, Lib.hid (hB.out.trans (B5.out.mono hB.out.size))⟩, ?_⟩
          simp [intOf]; omega
      · obtain ⟨W, hW⟩ : ∃ W, W = ((wr.alloc (.cells #[.int .i64 (k : Nat), .int .i64 (a' : Nat), .string ⟨n.toArray⟩, .int .i64 (m : Nat), .slice b4 ns.length bc4, .slice b5 L1.length bc5, .slice b6 ts.length bc6] 41)).alloc (.cells #[.int .i64 (k : Nat), .int .i64 (a : Nat), .string ⟨n.toArray⟩, .int .i64 (m : Nat), .slice a4 ns.length ac4, .slice a5 L1.length ac5, .slice a6 ts.length ac6] 41)).drew := ⟨_, rfl⟩
        have HBW := Lib.hid (show Below wr.heap.size wr W by rw [hW]; exact (((Below.refl _ _).alloc (Nat.le_refl _) _).alloc (by simp) _).drew)
        have HSW := Lib.hid (show W.heap.size = wr.heap.size + 2 by rw [hW]; simp)
        have X0 := Lib.hid (show Sev W (wr.heap.size + 1) 41 (.int .i64 (k : Nat)) (.int .i64 (a : Nat)) (.string ⟨n.toArray⟩) (.int .i64 (m : Nat)) (.slice a4 ns.length ac4) (.slice a5 L1.length ac5) (.slice a6 ts.length ac6) by rw [hW]; exact (by have := heap_alloc_new (wr.alloc (.cells #[.int .i64 (k : Nat), .int .i64 (a' : Nat), .string ⟨n.toArray⟩, .int .i64 (m : Nat), .slice b4 ns.length bc4, .slice b5 L1.length bc5, .slice b6 ts.length bc6] 41)) (.cells #[.int .i64 (k : Nat), .int .i64 (a : Nat), .string ⟨n.toArray⟩, .int .i64 (m : Nat), .slice a4 ns.length ac4, .slice a5 L1.length ac5, .slice a6 ts.length ac6] 41); rw [World.size_alloc] at this; exact this))
        have Y0 := Lib.hid (show Sev W (wr.heap.size) 41 (.int .i64 (k : Nat)) (.int .i64 (a' : Nat)) (.string ⟨n.toArray⟩) (.int .i64 (m : Nat)) (.slice b4 ns.length bc4) (.slice b5 L1.length bc5) (.slice b6 ts.length bc6) by rw [hW]; exact blk_alloc (heap_alloc_new wr (.cells #[.int .i64 (k : Nat), .int .i64 (a' : Nat), .string ⟨n.toArray⟩, .int .i64 (m : Nat), .slice b4 ns.length bc4, .slice b5 L1.length bc5, .slice b6 ts.length bc6] 41)) _)
        rw [← hW]
        clear hW
        obtain ⟨bx, hX⟩ : ∃ b, b = wr.heap.size + 1 := ⟨_, rfl⟩
        rw [← hX] at X0 ⊢
        have HX := Lib.hid (show bx < W.heap.size by rw [hX, HSW.out]; omega)
        clear hX
        obtain ⟨by', hY⟩ : ∃ b, b = wr.heap.size := ⟨_, rfl⟩
        rw [← hY] at Y0 ⊢
        have HY := Lib.hid (show by' < W.heap.size by rw [hY, HSW.out]; omega)
        clear hY
        cases at_ with
        | true =>
          obtain rfl : a = a' := HAT.out rfl
          obtain ⟨⟨p0, p1, p2, p3, p4, p5, p6⟩, -⟩ := sev_of X0.out
          obtain ⟨⟨z0, z1, z2, z3, z4, z5, z6⟩, -⟩ := sev_of Y0.out
          go_wp2_with fail
          refine (H4.out _ _ W _ _ (G4.out.below HBW.out) (K4.out.below HBW.out)).mono ?_
          rintro e w3 ⟨rfl, b3'⟩
          obtain ⟨⟨-, -, -, -, -, s5, s6⟩, -⟩ := sev_of (show Sev w3 bx 41 (.int .i64 (k : Nat)) (.int .i64 (a : Nat)) (.string ⟨n.toArray⟩) (.int .i64 (m : Nat)) (.slice a4 ns.length ac4) (.slice a5 L1.length ac5) (.slice a6 ts.length ac6) from (b3'.block _ HX.out).trans X0.out)
          obtain ⟨⟨-, -, -, -, -, y5, y6⟩, -⟩ := sev_of (show Sev w3 by' 41 (.int .i64 (k : Nat)) (.int .i64 (a : Nat)) (.string ⟨n.toArray⟩) (.int .i64 (m : Nat)) (.slice b4 ns.length bc4) (.slice b5 L1.length bc5) (.slice b6 ts.length bc6) from (b3'.block _ HY.out).trans Y0.out)
          have B3 := Lib.hid b3'
          clear b3'
          go_wp2_with fail
          refine (H6.out _ _ w3 _ _ ((G6.out.below HBW.out).below B3.out) ((K6.out.below HBW.out).below B3.out)).mono ?_
          rintro e w4 ⟨rfl, b4'⟩
          have B4 := Lib.hid (B3.out.trans (b4'.mono B3.out.size))
          clear b4'
          obtain ⟨⟨-, -, -, -, -, s5', -⟩, -⟩ := sev_of (show Sev w4 bx 41 (.int .i64 (k : Nat)) (.int .i64 (a : Nat)) (.string ⟨n.toArray⟩) (.int .i64 (m : Nat)) (.slice a4 ns.length ac4) (.slice a5 L1.length ac5) (.slice a6 ts.length ac6) from (B4.out.block _ HX.out).trans X0.out)
          obtain ⟨⟨-, -, -, -, -, y5', -⟩, -⟩ := sev_of (show Sev w4 by' 41 (.int .i64 (k : Nat)) (.int .i64 (a : Nat)) (.string ⟨n.toArray⟩) (.int .i64 (m : Nat)) (.slice b4 ns.length bc4) (.slice b5 L1.length bc5) (.slice b6 ts.length bc6) from (B4.out.block _ HY.out).trans Y0.out)
          go_wp2_with fail
          refine (H5.out _ _ w4 _ _ ((G5.out.below HBW.out).below B4.out) ((K5.out.below HBW.out).below B4.out)).mono ?_
          rintro e w5 ⟨rfl, b5'⟩
          have B5 := Lib.hid (HBW.out.trans ((B4.out.trans (b5'.mono B4.out.size)).mono HBW.out.size))
          clear b5'
          go_wp2_with fail
          refine ⟨⟨i + 1, by simp, by omega, Lib.hid (hB.out.trans (B5.out.mono hB.out.size))⟩, ?_⟩
          simp [intOf]; omega
        | false =>
          obtain ⟨⟨p0, p1, p2, p3, p4, p5, p6⟩, -⟩ := sev_of X0.out
          obtain ⟨⟨z0, z1, z2, z3, z4, z5, z6⟩, -⟩ := sev_of Y0.out
          go_wp2_with fail
          refine (H4.out _ _ W _ _ (G4.out.below HBW.out) (K4.out.below HBW.out)).mono ?_
          rintro e w3 ⟨rfl, b3'⟩
          obtain ⟨⟨-, -, -, -, -, s5, s6⟩, -⟩ := sev_of (show Sev w3 bx 41 (.int .i64 (k : Nat)) (.int .i64 (a : Nat)) (.string ⟨n.toArray⟩) (.int .i64 (m : Nat)) (.slice a4 ns.length ac4) (.slice a5 L1.length ac5) (.slice a6 ts.length ac6) from (b3'.block _ HX.out).trans X0.out)
          obtain ⟨⟨-, -, -, -, -, y5, y6⟩, -⟩ := sev_of (show Sev w3 by' 41 (.int .i64 (k : Nat)) (.int .i64 (a' : Nat)) (.string ⟨n.toArray⟩) (.int .i64 (m : Nat)) (.slice b4 ns.length bc4) (.slice b5 L1.length bc5) (.slice b6 ts.length bc6) from (b3'.block _ HY.out).trans Y0.out)
          have B3 := Lib.hid b3'
          clear b3'
          go_wp2_with fail
          refine (H6.out _ _ w3 _ _ ((G6.out.below HBW.out).below B3.out) ((K6.out.below HBW.out).below B3.out)).mono ?_
          rintro e w4 ⟨rfl, b4'⟩
          have B4 := Lib.hid (B3.out.trans (b4'.mono B3.out.size))
          clear b4'
          obtain ⟨⟨-, -, -, -, -, s5', -⟩, -⟩ := sev_of (show Sev w4 bx 41 (.int .i64 (k : Nat)) (.int .i64 (a : Nat)) (.string ⟨n.toArray⟩) (.int .i64 (m : Nat)) (.slice a4 ns.length ac4) (.slice a5 L1.length ac5) (.slice a6 ts.length ac6) from (B4.out.block _ HX.out).trans X0.out)
          obtain ⟨⟨-, -, -, -, -, y5', -⟩, -⟩ := sev_of (show Sev w4 by' 41 (.int .i64 (k : Nat)) (.int .i64 (a' : Nat)) (.string ⟨n.toArray⟩) (.int .i64 (m : Nat)) (.slice b4 ns.length bc4) (.slice b5 L1.length bc5) (.slice b6 ts.length bc6) from (B4.out.block _ HY.out).trans Y0.out)
          go_wp2_with fail
          refine (H5.out _ _ w4 _ _ ((G5.out.below HBW.out).below B4.out) ((K5.out.below HBW.out).below B4.out)).mono ?_
          rintro e w5 ⟨rfl, b5'⟩
          have B5 := Lib.hid (HBW.out.trans ((B4.out.trans (b5'.mono B4.out.size)).mono HBW.out.size))
          clear b5'
          go_wp2_with fail
          refine ⟨⟨i + 1, by simp, by omega, Lib.hid (hB.out.trans (B5.out.mono hB.out.size))⟩, ?_⟩
          simp [intOf]; omega
    · have hlt : decide ((i : Int) < (l.length : Int)) = false := by simp only [decide_eq_false_iff_not]; omega
      have hltn : decide (i < l.length) = false := by simp only [decide_eq_false_iff_not]; exact hi2
      go_wp2_with fail
      go_ret
      exact ⟨rfl, hB.out⟩
theorem se_any (at_ : Bool) : ∀ (N : Nat) (l l' : List PE), EqA at_ l l' → szEs l ≤ N → szEs l ≤ 1000000 → SeOk at_ l l'
  | 0, l, l', hE, h, _ => by
    have := szEs_len l
    obtain rfl : l = [] := List.eq_nil_of_length_eq_zero (by omega)
    exact se_step at_ [] l' hE (by simp) (fun _ _ _ _ _ _ _ h => by cases h)
  | N + 1, l, l', hE, h, h2 => by
    refine se_step at_ l l' hE (by have := szEs_len l; omega) fun k a n m ns L1 ts hm => ?_
    obtain ⟨i, hi, he⟩ := List.getElem_of_mem hm
    have h3 := szEs_get l i _ (List.getElem?_eq_getElem hi)
    rw [he, szE] at h3
    exact ⟨by omega, saOk ts (by omega), fun L2 hL => se_any at_ N L1 L2 hL (by omega) (by omega)⟩
theorem seOk (at_ : Bool) (l l' : List PE) (hE : EqA at_ l l') (h : szEs l ≤ 1000000) : SeOk at_ l l' := se_any at_ (szEs l) l l' hE (Nat.le_refl _) h
end Go.Proofs.YtijnjoonbjdafaaGreatDoor
/-
  The document's SameDecls, of two that are alike but for places.
-/
namespace Go.Proofs.YtijnjoonbjdafaaGreatDoor
set_option maxRecDepth 20000
open Go.RowKit Go.Shelf Go.Sort
def EqD (at_ : Bool) (l l' : List PD) : Prop := l.map (PD.pl (fun _ => 0)) = l'.map (PD.pl (fun _ => 0)) ∧ (at_ = true → l = l')
theorem EqD.len {at_ : Bool} {l l' : List PD} (h : EqD at_ l l') : l'.length = l.length := by
  have := congrArg List.length h.1
  rw [List.length_map, List.length_map] at this
  exact this.symm
theorem EqD.get {at_ : Bool} {l l' : List PD} (h : EqD at_ l l') {i : Nat} {t : PD} (hi : l[i]? = some t) : ∃ t', l'[i]? = some t' ∧ t'.k = t.k ∧ t'.n = t.n ∧ t'.ts = t.ts ∧ (at_ = true → t.a = t'.a) ∧ EqA at_ t.es t'.es := by
  have h1 : (l.map (PD.pl (fun _ => 0)))[i]? = some (PD.pl (fun _ => 0) t) := by rw [List.getElem?_map, hi]; rfl
  rw [h.1, List.getElem?_map] at h1
  cases hx : l'[i]? with
  | none => rw [hx] at h1; cases h1
  | some y =>
    rw [hx] at h1
    simp only [Option.map_some, Option.some.injEq, PD.pl, PD.mk.injEq] at h1
    obtain ⟨h2, -, h3, h4, h5⟩ := h1
    have key : at_ = true → t = y := fun e => by
      have := h.2 e
      subst this
      rw [hi] at hx
      cases hx
      rfl
    exact ⟨y, rfl, h2, h3, h4, fun e => by rw [key e], h5.symm, fun e => by rw [key e]⟩
end Go.Proofs.YtijnjoonbjdafaaGreatDoor

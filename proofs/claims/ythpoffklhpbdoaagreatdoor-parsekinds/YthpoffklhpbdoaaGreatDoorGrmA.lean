/-
  Readers never go back: what is left is no longer than what was there. No walk.
-/
import Derived.Test.YthpoffklhpbdoaaGreatDoorGrm
namespace Go.Proofs.YthpoffklhpbdoaaGreatDoor

def R.rest {α : Type} : R α → List Tk
  | .ok _ r _ => r
  | .bad _ r _ => r
/-- Not more than n tokens are left. -/
def Shr {α : Type} (n : Nat) (x : R α) : Prop := x.rest.length ≤ n
theorem Shr.mono {α : Type} {n m : Nat} {x : R α} (h : Shr n x) (hm : n ≤ m) : Shr m x := Nat.le_trans h hm
theorem Shr.tell {α : Type} {n : Nat} {x : R α} (h : Shr n x) (d : List Dn) : Shr n (x.tell d) := by cases x <;> exact h
theorem Shr.bind {α β : Type} {n : Nat} {x : R α} {f : α → List Tk → R β} (h : Shr n x) (hf : ∀ a r, r.length ≤ n → Shr r.length (f a r)) : Shr n (x.bind f) := by
  cases x with
  | bad y r d => exact h
  | ok a r d => exact ((hf a r h).tell d).mono h
theorem Shr.ok {α : Type} (x : α) (r : List Tk) (d : List Dn) : Shr r.length (R.ok x r d) := Nat.le_refl _
theorem tail_le (ts : List Tk) : ts.tail.length ≤ ts.length := by rw [List.length_tail]; omega
theorem want_shr (m : Bs) (ts : List Tk) : Shr ts.length (want m ts) := by
  unfold want; split
  · exact tail_le ts
  · exact Nat.le_refl _
theorem wantName_shr (ts : List Tk) : Shr ts.length (wantName ts) := by
  unfold wantName; split
  · exact tail_le ts
  · exact Nat.le_refl _
theorem fields_shr {α : Type} (sign : Bs) (read : List Tk → R α) (hr : ∀ ts, Shr ts.length (read ts)) : ∀ (n : Nat) (seen : List Bs) (acc : List (Bs × α)) (ts : List Tk), Shr ts.length (fieldsP sign read n seen acc ts)
  | 0, _, _, ts => Nat.le_refl _
  | n + 1, seen, acc, ts => by
    unfold fieldsP
    refine (wantName_shr ts).bind fun nm r _ => Shr.tell (((want_shr sign r).bind fun _ r _ => (hr r).bind fun v r _ => ?_)) _
    split
    · exact (fields_shr sign read hr n _ _ _).mono (tail_le r)
    · exact (want_shr _ r).bind fun _ r _ => Shr.ok _ _ _
theorem read_shr {α : Type} (sign : Bs) (read : List Tk → R α) (hr : ∀ ts, Shr ts.length (read ts)) (ts : List Tk) : Shr ts.length (readP sign read ts) := by
  unfold readP; split
  · exact tail_le ts
  · exact fields_shr sign read hr _ _ _ _
theorem plain_shr (typ : List Tk → R PT) (ht : ∀ ts, Shr ts.length (typ ts)) (ts : List Tk) : Shr ts.length (plainP typ ts) := by
  unfold plainP
  repeat' split
  all_goals first
    | exact tail_le ts
    | exact Nat.le_refl _
    | exact ((read_shr _ _ ht _).mono (tail_le ts)).bind fun _ r _ => Shr.ok _ _ _
    | exact ((ht _).mono (tail_le ts)).bind fun t r _ => (want_shr _ r).bind fun _ r _ => Shr.ok _ _ _
theorem arrow_shr (plain arrow : List Tk → R PT) (hp : ∀ ts, Shr ts.length (plain ts)) (ha : ∀ ts, Shr ts.length (arrow ts)) (ts : List Tk) : Shr ts.length (arrowP plain arrow ts) := by
  unfold arrowP
  refine (hp ts).bind fun t r _ => ?_
  split
  · exact ((ha _).mono (tail_le r)).bind fun _ r _ => Shr.ok _ _ _
  · exact Nat.le_refl _
theorem union_shr (arrow : List Tk → R PT) (ha : ∀ ts, Shr ts.length (arrow ts)) : ∀ (n : Nat) (acc : List PT) (ts : List Tk), Shr ts.length (unionP arrow n acc ts)
  | 0, _, ts => Nat.le_refl _
  | n + 1, acc, ts => by
    unfold unionP; split
    · exact ((ha _).mono (tail_le ts)).bind fun _ r _ => union_shr arrow ha n _ r
    · exact Nat.le_refl _
theorem typP_shr (arrow : List Tk → R PT) (ha : ∀ ts, Shr ts.length (arrow ts)) (ts : List Tk) : Shr ts.length (typP arrow ts) := by
  unfold typP
  exact (ha ts).bind fun t r _ => (union_shr arrow ha _ _ r).bind fun l r _ => Shr.ok _ _ _
theorem lvT_shr : ∀ n, (∀ ts, Shr ts.length (typ n ts)) ∧ (∀ ts, Shr ts.length (arr n ts))
  | 0 => ⟨fun _ => Nat.le_refl _, fun _ => Nat.le_refl _⟩
  | n + 1 => by
    have ih := lvT_shr n
    have ha : ∀ ts, Shr ts.length (arr (n + 1) ts) := arrow_shr _ _ (plain_shr _ ih.1) ih.2
    exact ⟨typP_shr _ ha, ha⟩
theorem call_shr (expr : List Tk → R PE) (he : ∀ ts, Shr ts.length (expr ts)) : ∀ (n : Nat) (e : PE) (ts : List Tk), Shr ts.length (callP expr n e ts)
  | 0, _, ts => Nat.le_refl _
  | n + 1, e, ts => by
    unfold callP
    split
    · exact ((he _).mono (tail_le ts)).bind fun _ r _ => (want_shr _ r).bind fun _ r _ => call_shr expr he n _ r
    · split
      · exact ((wantName_shr _).mono (tail_le ts)).bind fun _ r _ => call_shr expr he n _ r
      · exact Nat.le_refl _
theorem basic_shr (typ : List Tk → R PT) (expr : List Tk → R PE) (ht : ∀ ts, Shr ts.length (typ ts)) (he : ∀ ts, Shr ts.length (expr ts)) (ts : List Tk) : Shr ts.length (basicP typ expr ts) := by
  unfold basicP
  split
  · exact tail_le ts
  split
  · exact tail_le ts
  split
  · exact tail_le ts
  split
  · exact tail_le ts
  split
  · exact tail_le ts
  split
  · exact ((read_shr _ _ he _).mono (tail_le ts)).bind fun _ r _ => Shr.ok _ _ _
  split
  · refine ((he _).mono (tail_le ts)).bind fun e r _ => ?_
    split
    · exact ((ht _).mono (tail_le r)).bind fun t r _ => (want_shr _ r).bind fun _ r _ => Shr.ok _ _ _
    · exact (want_shr _ r).bind fun _ r _ => Shr.ok _ _ _
  · exact Nat.le_refl _
theorem expr_shr (typ : List Tk → R PT) (expr : List Tk → R PE) (ht : ∀ ts, Shr ts.length (typ ts)) (he : ∀ ts, Shr ts.length (expr ts)) (ts : List Tk) : Shr ts.length (exprP typ expr ts) := by
  unfold exprP
  split
  · refine Shr.mono (n := ts.tail.length) ?_ (tail_le ts)
    exact (want_shr _ _).bind fun _ r _ => (wantName_shr r).bind fun _ r _ => (want_shr _ r).bind fun _ r _ => (ht r).bind fun _ r _ => (want_shr _ r).bind fun _ r _ => (he r).bind fun _ r _ => Shr.ok _ _ _
  split
  · refine Shr.mono (n := ts.tail.length) ?_ (tail_le ts)
    exact (wantName_shr _).bind fun _ r _ => (want_shr _ r).bind fun _ r _ => (he r).bind fun _ r _ => (want_shr _ r).bind fun _ r _ => (he r).bind fun _ r _ => Shr.ok _ _ _
  split
  · refine Shr.mono (n := ts.tail.length) ?_ (tail_le ts)
    exact (he _).bind fun _ r _ => (want_shr _ r).bind fun _ r _ => (he r).bind fun _ r _ => (want_shr _ r).bind fun _ r _ => (he r).bind fun _ r _ => Shr.ok _ _ _
  · exact (basic_shr typ expr ht he ts).bind fun e r _ => call_shr expr he _ _ r
theorem exp_shr : ∀ n ts, Shr ts.length (exp n ts)
  | 0, _ => Nat.le_refl _
  | n + 1, ts => expr_shr _ _ (lvT_shr n).1 (exp_shr n) ts

end Go.Proofs.YthpoffklhpbdoaaGreatDoor

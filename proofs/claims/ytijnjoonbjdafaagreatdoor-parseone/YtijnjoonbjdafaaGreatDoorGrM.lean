/-
  The grammar as plain functions of lists of tokens. No walk.
  Readers never go back: what is left is no longer than what was there. No walk.
-/
import Derived.Test.YtijnjoonbjdafaaGreatDoorLxM
namespace Go.Proofs.YtijnjoonbjdafaaGreatDoor
structure Dn where
  a : Nat
  d : Nat
  n : Bs
  deriving DecidableEq
inductive PT where
  | mk (k : Nat) (n : Bs) (ns : List Bs) (l : List PT)
inductive PE where
  | mk (k a : Nat) (n : Bs) (m : Nat) (ns : List Bs) (l : List PE) (ts : List PT)
structure PD where
  k : Nat
  a : Nat
  n : Bs
  ts : List PT
  es : List PE
inductive R (α : Type) where
  | ok (x : α) (r : List Tk) (d : List Dn)
  | bad (y : Dn) (r : List Tk) (d : List Dn)
def R.tell {α : Type} (d : List Dn) : R α → R α
  | .ok x r e => .ok x r (d ++ e)
  | .bad y r e => .bad y r (d ++ e)
def R.bind {α β : Type} (x : R α) (f : α → List Tk → R β) : R β :=
  match x with
  | .ok a r d => (f a r).tell d
  | .bad y r d => .bad y r d
theorem R.bind_ok {α β : Type} (a : α) (r : List Tk) (d : List Dn) (f : α → List Tk → R β) : (R.ok a r d).bind f = (f a r).tell d := rfl
theorem R.bind_bad {α β : Type} (y : Dn) (r : List Tk) (d : List Dn) (f : α → List Tk → R β) : (R.bad y r d).bind f = .bad y r d := rfl
theorem R.tell_ok {α : Type} (x : α) (r : List Tk) (d e : List Dn) : (R.ok x r e).tell d = .ok x r (d ++ e) := rfl
theorem R.tell_bad {α : Type} (y : Dn) (r : List Tk) (d e : List Dn) : (R.bad y r e : R α).tell d = .bad y r (d ++ e) := rfl
theorem R.tell_nil {α : Type} (x : R α) : x.tell [] = x := by cases x <;> rfl
theorem R.tell_tell {α : Type} (d e : List Dn) (x : R α) : (x.tell e).tell d = x.tell (d ++ e) := by cases x <;> simp [R.tell]
theorem R.bind_tell {α β : Type} (d : List Dn) (x : R α) (f : α → List Tk → R β) : (x.tell d).bind f = (x.bind f).tell d := by
  cases x with
  | ok a r e => simp [R.bind, R.tell_ok, R.tell_tell]
  | bad y r e => simp [R.bind, R.tell_bad]
def hd (ts : List Tk) : Tk := ts.headD ⟨6, 0, []⟩
def isM (m : Bs) (ts : List Tk) : Bool := ((hd ts).k == 2 || (hd ts).k == 5) && (hd ts).t == m
def syn (ts : List Tk) : Dn := ⟨(hd ts).a, 2, (hd ts).t⟩
def deep (ts : List Tk) : Dn := ⟨(hd ts).a, 3, []⟩
def want (m : Bs) (ts : List Tk) : R Unit := if isM m ts then .ok () ts.tail [] else .bad (syn ts) ts []
def wantName (ts : List Tk) : R Tk := if (hd ts).k = 1 then .ok (hd ts) ts.tail [] else .bad (syn ts) ts []
section
variable {α : Type}
def fieldsP (sign : Bs) (read : List Tk → R α) : Nat → List Bs → List (Bs × α) → List Tk → R (List (Bs × α))
  | 0, _, acc, ts => .ok acc ts []
  | n + 1, seen, acc, ts => (wantName ts).bind fun nm r =>
      ((want sign r).bind fun _ r => (read r).bind fun v r =>
        if isM [44] r then fieldsP sign read n (nm.t :: seen) (if nm.t ∈ seen then acc else acc ++ [(nm.t, v)]) r.tail
        else (want [125] r).bind fun _ r => .ok (if nm.t ∈ seen then acc else acc ++ [(nm.t, v)]) r []).tell (if nm.t ∈ seen then [⟨nm.a, 4, nm.t⟩] else [])
def readP (sign : Bs) (read : List Tk → R α) (ts : List Tk) : R (List (Bs × α)) :=
  if isM [125] ts then .ok [] ts.tail [] else fieldsP sign read ts.length [] [] ts
end
def bsLt : Bs → Bs → Bool
  | [], [] => false
  | [], _ :: _ => true
  | _ :: _, [] => false
  | a :: r, b :: s => if a.toNat < b.toNat then true else if b.toNat < a.toNat then false else bsLt r s
def insF {α : Type} (x : Bs × α) : List (Bs × α) → List (Bs × α)
  | [] => [x]
  | y :: r => if bsLt y.1 x.1 then y :: insF x r else x :: y :: r
def sortF {α : Type} : List (Bs × α) → List (Bs × α)
  | [] => []
  | x :: r => insF x (sortF r)
def tInt : PT := .mk 1 [] [] []
def tBool : PT := .mk 2 [] [] []
def tText : PT := .mk 3 [] [] []
def tDyn : PT := .mk 4 [] [] []
def recT (fs : List (Bs × PT)) : PT := .mk 5 [] ((sortF fs).map (·.1)) ((sortF fs).map (·.2))
def plainP (typ : List Tk → R PT) (ts : List Tk) : R PT :=
  if (hd ts).k = 1 then .ok (.mk 8 (hd ts).t [] []) ts.tail []
  else if isM [105, 110, 116] ts then .ok tInt ts.tail []
  else if isM [98, 111, 111, 108] ts then .ok tBool ts.tail []
  else if isM [116, 101, 120, 116] ts then .ok tText ts.tail []
  else if isM [63] ts then .ok tDyn ts.tail []
  else if isM [123] ts then (readP [58] typ ts.tail).bind fun fs r => .ok (recT fs) r []
  else if isM [40] ts then (typ ts.tail).bind fun t r => (want [41] r).bind fun _ r => .ok t r []
  else .bad (syn ts) ts []
def arrowP (plain arrow : List Tk → R PT) (ts : List Tk) : R PT :=
  (plain ts).bind fun t r => if isM [45, 62] r then (arrow r.tail).bind fun u r => .ok (.mk 6 [] [] [t, u]) r [] else .ok t r []
def unionP (arrow : List Tk → R PT) : Nat → List PT → List Tk → R (List PT)
  | 0, acc, ts => .ok acc ts []
  | n + 1, acc, ts => if isM [124] ts then (arrow ts.tail).bind fun t r => unionP arrow n (acc ++ [t]) r else .ok acc ts []
def joinT : List PT → PT
  | [t] => t
  | l => .mk 7 [] [] l
def typP (arrow : List Tk → R PT) (ts : List Tk) : R PT :=
  (arrow ts).bind fun t r => (unionP arrow r.length [t] r).bind fun l r => .ok (joinT l) r []
def lvT : Nat → (List Tk → R PT) × (List Tk → R PT)
  | 0 => (fun ts => .bad (deep ts) ts [], fun ts => .bad (deep ts) ts [])
  | n + 1 => (typP (arrowP (plainP (lvT n).1) (lvT n).2), arrowP (plainP (lvT n).1) (lvT n).2)
def typ (n : Nat) : List Tk → R PT := (lvT n).1
def arr (n : Nat) : List Tk → R PT := (lvT n).2
def numOf (l : Bs) : Nat := l.foldl (fun n c => 10 * n + (c.toNat - 48)) 0
def recE (a : Nat) (fs : List (Bs × PE)) : PE := .mk 5 a [] 0 (fs.map (·.1)) (fs.map (·.2)) []
def basicP (typ : List Tk → R PT) (expr : List Tk → R PE) (ts : List Tk) : R PE :=
  if (hd ts).k = 3 then .ok (.mk 1 (hd ts).a [] (numOf (hd ts).t) [] [] []) ts.tail []
  else if (hd ts).k = 4 then .ok (.mk 2 (hd ts).a (hd ts).t 0 [] [] []) ts.tail []
  else if (hd ts).k = 1 then .ok (.mk 4 (hd ts).a (hd ts).t 0 [] [] []) ts.tail []
  else if isM [116, 114, 117, 101] ts then .ok (.mk 3 (hd ts).a [] 1 [] [] []) ts.tail []
  else if isM [102, 97, 108, 115, 101] ts then .ok (.mk 3 (hd ts).a [] 0 [] [] []) ts.tail []
  else if isM [123] ts then (readP [61] expr ts.tail).bind fun fs r => .ok (recE (hd ts).a fs) r []
  else if isM [40] ts then (expr ts.tail).bind fun e r =>
    if isM [58] r then (typ r.tail).bind fun t r => (want [41] r).bind fun _ r => .ok (.mk 11 (hd ts).a [] 0 [] [e] [t]) r []
    else (want [41] r).bind fun _ r => .ok e r []
  else .bad (syn ts) ts []
def callP (expr : List Tk → R PE) : Nat → PE → List Tk → R PE
  | 0, e, ts => .ok e ts []
  | n + 1, e, ts =>
    if isM [40] ts then (expr ts.tail).bind fun g r => (want [41] r).bind fun _ r => callP expr n (.mk 7 (hd ts).a [] 0 [] [e, g] []) r
    else if isM [46] ts then (wantName ts.tail).bind fun nm r => callP expr n (.mk 6 nm.a nm.t 0 [] [e] []) r
    else .ok e ts []
def funP (typ : List Tk → R PT) (expr : List Tk → R PE) (a : Nat) (ts : List Tk) : R PE :=
  (want [40] ts).bind fun _ r => (wantName r).bind fun nm r => (want [58] r).bind fun _ r => (typ r).bind fun t r => (want [41] r).bind fun _ r => (expr r).bind fun e r => .ok (.mk 8 a nm.t 0 [] [e] [t]) r []
def letP (expr : List Tk → R PE) (a : Nat) (ts : List Tk) : R PE :=
  (wantName ts).bind fun nm r => (want [61] r).bind fun _ r => (expr r).bind fun v r => (want [105, 110] r).bind fun _ r => (expr r).bind fun b r => .ok (.mk 9 a nm.t 0 [] [v, b] []) r []
def ifP (expr : List Tk → R PE) (a : Nat) (ts : List Tk) : R PE :=
  (expr ts).bind fun x r => (want [116, 104, 101, 110] r).bind fun _ r => (expr r).bind fun y r => (want [101, 108, 115, 101] r).bind fun _ r => (expr r).bind fun z r => .ok (.mk 10 a [] 0 [] [x, y, z] []) r []
def exprP (typ : List Tk → R PT) (expr : List Tk → R PE) (ts : List Tk) : R PE :=
  if isM [102, 117, 110] ts then funP typ expr (hd ts).a ts.tail
  else if isM [108, 101, 116] ts then letP expr (hd ts).a ts.tail
  else if isM [105, 102] ts then ifP expr (hd ts).a ts.tail
  else (basicP typ expr ts).bind fun e r => callP expr r.length e r
def exp : Nat → List Tk → R PE
  | 0 => fun ts => .bad (deep ts) ts []
  | n + 1 => exprP (typ n) (exp n)
def declP (ts : List Tk) : R PD :=
  if isM [117, 115, 101] ts then (wantName ts.tail).bind fun nm r => (want [59] r).bind fun _ r => .ok ⟨1, nm.a, nm.t, [], []⟩ r []
  else if isM [116, 121, 112, 101] ts then (wantName ts.tail).bind fun nm r => (want [61] r).bind fun _ r => (typ 64 r).bind fun t r => (want [59] r).bind fun _ r => .ok ⟨2, nm.a, nm.t, [t], []⟩ r []
  else (want [108, 101, 116] ts).bind fun _ r => (wantName r).bind fun nm r =>
    if isM [58] r then (typ 64 r.tail).bind fun t r => (want [61] r).bind fun _ r => (exp 64 r).bind fun e r => (want [59] r).bind fun _ r => .ok ⟨3, nm.a, nm.t, [t], [e]⟩ r []
    else (want [61] r).bind fun _ r => (exp 64 r).bind fun e r => (want [59] r).bind fun _ r => .ok ⟨3, nm.a, nm.t, [], [e]⟩ r []
def passD : List Tk → List Tk
  | [] => []
  | t :: r => if t.k = 6 then t :: r else if isM [59] (t :: r) then r else passD r
def parseP : Nat → List Tk → List PD × List Dn
  | 0, _ => ([], [])
  | n + 1, ts =>
    if (hd ts).k = 6 then ([], [])
    else match declP ts with
      | .ok d r e => (d :: (parseP n r).1, e ++ (parseP n r).2)
      | .bad y r e => ((parseP n (passD r)).1, e ++ (y :: (parseP n (passD r)).2))
def wholeP {α : Type} (read : List Tk → R α) (ts : List Tk) (told : List Dn) : Option α :=
  if told ≠ [] then none else
  match read ts with
  | .ok x r [] => if (hd r).k = 6 then some x else none
  | _ => none
end Go.Proofs.YtijnjoonbjdafaaGreatDoor
namespace Go.Proofs.YtijnjoonbjdafaaGreatDoor
def R.rest {α : Type} : R α → List Tk
  | .ok _ r _ => r
  | .bad _ r _ => r
def Shr {α : Type} (n : Nat) (x : R α) : Prop := x.rest.length ≤ n
theorem Shr.mono {α : Type} {n m : Nat} {x : R α} (h : Shr n x) (hm : n ≤ m) : Shr m x := Nat.le_trans h hm
theorem Shr.tell {α : Type} {n : Nat} {x : R α} (h : Shr n x) (d : List Dn) : Shr n (x.tell d) := by cases x <;> exact h
theorem Shr.bind {α β : Type} {n : Nat} {x : R α} {f : α → List Tk → R β} (h : Shr n x) (hf : ∀ a r, r.length ≤ n → Shr r.length (f a r)) : Shr n (x.bind f) := by
  cases x with
  | bad y r d => exact h
  | ok a r d => exact ((hf a r h).tell d).mono h
theorem Shr.ok {α : Type} (x : α) (r : List Tk) (d : List Dn) : Shr r.length (R.ok x r d) := Nat.le_refl _
theorem tail_le (ts : List Tk) : ts.tail.length ≤ ts.length := by rw [List.length_tail]; omega
theorem want_shr (m : Bs) (ts : List Tk) : Shr ts.length (want m ts) := by
  unfold want; split
  · exact tail_le ts
  · exact Nat.le_refl _
theorem wantName_shr (ts : List Tk) : Shr ts.length (wantName ts) := by
  unfold wantName; split
  · exact tail_le ts
  · exact Nat.le_refl _
theorem fields_shr {α : Type} (sign : Bs) (read : List Tk → R α) (hr : ∀ ts, Shr ts.length (read ts)) : ∀ (n : Nat) (seen : List Bs) (acc : List (Bs × α)) (ts : List Tk), Shr ts.length (fieldsP sign read n seen acc ts)
  | 0, _, _, ts => Nat.le_refl _
  | n + 1, seen, acc, ts => by
    unfold fieldsP
    refine (wantName_shr ts).bind fun nm r _ => Shr.tell (((want_shr sign r).bind fun _ r _ => (hr r).bind fun v r _ => ?_)) _
    split
    · exact (fields_shr sign read hr n _ _ _).mono (tail_le r)
    · exact (want_shr _ r).bind fun _ r _ => Shr.ok _ _ _
theorem read_shr {α : Type} (sign : Bs) (read : List Tk → R α) (hr : ∀ ts, Shr ts.length (read ts)) (ts : List Tk) : Shr ts.length (readP sign read ts) := by
  unfold readP; split
  · exact tail_le ts
  · exact fields_shr sign read hr _ _ _ _
theorem plain_shr (typ : List Tk → R PT) (ht : ∀ ts, Shr ts.length (typ ts)) (ts : List Tk) : Shr ts.length (plainP typ ts) := by
  unfold plainP
  repeat' split
  all_goals first
    | exact tail_le ts
    | exact Nat.le_refl _
    | exact ((read_shr _ _ ht _).mono (tail_le ts)).bind fun _ r _ => Shr.ok _ _ _
    | exact ((ht _).mono (tail_le ts)).bind fun t r _ => (want_shr _ r).bind fun _ r _ => Shr.ok _ _ _
theorem arrow_shr (plain arrow : List Tk → R PT) (hp : ∀ ts, Shr ts.length (plain ts)) (ha : ∀ ts, Shr ts.length (arrow ts)) (ts : List Tk) : Shr ts.length (arrowP plain arrow ts) := by
  unfold arrowP
  refine (hp ts).bind fun t r _ => ?_
  split
  · exact ((ha _).mono (tail_le r)).bind fun _ r _ => Shr.ok _ _ _
  · exact Nat.le_refl _
theorem union_shr (arrow : List Tk → R PT) (ha : ∀ ts, Shr ts.length (arrow ts)) : ∀ (n : Nat) (acc : List PT) (ts : List Tk), Shr ts.length (unionP arrow n acc ts)
  | 0, _, ts => Nat.le_refl _
  | n + 1, acc, ts => by
    unfold unionP; split
    · exact ((ha _).mono (tail_le ts)).bind fun _ r _ => union_shr arrow ha n _ r
    · exact Nat.le_refl _
theorem typP_shr (arrow : List Tk → R PT) (ha : ∀ ts, Shr ts.length (arrow ts)) (ts : List Tk) : Shr ts.length (typP arrow ts) := by
  unfold typP
  exact (ha ts).bind fun t r _ => (union_shr arrow ha _ _ r).bind fun l r _ => Shr.ok _ _ _
theorem lvT_shr : ∀ n, (∀ ts, Shr ts.length (typ n ts)) ∧ (∀ ts, Shr ts.length (arr n ts))
  | 0 => ⟨fun _ => Nat.le_refl _, fun _ => Nat.le_refl _⟩
  | n + 1 => by
    have ih := lvT_shr n
    have ha : ∀ ts, Shr ts.length (arr (n + 1) ts) := arrow_shr _ _ (plain_shr _ ih.1) ih.2
    exact ⟨typP_shr _ ha, ha⟩
theorem call_shr (expr : List Tk → R PE) (he : ∀ ts, Shr ts.length (expr ts)) : ∀ (n : Nat) (e : PE) (ts : List Tk), Shr ts.length (callP expr n e ts)
  | 0, _, ts => Nat.le_refl _
  | n + 1, e, ts => by
    unfold callP
    split
    · exact ((he _).mono (tail_le ts)).bind fun _ r _ => (want_shr _ r).bind fun _ r _ => call_shr expr he n _ r
    · split
      · exact ((wantName_shr _).mono (tail_le ts)).bind fun _ r _ => call_shr expr he n _ r
      · exact Nat.le_refl _
theorem basic_shr (typ : List Tk → R PT) (expr : List Tk → R PE) (ht : ∀ ts, Shr ts.length (typ ts)) (he : ∀ ts, Shr ts.length (expr ts)) (ts : List Tk) : Shr ts.length (basicP typ expr ts) := by
  unfold basicP
  split
  · exact tail_le ts
  split
  · exact tail_le ts
  split
  · exact tail_le ts
  split
  · exact tail_le ts
  split
  · exact tail_le ts
  split
  · exact ((read_shr _ _ he _).mono (tail_le ts)).bind fun _ r _ => Shr.ok _ _ _
  split
  · refine ((he _).mono (tail_le ts)).bind fun e r _ => ?_
    split
    · exact ((ht _).mono (tail_le r)).bind fun t r _ => (want_shr _ r).bind fun _ r _ => Shr.ok _ _ _
    · exact (want_shr _ r).bind fun _ r _ => Shr.ok _ _ _
  · exact Nat.le_refl _
theorem expr_shr (typ : List Tk → R PT) (expr : List Tk → R PE) (ht : ∀ ts, Shr ts.length (typ ts)) (he : ∀ ts, Shr ts.length (expr ts)) (ts : List Tk) : Shr ts.length (exprP typ expr ts) := by
  unfold exprP
  split
  · refine Shr.mono (n := ts.tail.length) ?_ (tail_le ts)
    exact (want_shr _ _).bind fun _ r _ => (wantName_shr r).bind fun _ r _ => (want_shr _ r).bind fun _ r _ => (ht r).bind fun _ r _ => (want_shr _ r).bind fun _ r _ => (he r).bind fun _ r _ => Shr.ok _ _ _
  split
  · refine Shr.mono (n := ts.tail.length) ?_ (tail_le ts)
    exact (wantName_shr _).bind fun _ r _ => (want_shr _ r).bind fun _ r _ => (he r).bind fun _ r _ => (want_shr _ r).bind fun _ r _ => (he r).bind fun _ r _ => Shr.ok _ _ _
  split
  · refine Shr.mono (n := ts.tail.length) ?_ (tail_le ts)
    exact (he _).bind fun _ r _ => (want_shr _ r).bind fun _ r _ => (he r).bind fun _ r _ => (want_shr _ r).bind fun _ r _ => (he r).bind fun _ r _ => Shr.ok _ _ _
  · exact (basic_shr typ expr ht he ts).bind fun e r _ => call_shr expr he _ _ r
theorem exp_shr : ∀ n ts, Shr ts.length (exp n ts)
  | 0, _ => Nat.le_refl _
  | n + 1, ts => expr_shr _ _ (lvT_shr n).1 (exp_shr n) ts
end Go.Proofs.YtijnjoonbjdafaaGreatDoor

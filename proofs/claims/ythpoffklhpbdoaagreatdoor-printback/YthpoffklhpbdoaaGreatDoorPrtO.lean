/-
  Types, expressions and declarations as bytes and as tokens. No walk.
-/
import Derived.Test.YthpoffklhpbdoaaGreatDoorGrM
namespace Go.Proofs.YthpoffklhpbdoaaGreatDoor
set_option maxRecDepth 100000

section
variable {α : Type}
/-- With something between. -/
def joinL (s : List α) : List (List α) → List α
  | [] => []
  | [x] => x
  | x :: y :: r => x ++ (s ++ joinL s (y :: r))
theorem joinL_snoc (s : List α) : ∀ (l : List (List α)) (x : List α), l ≠ [] → joinL s (l ++ [x]) = joinL s l ++ (s ++ x)
  | [], _, h => absurd rfl h
  | [y], x, _ => rfl
  | y :: z :: r, x, _ => by
    have := joinL_snoc s (z :: r) x (by simp)
    simp only [List.cons_append] at this ⊢
    rw [joinL, this, joinL]
    simp only [List.append_assoc]
/-- Names, a sign, and what belongs to each. -/
def pairL (sg : List α) : List (List α) → List (List α) → List (List α)
  | [], _ => []
  | n :: ns, ls => (n ++ (sg ++ ls.headD [])) :: pairL sg ns ls.tail
theorem pairL_length (sg : List α) : ∀ ns ls : List (List α), (pairL sg ns ls).length = ns.length
  | [], _ => rfl
  | n :: ns, ls => by rw [pairL, List.length_cons, pairL_length, List.length_cons]
theorem pairL_get (sg : List α) : ∀ (ns ls : List (List α)) (i : Nat) (n : List α), ns[i]? = some n → (pairL sg ns ls)[i]? = some (n ++ (sg ++ ls[i]?.getD []))
  | [], _, i, n, h => by simp at h
  | m :: ns, ls, 0, n, h => by
    simp at h
    subst h
    cases ls <;> rfl
  | m :: ns, ls, i + 1, n, h => by
    have := pairL_get sg ns ls.tail i n (by simpa using h)
    rw [pairL, List.getElem?_cons_succ, this]
    cases ls <;> simp
end

/-- How well it holds together: a union, a function's type, all others. -/
def lvlT (k : Nat) : Nat := if k = 7 then 0 else if k = 6 then 1 else 2
def bodyT (k : Nat) (n : Bs) (ns : List Bs) (l0 l1 l2 : List Bs) : Bs :=
  if k = 1 then [105, 110, 116] else if k = 2 then [98, 111, 111, 108] else if k = 3 then [116, 101, 120, 116] else if k = 4 then [63]
  else if k = 8 then n
  else if k = 5 then 123 :: (joinL [44, 32] (pairL [58, 32] ns l0) ++ [125])
  else if k = 6 then l2.headD [] ++ (32 :: 45 :: 62 :: 32 :: l1.tail.headD [])
  else if k = 7 then (if l1 = [] then [110, 101, 118, 101, 114] else joinL [32, 124, 32] l1)
  else []
def markT (q k : Nat) (b : Bs) : Bs := if lvlT k < q then 40 :: (b ++ [41]) else b
mutual
/-- A type's text, where so much is asked for. -/
def prT : Nat → PT → Bs
  | q, .mk k n ns l => markT q k (bodyT k n ns (prTs 0 l) (prTs 1 l) (prTs 2 l))
def prTs : Nat → List PT → List Bs
  | _, [] => []
  | q, t :: r => prT q t :: prTs q r
end
theorem prTs_map (q : Nat) : ∀ l, prTs q l = l.map (prT q)
  | [] => by rw [prTs]; rfl
  | t :: r => by rw [prTs, prTs_map q r]; rfl
theorem prT_mk (q k : Nat) (n : Bs) (ns : List Bs) (l : List PT) : prT q (.mk k n ns l) = markT q k (bodyT k n ns (l.map (prT 0)) (l.map (prT 1)) (l.map (prT 2))) := by rw [prT, prTs_map, prTs_map, prTs_map]

/-- The digits of a number. -/
def dig (m : Nat) : Bs := if _h : m < 10 then [(48 + m).toUInt8] else dig (m / 10) ++ [(48 + m % 10).toUInt8]
termination_by m
decreasing_by omega

def lvlE (k : Nat) : Nat := if k = 8 ∨ k = 9 ∨ k = 10 then 0 else 2
def bodyE (k : Nat) (n : Bs) (m : Nat) (ns : List Bs) (e0 e2 t0 : List Bs) : Bs :=
  if k = 1 then dig m else if k = 2 then 34 :: (n ++ [34]) else if k = 3 then (if m = 1 then [116, 114, 117, 101] else [102, 97, 108, 115, 101])
  else if k = 4 then n
  else if k = 5 then 123 :: (joinL [44, 32] (pairL [32, 61, 32] ns e0) ++ [125])
  else if k = 6 then e2.headD [] ++ 46 :: n
  else if k = 7 then e2.headD [] ++ 40 :: (e0.tail.headD [] ++ [41])
  else if k = 8 then [102, 117, 110] ++ (32 :: 40 :: (n ++ 32 :: 58 :: 32 :: (t0.headD [] ++ 41 :: 32 :: e0.headD [])))
  else if k = 9 then [108, 101, 116] ++ (32 :: (n ++ 32 :: 61 :: 32 :: (e0.headD [] ++ 32 :: ([105, 110] ++ 32 :: e0.tail.headD []))))
  else if k = 10 then [105, 102] ++ (32 :: (e0.headD [] ++ 32 :: ([116, 104, 101, 110] ++ 32 :: (e0.tail.headD [] ++ 32 :: ([101, 108, 115, 101] ++ 32 :: e0.tail.tail.headD [])))))
  else if k = 11 then 40 :: (e0.headD [] ++ 32 :: 58 :: 32 :: (t0.headD [] ++ [41]))
  else []
def markE (q k : Nat) (b : Bs) : Bs := if lvlE k < q then 40 :: (b ++ [41]) else b
mutual
/-- An expression's text. -/
def prE : Nat → PE → Bs
  | q, .mk k _ n m ns l ts => markE q k (bodyE k n m ns (prEs 0 l) (prEs 2 l) (ts.map (prT 0)))
def prEs : Nat → List PE → List Bs
  | _, [] => []
  | q, t :: r => prE q t :: prEs q r
end
theorem prEs_map (q : Nat) : ∀ l, prEs q l = l.map (prE q)
  | [] => by rw [prEs]; rfl
  | t :: r => by rw [prEs, prEs_map q r]; rfl
theorem prE_mk (q k a : Nat) (n : Bs) (m : Nat) (ns : List Bs) (l : List PE) (ts : List PT) : prE q (.mk k a n m ns l ts) = markE q k (bodyE k n m ns (l.map (prE 0)) (l.map (prE 2)) (ts.map (prT 0))) := by rw [prE, prEs_map, prEs_map]

/-- A declaration's text without its end. -/
def hdD (d : PD) : Bs :=
  if d.k = 1 then [117, 115, 101] ++ 32 :: d.n
  else if d.k = 2 then [116, 121, 112, 101] ++ 32 :: (d.n ++ 32 :: 61 :: 32 :: (d.ts.map (prT 0)).headD [])
  else if d.k = 3 then [108, 101, 116] ++ 32 :: (d.n ++ ((if d.ts = [] then [] else 32 :: 58 :: 32 :: (d.ts.map (prT 0)).headD []) ++ 32 :: 61 :: 32 :: (d.es.map (prE 0)).headD []))
  else []
def prD (d : PD) : Bs := if d.k = 1 ∨ d.k = 2 ∨ d.k = 3 then hdD d ++ [59, 10] else []
def prF (l : List PD) : Bs := l.flatMap prD


end Go.Proofs.YthpoffklhpbdoaaGreatDoor

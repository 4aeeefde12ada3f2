/-
  How deep parts may be, by reckoning: six forms, less than ninety deep. No walk.
-/
import Derived.Test.YtbmjefboaihapaaGreatDoorAlv
namespace Go.Proofs.YtbmjefboaihapaaGreatDoor
set_option maxRecDepth 100000

def dpA (c : Nat) : Bs := match c with
  | 0 => [40] | 1 => [40] | 2 => [123, 97, 58, 32] | 3 => [105, 110, 116, 32, 45, 62, 32] | 4 => [123, 97, 32, 61, 32] | _ => [102, 40]
def dpB (c : Nat) : Bs := match c with
  | 0 => [41] | 1 => [41] | 2 => [125] | 3 => [] | 4 => [125] | _ => [41]
def rep (l : Bs) : Nat → Bs
  | 0 => []
  | n + 1 => rep l n ++ l
def dpT (c : Nat) : Bool := c == 0 || c == 2 || c == 3
/-- The part, and the declaration with it. -/
def dpS (c k : Nat) : Bs := rep (dpA c) k ++ (if dpT c then [105, 110, 116] else [120]) ++ rep (dpB c) k
def dpP (c k : Nat) : Bs := (if dpT c then [116, 121, 112, 101, 32, 116, 32, 61, 32] else [108, 101, 116, 32, 116, 32, 61, 32]) ++ dpS c k ++ [59] ++ [32, 117, 115, 101, 32, 102, 59]
def tkF (l : Bs) : List Tk := (toksF l).map fun x => ⟨x.1, x.2.1, x.2.2⟩
def dnF (l : Bs) : List Dn := (toldF l).map fun x => ⟨x.1, x.2, []⟩
theorem tkF_is (l : Bs) : toks l = tkF l := toks_lit rfl
theorem dnF_is (l : Bs) : dns l = dnF l := dns_lit rfl
def deepOk (c k : Nat) : Bool := if dpT c then (wholeO (readW (typ 64) (tkF (dpS c k))) (dnF (dpS c k))).isSome else (wholeO (readW (exp 64) (tkF (dpS c k))) (dnF (dpS c k))).isSome
def deepQ (c k : Nat) : List PD × List Dn := ((parseP (tkF (dpP c k)).length (tkF (dpP c k))).1, dnF (dpP c k) ++ (parseP (tkF (dpP c k)).length (tkF (dpP c k))).2)
theorem deepQ_is (c k : Nat) : parseAll (dpP c k) = deepQ c k := by rw [parseAll, tkF_is, dnF_is]; rfl
def firstK : List PD → Nat
  | [] => 0
  | d :: _ => d.k
def firstD : List Dn → Nat
  | [] => 0
  | d :: _ => d.d
def deepChk (c k : Nat) : Bool :=
  if k < 64 then deepOk c k && (deepQ c k).1.length == 2 && (deepQ c k).2.length == 0
  else !deepOk c k && (deepQ c k).1.length == 1 && (deepQ c k).2.length == 1 && firstD (deepQ c k).2 == 3 && firstK (deepQ c k).1 == 1
theorem rep_len (l : Bs) : ∀ n, (rep l n).length = n * l.length
  | 0 => by simp [rep]
  | n + 1 => by rw [rep, List.length_append, rep_len l n, Nat.add_mul]; omega
theorem dpA_len (c : Nat) : (dpA c).length ≤ 7 := by unfold dpA; split <;> decide
theorem dpB_len (c : Nat) : (dpB c).length ≤ 1 := by unfold dpB; split <;> decide
end Go.Proofs.YtbmjefboaihapaaGreatDoor

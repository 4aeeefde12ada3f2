/-
  The document's reader of expressions: all levels.
-/
import Derived.Test.YtijnjoonbjdafaaGreatDoorRgM
import Derived.Test.YtijnjoonbjdafaaGreatDoorRhM
import Derived.Test.YtijnjoonbjdafaaGreatDoorRyM
namespace Go.Proofs.YtijnjoonbjdafaaGreatDoor
set_option maxRecDepth 20000
open Go.RowKit Go.Shelf
theorem qbasic_any {B M rb : Nat} {all : List Tk} (hM : M ≤ 10000000) (hnum : ∀ t ∈ all, t.k = 3 → NumT t.t) (d : Nat) (hd64 : d ≤ 64) (qt : Q → PT × Q) (qe : Q → PE × Q) (hqe : ∀ s, (qe s).2.ts.length ≤ s.ts.length) (HT : RdsT 45 B M rb all (d + 1) qt) (HE : RdsE 48 B M rb all (d + 1) qe) :
    RdsE 94 B M rb all d (basicS qt qe) := by
  intro w s h
  unfold basicS
  cases hb : s.bad with
  | true => rw [if_pos rfl]; exact qbasic_bad d w s h hb
  | false =>
  rw [if_neg (by decide)]
  by_cases k1 : (hd s.ts).k = 1
  · rw [if_pos k1]; exact qbasic_name d w s h hb k1
  rw [if_neg k1]
  by_cases k3 : (hd s.ts).k = 3
  · rw [if_pos k3]; exact qbasic_num d w s h (hnum _ h.hd_mem k3) hb k3
  rw [if_neg k3]
  by_cases k4 : (hd s.ts).k = 4
  · rw [if_pos k4]; exact qbasic_text d w s h hb k4
  rw [if_neg k4]
  cases m1 : s.is [116, 114, 117, 101] with
  | true => rw [if_pos rfl]; exact qbasic_true hM d w s h hb k1 k3 k4 m1
  | false =>
  rw [if_neg (by decide)]
  cases m2 : s.is [102, 97, 108, 115, 101] with
  | true => rw [if_pos rfl]; exact qbasic_false hM d w s h hb k1 k3 k4 m2
  | false =>
  rw [if_neg (by decide)]
  cases m3 : s.is [123] with
  | true => rw [if_pos rfl]; exact qbasic_rec d hd64 hM qe hqe HE w s h hb k1 k3 k4 m1 m2 m3
  | false =>
  rw [if_neg (by decide)]
  cases hp : (s.take [40]).bad with
  | true => rw [if_pos rfl]; exact qbasic_nop d hM w s h hb k1 k3 k4 m1 m2 m3 hp
  | false =>
  rw [if_neg (by decide)]
  unfold brkS
  cases hc : (qe (s.take [40])).2.is [58] with
  | true => rw [if_pos rfl]; exact qbasic_as d hd64 hM qt qe HT HE w s h hb k1 k3 k4 m1 m2 m3 hp hc
  | false => rw [if_neg (by decide)]; exact qbasic_par d hd64 hM qe HE w s h hb k1 k3 k4 m1 m2 m3 hp hc
theorem qexpr_any {B M rb : Nat} {all : List Tk} (hM : M ≤ 10000000) (d : Nat) (hd64 : d ≤ 64) (qt : Q → PT × Q) (qe : Q → PE × Q) (hqe : ∀ s, (qe s).2.ts.length ≤ s.ts.length) (HT : RdsT 45 B M rb all (d + 1) qt) (HE : RdsE 48 B M rb all (d + 1) qe) (HB : RdsE 94 B M rb all d (basicS qt qe)) :
    RdsE 48 B M rb all d (exprS qt qe) := by
  intro w s h
  unfold exprS
  cases hb : s.bad with
  | true => rw [if_pos rfl]; exact qexpr_bad d hd64 w s h hb
  | false =>
  rw [if_neg (by decide)]
  cases hf : s.is [102, 117, 110] with
  | true =>
    rw [if_pos rfl]
    cases hh : (funHd s).2.bad with
    | true => exact qexpr_fun_a d hd64 hM w s _ h hb hf hh (by rw [funS, if_pos hh])
    | false =>
      cases hq : ((qt (funHd s).2).2.take [41]).bad with
      | true => exact qexpr_fun_b d hd64 hM qt HT w s _ h hb hf hh hq (by rw [funS, if_neg (by rw [hh]; decide), if_pos hq])
      | false => exact qexpr_fun_c d hd64 hM qt HT qe HE w s _ h hb hf hh hq rfl
  | false =>
  rw [if_neg (by decide)]
  cases hl : s.is [108, 101, 116] with
  | true => rw [if_pos rfl]; exact qexpr_let d hd64 hM qe HE w s h hb hf hl
  | false =>
  rw [if_neg (by decide)]
  cases hi : s.is [105, 102] with
  | true => rw [if_pos rfl]; exact qexpr_if d hd64 hM qe HE w s h hb hf hl hi
  | false =>
  rw [if_neg (by decide)]
  exact qexpr_chain d hd64 hM qe (basicS qt qe) hqe HE HB w s _ h hb hf hl hi rfl
theorem qexp_all {B M rb : Nat} {all : List Tk} (hM : M ≤ 10000000) (hnum : ∀ t ∈ all, t.k = 3 → NumT t.t) : ∀ (n d : Nat), n + d = 65 → RdsE 48 B M rb all d (qExp n)
  | 0, d, h => by
    obtain rfl : d = 65 := by omega
    exact qexpr_deep hM
  | n + 1, d, h => by
    have HE := qexp_all (B := B) (rb := rb) hM hnum n (d + 1) (by omega)
    have HT := (qlv_any (B := B) (rb := rb) (all := all) hM n (d + 1) (by omega)).1
    have hqe := shr_of (rd_exp n) (exp_shr n)
    exact qexpr_any hM d (by omega) (qTyp n) (qExp n) hqe HT HE (qbasic_any hM hnum d (by omega) (qTyp n) (qExp n) hqe HT HE)
end Go.Proofs.YtijnjoonbjdafaaGreatDoor

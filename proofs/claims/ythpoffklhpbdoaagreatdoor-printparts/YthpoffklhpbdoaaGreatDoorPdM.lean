/-
  Numbers of what is told are ones that an int64 holds; print.Type and print.Expr.
  What prints a declaration: letDecl and decl.
  What prints a declaration, and all: decl, Decl, File.
-/
import Derived.Test.YthpoffklhpbdoaaGreatDoorPcx
import Derived.Test.YthpoffklhpbdoaaGreatDoorPrM
import Derived.Test.YthpoffklhpbdoaaGreatDoorSmX
namespace Go.Proofs.YthpoffklhpbdoaaGreatDoor
set_option maxRecDepth 100000
open Go.RowKit

theorem ne_num {m : Nat} (h : (dig m).length ≤ 18) : m ≤ 9223372036854775807 := by
  have h1 := numOf_lt (dig m) (fun c hc => by
    have := dig_digits m c hc
    simp only [isDig, Bool.and_eq_true, decide_eq_true_eq] at this
    simpa [UInt8.le_iff_toNat_le] using this)
  rw [numOf_dig] at h1
  have h2 : 10 ^ (dig m).length ≤ 10 ^ 18 := Nat.pow_le_pow_right (by decide) h
  have h3 : (10 : Nat) ^ 18 = 1000000000000000000 := by decide
  omega
theorem ve_ne {x : PE} (h : VE x) : NE x := by
  induction h with
  | mk h0 h4 h1 h2 h5 h3 ih => exact .mk (fun hk => ne_num (h0 hk)) ih
theorem decl_ve {ts : List Tk} (ho : Oks ts) {d : PD} {r : List Tk} {x : List Dn} (h : declP ts = .ok d r x) : ∀ e ∈ d.es, VE e := by
  unfold declP at h
  split at h
  next hm =>
    obtain ⟨nm, r1, _, _, e1, h⟩ := R.bind_ok_inv h
    obtain ⟨_, r2, _, _, e2, h⟩ := R.bind_ok_inv h
    cases h
    simp
  split at h
  next hm =>
    obtain ⟨nm, r1, _, _, e1, h⟩ := R.bind_ok_inv h
    obtain ⟨_, r2, _, _, e2, h⟩ := R.bind_ok_inv h
    obtain ⟨t, r3, _, _, e3, h⟩ := R.bind_ok_inv h
    obtain ⟨_, r4, _, _, e4, h⟩ := R.bind_ok_inv h
    cases h
    simp
  obtain ⟨_, r0, _, _, e0, h⟩ := R.bind_ok_inv h
  obtain ⟨p0, -⟩ := want_inv e0 ho
  obtain ⟨nm, r1, _, _, e1, h⟩ := R.bind_ok_inv h
  obtain ⟨-, p1, -⟩ := name_inv e1 p0
  split at h
  next hm =>
    obtain ⟨q1, -⟩ := isM_inv hm p1
    obtain ⟨t, r2, _, _, e2, h⟩ := R.bind_ok_inv h
    obtain ⟨-, p2, -⟩ := (all_T 64).1 _ q1 _ _ _ e2
    obtain ⟨_, r3, _, _, e3, h⟩ := R.bind_ok_inv h
    obtain ⟨p3, -⟩ := want_inv e3 p2
    obtain ⟨e, r4, _, _, e4, h⟩ := R.bind_ok_inv h
    obtain ⟨a4, -⟩ := all_E 64 _ p3 _ _ _ e4
    obtain ⟨_, r5, _, _, e5, h⟩ := R.bind_ok_inv h
    cases h
    intro y hy
    rw [List.mem_singleton.1 hy]; exact a4
  · obtain ⟨_, r3, _, _, e3, h⟩ := R.bind_ok_inv h
    obtain ⟨p3, -⟩ := want_inv e3 p1
    obtain ⟨e, r4, _, _, e4, h⟩ := R.bind_ok_inv h
    obtain ⟨a4, -⟩ := all_E 64 _ p3 _ _ _ e4
    obtain ⟨_, r5, _, _, e5, h⟩ := R.bind_ok_inv h
    cases h
    intro y hy
    rw [List.mem_singleton.1 hy]; exact a4
theorem parse_ve : ∀ (n : Nat) (ts : List Tk), Oks ts → ∀ d ∈ (parseP n ts).1, ∀ e ∈ d.es, VE e
  | 0, ts, _ => by simp [parseP]
  | n + 1, ts, ho => by
    by_cases hk : (hd ts).k = 6
    · rw [parse_end hk]; simp
    · rw [parse_step hk]
      cases h : declP ts with
      | ok d r e =>
        obtain ⟨-, o, -⟩ := decl_gd ho h
        intro x hx
        rcases List.mem_cons.1 hx with rfl | hx
        · exact decl_ve ho h
        · exact parse_ve n r o x hx
      | bad y r e =>
        obtain ⟨p, hp, -⟩ := (decl_eats ts).2 y r e h
        obtain ⟨q, hq⟩ := pass_suffix r
        have o : Oks (passD r) := oks_suffix (p := q) (by rw [← hq]; exact oks_suffix (p := p) (by rw [← hp]; exact ho))
        exact parse_ve n (passD r) o
/-- What printing a declaration asks of it. -/
structure ND (d : PD) : Prop where
  kind : d.k = 1 ∨ d.k = 2 ∨ d.k = 3
  es : ∀ e ∈ d.es, NE e
theorem all_nd (s : Bs) : ∀ d ∈ (parseAll s).1, ND d := fun d hd =>
  ⟨((all_gd s).1 d hd).kind, fun e he => ve_ne (parse_ve _ _ (toks_oks s) d hd e he)⟩

theorem Tab.up {B B' : Nat} {w : World} (h : Tab B w) (hB : B ≤ B') : Tab B' w := fun w' hb => h w' (hb.mono hB)

set_option maxHeartbeats 1000000 in
theorem printT_any (t : PT) (A : Nat → Prop) (cs : List Value) (w : World) (hC : IsCs A w (encT 26 t) cs) (hlen : (prT 0 t).length ≤ 100000000000000) :
    Calls Tryz.prog 26 #[.agg cs.toArray] w fun e w' => e = .returned (.string ⟨(prT 0 t).toArray⟩) ∧ Below w.heap.size w w' := by
  obtain ⟨txt, htxt⟩ : ∃ txt, txt = prT 0 t := ⟨_, rfl⟩
  have HTY := Lib.hid (ty_any t 0 (by decide) A cs)
  rw [← htxt] at hlen HTY ⊢
  obtain ⟨k, n, ns, l⟩ := t
  have HC := Lib.hid hC
  obtain ⟨a2, c2, a3, c3, rfl, -, -⟩ := cells_T2 hC
  obtain ⟨W1, hW1⟩ : ∃ W1, w.alloc (.cells #[.int .i64 (k : Nat), .string ⟨n.toArray⟩, .slice a2 ns.length c2, .slice a3 l.length c3] 26) = W1 := ⟨_, rfl⟩
  obtain ⟨W2, hW2⟩ : ∃ W2, W1.alloc (.cells #[.pointer none, .slice none 0 0] 104) = W2 := ⟨_, rfl⟩
  have hA1 : W1.heap[w.heap.size]? = some (.cells #[.int .i64 (k : Nat), .string ⟨n.toArray⟩, .slice a2 ns.length c2, .slice a3 l.length c3] 26 (0, 0)) := by rw [← hW1]; exact heap_alloc_new w _
  have hA2 : W2.heap[w.heap.size]? = some (.cells #[.int .i64 (k : Nat), .string ⟨n.toArray⟩, .slice a2 ns.length c2, .slice a3 l.length c3] 26 (0, 0)) := by rw [← hW2]; exact blk_alloc hA1 _
  have B1 := Lib.hid (show Below w.heap.size w W1 by rw [← hW1]; exact (Below.refl _ w).alloc (Nat.le_refl _) _)
  have S1 := Lib.hid (show W1.heap.size = w.heap.size + 1 by rw [← hW1]; simp)
  have B2 := Lib.hid (show Below W1.heap.size W1 W2 by rw [← hW2]; exact (Below.refl _ _).alloc (Nat.le_refl _) _)
  have P2 := Lib.hid (show Pst W1.heap.size W2 W1.heap.size [] by rw [← hW2]; exact Pst.fresh W1)
  have hIC := IsCs.below HC.out (B1.out.trans (B2.out.mono (by have := S1.out; omega)))
  have HT := Lib.hid (HTY.out W1.heap.size W1.heap.size [] W2 P2.out hIC (by have := hlen; simp only [List.length_nil]; omega))
  obtain ⟨⟨q0, q1, q2, q3⟩, -⟩ := fou_of (t := 26) hA2
  have H1 := Lib.hid hW1
  have H2 := Lib.hid hW2
  clear hC hA1 hA2 hIC HTY htxt hlen hW1 hW2
  go_enter Tryz.func26, Tryz.ntmps26
  go_upto_region 1 with fail
  rw [H1.out]
  go_upto_region 2 with fail
  rw [H2.out]
  go_wp2_with fail
  refine HT.out.mono ?_
  rintro e W3 ⟨rfl, f3, p3⟩
  have F3 := Lib.hid f3
  have HS := Lib.hid (string_any p3)
  clear f3 p3
  go_wp2_with fail
  refine HS.out.mono ?_
  rintro e W4 ⟨rfl, b4⟩
  have B4 := Lib.hid b4
  clear b4
  go_wp2_with fail
  go_ret
  refine ⟨by simp, ?_⟩
  have hs : w.heap.size ≤ W1.heap.size := by have := S1.out; omega
  exact ((B1.out.trans (B2.out.mono hs)).trans (F3.out.1.mono hs)).trans (B4.out.mono hs)

set_option maxHeartbeats 1000000 in
theorem printE_any (x : PE) (hx : NE x) (A : Nat → Prop) (cs : List Value) (w : World) (hC : IsCs A w (encE 26 36 x) cs) (hT : Tab w.heap.size w) (hlen : (prE 0 x).length ≤ 1000000) :
    Calls Tryz.prog 28 #[.agg cs.toArray] w fun e w' => e = .returned (.string ⟨(prE 0 x).toArray⟩) ∧ Below w.heap.size w w' := by
  obtain ⟨txt, htxt⟩ : ∃ txt, txt = prE 0 x := ⟨_, rfl⟩
  have HTY := Lib.hid (ex_any (S := 10000000000000) x hx (by
    have := sq_le (a := (prE 0 x).length + 2) (b := 1000002) (by omega)
    omega) 0 (.inl rfl) A cs)
  rw [← htxt] at hlen HTY ⊢
  obtain ⟨k, a, n, m, ns, l, ts⟩ := x
  have HC := Lib.hid hC
  obtain ⟨a4, c4, a5, c5, a6, c6, rfl, -, -, -⟩ := cells_E2 hC
  obtain ⟨W1, hW1⟩ : ∃ W1, w.alloc (.cells #[.int .i64 (k : Nat), .int .i64 (a : Nat), .string ⟨n.toArray⟩, .int .i64 (m : Nat), .slice a4 ns.length c4, .slice a5 l.length c5, .slice a6 ts.length c6] 36) = W1 := ⟨_, rfl⟩
  obtain ⟨W2, hW2⟩ : ∃ W2, W1.alloc (.cells #[.pointer none, .slice none 0 0] 104) = W2 := ⟨_, rfl⟩
  have hA1 : W1.heap[w.heap.size]? = some (.cells #[.int .i64 (k : Nat), .int .i64 (a : Nat), .string ⟨n.toArray⟩, .int .i64 (m : Nat), .slice a4 ns.length c4, .slice a5 l.length c5, .slice a6 ts.length c6] 36 (0, 0)) := by rw [← hW1]; exact heap_alloc_new w _
  have hA2 : W2.heap[w.heap.size]? = some (.cells #[.int .i64 (k : Nat), .int .i64 (a : Nat), .string ⟨n.toArray⟩, .int .i64 (m : Nat), .slice a4 ns.length c4, .slice a5 l.length c5, .slice a6 ts.length c6] 36 (0, 0)) := by rw [← hW2]; exact blk_alloc hA1 _
  have B1 := Lib.hid (show Below w.heap.size w W1 by rw [← hW1]; exact (Below.refl _ w).alloc (Nat.le_refl _) _)
  have S1 := Lib.hid (show W1.heap.size = w.heap.size + 1 by rw [← hW1]; simp)
  have B2 := Lib.hid (show Below W1.heap.size W1 W2 by rw [← hW2]; exact (Below.refl _ _).alloc (Nat.le_refl _) _)
  have P2 := Lib.hid (show Pst W1.heap.size W2 W1.heap.size [] by rw [← hW2]; exact Pst.fresh W1)
  have hb12 := B1.out.trans (B2.out.mono (by have := S1.out; omega))
  have hIC := IsCs.below HC.out hb12
  have hTB : Tab W1.heap.size W2 := Tab.up (B := w.heap.size) (hT.on hb12) (by have := S1.out; omega)
  have HT := Lib.hid (HTY.out W1.heap.size W1.heap.size [] W2 P2.out ⟨hIC, hTB⟩ (by have := hlen; simp only [List.length_nil]; omega))
  obtain ⟨⟨q0, q1, q2, q3, q4, q5, q6⟩, -⟩ := sev_of (t := 36) hA2
  have H1 := Lib.hid hW1
  have H2 := Lib.hid hW2
  clear hC hA1 hA2 hIC HTY htxt hlen hW1 hW2 hT hTB hb12 hx
  go_enter Tryz.func28, Tryz.ntmps28
  go_upto_region 1 with fail
  rw [H1.out]
  go_upto_region 2 with fail
  rw [H2.out]
  go_wp2_with fail
  refine HT.out.mono ?_
  rintro e W3 ⟨rfl, f3, p3⟩
  have F3 := Lib.hid f3
  have HS := Lib.hid (string_any p3)
  clear f3 p3
  go_wp2_with fail
  refine HS.out.mono ?_
  rintro e W4 ⟨rfl, b4⟩
  have B4 := Lib.hid b4
  clear b4
  go_wp2_with fail
  go_ret
  refine ⟨by simp, ?_⟩
  have hs : w.heap.size ≤ W1.heap.size := by have := S1.out; omega
  exact ((B1.out.trans (B2.out.mono hs)).trans (F3.out.1.mono hs)).trans (B4.out.mono hs)

end Go.Proofs.YthpoffklhpbdoaaGreatDoor

namespace Go.Proofs.YthpoffklhpbdoaaGreatDoor
variable {S : Nat}
set_option maxRecDepth 100000
open Go.RowKit

theorem cells_D2 {A : Nat → Prop} {w : World} {k a : Nat} {n : Bs} {ts : List PT} {es : List PE} {cs : List Value} (h : IsCs A w (encD 26 36 ⟨k, a, n, ts, es⟩) cs) : ∃ a3 c3 a4 c4, cs = [.int .i64 (k : Nat), .int .i64 (a : Nat), .string ⟨n.toArray⟩, .slice a3 ts.length c3, .slice a4 es.length c4] ∧ IsC A w (.row 26 4 ts.length (encTs 26 ts)) (.slice a3 ts.length c3) ∧ IsC A w (.row 36 7 es.length (encEs 26 36 es)) (.slice a4 es.length c4) := by
  obtain ⟨v3, v4, rfl, k3, k4⟩ := cells_DD h
  obtain ⟨_, r3, -, -⟩ := k3.unrow
  obtain ⟨a3, c3, rfl⟩ := row_slice r3
  obtain ⟨_, r4, -, -⟩ := k4.unrow
  obtain ⟨a4, c4, rfl⟩ := row_slice r4
  exact ⟨a3, c3, a4, c4, rfl, k3, k4⟩

set_option maxHeartbeats 2000000 in
theorem let0_any (k a : Nat) (n : Bs) (es : List PE) (hE : ExOk S (es[0]?.getD zPE)) (A : Nat → Prop) (cs : List Value) :
    PrtE S 79 (fun b => #[.pointer (some ⟨b, 0, none⟩), .agg cs.toArray]) (([108, 101, 116, 32] ++ n) ++ ([32, 61, 32] ++ prE 0 (es[0]?.getD zPE))) (fun B w => IsCs A w (encD 26 36 ⟨k, a, n, [], es⟩) cs ∧ Tab B w) := by
  intro B b bs w hP hD hlen
  obtain ⟨hC, hT⟩ := hD
  obtain ⟨e0, he0⟩ : ∃ e0, e0 = es[0]?.getD zPE := ⟨_, rfl⟩
  rw [← he0] at hlen hE ⊢
  have HQ0 := Lib.hid he0
  have HE0 := Lib.hid hE
  clear he0 hE
  obtain ⟨a3, c3, a4, c4, rfl, k3, k4⟩ := cells_D2 hC
  have K4 := Lib.hid k4
  have HP := Lib.hid hP
  have HTB := Lib.hid hT
  have HLEN := Lib.hid hlen
  obtain ⟨W1, hW1⟩ : ∃ W1, w.alloc (.cells #[.int .i64 (k : Nat), .int .i64 (a : Nat), .string ⟨n.toArray⟩, .slice a3 0 c3, .slice a4 es.length c4] 62) = W1 := ⟨_, rfl⟩
  have hA1 : W1.heap[w.heap.size]? = some (.cells #[.int .i64 (k : Nat), .int .i64 (a : Nat), .string ⟨n.toArray⟩, .slice a3 0 c3, .slice a4 es.length c4] 62 (0, 0)) := by rw [← hW1]; exact heap_alloc_new w _
  have P1 : Hid (Pst B W1 b bs) := by rw [← hW1]; exact hP.alloc _
  have F1 : Hid (Fb B b w W1) := by rw [← hW1]; exact (Fb.refl B b w).alloc hP.hi _
  have G1 := Lib.hid (Fb.refl B b W1)
  have HNB : Hid (∀ e : some w.heap.size = some b, False) := by
    intro e
    have := HP.out.lt
    have := Option.some.inj e
    omega
  obtain ⟨⟨q0, q1, q2, q3, q4⟩, -⟩ := fiv_of (t := 62) hA1
  have HA1 := Lib.hid hA1
  have HW1 := Lib.hid hW1
  clear hC hT k3 k4 hA1 hP hlen hW1
  go_enter Tryz.func79, Tryz.ntmps79
  go_upto_region 1 with fail
  rw [HW1.out]
  have HS := Lib.hid (say2 P1.out [108, 101, 116, 32] n (by have := HLEN.out; simp only [List.length_append, List.length_cons, List.length_nil] at this ⊢; omega))
  go_wp2_with fail
  refine HS.out.mono ?_
  rintro e W2 ⟨rfl, fx, px⟩
  have P2 := Lib.hid px
  have G2 := Lib.hid (G1.out.trans fx)
  clear fx px HS
  clear q0 q1 q2 q3 q4
  obtain ⟨⟨q0, q1, q2, q3, q4⟩, -⟩ := fiv_of (t := 62) (G2.out.2 _ _ HA1.out (fun e => HNB.out e) (fun c fz e => by cases e))
  have HS := Lib.hid (say1 P2.out [32, 61, 32] (by have := HLEN.out; simp only [List.length_append, List.length_cons, List.length_nil] at this ⊢; omega))
  go_wp2_with fail
  refine HS.out.mono ?_
  rintro e W5 ⟨rfl, fx, px⟩
  have P5 := Lib.hid px
  have G5 := Lib.hid (G2.out.trans fx)
  clear fx px HS
  clear q0 q1 q2 q3 q4
  obtain ⟨⟨q0, q1, q2, q3, q4⟩, -⟩ := fiv_of (t := 62) (G5.out.2 _ _ HA1.out (fun e => HNB.out e) (fun c fz e => by cases e))
  have HQ := Lib.hid (partE_any es 0 A W5 _ (IsC.fb HP.out (F1.out.trans G5.out) _ _ (by simp [nb, nb_Es]) K4.out) (by decide))
  rw [← HQ0.out] at HQ
  go_wp2_with fail
  refine HQ.out.mono ?_
  rintro e W6 ⟨csx, rfl, bx, ix⟩
  have P6 := Lib.hid (P5.out.below bx)
  have G6 := Lib.hid (G5.out.then_below bx P5.out)
  have HS : Hid (Calls Tryz.prog 52 #[.pointer (some ⟨b, 0, none⟩), .agg csx.toArray, .int .i64 0] W6 fun e w' => e = .returned (.tuple #[]) ∧ Fb B b W6 w' ∧ Pst B w' b (((bs ++ ([108, 101, 116, 32] ++ n)) ++ [32, 61, 32]) ++ prE 0 e0)) :=
    HE0.out 0 (.inl rfl) A csx B b _ W6 P6.out ⟨ix, HTB.out.fb (F1.out.trans G6.out)⟩ (by have := HLEN.out; simp only [List.length_append, List.length_cons, List.length_nil] at this ⊢; omega)
  clear bx ix HQ
  go_wp2_with fail
  refine HS.out.mono ?_
  rintro e W7 ⟨rfl, fx, px⟩
  have P7 := Lib.hid px
  have G7 := Lib.hid (G6.out.trans fx)
  clear fx px HS
  clear q0 q1 q2 q3 q4
  go_wp2_with fail
  go_end0
  exact ⟨rfl, F1.out.trans G7.out, by simpa only [List.append_assoc, List.cons_append, List.nil_append] using P7.out⟩

set_option maxHeartbeats 2000000 in
theorem let1_any (k a : Nat) (n : Bs) (t0 : PT) (tr : List PT) (es : List PE) (hE : ExOk S (es[0]?.getD zPE)) (A : Nat → Prop) (cs : List Value) :
    PrtE S 79 (fun b => #[.pointer (some ⟨b, 0, none⟩), .agg cs.toArray]) (([108, 101, 116, 32] ++ n) ++ ([32, 58, 32] ++ (prT 0 t0 ++ ([32, 61, 32] ++ prE 0 (es[0]?.getD zPE))))) (fun B w => IsCs A w (encD 26 36 ⟨k, a, n, t0 :: tr, es⟩) cs ∧ Tab B w) := by
  intro B b bs w hP hD hlen
  obtain ⟨hC, hT⟩ := hD
  obtain ⟨e0, he0⟩ : ∃ e0, e0 = es[0]?.getD zPE := ⟨_, rfl⟩
  rw [← he0] at hlen hE ⊢
  have HQ0 := Lib.hid he0
  have HE0 := Lib.hid hE
  clear he0 hE
  obtain ⟨a3, c3, a4, c4, rfl, k3, k4⟩ := cells_D2 hC
  have hget : (t0 :: tr)[0]? = some t0 := rfl
  obtain ⟨ts, hts⟩ : ∃ ts, ts = t0 :: tr := ⟨_, rfl⟩
  have hpos : 0 < ts.length := by rw [hts]; simp
  rw [← hts] at k3 hget ⊢
  have HGET := Lib.hid hget
  clear hts hget
  obtain ⟨nt, hnt⟩ : ∃ nt, nt = ts.length := ⟨_, rfl⟩
  rw [← hnt] at k3 hpos ⊢
  have hd1 : decide ((nt : Int) > 0) = true := by simp; omega
  have hd2 : decide ((0 : Int) < (nt : Int)) = true := by simp; omega
  have hd3 : decide (0 < nt) = true := by simp; omega
  have HNT := Lib.hid hnt
  obtain ⟨g, c3', xs, hv, -, -, -, -⟩ := row_cells k3 (by omega)
  cases hv
  have K3 := Lib.hid k3
  have K4 := Lib.hid k4
  have HP := Lib.hid hP
  have HTB := Lib.hid hT
  have HLEN := Lib.hid hlen
  obtain ⟨W1, hW1⟩ : ∃ W1, w.alloc (.cells #[.int .i64 (k : Nat), .int .i64 (a : Nat), .string ⟨n.toArray⟩, .slice (some ⟨g, 0, none⟩) nt c3, .slice a4 es.length c4] 62) = W1 := ⟨_, rfl⟩
  have hA1 : W1.heap[w.heap.size]? = some (.cells #[.int .i64 (k : Nat), .int .i64 (a : Nat), .string ⟨n.toArray⟩, .slice (some ⟨g, 0, none⟩) nt c3, .slice a4 es.length c4] 62 (0, 0)) := by rw [← hW1]; exact heap_alloc_new w _
  have P1 : Hid (Pst B W1 b bs) := by rw [← hW1]; exact hP.alloc _
  have F1 : Hid (Fb B b w W1) := by rw [← hW1]; exact (Fb.refl B b w).alloc hP.hi _
  have G1 := Lib.hid (Fb.refl B b W1)
  have HNB : Hid (∀ e : some w.heap.size = some b, False) := by
    intro e
    have := HP.out.lt
    have := Option.some.inj e
    omega
  obtain ⟨⟨q0, q1, q2, q3, q4⟩, -⟩ := fiv_of (t := 62) hA1
  have HA1 := Lib.hid hA1
  have HW1 := Lib.hid hW1
  have HPOS := Lib.hid hpos
  clear hC hT k3 k4 hA1 hP hlen hW1 hnt hpos
  go_enter Tryz.func79, Tryz.ntmps79
  go_upto_region 1 with fail
  rw [HW1.out]
  have HS := Lib.hid (say2 P1.out [108, 101, 116, 32] n (by have := HLEN.out; simp only [List.length_append, List.length_cons, List.length_nil] at this ⊢; omega))
  go_wp2_with fail
  refine HS.out.mono ?_
  rintro e W2 ⟨rfl, fx, px⟩
  have P2 := Lib.hid px
  have G2 := Lib.hid (G1.out.trans fx)
  clear fx px HS
  clear q0 q1 q2 q3 q4
  obtain ⟨⟨q0, q1, q2, q3, q4⟩, -⟩ := fiv_of (t := 62) (G2.out.2 _ _ HA1.out (fun e => HNB.out e) (fun c fz e => by cases e))
  have HS := Lib.hid (say1 P2.out [32, 58, 32] (by have := HLEN.out; simp only [List.length_append, List.length_cons, List.length_nil] at this ⊢; omega))
  go_wp2_with fail
  refine HS.out.mono ?_
  rintro e W3 ⟨rfl, fx, px⟩
  have P3 := Lib.hid px
  have G3 := Lib.hid (G2.out.trans fx)
  clear fx px HS
  clear q0 q1 q2 q3 q4
  obtain ⟨⟨q0, q1, q2, q3, q4⟩, -⟩ := fiv_of (t := 62) (G3.out.2 _ _ HA1.out (fun e => HNB.out e) (fun c fz e => by cases e))
  obtain ⟨g', c', xs', hv, -, hg', hcs, hcell⟩ := row_cells (IsC.fb HP.out (F1.out.trans G3.out) _ _ (by simp [nb, nb_Ts]) K3.out) (by have := HPOS.out; omega)
  cases hv
  rw [encTs_flat] at hcs
  obtain ⟨cst, ict, hat⟩ := IsCs.at (encT_length 26) ts 0 t0 xs' hcs HGET.out
  obtain ⟨x0, x1, x2, x3, rfl⟩ := four ict
  have hcell' : ∀ j x, j < 4 → ([x0, x1, x2, x3] : List Value)[j]? = some x → W3.cell? ⟨g, j, none⟩ = some x := fun j x hj hx => by
    have h1 := hat j x hx
    rw [Nat.zero_mul, Nat.zero_add] at h1
    exact hcell j x (by have := HPOS.out; omega) h1
  have z0 := hcell' 0 _ (by decide) rfl
  have z1 := hcell' 1 _ (by decide) rfl
  have z2 := hcell' 2 _ (by decide) rfl
  have z3 := hcell' 3 _ (by decide) rfl
  have HS : Hid (Calls Tryz.prog 51 #[.pointer (some ⟨b, 0, none⟩), .agg #[x0, x1, x2, x3], .int .i64 0] W3 fun e w' => e = .returned (.tuple #[]) ∧ Fb B b W3 w' ∧ Pst B w' b (((bs ++ ([108, 101, 116, 32] ++ n)) ++ [32, 58, 32]) ++ prT 0 t0)) :=
    ty_any t0 0 (by decide) A [x0, x1, x2, x3] B b _ W3 P3.out ict (by have := HLEN.out; simp only [List.length_append, List.length_cons, List.length_nil] at this ⊢; omega)
  clear hcell hcell' hcs hat ict hg'
  go_wp2_with fail
  refine HS.out.mono ?_
  rintro e W4 ⟨rfl, fx, px⟩
  have P4 := Lib.hid px
  have G4 := Lib.hid (G3.out.trans fx)
  clear fx px HS
  clear q0 q1 q2 q3 q4 z0 z1 z2 z3
  have HS := Lib.hid (say1 P4.out [32, 61, 32] (by have := HLEN.out; simp only [List.length_append, List.length_cons, List.length_nil] at this ⊢; omega))
  go_wp2_with fail
  refine HS.out.mono ?_
  rintro e W5 ⟨rfl, fx, px⟩
  have P5 := Lib.hid px
  have G5 := Lib.hid (G4.out.trans fx)
  clear fx px HS
  obtain ⟨⟨q0, q1, q2, q3, q4⟩, -⟩ := fiv_of (t := 62) (G5.out.2 _ _ HA1.out (fun e => HNB.out e) (fun c fz e => by cases e))
  have HQ := Lib.hid (partE_any es 0 A W5 _ (IsC.fb HP.out (F1.out.trans G5.out) _ _ (by simp [nb, nb_Es]) K4.out) (by decide))
  rw [← HQ0.out] at HQ
  go_wp2_with fail
  refine HQ.out.mono ?_
  rintro e W6 ⟨csx, rfl, bx, ix⟩
  have P6 := Lib.hid (P5.out.below bx)
  have G6 := Lib.hid (G5.out.then_below bx P5.out)
  have HS : Hid (Calls Tryz.prog 52 #[.pointer (some ⟨b, 0, none⟩), .agg csx.toArray, .int .i64 0] W6 fun e w' => e = .returned (.tuple #[]) ∧ Fb B b W6 w' ∧ Pst B w' b (((((bs ++ ([108, 101, 116, 32] ++ n)) ++ [32, 58, 32]) ++ prT 0 t0) ++ [32, 61, 32]) ++ prE 0 e0)) :=
    HE0.out 0 (.inl rfl) A csx B b _ W6 P6.out ⟨ix, HTB.out.fb (F1.out.trans G6.out)⟩ (by have := HLEN.out; simp only [List.length_append, List.length_cons, List.length_nil] at this ⊢; omega)
  clear bx ix HQ
  go_wp2_with fail
  refine HS.out.mono ?_
  rintro e W7 ⟨rfl, fx, px⟩
  have P7 := Lib.hid px
  have G7 := Lib.hid (G6.out.trans fx)
  clear fx px HS
  clear q0 q1 q2 q3 q4
  go_wp2_with fail
  go_end0
  exact ⟨rfl, F1.out.trans G7.out, by simpa only [List.append_assoc, List.cons_append, List.nil_append] using P7.out⟩

theorem prE_pos (d : PD) : (d.es.map (prE 0)).headD [] = prE 0 (d.es[0]?.getD zPE) := headE0 0 (.inl rfl) d.es
theorem letD_any (d : PD) (hk : d.k = 3) (hE : ExOk S (d.es[0]?.getD zPE)) (A : Nat → Prop) (cs : List Value) :
    PrtE S 79 (fun b => #[.pointer (some ⟨b, 0, none⟩), .agg cs.toArray]) (hdD d) (fun B w => IsCs A w (encD 26 36 d) cs ∧ Tab B w) := by
  obtain ⟨k, a, n, ts, es⟩ := d
  have hk : k = 3 := hk
  subst hk
  have e0 : (es.map (prE 0)).headD [] = prE 0 (es[0]?.getD zPE) := headE0 0 (.inl rfl) es
  cases ts with
  | nil =>
    have e : hdD ⟨3, a, n, [], es⟩ = ([108, 101, 116, 32] ++ n) ++ ([32, 61, 32] ++ prE 0 (es[0]?.getD zPE)) := by
      rw [← e0]; simp [hdD]
    rw [e]
    exact let0_any 3 a n es hE A cs
  | cons t0 tr =>
    have e : hdD ⟨3, a, n, t0 :: tr, es⟩ = ([108, 101, 116, 32] ++ n) ++ ([32, 58, 32] ++ (prT 0 t0 ++ ([32, 61, 32] ++ prE 0 (es[0]?.getD zPE)))) := by
      rw [← e0]; simp [hdD]
    rw [e]
    exact let1_any 3 a n t0 tr es hE A cs

end Go.Proofs.YthpoffklhpbdoaaGreatDoor

namespace Go.Proofs.YthpoffklhpbdoaaGreatDoor
variable {S : Nat}
set_option maxRecDepth 100000
open Go.RowKit

def DcOk (S : Nat) (d : PD) : Prop := ∀ (A : Nat → Prop) (cs : List Value), PrtE S 49 (fun b => #[.pointer (some ⟨b, 0, none⟩), .agg cs.toArray]) (prD d) (fun B w => IsCs A w (encD 26 36 d) cs ∧ Tab B w)

set_option maxHeartbeats 2000000 in
theorem dec1_any (a : Nat) (n : Bs) (ts : List PT) (es : List PE) : DcOk S ⟨1, a, n, ts, es⟩ := by
  intro A cs B b bs w hP hD hlen
  obtain ⟨hC, hT⟩ := hD
  have he : prD ⟨1, a, n, ts, es⟩ = ([117, 115, 101, 32] ++ n) ++ [59, 10] := by simp [prD, hdD]
  rw [he] at hlen ⊢
  obtain ⟨a3, c3, a4, c4, rfl, k3, k4⟩ := cells_D2 hC
  have HP := Lib.hid hP
  have HLEN := Lib.hid hlen
  obtain ⟨W1, hW1⟩ : ∃ W1, w.alloc (.cells #[.int .i64 1, .int .i64 (a : Nat), .string ⟨n.toArray⟩, .slice a3 ts.length c3, .slice a4 es.length c4] 62) = W1 := ⟨_, rfl⟩
  have hA1 : W1.heap[w.heap.size]? = some (.cells #[.int .i64 1, .int .i64 (a : Nat), .string ⟨n.toArray⟩, .slice a3 ts.length c3, .slice a4 es.length c4] 62 (0, 0)) := by rw [← hW1]; exact heap_alloc_new w _
  have P1 : Hid (Pst B W1 b bs) := by rw [← hW1]; exact hP.alloc _
  have F1 : Hid (Fb B b w W1) := by rw [← hW1]; exact (Fb.refl B b w).alloc hP.hi _
  have G1 := Lib.hid (Fb.refl B b W1)
  obtain ⟨⟨q0, q1, q2, q3, q4⟩, -⟩ := fiv_of (t := 62) hA1
  have HW1 := Lib.hid hW1
  clear hC hT k3 k4 hA1 hP hlen hW1 he
  go_enter Tryz.func49, Tryz.ntmps49
  go_upto_region 1 with fail
  rw [HW1.out]
  have HS := Lib.hid (say2 P1.out [117, 115, 101, 32] n (by have := HLEN.out; simp only [List.length_append, List.length_cons, List.length_nil] at this ⊢; omega))
  go_wp2_with fail
  refine HS.out.mono ?_
  rintro e W2 ⟨rfl, fx, px⟩
  have P2 := Lib.hid px
  have G2 := Lib.hid (G1.out.trans fx)
  clear fx px HS
  clear q0 q1 q2 q3 q4
  have HS := Lib.hid (say1 P2.out [59, 10] (by have := HLEN.out; simp only [List.length_append, List.length_cons, List.length_nil] at this ⊢; omega))
  go_wp2_with fail
  refine HS.out.mono ?_
  rintro e W5 ⟨rfl, fx, px⟩
  have P5 := Lib.hid px
  have G5 := Lib.hid (G2.out.trans fx)
  clear fx px HS
  go_wp2_with fail
  go_end0
  exact ⟨rfl, F1.out.trans G5.out, by simpa only [List.append_assoc, List.cons_append, List.nil_append] using P5.out⟩

set_option maxHeartbeats 2000000 in
theorem dec2_any (a : Nat) (n : Bs) (ts : List PT) (es : List PE) : DcOk S ⟨2, a, n, ts, es⟩ := by
  intro A cs B b bs w hP hD hlen
  obtain ⟨hC, hT⟩ := hD
  have he : prD ⟨2, a, n, ts, es⟩ = ([116, 121, 112, 101, 32] ++ (n ++ [32, 61, 32])) ++ (prT 0 (ts[0]?.getD zPT) ++ [59, 10]) := by
    rw [← headD_get 0 (by decide) ts]; simp [prD, hdD]
  rw [he] at hlen ⊢
  obtain ⟨t0, ht0⟩ : ∃ t0, t0 = ts[0]?.getD zPT := ⟨_, rfl⟩
  rw [← ht0] at hlen ⊢
  have HR0 := Lib.hid ht0
  obtain ⟨a3, c3, a4, c4, rfl, k3, k4⟩ := cells_D2 hC
  have K3 := Lib.hid k3
  have HP := Lib.hid hP
  have HLEN := Lib.hid hlen
  obtain ⟨W1, hW1⟩ : ∃ W1, w.alloc (.cells #[.int .i64 2, .int .i64 (a : Nat), .string ⟨n.toArray⟩, .slice a3 ts.length c3, .slice a4 es.length c4] 62) = W1 := ⟨_, rfl⟩
  have hA1 : W1.heap[w.heap.size]? = some (.cells #[.int .i64 2, .int .i64 (a : Nat), .string ⟨n.toArray⟩, .slice a3 ts.length c3, .slice a4 es.length c4] 62 (0, 0)) := by rw [← hW1]; exact heap_alloc_new w _
  have P1 : Hid (Pst B W1 b bs) := by rw [← hW1]; exact hP.alloc _
  have F1 : Hid (Fb B b w W1) := by rw [← hW1]; exact (Fb.refl B b w).alloc hP.hi _
  have G1 := Lib.hid (Fb.refl B b W1)
  have HNB : Hid (∀ e : some w.heap.size = some b, False) := by
    intro e
    have := HP.out.lt
    have := Option.some.inj e
    omega
  obtain ⟨⟨q0, q1, q2, q3, q4⟩, -⟩ := fiv_of (t := 62) hA1
  have HA1 := Lib.hid hA1
  have HW1 := Lib.hid hW1
  clear hC hT k3 k4 hA1 hP hlen hW1 he ht0
  go_enter Tryz.func49, Tryz.ntmps49
  go_upto_region 1 with fail
  rw [HW1.out]
  have HS := Lib.hid (say3 P1.out [116, 121, 112, 101, 32] n [32, 61, 32] (by have := HLEN.out; simp only [List.length_append, List.length_cons, List.length_nil] at this ⊢; omega))
  go_wp2_with fail
  refine HS.out.mono ?_
  rintro e W2 ⟨rfl, fx, px⟩
  have P2 := Lib.hid px
  have G2 := Lib.hid (G1.out.trans fx)
  clear fx px HS
  clear q0 q1 q2 q3 q4
  obtain ⟨⟨q0, q1, q2, q3, q4⟩, -⟩ := fiv_of (t := 62) (G2.out.2 _ _ HA1.out (fun e => HNB.out e) (fun c fz e => by cases e))
  have HQ := Lib.hid (partT_any ts 0 A W2 _ (IsC.fb HP.out (F1.out.trans G2.out) _ _ (by simp [nb, nb_Ts]) K3.out) (by decide))
  rw [← HR0.out] at HQ
  go_wp2_with fail
  refine HQ.out.mono ?_
  rintro e W3 ⟨csx, rfl, bx, ix⟩
  have P3 := Lib.hid (P2.out.below bx)
  have G3 := Lib.hid (G2.out.then_below bx P2.out)
  have HS : Hid (Calls Tryz.prog 51 #[.pointer (some ⟨b, 0, none⟩), .agg csx.toArray, .int .i64 0] W3 fun e w' => e = .returned (.tuple #[]) ∧ Fb B b W3 w' ∧ Pst B w' b ((bs ++ ([116, 121, 112, 101, 32] ++ (n ++ [32, 61, 32]))) ++ prT 0 t0)) :=
    ty_any t0 0 (by decide) A csx B b _ W3 P3.out ix (by have := HLEN.out; simp only [List.length_append, List.length_cons, List.length_nil] at this ⊢; omega)
  clear bx ix HQ
  go_wp2_with fail
  refine HS.out.mono ?_
  rintro e W4 ⟨rfl, fx, px⟩
  have P4 := Lib.hid px
  have G4 := Lib.hid (G3.out.trans fx)
  clear fx px HS
  clear q0 q1 q2 q3 q4
  have HS := Lib.hid (say1 P4.out [59, 10] (by have := HLEN.out; simp only [List.length_append, List.length_cons, List.length_nil] at this ⊢; omega))
  go_wp2_with fail
  refine HS.out.mono ?_
  rintro e W5 ⟨rfl, fx, px⟩
  have P5 := Lib.hid px
  have G5 := Lib.hid (G4.out.trans fx)
  clear fx px HS
  go_wp2_with fail
  go_end0
  exact ⟨rfl, F1.out.trans G5.out, by simpa only [List.append_assoc, List.cons_append, List.nil_append] using P5.out⟩

set_option maxHeartbeats 2000000 in
theorem dec3_any (a : Nat) (n : Bs) (ts : List PT) (es : List PE) (hE : ExOk S (es[0]?.getD zPE)) : DcOk S ⟨3, a, n, ts, es⟩ := by
  intro A cs B b bs w hP hD hlen
  obtain ⟨hC, hT⟩ := hD
  have he : prD ⟨3, a, n, ts, es⟩ = hdD ⟨3, a, n, ts, es⟩ ++ [59, 10] := by rw [prD, if_pos (.inr (.inr rfl))]
  rw [he] at hlen ⊢
  have HL := Lib.hid (letD_any ⟨3, a, n, ts, es⟩ rfl hE A cs)
  obtain ⟨tx, htx⟩ : ∃ tx, tx = hdD ⟨3, a, n, ts, es⟩ := ⟨_, rfl⟩
  rw [← htx] at hlen HL ⊢
  have HC := Lib.hid hC
  obtain ⟨a3, c3, a4, c4, rfl, k3, k4⟩ := cells_D2 hC
  have HP := Lib.hid hP
  have HTB := Lib.hid hT
  have HLEN := Lib.hid hlen
  obtain ⟨W1, hW1⟩ : ∃ W1, w.alloc (.cells #[.int .i64 3, .int .i64 (a : Nat), .string ⟨n.toArray⟩, .slice a3 ts.length c3, .slice a4 es.length c4] 62) = W1 := ⟨_, rfl⟩
  have hA1 : W1.heap[w.heap.size]? = some (.cells #[.int .i64 3, .int .i64 (a : Nat), .string ⟨n.toArray⟩, .slice a3 ts.length c3, .slice a4 es.length c4] 62 (0, 0)) := by rw [← hW1]; exact heap_alloc_new w _
  have P1 : Hid (Pst B W1 b bs) := by rw [← hW1]; exact hP.alloc _
  have hF1 : Fb B b w W1 := by rw [← hW1]; exact (Fb.refl B b w).alloc hP.hi _
  have F1 := Lib.hid hF1
  obtain ⟨⟨q0, q1, q2, q3, q4⟩, -⟩ := fiv_of (t := 62) hA1
  have HS := Lib.hid (HL.out B b bs W1 P1.out ⟨IsCs.fb hP hF1 _ _ (by simp [encD, nbs, nb, nb_Ts, nb_Es]) HC.out, hT.fb hF1⟩ (by have := HLEN.out; simp only [List.length_append, List.length_cons, List.length_nil] at this ⊢; omega))
  have HW1 := Lib.hid hW1
  clear hC hT k3 k4 hA1 hP hlen hW1 he htx hF1 HL HC
  go_enter Tryz.func49, Tryz.ntmps49
  go_upto_region 1 with fail
  rw [HW1.out]
  go_wp2_with fail
  refine HS.out.mono ?_
  rintro e W2 ⟨rfl, fx, px⟩
  have P2 := Lib.hid px
  have G2 := Lib.hid (F1.out.trans fx)
  clear fx px HS
  clear q0 q1 q2 q3 q4
  have HS := Lib.hid (say1 P2.out [59, 10] (by have := HLEN.out; simp only [List.length_append, List.length_cons, List.length_nil] at this ⊢; omega))
  go_wp2_with fail
  refine HS.out.mono ?_
  rintro e W5 ⟨rfl, fx, px⟩
  have P5 := Lib.hid px
  have G5 := Lib.hid (G2.out.trans fx)
  clear fx px HS
  go_wp2_with fail
  go_end0
  exact ⟨rfl, G5.out, by simpa only [List.append_assoc, List.cons_append, List.nil_append] using P5.out⟩

theorem hd_le (d : PD) (h : d.k = 3) : (prE 0 (d.es[0]?.getD zPE)).length ≤ (prD d).length := by
  obtain ⟨k, a, n, ts, es⟩ := d
  have h : k = 3 := h
  subst h
  have e0 : (es.map (prE 0)).headD [] = prE 0 (es[0]?.getD zPE) := headE0 0 (.inl rfl) es
  rw [prD, if_pos (.inr (.inr rfl))]
  simp only [hdD, ← e0, List.length_append, List.length_cons]
  simp
  omega
theorem dec_any (d : PD) (h : ND d) (hS : ((prD d).length + 2) * ((prD d).length + 2) ≤ S) : DcOk S d := by
  have hle := hd_le d
  obtain ⟨k, a, n, ts, es⟩ := d
  rcases h.kind with e | e | e <;> (have e : k = _ := e; subst e)
  · exact dec1_any a n ts es
  · exact dec2_any a n ts es
  · refine dec3_any a n ts es (ex_any _ ?_ (Nat.le_trans (sq_le (Nat.add_le_add_right (hle rfl) 2)) hS))
    cases h0 : es[0]? with
    | none => exact ne_zero
    | some x => exact h.es x (List.mem_of_getElem? h0)

set_option maxHeartbeats 1000000 in
theorem printD_any (d : PD) (h : ND d) (A : Nat → Prop) (cs : List Value) (w : World) (hC : IsCs A w (encD 26 36 d) cs) (hT : Tab w.heap.size w) (hlen : (prD d).length ≤ 1000000) :
    Calls Tryz.prog 25 #[.agg cs.toArray] w fun e w' => e = .returned (.string ⟨(prD d).toArray⟩) ∧ Below w.heap.size w w' := by
  obtain ⟨txt, htxt⟩ : ∃ txt, txt = prD d := ⟨_, rfl⟩
  have HTY := Lib.hid (dec_any (S := 10000000000000) d h (by
    have := sq_le (a := (prD d).length + 2) (b := 1000002) (by omega)
    omega) A cs)
  unfold PrtE at HTY
  rw [← htxt] at hlen HTY ⊢
  obtain ⟨k, a, n, ts, es⟩ := d
  have HC := Lib.hid hC
  obtain ⟨a3, c3, a4, c4, rfl, -, -⟩ := cells_D2 hC
  obtain ⟨W1, hW1⟩ : ∃ W1, w.alloc (.cells #[.int .i64 (k : Nat), .int .i64 (a : Nat), .string ⟨n.toArray⟩, .slice a3 ts.length c3, .slice a4 es.length c4] 62) = W1 := ⟨_, rfl⟩
  obtain ⟨W2, hW2⟩ : ∃ W2, W1.alloc (.cells #[.pointer none, .slice none 0 0] 104) = W2 := ⟨_, rfl⟩
  have hA1 : W1.heap[w.heap.size]? = some (.cells #[.int .i64 (k : Nat), .int .i64 (a : Nat), .string ⟨n.toArray⟩, .slice a3 ts.length c3, .slice a4 es.length c4] 62 (0, 0)) := by rw [← hW1]; exact heap_alloc_new w _
  have hA2 : W2.heap[w.heap.size]? = some (.cells #[.int .i64 (k : Nat), .int .i64 (a : Nat), .string ⟨n.toArray⟩, .slice a3 ts.length c3, .slice a4 es.length c4] 62 (0, 0)) := by rw [← hW2]; exact blk_alloc hA1 _
  have B1 := Lib.hid (show Below w.heap.size w W1 by rw [← hW1]; exact (Below.refl _ w).alloc (Nat.le_refl _) _)
  have S1 := Lib.hid (show W1.heap.size = w.heap.size + 1 by rw [← hW1]; simp)
  have B2 := Lib.hid (show Below W1.heap.size W1 W2 by rw [← hW2]; exact (Below.refl _ _).alloc (Nat.le_refl _) _)
  have P2 := Lib.hid (show Pst W1.heap.size W2 W1.heap.size [] by rw [← hW2]; exact Pst.fresh W1)
  have hb12 := B1.out.trans (B2.out.mono (by have := S1.out; omega))
  have hIC := IsCs.below HC.out hb12
  have hTB : Tab W1.heap.size W2 := Tab.up (B := w.heap.size) (hT.on hb12) (by have := S1.out; omega)
  have HT := Lib.hid (HTY.out W1.heap.size W1.heap.size [] W2 P2.out ⟨hIC, hTB⟩ (by have := hlen; simp only [List.length_nil]; omega))
  obtain ⟨⟨q0, q1, q2, q3, q4⟩, -⟩ := fiv_of (t := 62) hA2
  have H1 := Lib.hid hW1
  have H2 := Lib.hid hW2
  clear hC hA1 hA2 hIC HTY htxt hlen hW1 hW2 hT hTB hb12 h
  go_enter Tryz.func25, Tryz.ntmps25
  go_upto_region 1 with fail
  rw [H1.out]
  go_upto_region 2 with fail
  rw [H2.out]
  go_wp2_with fail
  refine HT.out.mono ?_
  rintro e W3 ⟨rfl, f3, p3⟩
  have F3 := Lib.hid f3
  have HS := Lib.hid (string_any p3)
  clear f3 p3
  go_wp2_with fail
  refine HS.out.mono ?_
  rintro e W4 ⟨rfl, b4⟩
  have B4 := Lib.hid b4
  clear b4
  go_wp2_with fail
  go_ret
  refine ⟨by simp, ?_⟩
  have hs : w.heap.size ≤ W1.heap.size := by have := S1.out; omega
  exact ((B1.out.trans (B2.out.mono hs)).trans (F3.out.1.mono hs)).trans (B4.out.mono hs)

theorem prF_take (l : List PD) {i : Nat} {d : PD} (h : l[i]? = some d) : prF (l.take (i + 1)) = prF (l.take i) ++ prD d := by
  rw [List.take_add_one, h, Option.toList_some, prF_append]; simp [prF]
theorem prF_le (l : List PD) (i : Nat) : (prF (l.take i)).length ≤ (prF l).length := by
  have := congrArg List.length (show prF l = prF (l.take i) ++ prF (l.drop i) by rw [← prF_append, List.take_append_drop])
  rw [List.length_append] at this
  omega

set_option maxHeartbeats 2000000 in
theorem printF_any (l : List PD) (hN : ∀ d ∈ l, ND d) (A : Nat → Prop) (v : Value) (w : World) (h : Sub A w (encDs 26 36 l) l.length v) (hT : Tab w.heap.size w) (hlen : (prF l).length ≤ 1000000) (hsz : l.length ≤ 1000000) :
    Calls Tryz.prog 23 #[v] w fun e w' => e = .returned (.string ⟨(prF l).toArray⟩) ∧ Below w.heap.size w w' := by
  obtain ⟨a0, cap, xs, rfl, -, -⟩ := id h
  have HS := Lib.hid h
  have HT := Lib.hid hT
  have HN := Lib.hid hN
  have HLEN := Lib.hid hlen
  have HSZ := Lib.hid hsz
  obtain ⟨W1, hW1⟩ : ∃ W1, w.alloc (.cells #[.pointer none, .slice none 0 0] 104) = W1 := ⟨_, rfl⟩
  have B1 := Lib.hid (show Below w.heap.size w W1 by rw [← hW1]; exact (Below.refl _ w).alloc (Nat.le_refl _) _)
  have P1 := Lib.hid (show Pst w.heap.size W1 w.heap.size [] by rw [← hW1]; exact Pst.fresh w)
  have H1 := Lib.hid hW1
  clear h hT hN hlen hsz hW1
  go_enter Tryz.func23, Tryz.ntmps23
  go_upto_region 2 with fail
  rw [H1.out]
  go_wp2_with fail
  go_loopw [5, 8] (fun _ s8 wr => ∃ (i : Nat), s8 = .int .i64 (i : Nat) ∧ i ≤ l.length ∧ Hid (Fb w.heap.size w.heap.size W1 wr) ∧ Hid (Pst w.heap.size wr w.heap.size (prF (l.take i)))) (fun _ s8 _ => l.length - (intOf s8).toNat)
  case atStart => exact ⟨0, rfl, Nat.zero_le _, Lib.hid (Fb.refl _ _ _), P1⟩
  case round =>
    obtain ⟨i, rfl, hil, hF, hP⟩ := hrel
    by_cases hi2 : i < l.length
    · have hlt : decide ((i : Int) < (l.length : Int)) = true := by simp only [decide_eq_true_eq]; omega
      have hltn : decide (i < l.length) = true := by simp only [decide_eq_true_eq]; exact hi2
      have hget : l[i]? = some l[i] := List.getElem?_eq_getElem hi2
      obtain ⟨t, ht⟩ : ∃ t, t = l[i] := ⟨_, rfl⟩
      rw [← ht] at hget
      have hmem : t ∈ l := by rw [ht]; exact List.getElem_mem hi2
      have hnd := HN.out t hmem
      have HTK := Lib.hid (prF_take l hget)
      have hle := prF_le l (i + 1)
      rw [HTK.out, List.length_append] at hle
      have hbelow := B1.out.trans hF.out.1
      obtain ⟨g, o, cs, rfl, hg, hcs, hcell⟩ := Sub.at (encD_length 26 36) (HS.out.below hbelow) hget (by omega)
      have HCS := Lib.hid hcs
      have HDC := Lib.hid (dec_any (S := 10000000000000) t hnd (by
        have := sq_le (a := (prD t).length + 2) (b := 1000002) (by have := HLEN.out; omega)
        omega) A cs)
      obtain ⟨k, a, n, ts, es⟩ := t
      obtain ⟨a3, c3, a4, c4, rfl, k3, k4⟩ := cells_D2 hcs
      obtain ⟨W2, hW2⟩ : ∃ W2, wr.alloc (.cells #[.int .i64 (k : Nat), .int .i64 (a : Nat), .string ⟨n.toArray⟩, .slice a3 ts.length c3, .slice a4 es.length c4] 62) = W2 := ⟨_, rfl⟩
      have d0 := hcell 0 _ rfl
      have d1 := hcell 1 _ rfl
      have d2 := hcell 2 _ rfl
      have d3 := hcell 3 _ rfl
      have d4 := hcell 4 _ rfl
      rw [Nat.add_zero] at d0
      have hA2 : W2.heap[wr.heap.size]? = some (.cells #[.int .i64 (k : Nat), .int .i64 (a : Nat), .string ⟨n.toArray⟩, .slice a3 ts.length c3, .slice a4 es.length c4] 62 (0, 0)) := by rw [← hW2]; exact heap_alloc_new wr _
      have P2 := Lib.hid (show Pst w.heap.size W2 w.heap.size (prF (l.take i)) by rw [← hW2]; exact hP.out.alloc _)
      have hF2 : Fb w.heap.size w.heap.size wr W2 := by rw [← hW2]; exact (Fb.refl _ _ wr).alloc hP.out.hi _
      have F2 := Lib.hid (hF.out.trans hF2)
      obtain ⟨⟨q0, q1, q2, q3, q4⟩, -⟩ := fiv_of (t := 62) hA2
      have hTB : Tab w.heap.size W2 := Tab.fb (Tab.fb (Lib.TabBelow.on HT.out B1.out) hF.out) hF2
      have HC := Lib.hid (HDC.out w.heap.size w.heap.size _ W2 P2.out ⟨IsCs.fb hP.out hF2 _ _ (by simp [encD, nbs, nb, nb_Ts, nb_Es]) HCS.out, hTB⟩ (by have := HLEN.out; omega))
      have hbig := HSZ.out
      have HLT := Lib.hid hi2
      have HW2 := Lib.hid hW2
      clear hget hmem hnd hle ht hcell hcs k3 k4 hW2 hA2 hF2 hTB HDC hbelow hg
      go_upto_region 5 with fail
      rw [HW2.out]
      go_wp2_with fail
      refine HC.out.mono ?_
      rintro e W3 ⟨rfl, f3, p3⟩
      have F3 := Lib.hid (F2.out.trans f3)
      have P3 := Lib.hid p3
      clear f3 p3 HC
      go_wp2_with fail
      refine ⟨⟨i + 1, by simp, by have := HLT.out; omega, F3, Lib.hid (by rw [HTK.out]; exact P3.out)⟩, ?_⟩
      simp [intOf]
      have := HLT.out
      omega
    · have hge : i = l.length := by omega
      have hlt : decide ((i : Int) < (l.length : Int)) = false := by simp only [decide_eq_false_iff_not]; omega
      have hltn : decide (i < l.length) = false := by simp only [decide_eq_false_iff_not]; exact hi2
      have hP' := hP.out
      rw [List.take_of_length_le (by omega)] at hP'
      have HST := Lib.hid (string_any hP')
      clear hP'
      clear hge hi2
      go_wp2_with fail
      refine HST.out.mono ?_
      rintro e W3 ⟨rfl, b3⟩
      have B3 := Lib.hid b3
      clear b3
      go_wp2_with fail
      go_ret
      refine ⟨rfl, (B1.out.trans hF.out.1).trans B3.out⟩

end Go.Proofs.YthpoffklhpbdoaaGreatDoor

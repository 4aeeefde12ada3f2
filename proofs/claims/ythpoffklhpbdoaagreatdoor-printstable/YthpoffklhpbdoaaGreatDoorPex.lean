/-
  The contracts of what prints expressions: funs, lets, ifs, ascriptions, links.
-/
import Derived.Test.YthpoffklhpbdoaaGreatDoorFmt
namespace Go.Proofs.YthpoffklhpbdoaaGreatDoor
variable {S L : Nat}
set_option maxRecDepth 100000
open Go.RowKit

def PrtE (S f : Nat) (args : Nat → Array Value) (txt : Bs) (D : Nat → World → Prop) : Prop := ∀ (B b : Nat) (bs : Bs) (w : World), Pst B w b bs → D B w → bs.length + txt.length + S ≤ 100000000000000 → Calls Tryz.prog f (args b) w (fun e w' => e = .returned (.tuple #[]) ∧ Fb B b w w' ∧ Pst B w' b (bs ++ txt))
def ExOk (S : Nat) (x : PE) : Prop := ∀ (q : Nat), (q = 0 ∨ q = 2) → ∀ (A : Nat → Prop) (cs : List Value), PrtE S 52 (fun b => #[.pointer (some ⟨b, 0, none⟩), .agg cs.toArray, .int .i64 (q : Nat)]) (prE q x) (fun B w => IsCs A w (encE 26 36 x) cs ∧ Tab B w)
theorem cells_E2 {A : Nat → Prop} {w : World} {k a : Nat} {n : Bs} {m : Nat} {ns : List Bs} {l : List PE} {ts : List PT} {cs : List Value} (h : IsCs A w (encE 26 36 (.mk k a n m ns l ts)) cs) : ∃ a4 c4 a5 c5 a6 c6, cs = [.int .i64 (k : Nat), .int .i64 (a : Nat), .string ⟨n.toArray⟩, .int .i64 (m : Nat), .slice a4 ns.length c4, .slice a5 l.length c5, .slice a6 ts.length c6] ∧ IsC A w (.row 9 1 ns.length (ns.map .str)) (.slice a4 ns.length c4) ∧ IsC A w (.row 36 7 l.length (encEs 26 36 l)) (.slice a5 l.length c5) ∧ IsC A w (.row 26 4 ts.length (encTs 26 ts)) (.slice a6 ts.length c6) := by
  simp only [encE] at h
  obtain ⟨x0, ys, rfl, k0, h⟩ := h.uncons
  obtain ⟨x1, ys, rfl, k1, h⟩ := h.uncons
  obtain ⟨x2, ys, rfl, k2, h⟩ := h.uncons
  obtain ⟨x3, ys, rfl, k3, h⟩ := h.uncons
  obtain ⟨x4, ys, rfl, k4, h⟩ := h.uncons
  obtain ⟨x5, ys, rfl, k5, h⟩ := h.uncons
  obtain ⟨x6, ys, rfl, k6, h⟩ := h.uncons
  simp only [IsCs] at h
  subst h
  simp only [IsC] at k0 k1 k2 k3
  subst k0 k1 k2 k3
  obtain ⟨xs4, r4, -, -⟩ := k4.unrow
  obtain ⟨a4, c4, rfl⟩ := row_slice r4
  obtain ⟨xs5, r5, -, -⟩ := k5.unrow
  obtain ⟨a5, c5, rfl⟩ := row_slice r5
  obtain ⟨xs6, r6, -, -⟩ := k6.unrow
  obtain ⟨a6, c6, rfl⟩ := row_slice r6
  exact ⟨a4, c4, a5, c5, a6, c6, rfl, k4, k5, k6⟩
theorem getE_or (l : List PE) (i : Nat) : l[i]?.getD zPE ∈ l ∨ l[i]?.getD zPE = zPE := by
  cases hl : l[i]? with
  | none => exact .inr rfl
  | some t => exact .inl (List.mem_of_getElem? hl)

set_option maxHeartbeats 2000000 in
theorem funp_any (k a : Nat) (n : Bs) (m : Nat) (ns : List Bs) (l : List PE) (ts : List PT) (HE : ∀ x, (x ∈ l ∨ x = zPE) → (prE 0 x).length < L → ExOk S x) (hL : List.length ((([102, 117, 110, 32, 40] ++ (n ++ [32, 58, 32])) ++ (prT 0 (ts[0]?.getD zPT) ++ ([41, 32] ++ (prE 0 (l[0]?.getD zPE))))) : Bs) ≤ L) (A : Nat → Prop) (cs : List Value) :
    PrtE S 88 (fun b => #[.pointer (some ⟨b, 0, none⟩), .agg cs.toArray]) (([102, 117, 110, 32, 40] ++ (n ++ [32, 58, 32])) ++ (prT 0 (ts[0]?.getD zPT) ++ ([41, 32] ++ (prE 0 (l[0]?.getD zPE))))) (fun B w => IsCs A w (encE 26 36 (.mk k a n m ns l ts)) cs ∧ Tab B w) := by
  intro B b bs w hP hD hlen
  obtain ⟨hC, hT⟩ := hD
  obtain ⟨t0, ht0⟩ : ∃ t0, t0 = ts[0]?.getD zPT := ⟨_, rfl⟩
  rw [← ht0] at hlen hL ⊢
  have HR0 := Lib.hid ht0
  clear ht0
  obtain ⟨e0, he0⟩ : ∃ e0, e0 = l[0]?.getD zPE := ⟨_, rfl⟩
  rw [← he0] at hlen hL ⊢
  have HE0 := Lib.hid (HE e0 (by rw [he0]; exact getE_or l 0) (by simp only [List.length_append, List.length_cons, List.length_nil] at hL; omega))
  have HQ0 := Lib.hid he0
  clear he0
  obtain ⟨a4, c4, a5, c5, a6, c6, rfl, k4, k5, k6⟩ := cells_E2 hC
  have K5 := Lib.hid k5
  have K6 := Lib.hid k6
  have HP := Lib.hid hP
  have HTB := Lib.hid hT
  have HLEN := Lib.hid hlen
  obtain ⟨W1, hW1⟩ : ∃ W1, w.alloc (.cells #[.int .i64 (k : Nat), .int .i64 (a : Nat), .string ⟨n.toArray⟩, .int .i64 (m : Nat), .slice a4 ns.length c4, .slice a5 l.length c5, .slice a6 ts.length c6] 36) = W1 := ⟨_, rfl⟩
  have hA1 : W1.heap[w.heap.size]? = some (.cells #[.int .i64 (k : Nat), .int .i64 (a : Nat), .string ⟨n.toArray⟩, .int .i64 (m : Nat), .slice a4 ns.length c4, .slice a5 l.length c5, .slice a6 ts.length c6] 36 (0, 0)) := by rw [← hW1]; exact heap_alloc_new w _
  have P1 : Hid (Pst B W1 b bs) := by rw [← hW1]; exact hP.alloc _
  have F1 : Hid (Fb B b w W1) := by rw [← hW1]; exact (Fb.refl B b w).alloc hP.hi _
  have G1 := Lib.hid (Fb.refl B b W1)
  have HNB : Hid (∀ e : some w.heap.size = some b, False) := by
    intro e
    have := HP.out.lt
    have := Option.some.inj e
    omega
  obtain ⟨⟨q0, q1, q2, q3, q4, q5, q6⟩, -⟩ := sev_of (t := 36) hA1
  have HA1 := Lib.hid hA1
  clear hC hT k4 k5 k6 hA1 hP hlen HE hL
  go_enter Tryz.func88, Tryz.ntmps88
  go_upto_region 1 with fail
  clear hW1
  have HS := Lib.hid (say3 P1.out [102, 117, 110, 32, 40] n [32, 58, 32] (by have := HLEN.out; simp only [List.length_append, List.length_cons, List.length_nil] at this ⊢; omega))
  go_wp2_with fail
  refine HS.out.mono ?_
  rintro e W2 ⟨rfl, fx, px⟩
  have P2 := Lib.hid px
  have G2 := Lib.hid (G1.out.trans fx)
  clear fx px HS
  clear q0 q1 q2 q3 q4 q5 q6
  obtain ⟨⟨q0, q1, q2, q3, q4, q5, q6⟩, -⟩ := sev_of (t := 36) (G2.out.2 _ _ HA1.out (fun e => HNB.out e) (fun c fz e => by cases e))
  have HQ := Lib.hid (partT_any ts 0 A W2 _ (IsC.fb HP.out (F1.out.trans G2.out) _ _ (by simp [nb, nb_Ts]) K6.out) (by decide))
  rw [← HR0.out] at HQ
  go_wp2_with fail
  refine HQ.out.mono ?_
  rintro e W3 ⟨csx, rfl, bx, ix⟩
  have P3 := Lib.hid (P2.out.below bx)
  have G3 := Lib.hid (G2.out.then_below bx P2.out)
  have HS : Hid (Calls Tryz.prog 51 #[.pointer (some ⟨b, 0, none⟩), .agg csx.toArray, .int .i64 0] W3 fun e w' => e = .returned (.tuple #[]) ∧ Fb B b W3 w' ∧ Pst B w' b ((bs ++ ([102, 117, 110, 32, 40] ++ (n ++ [32, 58, 32]))) ++ prT 0 t0)) :=
    ty_any t0 0 (by decide) A csx B b _ W3 P3.out ix (by have := HLEN.out; simp only [List.length_append, List.length_cons, List.length_nil] at this ⊢; omega)
  clear bx ix HQ
  go_wp2_with fail
  refine HS.out.mono ?_
  rintro e W4 ⟨rfl, fx, px⟩
  have P4 := Lib.hid px
  have G4 := Lib.hid (G3.out.trans fx)
  clear fx px HS
  clear q0 q1 q2 q3 q4 q5 q6
  obtain ⟨⟨q0, q1, q2, q3, q4, q5, q6⟩, -⟩ := sev_of (t := 36) (G4.out.2 _ _ HA1.out (fun e => HNB.out e) (fun c fz e => by cases e))
  have HS := Lib.hid (say1 P4.out [41, 32] (by have := HLEN.out; simp only [List.length_append, List.length_cons, List.length_nil] at this ⊢; omega))
  go_wp2_with fail
  refine HS.out.mono ?_
  rintro e W5 ⟨rfl, fx, px⟩
  have P5 := Lib.hid px
  have G5 := Lib.hid (G4.out.trans fx)
  clear fx px HS
  clear q0 q1 q2 q3 q4 q5 q6
  obtain ⟨⟨q0, q1, q2, q3, q4, q5, q6⟩, -⟩ := sev_of (t := 36) (G5.out.2 _ _ HA1.out (fun e => HNB.out e) (fun c fz e => by cases e))
  have HQ := Lib.hid (partE_any l 0 A W5 _ (IsC.fb HP.out (F1.out.trans G5.out) _ _ (by simp [nb, nb_Es]) K5.out) (by decide))
  rw [← HQ0.out] at HQ
  go_wp2_with fail
  refine HQ.out.mono ?_
  rintro e W6 ⟨csx, rfl, bx, ix⟩
  have P6 := Lib.hid (P5.out.below bx)
  have G6 := Lib.hid (G5.out.then_below bx P5.out)
  have HS : Hid (Calls Tryz.prog 52 #[.pointer (some ⟨b, 0, none⟩), .agg csx.toArray, .int .i64 0] W6 fun e w' => e = .returned (.tuple #[]) ∧ Fb B b W6 w' ∧ Pst B w' b ((((bs ++ ([102, 117, 110, 32, 40] ++ (n ++ [32, 58, 32]))) ++ prT 0 t0) ++ [41, 32]) ++ prE 0 e0)) :=
    HE0.out 0 (.inl rfl) A csx B b _ W6 P6.out ⟨ix, HTB.out.fb (F1.out.trans G6.out)⟩ (by have := HLEN.out; simp only [List.length_append, List.length_cons, List.length_nil] at this ⊢; omega)
  clear bx ix HQ
  go_wp2_with fail
  refine HS.out.mono ?_
  rintro e W7 ⟨rfl, fx, px⟩
  have P7 := Lib.hid px
  have G7 := Lib.hid (G6.out.trans fx)
  clear fx px HS
  clear q0 q1 q2 q3 q4 q5 q6
  obtain ⟨⟨q0, q1, q2, q3, q4, q5, q6⟩, -⟩ := sev_of (t := 36) (G7.out.2 _ _ HA1.out (fun e => HNB.out e) (fun c fz e => by cases e))
  go_wp2_with fail
  go_end0
  exact ⟨rfl, F1.out.trans G7.out, by simpa only [List.append_assoc, List.cons_append, List.nil_append] using P7.out⟩

set_option maxHeartbeats 2000000 in
theorem letp_any (k a : Nat) (n : Bs) (m : Nat) (ns : List Bs) (l : List PE) (ts : List PT) (HE : ∀ x, (x ∈ l ∨ x = zPE) → (prE 0 x).length < L → ExOk S x) (hL : List.length ((([108, 101, 116, 32] ++ (n ++ [32, 61, 32])) ++ (prE 0 (l[0]?.getD zPE) ++ ([32, 105, 110, 32] ++ (prE 0 (l[1]?.getD zPE))))) : Bs) ≤ L) (A : Nat → Prop) (cs : List Value) :
    PrtE S 89 (fun b => #[.pointer (some ⟨b, 0, none⟩), .agg cs.toArray]) (([108, 101, 116, 32] ++ (n ++ [32, 61, 32])) ++ (prE 0 (l[0]?.getD zPE) ++ ([32, 105, 110, 32] ++ (prE 0 (l[1]?.getD zPE))))) (fun B w => IsCs A w (encE 26 36 (.mk k a n m ns l ts)) cs ∧ Tab B w) := by
  intro B b bs w hP hD hlen
  obtain ⟨hC, hT⟩ := hD
  obtain ⟨e0, he0⟩ : ∃ e0, e0 = l[0]?.getD zPE := ⟨_, rfl⟩
  rw [← he0] at hlen hL ⊢
  have HE0 := Lib.hid (HE e0 (by rw [he0]; exact getE_or l 0) (by simp only [List.length_append, List.length_cons, List.length_nil] at hL; omega))
  have HQ0 := Lib.hid he0
  clear he0
  obtain ⟨e1, he1⟩ : ∃ e1, e1 = l[1]?.getD zPE := ⟨_, rfl⟩
  rw [← he1] at hlen hL ⊢
  have HE1 := Lib.hid (HE e1 (by rw [he1]; exact getE_or l 1) (by simp only [List.length_append, List.length_cons, List.length_nil] at hL; omega))
  have HQ1 := Lib.hid he1
  clear he1
  obtain ⟨a4, c4, a5, c5, a6, c6, rfl, k4, k5, k6⟩ := cells_E2 hC
  have K5 := Lib.hid k5
  have K6 := Lib.hid k6
  have HP := Lib.hid hP
  have HTB := Lib.hid hT
  have HLEN := Lib.hid hlen
  obtain ⟨W1, hW1⟩ : ∃ W1, w.alloc (.cells #[.int .i64 (k : Nat), .int .i64 (a : Nat), .string ⟨n.toArray⟩, .int .i64 (m : Nat), .slice a4 ns.length c4, .slice a5 l.length c5, .slice a6 ts.length c6] 36) = W1 := ⟨_, rfl⟩
  have hA1 : W1.heap[w.heap.size]? = some (.cells #[.int .i64 (k : Nat), .int .i64 (a : Nat), .string ⟨n.toArray⟩, .int .i64 (m : Nat), .slice a4 ns.length c4, .slice a5 l.length c5, .slice a6 ts.length c6] 36 (0, 0)) := by rw [← hW1]; exact heap_alloc_new w _
  have P1 : Hid (Pst B W1 b bs) := by rw [← hW1]; exact hP.alloc _
  have F1 : Hid (Fb B b w W1) := by rw [← hW1]; exact (Fb.refl B b w).alloc hP.hi _
  have G1 := Lib.hid (Fb.refl B b W1)
  have HNB : Hid (∀ e : some w.heap.size = some b, False) := by
    intro e
    have := HP.out.lt
    have := Option.some.inj e
    omega
  obtain ⟨⟨q0, q1, q2, q3, q4, q5, q6⟩, -⟩ := sev_of (t := 36) hA1
  have HA1 := Lib.hid hA1
  clear hC hT k4 k5 k6 hA1 hP hlen HE hL
  go_enter Tryz.func89, Tryz.ntmps89
  go_upto_region 1 with fail
  clear hW1
  have HS := Lib.hid (say3 P1.out [108, 101, 116, 32] n [32, 61, 32] (by have := HLEN.out; simp only [List.length_append, List.length_cons, List.length_nil] at this ⊢; omega))
  go_wp2_with fail
  refine HS.out.mono ?_
  rintro e W2 ⟨rfl, fx, px⟩
  have P2 := Lib.hid px
  have G2 := Lib.hid (G1.out.trans fx)
  clear fx px HS
  clear q0 q1 q2 q3 q4 q5 q6
  obtain ⟨⟨q0, q1, q2, q3, q4, q5, q6⟩, -⟩ := sev_of (t := 36) (G2.out.2 _ _ HA1.out (fun e => HNB.out e) (fun c fz e => by cases e))
  have HQ := Lib.hid (partE_any l 0 A W2 _ (IsC.fb HP.out (F1.out.trans G2.out) _ _ (by simp [nb, nb_Es]) K5.out) (by decide))
  rw [← HQ0.out] at HQ
  go_wp2_with fail
  refine HQ.out.mono ?_
  rintro e W3 ⟨csx, rfl, bx, ix⟩
  have P3 := Lib.hid (P2.out.below bx)
  have G3 := Lib.hid (G2.out.then_below bx P2.out)
  have HS : Hid (Calls Tryz.prog 52 #[.pointer (some ⟨b, 0, none⟩), .agg csx.toArray, .int .i64 0] W3 fun e w' => e = .returned (.tuple #[]) ∧ Fb B b W3 w' ∧ Pst B w' b ((bs ++ ([108, 101, 116, 32] ++ (n ++ [32, 61, 32]))) ++ prE 0 e0)) :=
    HE0.out 0 (.inl rfl) A csx B b _ W3 P3.out ⟨ix, HTB.out.fb (F1.out.trans G3.out)⟩ (by have := HLEN.out; simp only [List.length_append, List.length_cons, List.length_nil] at this ⊢; omega)
  clear bx ix HQ
  go_wp2_with fail
  refine HS.out.mono ?_
  rintro e W4 ⟨rfl, fx, px⟩
  have P4 := Lib.hid px
  have G4 := Lib.hid (G3.out.trans fx)
  clear fx px HS
  clear q0 q1 q2 q3 q4 q5 q6
  obtain ⟨⟨q0, q1, q2, q3, q4, q5, q6⟩, -⟩ := sev_of (t := 36) (G4.out.2 _ _ HA1.out (fun e => HNB.out e) (fun c fz e => by cases e))
  have HS := Lib.hid (say1 P4.out [32, 105, 110, 32] (by have := HLEN.out; simp only [List.length_append, List.length_cons, List.length_nil] at this ⊢; omega))
  go_wp2_with fail
  refine HS.out.mono ?_
  rintro e W5 ⟨rfl, fx, px⟩
  have P5 := Lib.hid px
  have G5 := Lib.hid (G4.out.trans fx)
  clear fx px HS
  clear q0 q1 q2 q3 q4 q5 q6
  obtain ⟨⟨q0, q1, q2, q3, q4, q5, q6⟩, -⟩ := sev_of (t := 36) (G5.out.2 _ _ HA1.out (fun e => HNB.out e) (fun c fz e => by cases e))
  have HQ := Lib.hid (partE_any l 1 A W5 _ (IsC.fb HP.out (F1.out.trans G5.out) _ _ (by simp [nb, nb_Es]) K5.out) (by decide))
  rw [← HQ1.out] at HQ
  go_wp2_with fail
  refine HQ.out.mono ?_
  rintro e W6 ⟨csx, rfl, bx, ix⟩
  have P6 := Lib.hid (P5.out.below bx)
  have G6 := Lib.hid (G5.out.then_below bx P5.out)
  have HS : Hid (Calls Tryz.prog 52 #[.pointer (some ⟨b, 0, none⟩), .agg csx.toArray, .int .i64 0] W6 fun e w' => e = .returned (.tuple #[]) ∧ Fb B b W6 w' ∧ Pst B w' b ((((bs ++ ([108, 101, 116, 32] ++ (n ++ [32, 61, 32]))) ++ prE 0 e0) ++ [32, 105, 110, 32]) ++ prE 0 e1)) :=
    HE1.out 0 (.inl rfl) A csx B b _ W6 P6.out ⟨ix, HTB.out.fb (F1.out.trans G6.out)⟩ (by have := HLEN.out; simp only [List.length_append, List.length_cons, List.length_nil] at this ⊢; omega)
  clear bx ix HQ
  go_wp2_with fail
  refine HS.out.mono ?_
  rintro e W7 ⟨rfl, fx, px⟩
  have P7 := Lib.hid px
  have G7 := Lib.hid (G6.out.trans fx)
  clear fx px HS
  clear q0 q1 q2 q3 q4 q5 q6
  obtain ⟨⟨q0, q1, q2, q3, q4, q5, q6⟩, -⟩ := sev_of (t := 36) (G7.out.2 _ _ HA1.out (fun e => HNB.out e) (fun c fz e => by cases e))
  go_wp2_with fail
  go_end0
  exact ⟨rfl, F1.out.trans G7.out, by simpa only [List.append_assoc, List.cons_append, List.nil_append] using P7.out⟩

set_option maxHeartbeats 2000000 in
theorem ifp_any (k a : Nat) (n : Bs) (m : Nat) (ns : List Bs) (l : List PE) (ts : List PT) (HE : ∀ x, (x ∈ l ∨ x = zPE) → (prE 0 x).length < L → ExOk S x) (hL : List.length (([105, 102, 32] ++ (prE 0 (l[0]?.getD zPE) ++ ([32, 116, 104, 101, 110, 32] ++ (prE 0 (l[1]?.getD zPE) ++ ([32, 101, 108, 115, 101, 32] ++ (prE 0 (l[2]?.getD zPE))))))) : Bs) ≤ L) (A : Nat → Prop) (cs : List Value) :
    PrtE S 90 (fun b => #[.pointer (some ⟨b, 0, none⟩), .agg cs.toArray]) ([105, 102, 32] ++ (prE 0 (l[0]?.getD zPE) ++ ([32, 116, 104, 101, 110, 32] ++ (prE 0 (l[1]?.getD zPE) ++ ([32, 101, 108, 115, 101, 32] ++ (prE 0 (l[2]?.getD zPE))))))) (fun B w => IsCs A w (encE 26 36 (.mk k a n m ns l ts)) cs ∧ Tab B w) := by
  intro B b bs w hP hD hlen
  obtain ⟨hC, hT⟩ := hD
  obtain ⟨e0, he0⟩ : ∃ e0, e0 = l[0]?.getD zPE := ⟨_, rfl⟩
  rw [← he0] at hlen hL ⊢
  have HE0 := Lib.hid (HE e0 (by rw [he0]; exact getE_or l 0) (by simp only [List.length_append, List.length_cons, List.length_nil] at hL; omega))
  have HQ0 := Lib.hid he0
  clear he0
  obtain ⟨e1, he1⟩ : ∃ e1, e1 = l[1]?.getD zPE := ⟨_, rfl⟩
  rw [← he1] at hlen hL ⊢
  have HE1 := Lib.hid (HE e1 (by rw [he1]; exact getE_or l 1) (by simp only [List.length_append, List.length_cons, List.length_nil] at hL; omega))
  have HQ1 := Lib.hid he1
  clear he1
  obtain ⟨e2, he2⟩ : ∃ e2, e2 = l[2]?.getD zPE := ⟨_, rfl⟩
  rw [← he2] at hlen hL ⊢
  have HE2 := Lib.hid (HE e2 (by rw [he2]; exact getE_or l 2) (by simp only [List.length_append, List.length_cons, List.length_nil] at hL; omega))
  have HQ2 := Lib.hid he2
  clear he2
  obtain ⟨a4, c4, a5, c5, a6, c6, rfl, k4, k5, k6⟩ := cells_E2 hC
  have K5 := Lib.hid k5
  have K6 := Lib.hid k6
  have HP := Lib.hid hP
  have HTB := Lib.hid hT
  have HLEN := Lib.hid hlen
  obtain ⟨W1, hW1⟩ : ∃ W1, w.alloc (.cells #[.int .i64 (k : Nat), .int .i64 (a : Nat), .string ⟨n.toArray⟩, .int .i64 (m : Nat), .slice a4 ns.length c4, .slice a5 l.length c5, .slice a6 ts.length c6] 36) = W1 := ⟨_, rfl⟩
  have hA1 : W1.heap[w.heap.size]? = some (.cells #[.int .i64 (k : Nat), .int .i64 (a : Nat), .string ⟨n.toArray⟩, .int .i64 (m : Nat), .slice a4 ns.length c4, .slice a5 l.length c5, .slice a6 ts.length c6] 36 (0, 0)) := by rw [← hW1]; exact heap_alloc_new w _
  have P1 : Hid (Pst B W1 b bs) := by rw [← hW1]; exact hP.alloc _
  have F1 : Hid (Fb B b w W1) := by rw [← hW1]; exact (Fb.refl B b w).alloc hP.hi _
  have G1 := Lib.hid (Fb.refl B b W1)
  have HNB : Hid (∀ e : some w.heap.size = some b, False) := by
    intro e
    have := HP.out.lt
    have := Option.some.inj e
    omega
  obtain ⟨⟨q0, q1, q2, q3, q4, q5, q6⟩, -⟩ := sev_of (t := 36) hA1
  have HA1 := Lib.hid hA1
  clear hC hT k4 k5 k6 hA1 hP hlen HE hL
  go_enter Tryz.func90, Tryz.ntmps90
  go_upto_region 1 with fail
  clear hW1
  have HS := Lib.hid (say1 P1.out [105, 102, 32] (by have := HLEN.out; simp only [List.length_append, List.length_cons, List.length_nil] at this ⊢; omega))
  go_wp2_with fail
  refine HS.out.mono ?_
  rintro e W2 ⟨rfl, fx, px⟩
  have P2 := Lib.hid px
  have G2 := Lib.hid (G1.out.trans fx)
  clear fx px HS
  clear q0 q1 q2 q3 q4 q5 q6
  obtain ⟨⟨q0, q1, q2, q3, q4, q5, q6⟩, -⟩ := sev_of (t := 36) (G2.out.2 _ _ HA1.out (fun e => HNB.out e) (fun c fz e => by cases e))
  have HQ := Lib.hid (partE_any l 0 A W2 _ (IsC.fb HP.out (F1.out.trans G2.out) _ _ (by simp [nb, nb_Es]) K5.out) (by decide))
  rw [← HQ0.out] at HQ
  go_wp2_with fail
  refine HQ.out.mono ?_
  rintro e W3 ⟨csx, rfl, bx, ix⟩
  have P3 := Lib.hid (P2.out.below bx)
  have G3 := Lib.hid (G2.out.then_below bx P2.out)
  have HS : Hid (Calls Tryz.prog 52 #[.pointer (some ⟨b, 0, none⟩), .agg csx.toArray, .int .i64 0] W3 fun e w' => e = .returned (.tuple #[]) ∧ Fb B b W3 w' ∧ Pst B w' b ((bs ++ [105, 102, 32]) ++ prE 0 e0)) :=
    HE0.out 0 (.inl rfl) A csx B b _ W3 P3.out ⟨ix, HTB.out.fb (F1.out.trans G3.out)⟩ (by have := HLEN.out; simp only [List.length_append, List.length_cons, List.length_nil] at this ⊢; omega)
  clear bx ix HQ
  go_wp2_with fail
  refine HS.out.mono ?_
  rintro e W4 ⟨rfl, fx, px⟩
  have P4 := Lib.hid px
  have G4 := Lib.hid (G3.out.trans fx)
  clear fx px HS
  clear q0 q1 q2 q3 q4 q5 q6
  obtain ⟨⟨q0, q1, q2, q3, q4, q5, q6⟩, -⟩ := sev_of (t := 36) (G4.out.2 _ _ HA1.out (fun e => HNB.out e) (fun c fz e => by cases e))
  have HS := Lib.hid (say1 P4.out [32, 116, 104, 101, 110, 32] (by have := HLEN.out; simp only [List.length_append, List.length_cons, List.length_nil] at this ⊢; omega))
  go_wp2_with fail
  refine HS.out.mono ?_
  rintro e W5 ⟨rfl, fx, px⟩
  have P5 := Lib.hid px
  have G5 := Lib.hid (G4.out.trans fx)
  clear fx px HS
  clear q0 q1 q2 q3 q4 q5 q6
  obtain ⟨⟨q0, q1, q2, q3, q4, q5, q6⟩, -⟩ := sev_of (t := 36) (G5.out.2 _ _ HA1.out (fun e => HNB.out e) (fun c fz e => by cases e))
  have HQ := Lib.hid (partE_any l 1 A W5 _ (IsC.fb HP.out (F1.out.trans G5.out) _ _ (by simp [nb, nb_Es]) K5.out) (by decide))
  rw [← HQ1.out] at HQ
  go_wp2_with fail
  refine HQ.out.mono ?_
  rintro e W6 ⟨csx, rfl, bx, ix⟩
  have P6 := Lib.hid (P5.out.below bx)
  have G6 := Lib.hid (G5.out.then_below bx P5.out)
  have HS : Hid (Calls Tryz.prog 52 #[.pointer (some ⟨b, 0, none⟩), .agg csx.toArray, .int .i64 0] W6 fun e w' => e = .returned (.tuple #[]) ∧ Fb B b W6 w' ∧ Pst B w' b ((((bs ++ [105, 102, 32]) ++ prE 0 e0) ++ [32, 116, 104, 101, 110, 32]) ++ prE 0 e1)) :=
    HE1.out 0 (.inl rfl) A csx B b _ W6 P6.out ⟨ix, HTB.out.fb (F1.out.trans G6.out)⟩ (by have := HLEN.out; simp only [List.length_append, List.length_cons, List.length_nil] at this ⊢; omega)
  clear bx ix HQ
  go_wp2_with fail
  refine HS.out.mono ?_
  rintro e W7 ⟨rfl, fx, px⟩
  have P7 := Lib.hid px
  have G7 := Lib.hid (G6.out.trans fx)
  clear fx px HS
  clear q0 q1 q2 q3 q4 q5 q6
  obtain ⟨⟨q0, q1, q2, q3, q4, q5, q6⟩, -⟩ := sev_of (t := 36) (G7.out.2 _ _ HA1.out (fun e => HNB.out e) (fun c fz e => by cases e))
  have HS := Lib.hid (say1 P7.out [32, 101, 108, 115, 101, 32] (by have := HLEN.out; simp only [List.length_append, List.length_cons, List.length_nil] at this ⊢; omega))
  go_wp2_with fail
  refine HS.out.mono ?_
  rintro e W8 ⟨rfl, fx, px⟩
  have P8 := Lib.hid px
  have G8 := Lib.hid (G7.out.trans fx)
  clear fx px HS
  clear q0 q1 q2 q3 q4 q5 q6
  obtain ⟨⟨q0, q1, q2, q3, q4, q5, q6⟩, -⟩ := sev_of (t := 36) (G8.out.2 _ _ HA1.out (fun e => HNB.out e) (fun c fz e => by cases e))
  have HQ := Lib.hid (partE_any l 2 A W8 _ (IsC.fb HP.out (F1.out.trans G8.out) _ _ (by simp [nb, nb_Es]) K5.out) (by decide))
  rw [← HQ2.out] at HQ
  go_wp2_with fail
  refine HQ.out.mono ?_
  rintro e W9 ⟨csx, rfl, bx, ix⟩
  have P9 := Lib.hid (P8.out.below bx)
  have G9 := Lib.hid (G8.out.then_below bx P8.out)
  have HS : Hid (Calls Tryz.prog 52 #[.pointer (some ⟨b, 0, none⟩), .agg csx.toArray, .int .i64 0] W9 fun e w' => e = .returned (.tuple #[]) ∧ Fb B b W9 w' ∧ Pst B w' b ((((((bs ++ [105, 102, 32]) ++ prE 0 e0) ++ [32, 116, 104, 101, 110, 32]) ++ prE 0 e1) ++ [32, 101, 108, 115, 101, 32]) ++ prE 0 e2)) :=
    HE2.out 0 (.inl rfl) A csx B b _ W9 P9.out ⟨ix, HTB.out.fb (F1.out.trans G9.out)⟩ (by have := HLEN.out; simp only [List.length_append, List.length_cons, List.length_nil] at this ⊢; omega)
  clear bx ix HQ
  go_wp2_with fail
  refine HS.out.mono ?_
  rintro e W10 ⟨rfl, fx, px⟩
  have P10 := Lib.hid px
  have G10 := Lib.hid (G9.out.trans fx)
  clear fx px HS
  clear q0 q1 q2 q3 q4 q5 q6
  obtain ⟨⟨q0, q1, q2, q3, q4, q5, q6⟩, -⟩ := sev_of (t := 36) (G10.out.2 _ _ HA1.out (fun e => HNB.out e) (fun c fz e => by cases e))
  go_wp2_with fail
  go_end0
  exact ⟨rfl, F1.out.trans G10.out, by simpa only [List.append_assoc, List.cons_append, List.nil_append] using P10.out⟩

set_option maxHeartbeats 2000000 in
theorem as_any (k a : Nat) (n : Bs) (m : Nat) (ns : List Bs) (l : List PE) (ts : List PT) (HE : ∀ x, (x ∈ l ∨ x = zPE) → (prE 0 x).length < L → ExOk S x) (hL : List.length (([40] ++ (prE 0 (l[0]?.getD zPE) ++ ([32, 58, 32] ++ (prT 0 (ts[0]?.getD zPT) ++ ([41]))))) : Bs) ≤ L) (A : Nat → Prop) (cs : List Value) :
    PrtE S 91 (fun b => #[.pointer (some ⟨b, 0, none⟩), .agg cs.toArray]) ([40] ++ (prE 0 (l[0]?.getD zPE) ++ ([32, 58, 32] ++ (prT 0 (ts[0]?.getD zPT) ++ ([41]))))) (fun B w => IsCs A w (encE 26 36 (.mk k a n m ns l ts)) cs ∧ Tab B w) := by
  intro B b bs w hP hD hlen
  obtain ⟨hC, hT⟩ := hD
  obtain ⟨e0, he0⟩ : ∃ e0, e0 = l[0]?.getD zPE := ⟨_, rfl⟩
  rw [← he0] at hlen hL ⊢
  have HE0 := Lib.hid (HE e0 (by rw [he0]; exact getE_or l 0) (by simp only [List.length_append, List.length_cons, List.length_nil] at hL; omega))
  have HQ0 := Lib.hid he0
  clear he0
  obtain ⟨t0, ht0⟩ : ∃ t0, t0 = ts[0]?.getD zPT := ⟨_, rfl⟩
  rw [← ht0] at hlen hL ⊢
  have HR0 := Lib.hid ht0
  clear ht0
  obtain ⟨a4, c4, a5, c5, a6, c6, rfl, k4, k5, k6⟩ := cells_E2 hC
  have K5 := Lib.hid k5
  have K6 := Lib.hid k6
  have HP := Lib.hid hP
  have HTB := Lib.hid hT
  have HLEN := Lib.hid hlen
  obtain ⟨W1, hW1⟩ : ∃ W1, w.alloc (.cells #[.int .i64 (k : Nat), .int .i64 (a : Nat), .string ⟨n.toArray⟩, .int .i64 (m : Nat), .slice a4 ns.length c4, .slice a5 l.length c5, .slice a6 ts.length c6] 36) = W1 := ⟨_, rfl⟩
  have hA1 : W1.heap[w.heap.size]? = some (.cells #[.int .i64 (k : Nat), .int .i64 (a : Nat), .string ⟨n.toArray⟩, .int .i64 (m : Nat), .slice a4 ns.length c4, .slice a5 l.length c5, .slice a6 ts.length c6] 36 (0, 0)) := by rw [← hW1]; exact heap_alloc_new w _
  have P1 : Hid (Pst B W1 b bs) := by rw [← hW1]; exact hP.alloc _
  have F1 : Hid (Fb B b w W1) := by rw [← hW1]; exact (Fb.refl B b w).alloc hP.hi _
  have G1 := Lib.hid (Fb.refl B b W1)
  have HNB : Hid (∀ e : some w.heap.size = some b, False) := by
    intro e
    have := HP.out.lt
    have := Option.some.inj e
    omega
  obtain ⟨⟨q0, q1, q2, q3, q4, q5, q6⟩, -⟩ := sev_of (t := 36) hA1
  have HA1 := Lib.hid hA1
  clear hC hT k4 k5 k6 hA1 hP hlen HE hL
  go_enter Tryz.func91, Tryz.ntmps91
  go_upto_region 1 with fail
  clear hW1
  have HS := Lib.hid (say1 P1.out [40] (by have := HLEN.out; simp only [List.length_append, List.length_cons, List.length_nil] at this ⊢; omega))
  go_wp2_with fail
  refine HS.out.mono ?_
  rintro e W2 ⟨rfl, fx, px⟩
  have P2 := Lib.hid px
  have G2 := Lib.hid (G1.out.trans fx)
  clear fx px HS
  clear q0 q1 q2 q3 q4 q5 q6
  obtain ⟨⟨q0, q1, q2, q3, q4, q5, q6⟩, -⟩ := sev_of (t := 36) (G2.out.2 _ _ HA1.out (fun e => HNB.out e) (fun c fz e => by cases e))
  have HQ := Lib.hid (partE_any l 0 A W2 _ (IsC.fb HP.out (F1.out.trans G2.out) _ _ (by simp [nb, nb_Es]) K5.out) (by decide))
  rw [← HQ0.out] at HQ
  go_wp2_with fail
  refine HQ.out.mono ?_
  rintro e W3 ⟨csx, rfl, bx, ix⟩
  have P3 := Lib.hid (P2.out.below bx)
  have G3 := Lib.hid (G2.out.then_below bx P2.out)
  have HS : Hid (Calls Tryz.prog 52 #[.pointer (some ⟨b, 0, none⟩), .agg csx.toArray, .int .i64 0] W3 fun e w' => e = .returned (.tuple #[]) ∧ Fb B b W3 w' ∧ Pst B w' b ((bs ++ [40]) ++ prE 0 e0)) :=
    HE0.out 0 (.inl rfl) A csx B b _ W3 P3.out ⟨ix, HTB.out.fb (F1.out.trans G3.out)⟩ (by have := HLEN.out; simp only [List.length_append, List.length_cons, List.length_nil] at this ⊢; omega)
  clear bx ix HQ
  go_wp2_with fail
  refine HS.out.mono ?_
  rintro e W4 ⟨rfl, fx, px⟩
  have P4 := Lib.hid px
  have G4 := Lib.hid (G3.out.trans fx)
  clear fx px HS
  clear q0 q1 q2 q3 q4 q5 q6
  obtain ⟨⟨q0, q1, q2, q3, q4, q5, q6⟩, -⟩ := sev_of (t := 36) (G4.out.2 _ _ HA1.out (fun e => HNB.out e) (fun c fz e => by cases e))
  have HS := Lib.hid (say1 P4.out [32, 58, 32] (by have := HLEN.out; simp only [List.length_append, List.length_cons, List.length_nil] at this ⊢; omega))
  go_wp2_with fail
  refine HS.out.mono ?_
  rintro e W5 ⟨rfl, fx, px⟩
  have P5 := Lib.hid px
  have G5 := Lib.hid (G4.out.trans fx)
  clear fx px HS
  clear q0 q1 q2 q3 q4 q5 q6
  obtain ⟨⟨q0, q1, q2, q3, q4, q5, q6⟩, -⟩ := sev_of (t := 36) (G5.out.2 _ _ HA1.out (fun e => HNB.out e) (fun c fz e => by cases e))
  have HQ := Lib.hid (partT_any ts 0 A W5 _ (IsC.fb HP.out (F1.out.trans G5.out) _ _ (by simp [nb, nb_Ts]) K6.out) (by decide))
  rw [← HR0.out] at HQ
  go_wp2_with fail
  refine HQ.out.mono ?_
  rintro e W6 ⟨csx, rfl, bx, ix⟩
  have P6 := Lib.hid (P5.out.below bx)
  have G6 := Lib.hid (G5.out.then_below bx P5.out)
  have HS : Hid (Calls Tryz.prog 51 #[.pointer (some ⟨b, 0, none⟩), .agg csx.toArray, .int .i64 0] W6 fun e w' => e = .returned (.tuple #[]) ∧ Fb B b W6 w' ∧ Pst B w' b ((((bs ++ [40]) ++ prE 0 e0) ++ [32, 58, 32]) ++ prT 0 t0)) :=
    ty_any t0 0 (by decide) A csx B b _ W6 P6.out ix (by have := HLEN.out; simp only [List.length_append, List.length_cons, List.length_nil] at this ⊢; omega)
  clear bx ix HQ
  go_wp2_with fail
  refine HS.out.mono ?_
  rintro e W7 ⟨rfl, fx, px⟩
  have P7 := Lib.hid px
  have G7 := Lib.hid (G6.out.trans fx)
  clear fx px HS
  clear q0 q1 q2 q3 q4 q5 q6
  obtain ⟨⟨q0, q1, q2, q3, q4, q5, q6⟩, -⟩ := sev_of (t := 36) (G7.out.2 _ _ HA1.out (fun e => HNB.out e) (fun c fz e => by cases e))
  have HS := Lib.hid (say1 P7.out [41] (by have := HLEN.out; simp only [List.length_append, List.length_cons, List.length_nil] at this ⊢; omega))
  go_wp2_with fail
  refine HS.out.mono ?_
  rintro e W8 ⟨rfl, fx, px⟩
  have P8 := Lib.hid px
  have G8 := Lib.hid (G7.out.trans fx)
  clear fx px HS
  clear q0 q1 q2 q3 q4 q5 q6
  obtain ⟨⟨q0, q1, q2, q3, q4, q5, q6⟩, -⟩ := sev_of (t := 36) (G8.out.2 _ _ HA1.out (fun e => HNB.out e) (fun c fz e => by cases e))
  go_wp2_with fail
  go_end0
  exact ⟨rfl, F1.out.trans G8.out, by simpa only [List.append_assoc, List.cons_append, List.nil_append] using P8.out⟩

set_option maxHeartbeats 2000000 in
theorem link_call (k a : Nat) (n : Bs) (m : Nat) (ns : List Bs) (l : List PE) (ts : List PT) (HE : ∀ x, (x ∈ l ∨ x = zPE) → (prE 0 x).length < L → ExOk S x) (hL : (prE 0 (l[1]?.getD zPE)).length < L) (hk : k ≠ 6) (A : Nat → Prop) (cs : List Value) :
    PrtE S 113 (fun b => #[.pointer (some ⟨b, 0, none⟩), .agg cs.toArray]) ([40] ++ (prE 0 (l[1]?.getD zPE) ++ ([41]))) (fun B w => IsCs A w (encE 26 36 (.mk k a n m ns l ts)) cs ∧ Tab B w) := by
  intro B b bs w hP hD hlen
  obtain ⟨hC, hT⟩ := hD
  obtain ⟨e1, he1⟩ : ∃ e1, e1 = l[1]?.getD zPE := ⟨_, rfl⟩
  rw [← he1] at hlen hL ⊢
  have HE1 := Lib.hid (HE e1 (by rw [he1]; exact getE_or l 1) hL)
  have HQ1 := Lib.hid he1
  clear he1
  obtain ⟨a4, c4, a5, c5, a6, c6, rfl, k4, k5, k6⟩ := cells_E2 hC
  have K5 := Lib.hid k5
  have K6 := Lib.hid k6
  have HP := Lib.hid hP
  have HTB := Lib.hid hT
  have HLEN := Lib.hid hlen
  obtain ⟨W1, hW1⟩ : ∃ W1, w.alloc (.cells #[.int .i64 (k : Nat), .int .i64 (a : Nat), .string ⟨n.toArray⟩, .int .i64 (m : Nat), .slice a4 ns.length c4, .slice a5 l.length c5, .slice a6 ts.length c6] 36) = W1 := ⟨_, rfl⟩
  have hA1 : W1.heap[w.heap.size]? = some (.cells #[.int .i64 (k : Nat), .int .i64 (a : Nat), .string ⟨n.toArray⟩, .int .i64 (m : Nat), .slice a4 ns.length c4, .slice a5 l.length c5, .slice a6 ts.length c6] 36 (0, 0)) := by rw [← hW1]; exact heap_alloc_new w _
  have P1 : Hid (Pst B W1 b bs) := by rw [← hW1]; exact hP.alloc _
  have F1 : Hid (Fb B b w W1) := by rw [← hW1]; exact (Fb.refl B b w).alloc hP.hi _
  have G1 := Lib.hid (Fb.refl B b W1)
  have HNB : Hid (∀ e : some w.heap.size = some b, False) := by
    intro e
    have := HP.out.lt
    have := Option.some.inj e
    omega
  obtain ⟨⟨q0, q1, q2, q3, q4, q5, q6⟩, -⟩ := sev_of (t := 36) hA1
  have HA1 := Lib.hid hA1
  have e6 : ((k : Int) == 6) = false := by simp only [beq_eq_false_iff_ne, ne_eq]; omega
  clear hC hT k4 k5 k6 hA1 hP hlen HE hL
  go_enter Tryz.func113, Tryz.ntmps113
  go_upto_region 1 with fail
  clear hW1
  have HS := Lib.hid (say1 P1.out [40] (by have := HLEN.out; simp only [List.length_append, List.length_cons, List.length_nil] at this ⊢; omega))
  go_wp2_with fail
  refine HS.out.mono ?_
  rintro e W2 ⟨rfl, fx, px⟩
  have P2 := Lib.hid px
  have G2 := Lib.hid (G1.out.trans fx)
  clear fx px HS
  clear q0 q1 q2 q3 q4 q5 q6
  obtain ⟨⟨q0, q1, q2, q3, q4, q5, q6⟩, -⟩ := sev_of (t := 36) (G2.out.2 _ _ HA1.out (fun e => HNB.out e) (fun c fz e => by cases e))
  have HQ := Lib.hid (partE_any l 1 A W2 _ (IsC.fb HP.out (F1.out.trans G2.out) _ _ (by simp [nb, nb_Es]) K5.out) (by decide))
  rw [← HQ1.out] at HQ
  go_wp2_with fail
  refine HQ.out.mono ?_
  rintro e W3 ⟨csx, rfl, bx, ix⟩
  have P3 := Lib.hid (P2.out.below bx)
  have G3 := Lib.hid (G2.out.then_below bx P2.out)
  have HS : Hid (Calls Tryz.prog 52 #[.pointer (some ⟨b, 0, none⟩), .agg csx.toArray, .int .i64 0] W3 fun e w' => e = .returned (.tuple #[]) ∧ Fb B b W3 w' ∧ Pst B w' b ((bs ++ [40]) ++ prE 0 e1)) :=
    HE1.out 0 (.inl rfl) A csx B b _ W3 P3.out ⟨ix, HTB.out.fb (F1.out.trans G3.out)⟩ (by have := HLEN.out; simp only [List.length_append, List.length_cons, List.length_nil] at this ⊢; omega)
  clear bx ix HQ
  go_wp2_with fail
  refine HS.out.mono ?_
  rintro e W4 ⟨rfl, fx, px⟩
  have P4 := Lib.hid px
  have G4 := Lib.hid (G3.out.trans fx)
  clear fx px HS
  clear q0 q1 q2 q3 q4 q5 q6
  obtain ⟨⟨q0, q1, q2, q3, q4, q5, q6⟩, -⟩ := sev_of (t := 36) (G4.out.2 _ _ HA1.out (fun e => HNB.out e) (fun c fz e => by cases e))
  have HS := Lib.hid (say1 P4.out [41] (by have := HLEN.out; simp only [List.length_append, List.length_cons, List.length_nil] at this ⊢; omega))
  go_wp2_with fail
  refine HS.out.mono ?_
  rintro e W5 ⟨rfl, fx, px⟩
  have P5 := Lib.hid px
  have G5 := Lib.hid (G4.out.trans fx)
  clear fx px HS
  clear q0 q1 q2 q3 q4 q5 q6
  obtain ⟨⟨q0, q1, q2, q3, q4, q5, q6⟩, -⟩ := sev_of (t := 36) (G5.out.2 _ _ HA1.out (fun e => HNB.out e) (fun c fz e => by cases e))
  go_wp2_with fail
  go_end0
  exact ⟨rfl, F1.out.trans G5.out, by simpa only [List.append_assoc, List.cons_append, List.nil_append] using P5.out⟩

set_option maxHeartbeats 2000000 in
theorem link_field (k a : Nat) (n : Bs) (m : Nat) (ns : List Bs) (l : List PE) (ts : List PT)  (hk : k = 6) (A : Nat → Prop) (cs : List Value) :
    PrtE S 113 (fun b => #[.pointer (some ⟨b, 0, none⟩), .agg cs.toArray]) (([46] ++ n)) (fun B w => IsCs A w (encE 26 36 (.mk k a n m ns l ts)) cs ∧ Tab B w) := by
  intro B b bs w hP hD hlen
  obtain ⟨hC, hT⟩ := hD
  obtain ⟨a4, c4, a5, c5, a6, c6, rfl, k4, k5, k6⟩ := cells_E2 hC
  have K5 := Lib.hid k5
  have K6 := Lib.hid k6
  have HP := Lib.hid hP
  have HTB := Lib.hid hT
  have HLEN := Lib.hid hlen
  obtain ⟨W1, hW1⟩ : ∃ W1, w.alloc (.cells #[.int .i64 (k : Nat), .int .i64 (a : Nat), .string ⟨n.toArray⟩, .int .i64 (m : Nat), .slice a4 ns.length c4, .slice a5 l.length c5, .slice a6 ts.length c6] 36) = W1 := ⟨_, rfl⟩
  have hA1 : W1.heap[w.heap.size]? = some (.cells #[.int .i64 (k : Nat), .int .i64 (a : Nat), .string ⟨n.toArray⟩, .int .i64 (m : Nat), .slice a4 ns.length c4, .slice a5 l.length c5, .slice a6 ts.length c6] 36 (0, 0)) := by rw [← hW1]; exact heap_alloc_new w _
  have P1 : Hid (Pst B W1 b bs) := by rw [← hW1]; exact hP.alloc _
  have F1 : Hid (Fb B b w W1) := by rw [← hW1]; exact (Fb.refl B b w).alloc hP.hi _
  have G1 := Lib.hid (Fb.refl B b W1)
  have HNB : Hid (∀ e : some w.heap.size = some b, False) := by
    intro e
    have := HP.out.lt
    have := Option.some.inj e
    omega
  obtain ⟨⟨q0, q1, q2, q3, q4, q5, q6⟩, -⟩ := sev_of (t := 36) hA1
  have HA1 := Lib.hid hA1
  have e6 : ((k : Int) == 6) = true := by simp only [beq_iff_eq]; omega
  clear hk
  clear hC hT k4 k5 k6 hA1 hP hlen
  go_enter Tryz.func113, Tryz.ntmps113
  go_upto_region 1 with fail
  clear hW1
  have HS := Lib.hid (say2 P1.out [46] n (by have := HLEN.out; simp only [List.length_append, List.length_cons, List.length_nil] at this ⊢; omega))
  go_wp2_with fail
  refine HS.out.mono ?_
  rintro e W2 ⟨rfl, fx, px⟩
  have P2 := Lib.hid px
  have G2 := Lib.hid (G1.out.trans fx)
  clear fx px HS
  clear q0 q1 q2 q3 q4 q5 q6
  obtain ⟨⟨q0, q1, q2, q3, q4, q5, q6⟩, -⟩ := sev_of (t := 36) (G2.out.2 _ _ HA1.out (fun e => HNB.out e) (fun c fz e => by cases e))
  go_wp2_with fail
  refine bodyPost_ret (results_none rfl _ _ _) rfl ?_
  exact ⟨rfl, F1.out.trans G2.out, by simpa only [List.append_assoc, List.cons_append, List.nil_append] using P2.out⟩

end Go.Proofs.YthpoffklhpbdoaaGreatDoor

/-
  The document's reader of expressions: how it is stated; numbers.
  The document's reader of expressions: basic ones but brackets and records.
  The document's reader of expressions: numbers.
  The document's reader of expressions: brackets.
-/
import Derived.Test.YtijnjoonbjdafaaGreatDoorRzM
import Derived.Test.YtijnjoonbjdafaaGreatDoorExC
import Derived.Test.YtijnjoonbjdafaaGreatDoorRdK
namespace Go.Proofs.YtijnjoonbjdafaaGreatDoor
set_option maxRecDepth 20000
open Go.RowKit Go.Shelf
abbrev zEq : Obj := .cells #[.int .i64 0, .int .i64 0, .string ⟨#[]⟩, .int .i64 0, .slice none 0 0, .slice none 0 0, .slice none 0 0] 41
abbrev zSev (w : World) : World := w.alloc zEq
theorem zsev (w : World) : Sev (zSev w) w.heap.size 41 (.int .i64 0) (.int .i64 0) (.string ⟨#[]⟩) (.int .i64 0) (.slice none 0 0) (.slice none 0 0) (.slice none 0 0) := heap_alloc_new w _
theorem sizeEq : (Tryz.prog.info? 41).map (·.size) = some 7 := by kernel_rfl
theorem infoEq : (Tryz.prog.info? 41).map (fun i => (i.zero, i.size, i.bytes)) = some (some (.agg #[.int .i64 0, .int .i64 0, .string ⟨#[]⟩, .int .i64 0, .slice none 0 0, .slice none 0 0, .slice none 0 0]), 7, 112) := by kernel_rfl
theorem IsC.bel {A : Nat → Prop} {w w' : World} {d : Dt} {v : Value} (h : IsC A w d v) (hb : Below w.heap.size w w') : IsC A w' d v := IsC.fr (Fr.of_below (n₀ := 0) hb) d v h
def vEq (lo : Nat) (t : PE) (e : Ending) (w' : World) : Prop := ∃ cs, e = .returned (.agg cs.toArray) ∧ IsCs (fun b => lo ≤ b) w' (encE 31 41 t) cs
def QPE (B M : Nat) (w : World) (rb : Nat) (all : List Tk) (p : PE × Q) (e : Ending) (w' : World) : Prop := Fr B w w' ∧ vEq w.heap.size p.1 e w' ∧ QS B M w' rb all p.2
def RdsE (f B M rb : Nat) (all : List Tk) (d : Nat) (g : Q → PE × Q) : Prop := ∀ (w : World) (s : Q), QS B M w rb all s → Calls Tryz.prog f #[.pointer (some ⟨rb, 0, none⟩), .int .i64 (d : Nat)] w (QPE B M w rb all (g s))
theorem cells_EEq {e f : TypeId} {A : Nat → Prop} {w : World} {k a : Nat} {n : Bs} {m : Nat} {ns : List Bs} {l : List PE} {ts : List PT} {cs : List Value} (h : IsCs A w (encE e f (.mk k a n m ns l ts)) cs) : ∃ a4 c4 a5 c5 a6 c6, cs = [.int .i64 k, .int .i64 a, .string ⟨n.toArray⟩, .int .i64 m, .slice a4 ns.length c4, .slice a5 l.length c5, .slice a6 ts.length c6] ∧ IsC A w (.row 9 1 ns.length (ns.map .str)) (.slice a4 ns.length c4) ∧ IsC A w (.row f 7 l.length (encEs e f l)) (.slice a5 l.length c5) ∧ IsC A w (.row e 4 ts.length (encTs e ts)) (.slice a6 ts.length c6) := by
  simp only [encE] at h
  obtain ⟨x0, ys, rfl, h0, h⟩ := h.uncons
  obtain ⟨x1, ys, rfl, h1, h⟩ := h.uncons
  obtain ⟨x2, ys, rfl, h2, h⟩ := h.uncons
  obtain ⟨x3, ys, rfl, h3, h⟩ := h.uncons
  obtain ⟨x4, ys, rfl, h4, h⟩ := h.uncons
  obtain ⟨x5, ys, rfl, h5, h⟩ := h.uncons
  obtain ⟨x6, ys, rfl, h6, h⟩ := h.uncons
  simp only [IsCs] at h
  subst h
  simp only [IsC] at h0 h1 h2 h3
  subst h0 h1 h2 h3
  obtain ⟨a4, c4, rfl⟩ := slice_form h4
  obtain ⟨a5, c5, rfl⟩ := slice_form h5
  obtain ⟨a6, c6, rfl⟩ := slice_form h6
  exact ⟨a4, c4, a5, c5, a6, c6, rfl, h4, h5, h6⟩
theorem rdsE_flat {f B M rb d : Nat} {all : List Tk} {g : Q → PE × Q} (HT : RdsE f B M rb all d g) (w : World) (s : Q) (h : QS B M w rb all s) (k a : Nat) (n : Bs) (m : Nat) (ns : List Bs) (l : List PE) (ts : List PT) (s8 : Q) (hp : (PE.mk k a n m ns l ts, s8) = g s) :
    Calls Tryz.prog f #[.pointer (some ⟨rb, 0, none⟩), .int .i64 (d : Nat)] w fun e w' => ∃ a4 c4 a5 c5 a6 c6, e = .returned (.agg #[.int .i64 (k : Nat), .int .i64 (a : Nat), .string ⟨n.toArray⟩, .int .i64 (m : Nat), .slice a4 ns.length c4, .slice a5 l.length c5, .slice a6 ts.length c6]) ∧ Fr B w w' ∧ IsCs (fun b => w.heap.size ≤ b) w' (encE 31 41 (.mk k a n m ns l ts)) [.int .i64 (k : Nat), .int .i64 (a : Nat), .string ⟨n.toArray⟩, .int .i64 (m : Nat), .slice a4 ns.length c4, .slice a5 l.length c5, .slice a6 ts.length c6] ∧ QS B M w' rb all s8 := by
  refine (HT w s h).mono ?_
  rw [← hp]
  rintro e w' ⟨f8, ⟨cs8, he, i8⟩, q8⟩
  have i8' : IsCs (fun b => w.heap.size ≤ b) w' (encE 31 41 (.mk k a n m ns l ts)) cs8 := i8
  obtain ⟨a4, c4, a5, c5, a6, c6, hcs, -, -, -⟩ := cells_EEq i8'
  subst hcs
  exact ⟨a4, c4, a5, c5, a6, c6, he, f8, i8', q8⟩
theorem retEq {f : Func} {R : Ending → World → Prop} {a : Act} {w : World} {b : Nat} {u0 u1 u2 u3 u4 u5 u6 : Value} (hf : f.results = #[.cell 4 41]) (ht : a.eval (.tmp 4) = .pointer (some ⟨b, 0, none⟩)) (hd : a.defers = [])
    (h : Sev w b 41 u0 u1 u2 u3 u4 u5 u6) (hR : R (.returned (.agg #[u0, u1, u2, u3, u4, u5, u6])) w) : bodyPost Tryz.prog f R Exit.ret a w := by
  obtain ⟨⟨c0, c1, c2, c3, c4, c5, c6⟩, -⟩ := sev_of h
  refine bodyPost_ret ?_ hd hR
  simp [Act.eval] at ht
  simp [results, hf, go_sem, c0, c1, c2, c3, c4, c5, c6, ht]
theorem sev_put {w : World} {b : Nat} {t : TypeId} {v0 v1 v2 v3 v4 v5 v6 : Value} (h : Sev w b t v0 v1 v2 v3 v4 v5 v6) (u0 u1 u2 u3 u4 u5 u6 : Value) : Sev (putL w b [u0, u1, u2, u3, u4, u5, u6]) b t u0 u1 u2 u3 u4 u5 u6 := putL_at (vs := [u0, u1, u2, u3, u4, u5, u6]) h rfl
theorem endEq {f : Func} {a : Act} {B M rb : Nat} {all : List Tk} {w w2 w3 : World} {q : Q} {t : PE} {v0 v1 v2 v3 v4 v5 v6 u0 u1 u2 u3 u4 u5 u6 : Value} (hf : f.results = #[.cell 4 41]) (ht : a.eval (.tmp 4) = .pointer (some ⟨w.heap.size, 0, none⟩)) (hd : a.defers = [])
    (ha : Sev w2 w.heap.size 41 v0 v1 v2 v3 v4 v5 v6) (hF : Fr B w w2) (hQ : QS B M w2 rb all q) (hrb : rb < w.heap.size) (hc : IsCs (fun b => w.heap.size < b) w2 (encE 31 41 t) [u0, u1, u2, u3, u4, u5, u6]) (h3 : Hid (w3 = putL w2 w.heap.size [u0, u1, u2, u3, u4, u5, u6])) :
    bodyPost Tryz.prog f (QPE B M w rb all (t, q)) Exit.ret a w3 := by
  rw [h3.out]
  exact retEq hf ht hd (sev_put ha u0 u1 u2 u3 u4 u5 u6) ⟨hF.putL (Nat.le_refl _) _, ⟨[u0, u1, u2, u3, u4, u5, u6], rfl, (hc.putL w.heap.size (fun k hk => Nat.ne_of_gt hk) _).mono (fun _ _ hk => Nat.le_of_lt hk)⟩, hQ.putL ha (by decide) hrb _⟩
theorem bareEq (A : Nat → Prop) (w : World) (k a : Nat) (n : Bs) (m : Nat) : IsCs A w (encE 31 41 (.mk k a n m [] [] [])) [.int .i64 (k : Nat), .int .i64 (a : Nat), .string ⟨n.toArray⟩, .int .i64 (m : Nat), .slice none 0 0, .slice none 0 0, .slice none 0 0] := by
  simp only [encE, encEs, encTs, List.map_nil, List.length_nil]
  exact .cons (.num _ _ _) (.cons (.num _ _ _) (.cons (.str _ _ _) (.cons (.num _ _ _) (.cons (.none _ _ _ (by decide)) (.cons (.none _ _ _ (by decide)) (.cons (.none _ _ _ (by decide)) (.nil _ _)))))))
theorem QS.hd_mem {B M : Nat} {w : World} {rb : Nat} {all : List Tk} {s : Q} (h : QS B M w rb all s) : hd s.ts ∈ all := by
  obtain ⟨g, cap, i, vd, -, hi, -, -, -, -, -, r, hr, -⟩ := h.first
  obtain ⟨h1, h2, h3, h4, h5, vt, vd, j, xs, h6, h7, h8, h9, h10⟩ := h
  have : hd s.ts ∈ s.ts := by rw [hr]; exact List.mem_cons_self
  rw [h9] at this ⊢
  exact List.mem_of_mem_drop this
theorem numOf_snocR (l : Bs) (c : UInt8) : numOf (l ++ [c]) = 10 * numOf l + (c.toNat - 48) := by simp [numOf]
theorem numOf_ltR (l : Bs) (hl : ∀ c ∈ l, 48 ≤ c.toNat ∧ c.toNat ≤ 57) : numOf l < 10 ^ l.length := by
  induction hn : l.length generalizing l with
  | zero =>
    have : l = [] := List.eq_nil_of_length_eq_zero hn
    subst this; simp [numOf]
  | succ n ih =>
    rcases List.eq_nil_or_concat l with rfl | ⟨q, c, rfl⟩
    · cases hn
    · rw [List.concat_eq_append] at hl hn ⊢
      have h1 := ih q (fun c hc => hl c (by simp [hc])) (by simpa using hn)
      have h2 := hl c (by simp)
      rw [numOf_snocR, Nat.pow_succ]
      omega
theorem numOf_take {l : Bs} (h : NumT l) (i : Nat) (hi : i < l.length) : numOf (l.take i) < 10 ^ 17 := by
  have h1 := numOf_ltR (l.take i) (fun c hc => h.2.2 c (List.mem_of_mem_take hc))
  have h2 : (10 : Nat) ^ (l.take i).length ≤ 10 ^ 17 := Nat.pow_le_pow_right (by decide) (by have := h.2.1; rw [List.length_take]; omega)
  omega
set_option maxHeartbeats 1000000 in
theorem qnumber_s (s : ByteArray) (h : NumT s.data.toList) (w : World) : Calls Tryz.prog 138 #[.string s] w fun e w' => e = .returned (.int .i64 (numOf s.data.toList : Nat)) ∧ w' = w := by
  have HH := Lib.hid h
  have hsz : s.size = s.data.toList.length := Lib.size_eq s
  have hl18 : s.size ≤ 18 := by rw [hsz]; exact h.2.1
  have HSZ := Lib.hid hsz
  clear h hsz
  go_enter Tryz.func138, Tryz.ntmps138
  go_wp2_with fail
  go_loop [3, 4] (fun s3 s4 => ∃ (n i : Nat), s3 = .int .i64 (n : Nat) ∧ s4 = .int .i64 (i : Nat) ∧ i ≤ s.size ∧ Hid (n = numOf (s.data.toList.take i))) (fun _ s4 => s.size - (intOf s4).toNat)
  case atStart => exact ⟨0, 0, rfl, rfl, Nat.zero_le _, Lib.hid (by simp [numOf])⟩
  case round =>
    obtain ⟨n, i, rfl, rfl, hi, HN⟩ := hrel
    by_cases hlt : i < s.size
    · have hd1 : decide ((i : Int) < (s.size : Int)) = true := by simp only [decide_eq_true_eq]; omega
      have hd2 : decide (i < s.size) = true := by simp only [decide_eq_true_eq]; exact hlt
      have hn17 : n < 100000000000000000 := by rw [HN.out]; exact numOf_take HH.out i (by rw [← HSZ.out]; exact hlt)
      have hcm : s[i] ∈ s.data.toList := by simp [ByteArray.getElem_eq_getElem_data]
      have hc1 := (HH.out.2.2 _ hcm).1
      have hc2 := (HH.out.2.2 _ hcm).2
      have HE := Lib.hid (show 10 * n + (s[i].toNat - 48) = numOf (s.data.toList.take (i + 1)) by
        rw [List.take_add_one, HN.out]
        have : s.data.toList[i]? = some s[i] := by rw [List.getElem?_eq_getElem (by rw [← HSZ.out]; exact hlt)]; simp [ByteArray.getElem_eq_getElem_data]
        rw [this]
        exact (numOf_snocR _ _).symm)
      go_wp2_with fail
      refine ⟨⟨10 * n + (s[i].toNat - 48), i + 1, by congr 1; omega, by simp, by omega, HE⟩, by simp [intOf]; omega⟩
    · have hd1 : decide ((i : Int) < (s.size : Int)) = false := by simp only [decide_eq_false_iff_not]; omega
      have hd2 : decide (i < s.size) = false := by simp only [decide_eq_false_iff_not]; exact hlt
      have HE := Lib.hid (show n = numOf s.data.toList by rw [HN.out, List.take_of_length_le (by rw [← HSZ.out]; omega)])
      go_wp2_with fail
      go_ret
      exact ⟨by rw [HE.out]; rfl, rfl⟩
theorem qnumber_any (l : Bs) (h : NumT l) (w : World) : Calls Tryz.prog 138 #[.string ⟨l.toArray⟩] w fun e w' => e = .returned (.int .i64 (numOf l : Nat)) ∧ w' = w := by
  have := qnumber_s ⟨l.toArray⟩ (by simpa using h) w
  simpa using this
end Go.Proofs.YtijnjoonbjdafaaGreatDoor
namespace Go.Proofs.YtijnjoonbjdafaaGreatDoor
set_option maxRecDepth 20000
open Go.RowKit Go.Shelf
set_option maxHeartbeats 8000000 in
theorem qbasic_bad {B M rb : Nat} {all : List Tk} (d : Nat) (w : World) (s : Q) (h : QS B M w rb all s) (hb0 : s.bad = true) :
    Calls Tryz.prog 94 #[.pointer (some ⟨rb, 0, none⟩), .int .i64 (d : Nat)] w (QPE B M w rb all (qE0, s)) := by
  have HRB := Lib.hid h.lt
  obtain ⟨W1, hW1⟩ : ∃ W1, zSev w = W1 := ⟨_, rfl⟩
  have a1 := zsev w
  rw [hW1] at a1
  have HA1 := Lib.hid a1
  have F1 := Lib.hid (show Fr B w W1 by rw [← hW1]; exact (Fr.refl B w).alloc _)
  have q1 := (show QS B M W1 rb all s by rw [← hW1]; exact h.alloc _)
  have Q1 := Lib.hid q1
  have HW1 := Lib.hid (show w.alloc (.cells #[.int .i64 0, .int .i64 0, .string ⟨#[]⟩, .int .i64 0, .slice none 0 0, .slice none 0 0, .slice none 0 0] 41) = W1 from hW1)
  obtain ⟨g, cap, i, vd, h6, -⟩ := q1.first
  obtain ⟨⟨p0, p1, p2, p3⟩, -⟩ := fou_of h6
  have HTH := Lib.hid (there_of HA1.out rfl)
  rw [hb0] at p3
  clear h hW1 a1 q1 h6 hb0
  go_enter Tryz.func94, Tryz.ntmps94
  go_upto_region 1 with fail
  rw [HW1.out]
  go_wp2_with (first | (refine wpList_store_put rfl 41 (.tmp 4) (.tmp 16) rfl w.heap.size _ rfl rfl HTH.out sizeEq (all_oneCell_toArray (by simp [Value.oneCell'])) ?_; intro W9 hW9))
  exact endEq rfl rfl rfl HA1.out F1.out Q1.out HRB.out (bareEq _ _ 0 0 [] 0) hW9
set_option maxHeartbeats 8000000 in
theorem qbasic_name {B M rb : Nat} {all : List Tk} (d : Nat) (w : World) (s : Q) (h : QS B M w rb all s) (hb0 : s.bad = false) (hk0 : (hd s.ts).k = 1) :
    Calls Tryz.prog 94 #[.pointer (some ⟨rb, 0, none⟩), .int .i64 (d : Nat)] w (QPE B M w rb all (.mk 4 (hd s.ts).a (hd s.ts).t 0 [] [] [], s.next)) := by
  have HRB := Lib.hid h.lt
  have HK0 := Lib.hid hk0
  obtain ⟨W1, hW1⟩ : ∃ W1, zSev w = W1 := ⟨_, rfl⟩
  have a1 := zsev w
  rw [hW1] at a1
  have HA1 := Lib.hid a1
  have F1 := Lib.hid (show Fr B w W1 by rw [← hW1]; exact (Fr.refl B w).alloc _)
  have q1 := (show QS B M W1 rb all s by rw [← hW1]; exact h.alloc _)
  have Q1 := Lib.hid q1
  have HW1 := Lib.hid (show w.alloc (.cells #[.int .i64 0, .int .i64 0, .string ⟨#[]⟩, .int .i64 0, .slice none 0 0, .slice none 0 0, .slice none 0 0] 41) = W1 from hW1)
  obtain ⟨g, cap, i, vd, h6, hi, hb, hg, c0, c1, c2, -⟩ := q1.first
  obtain ⟨⟨p0, p1, p2, p3⟩, f0, f1, f2, f3⟩ := fou_of h6
  have H6 := Lib.hid h6
  obtain ⟨⟨tk, ta, tt⟩, ht⟩ : ∃ t, t = hd s.ts := ⟨_, rfl⟩
  rw [← ht] at c0 c1 c2
  have HTT := Lib.hid ht
  have hrb1 : rb < W1.heap.size := q1.lt
  have n1 : ¬ rb = W1.heap.size := Nat.ne_of_lt hrb1
  have hlt1 : w.heap.size < W1.heap.size := (Array.getElem?_eq_some_iff.1 a1).1
  have n2 : ¬ w.heap.size = W1.heap.size := Nat.ne_of_lt hlt1
  simp only at c0 c1 c2
  rw [hb0] at p3
  have HBD := Lib.hid hb0
  clear h hW1 a1 q1 h6 hb0 hk0
  go_enter Tryz.func94, Tryz.ntmps94
  go_upto_region 1 with fail
  rw [HW1.out]
  obtain ⟨W2, hW2⟩ : ∃ W2, (W1.alloc (.cells #[.int .i64 (tk : Nat), .int .i64 (ta : Nat), .string ⟨tt.toArray⟩] 96)).drew = W2 := ⟨_, rfl⟩
  have b2 : Below W1.heap.size W1 W2 := by rw [← hW2]; exact ((Below.refl _ W1).alloc (Nat.le_refl _) _).drew
  have a2 : Thr W2 W1.heap.size 96 (.int .i64 (tk : Nat)) (.int .i64 (ta : Nat)) (.string ⟨tt.toArray⟩) := by rw [← hW2]; exact thr_new W1 _ _ _ _
  have a12 : Sev W2 w.heap.size 41 (.int .i64 0) (.int .i64 0) (.string ⟨#[]⟩) (.int .i64 0) (.slice none 0 0) (.slice none 0 0) (.slice none 0 0) := (b2.block _ hlt1).trans HA1.out
  have Q2 := Lib.hid (Q1.out.below b2)
  have F2 := Lib.hid (F1.out.trans (Fr.of_below (n₀ := B) b2))
  have HA2 := Lib.hid a2
  have HA12 := Lib.hid a12
  have HW2 := Lib.hid hW2
  have h62 := (b2.block rb hrb1).trans H6.out
  have H62 := Lib.hid h62
  have hlt2 : W1.heap.size < W2.heap.size := (Array.getElem?_eq_some_iff.1 a2).1
  have HL12 := Lib.hid hlt1
  have HL2 := Lib.hid hlt2
  clear hW2 a2 a12 b2 h62
  go_upto_region 3 with fail
  go_region
  go_upto_region 4 with fail
  rw [HW2.out]
  clear p0 p1 p2 p3 f0 f1 f2 f3 c0 c1 c2
  obtain ⟨⟨t0, t1, t2⟩, -⟩ := thr_of HA2.out
  have htk : tk = 1 := by have := HK0.out; rw [← HTT.out] at this; exact this
  have hk1 : ((tk : Int) == 1) = true := by simp only [beq_iff_eq]; omega
  have hk3 : ((tk : Int) == 3) = false := by simp only [beq_eq_false_iff_ne, ne_eq]; omega
  have hk4 : ((tk : Int) == 4) = false := by simp only [beq_eq_false_iff_ne, ne_eq]; omega
  have HK := Lib.hid (show (hd s.ts).k ≠ 6 by rw [HK0.out]; decide)
  have HP := Lib.hid (Q2.out.passed HK.out H62.out)
  obtain ⟨⟨p0, p1, p2, p3⟩, f0, f1, f2, f3⟩ := fou_of H62.out
  have hwr : ¬ w.heap.size = rb := fun e => Nat.ne_of_lt HRB.out e.symm
  have hwb : ¬ W1.heap.size = rb := fun e => n1 e.symm
  have A13 := Lib.hid (show Sev (W2.setCell ⟨rb, 1, none⟩ (.int .i64 ((i : Int) + 1))) w.heap.size 41 (.int .i64 0) (.int .i64 0) (.string ⟨#[]⟩) (.int .i64 0) (.slice none 0 0) (.slice none 0 0) (.slice none 0 0) from (Below.heap_setCell W2 ⟨rb, 1, none⟩ _ w.heap.size hwr).trans HA12.out)
  have HTH := Lib.hid (there_of A13.out rfl)
  clear htk
  go_wp2_with (first | (refine wpList_store_put rfl 41 (.tmp 4) (.tmp 42) rfl w.heap.size _ rfl rfl HTH.out sizeEq (all_oneCell_toArray (by simp [Value.oneCell'])) ?_; intro W9 hW9))
  exact endEq rfl rfl rfl A13.out (F2.out.trans HP.out.2) HP.out.1 HRB.out (by rw [← HTT.out]; exact bareEq _ _ 4 ta tt 0) hW9
set_option maxHeartbeats 8000000 in
theorem qbasic_text {B M rb : Nat} {all : List Tk} (d : Nat) (w : World) (s : Q) (h : QS B M w rb all s) (hb0 : s.bad = false) (hk0 : (hd s.ts).k = 4) :
    Calls Tryz.prog 94 #[.pointer (some ⟨rb, 0, none⟩), .int .i64 (d : Nat)] w (QPE B M w rb all (.mk 2 (hd s.ts).a (hd s.ts).t 0 [] [] [], s.next)) := by
  have HRB := Lib.hid h.lt
  have HK0 := Lib.hid hk0
  obtain ⟨W1, hW1⟩ : ∃ W1, zSev w = W1 := ⟨_, rfl⟩
  have a1 := zsev w
  rw [hW1] at a1
  have HA1 := Lib.hid a1
  have F1 := Lib.hid (show Fr B w W1 by rw [← hW1]; exact (Fr.refl B w).alloc _)
  have q1 := (show QS B M W1 rb all s by rw [← hW1]; exact h.alloc _)
  have Q1 := Lib.hid q1
  have HW1 := Lib.hid (show w.alloc (.cells #[.int .i64 0, .int .i64 0, .string ⟨#[]⟩, .int .i64 0, .slice none 0 0, .slice none 0 0, .slice none 0 0] 41) = W1 from hW1)
  obtain ⟨g, cap, i, vd, h6, hi, hb, hg, c0, c1, c2, -⟩ := q1.first
  obtain ⟨⟨p0, p1, p2, p3⟩, f0, f1, f2, f3⟩ := fou_of h6
  have H6 := Lib.hid h6
  obtain ⟨⟨tk, ta, tt⟩, ht⟩ : ∃ t, t = hd s.ts := ⟨_, rfl⟩
  rw [← ht] at c0 c1 c2
  have HTT := Lib.hid ht
  have hrb1 : rb < W1.heap.size := q1.lt
  have n1 : ¬ rb = W1.heap.size := Nat.ne_of_lt hrb1
  have hlt1 : w.heap.size < W1.heap.size := (Array.getElem?_eq_some_iff.1 a1).1
  have n2 : ¬ w.heap.size = W1.heap.size := Nat.ne_of_lt hlt1
  simp only at c0 c1 c2
  rw [hb0] at p3
  have HBD := Lib.hid hb0
  clear h hW1 a1 q1 h6 hb0 hk0
  go_enter Tryz.func94, Tryz.ntmps94
  go_upto_region 1 with fail
  rw [HW1.out]
  obtain ⟨W2, hW2⟩ : ∃ W2, (W1.alloc (.cells #[.int .i64 (tk : Nat), .int .i64 (ta : Nat), .string ⟨tt.toArray⟩] 96)).drew = W2 := ⟨_, rfl⟩
  have b2 : Below W1.heap.size W1 W2 := by rw [← hW2]; exact ((Below.refl _ W1).alloc (Nat.le_refl _) _).drew
  have a2 : Thr W2 W1.heap.size 96 (.int .i64 (tk : Nat)) (.int .i64 (ta : Nat)) (.string ⟨tt.toArray⟩) := by rw [← hW2]; exact thr_new W1 _ _ _ _
  have a12 : Sev W2 w.heap.size 41 (.int .i64 0) (.int .i64 0) (.string ⟨#[]⟩) (.int .i64 0) (.slice none 0 0) (.slice none 0 0) (.slice none 0 0) := (b2.block _ hlt1).trans HA1.out
  have Q2 := Lib.hid (Q1.out.below b2)
  have F2 := Lib.hid (F1.out.trans (Fr.of_below (n₀ := B) b2))
  have HA2 := Lib.hid a2
  have HA12 := Lib.hid a12
  have HW2 := Lib.hid hW2
  have h62 := (b2.block rb hrb1).trans H6.out
  have H62 := Lib.hid h62
  have hlt2 : W1.heap.size < W2.heap.size := (Array.getElem?_eq_some_iff.1 a2).1
  have HL12 := Lib.hid hlt1
  have HL2 := Lib.hid hlt2
  clear hW2 a2 a12 b2 h62
  go_upto_region 3 with fail
  go_region
  go_upto_region 4 with fail
  rw [HW2.out]
  clear p0 p1 p2 p3 f0 f1 f2 f3 c0 c1 c2
  obtain ⟨⟨t0, t1, t2⟩, -⟩ := thr_of HA2.out
  have htk : tk = 4 := by have := HK0.out; rw [← HTT.out] at this; exact this
  have hk1 : ((tk : Int) == 1) = false := by simp only [beq_eq_false_iff_ne, ne_eq]; omega
  have hk3 : ((tk : Int) == 3) = false := by simp only [beq_eq_false_iff_ne, ne_eq]; omega
  have hk4 : ((tk : Int) == 4) = true := by simp only [beq_iff_eq]; omega
  have HK := Lib.hid (show (hd s.ts).k ≠ 6 by rw [HK0.out]; decide)
  have HP := Lib.hid (Q2.out.passed HK.out H62.out)
  obtain ⟨⟨p0, p1, p2, p3⟩, f0, f1, f2, f3⟩ := fou_of H62.out
  have hwr : ¬ w.heap.size = rb := fun e => Nat.ne_of_lt HRB.out e.symm
  have hwb : ¬ W1.heap.size = rb := fun e => n1 e.symm
  have A13 := Lib.hid (show Sev (W2.setCell ⟨rb, 1, none⟩ (.int .i64 ((i : Int) + 1))) w.heap.size 41 (.int .i64 0) (.int .i64 0) (.string ⟨#[]⟩) (.int .i64 0) (.slice none 0 0) (.slice none 0 0) (.slice none 0 0) from (Below.heap_setCell W2 ⟨rb, 1, none⟩ _ w.heap.size hwr).trans HA12.out)
  have HTH := Lib.hid (there_of A13.out rfl)
  clear htk
  go_wp2_with (first | (refine wpList_store_put rfl 41 (.tmp 4) (.tmp 71) rfl w.heap.size _ rfl rfl HTH.out sizeEq (all_oneCell_toArray (by simp [Value.oneCell'])) ?_; intro W9 hW9))
  exact endEq rfl rfl rfl A13.out (F2.out.trans HP.out.2) HP.out.1 HRB.out (by rw [← HTT.out]; exact bareEq _ _ 2 ta tt 0) hW9
set_option maxHeartbeats 8000000 in
theorem qbasic_true {B M rb : Nat} {all : List Tk} (hM : M ≤ 10000000) (d : Nat) (w : World) (s : Q) (h : QS B M w rb all s) (hb0 : s.bad = false) (hk1 : (hd s.ts).k ≠ 1) (hk3 : (hd s.ts).k ≠ 3) (hk4 : (hd s.ts).k ≠ 4) (hm : s.is [116, 114, 117, 101] = true) :
    Calls Tryz.prog 94 #[.pointer (some ⟨rb, 0, none⟩), .int .i64 (d : Nat)] w (QPE B M w rb all (.mk 3 (hd s.ts).a [] 1 [] [] [], s.take [116, 114, 117, 101])) := by
  have HRB := Lib.hid h.lt
  have HK1 := Lib.hid hk1
  have HK3 := Lib.hid hk3
  have HK4 := Lib.hid hk4
  have HM := Lib.hid hm
  obtain ⟨W1, hW1⟩ : ∃ W1, zSev w = W1 := ⟨_, rfl⟩
  have a1 := zsev w
  rw [hW1] at a1
  have HA1 := Lib.hid a1
  have F1 := Lib.hid (show Fr B w W1 by rw [← hW1]; exact (Fr.refl B w).alloc _)
  have q1 := (show QS B M W1 rb all s by rw [← hW1]; exact h.alloc _)
  have Q1 := Lib.hid q1
  have HW1 := Lib.hid (show w.alloc (.cells #[.int .i64 0, .int .i64 0, .string ⟨#[]⟩, .int .i64 0, .slice none 0 0, .slice none 0 0, .slice none 0 0] 41) = W1 from hW1)
  obtain ⟨g, cap, i, vd, h6, hi, hb, hg, c0, c1, c2, -⟩ := q1.first
  obtain ⟨⟨p0, p1, p2, p3⟩, f0, f1, f2, f3⟩ := fou_of h6
  have H6 := Lib.hid h6
  obtain ⟨⟨tk, ta, tt⟩, ht⟩ : ∃ t, t = hd s.ts := ⟨_, rfl⟩
  rw [← ht] at c0 c1 c2
  have HTT := Lib.hid ht
  have hrb1 : rb < W1.heap.size := q1.lt
  have n1 : ¬ rb = W1.heap.size := Nat.ne_of_lt hrb1
  have hlt1 : w.heap.size < W1.heap.size := (Array.getElem?_eq_some_iff.1 a1).1
  have n2 : ¬ w.heap.size = W1.heap.size := Nat.ne_of_lt hlt1
  simp only at c0 c1 c2
  rw [hb0] at p3
  have HBD := Lib.hid hb0
  clear h hW1 a1 q1 h6 hb0 hk1 hk3 hk4 hm
  go_enter Tryz.func94, Tryz.ntmps94
  go_upto_region 1 with fail
  rw [HW1.out]
  obtain ⟨W2, hW2⟩ : ∃ W2, (W1.alloc (.cells #[.int .i64 (tk : Nat), .int .i64 (ta : Nat), .string ⟨tt.toArray⟩] 96)).drew = W2 := ⟨_, rfl⟩
  have b2 : Below W1.heap.size W1 W2 := by rw [← hW2]; exact ((Below.refl _ W1).alloc (Nat.le_refl _) _).drew
  have a2 : Thr W2 W1.heap.size 96 (.int .i64 (tk : Nat)) (.int .i64 (ta : Nat)) (.string ⟨tt.toArray⟩) := by rw [← hW2]; exact thr_new W1 _ _ _ _
  have a12 : Sev W2 w.heap.size 41 (.int .i64 0) (.int .i64 0) (.string ⟨#[]⟩) (.int .i64 0) (.slice none 0 0) (.slice none 0 0) (.slice none 0 0) := (b2.block _ hlt1).trans HA1.out
  have Q2 := Lib.hid (Q1.out.below b2)
  have F2 := Lib.hid (F1.out.trans (Fr.of_below (n₀ := B) b2))
  have HA2 := Lib.hid a2
  have HA12 := Lib.hid a12
  have HW2 := Lib.hid hW2
  have h62 := (b2.block rb hrb1).trans H6.out
  have H62 := Lib.hid h62
  have hlt2 : W1.heap.size < W2.heap.size := (Array.getElem?_eq_some_iff.1 a2).1
  have HL12 := Lib.hid hlt1
  have HL2 := Lib.hid hlt2
  clear hW2 a2 a12 b2 h62
  go_upto_region 3 with fail
  go_region
  go_upto_region 4 with fail
  rw [HW2.out]
  clear p0 p1 p2 p3 f0 f1 f2 f3 c0 c1 c2
  obtain ⟨⟨t0, t1, t2⟩, -⟩ := thr_of HA2.out
  have g1 : tk ≠ 1 := by have := HK1.out; rw [← HTT.out] at this; exact this
  have g3 : tk ≠ 3 := by have := HK3.out; rw [← HTT.out] at this; exact this
  have g4 : tk ≠ 4 := by have := HK4.out; rw [← HTT.out] at this; exact this
  have hk1 : ((tk : Int) == 1) = false := by simp only [beq_eq_false_iff_ne, ne_eq]; omega
  have hk3 : ((tk : Int) == 3) = false := by simp only [beq_eq_false_iff_ne, ne_eq]; omega
  have hk4 : ((tk : Int) == 4) = false := by simp only [beq_eq_false_iff_ne, ne_eq]; omega
  clear g1 g3 g4
  have HTA := Lib.hid (show (hd s.ts).a = ta by rw [← HTT.out])
  have HI0 := Lib.hid (qis_any Q2.out [116, 114, 117, 101])
  rw [HM.out] at HI0
  go_wp2_with fail
  refine HI0.out.mono ?_
  rintro e u0 ⟨rfl, b⟩
  have QX0 := Lib.hid (Q2.out.below b)
  have FX0 := Lib.hid (F2.out.below b)
  have AX0 := Lib.hid ((b.block _ (Array.getElem?_eq_some_iff.1 HA12.out).1).trans HA12.out)
  have TX0 := Lib.hid ((b.block _ (Array.getElem?_eq_some_iff.1 HA2.out).1).trans HA2.out)
  clear b HI0
  have HTK := Lib.hid (qtake_any hM QX0.out [116, 114, 117, 101])
  clear t0 t1 t2
  go_wp2_with fail
  refine HTK.out.mono ?_
  rintro e w7 ⟨rfl, q7, f7⟩
  have A7 := Lib.hid (show Sev w7 w.heap.size 41 _ _ _ _ _ _ _ from f7.cells AX0.out (by decide))
  have T7 : Thr w7 W1.heap.size 96 _ _ _ := f7.cells TX0.out (by decide)
  obtain ⟨⟨t0, t1, t2⟩, -⟩ := thr_of T7
  have Q7 := Lib.hid q7
  have F7 := Lib.hid (FX0.out.trans f7)
  have HTH := Lib.hid (there_of A7.out rfl)
  clear q7 f7 T7 HTK
  go_wp2_with (first | (refine wpList_store_put rfl 41 (.tmp 4) (.tmp 78) rfl w.heap.size _ rfl rfl HTH.out sizeEq (all_oneCell_toArray (by simp [Value.oneCell'])) ?_; intro W9 hW9))
  exact endEq rfl rfl rfl A7.out F7.out Q7.out HRB.out (by rw [HTA.out]; exact bareEq _ _ 3 ta [] 1) hW9
set_option maxHeartbeats 8000000 in
theorem qbasic_false {B M rb : Nat} {all : List Tk} (hM : M ≤ 10000000) (d : Nat) (w : World) (s : Q) (h : QS B M w rb all s) (hb0 : s.bad = false) (hk1 : (hd s.ts).k ≠ 1) (hk3 : (hd s.ts).k ≠ 3) (hk4 : (hd s.ts).k ≠ 4) (hm : s.is [102, 97, 108, 115, 101] = true) :
    Calls Tryz.prog 94 #[.pointer (some ⟨rb, 0, none⟩), .int .i64 (d : Nat)] w (QPE B M w rb all (.mk 3 (hd s.ts).a [] 0 [] [] [], s.take [102, 97, 108, 115, 101])) := by
  have HRB := Lib.hid h.lt
  have HK1 := Lib.hid hk1
  have HK3 := Lib.hid hk3
  have HK4 := Lib.hid hk4
  have HM := Lib.hid hm
  obtain ⟨W1, hW1⟩ : ∃ W1, zSev w = W1 := ⟨_, rfl⟩
  have a1 := zsev w
  rw [hW1] at a1
  have HA1 := Lib.hid a1
  have F1 := Lib.hid (show Fr B w W1 by rw [← hW1]; exact (Fr.refl B w).alloc _)
  have q1 := (show QS B M W1 rb all s by rw [← hW1]; exact h.alloc _)
  have Q1 := Lib.hid q1
  have HW1 := Lib.hid (show w.alloc (.cells #[.int .i64 0, .int .i64 0, .string ⟨#[]⟩, .int .i64 0, .slice none 0 0, .slice none 0 0, .slice none 0 0] 41) = W1 from hW1)
  obtain ⟨g, cap, i, vd, h6, hi, hb, hg, c0, c1, c2, -⟩ := q1.first
  obtain ⟨⟨p0, p1, p2, p3⟩, f0, f1, f2, f3⟩ := fou_of h6
  have H6 := Lib.hid h6
  obtain ⟨⟨tk, ta, tt⟩, ht⟩ : ∃ t, t = hd s.ts := ⟨_, rfl⟩
  rw [← ht] at c0 c1 c2
  have HTT := Lib.hid ht
  have hrb1 : rb < W1.heap.size := q1.lt
  have n1 : ¬ rb = W1.heap.size := Nat.ne_of_lt hrb1
  have hlt1 : w.heap.size < W1.heap.size := (Array.getElem?_eq_some_iff.1 a1).1
  have n2 : ¬ w.heap.size = W1.heap.size := Nat.ne_of_lt hlt1
  simp only at c0 c1 c2
  rw [hb0] at p3
  have HBD := Lib.hid hb0
  clear h hW1 a1 q1 h6 hb0 hk1 hk3 hk4 hm
  go_enter Tryz.func94, Tryz.ntmps94
  go_upto_region 1 with fail
  rw [HW1.out]
  obtain ⟨W2, hW2⟩ : ∃ W2, (W1.alloc (.cells #[.int .i64 (tk : Nat), .int .i64 (ta : Nat), .string ⟨tt.toArray⟩] 96)).drew = W2 := ⟨_, rfl⟩
  have b2 : Below W1.heap.size W1 W2 := by rw [← hW2]; exact ((Below.refl _ W1).alloc (Nat.le_refl _) _).drew
  have a2 : Thr W2 W1.heap.size 96 (.int .i64 (tk : Nat)) (.int .i64 (ta : Nat)) (.string ⟨tt.toArray⟩) := by rw [← hW2]; exact thr_new W1 _ _ _ _
  have a12 : Sev W2 w.heap.size 41 (.int .i64 0) (.int .i64 0) (.string ⟨#[]⟩) (.int .i64 0) (.slice none 0 0) (.slice none 0 0) (.slice none 0 0) := (b2.block _ hlt1).trans HA1.out
  have Q2 := Lib.hid (Q1.out.below b2)
  have F2 := Lib.hid (F1.out.trans (Fr.of_below (n₀ := B) b2))
  have HA2 := Lib.hid a2
  have HA12 := Lib.hid a12
  have HW2 := Lib.hid hW2
  have h62 := (b2.block rb hrb1).trans H6.out
  have H62 := Lib.hid h62
  have hlt2 : W1.heap.size < W2.heap.size := (Array.getElem?_eq_some_iff.1 a2).1
  have HL12 := Lib.hid hlt1
  have HL2 := Lib.hid hlt2
  clear hW2 a2 a12 b2 h62
  go_upto_region 3 with fail
  go_region
  go_upto_region 4 with fail
  rw [HW2.out]
  clear p0 p1 p2 p3 f0 f1 f2 f3 c0 c1 c2
  obtain ⟨⟨t0, t1, t2⟩, -⟩ := thr_of HA2.out
  have g1 : tk ≠ 1 := by have := HK1.out; rw [← HTT.out] at this; exact this
  have g3 : tk ≠ 3 := by have := HK3.out; rw [← HTT.out] at this; exact this
  have g4 : tk ≠ 4 := by have := HK4.out; rw [← HTT.out] at this; exact this
  have hk1 : ((tk : Int) == 1) = false := by simp only [beq_eq_false_iff_ne, ne_eq]; omega
  have hk3 : ((tk : Int) == 3) = false := by simp only [beq_eq_false_iff_ne, ne_eq]; omega
  have hk4 : ((tk : Int) == 4) = false := by simp only [beq_eq_false_iff_ne, ne_eq]; omega
  clear g1 g3 g4
  have HTA := Lib.hid (show (hd s.ts).a = ta by rw [← HTT.out])
  have HI0 := Lib.hid (qis_any Q2.out [116, 114, 117, 101])
  rw [is_lit HM.out (m' := [116, 114, 117, 101]) (by decide)] at HI0
  go_wp2_with fail
  refine HI0.out.mono ?_
  rintro e u0 ⟨rfl, b⟩
  have QX0 := Lib.hid (Q2.out.below b)
  have FX0 := Lib.hid (F2.out.below b)
  have AX0 := Lib.hid ((b.block _ (Array.getElem?_eq_some_iff.1 HA12.out).1).trans HA12.out)
  have TX0 := Lib.hid ((b.block _ (Array.getElem?_eq_some_iff.1 HA2.out).1).trans HA2.out)
  clear b HI0
  have HI1 := Lib.hid (qis_any QX0.out [102, 97, 108, 115, 101])
  rw [HM.out] at HI1
  go_wp2_with fail
  refine HI1.out.mono ?_
  rintro e u1 ⟨rfl, b⟩
  have QX1 := Lib.hid (QX0.out.below b)
  have FX1 := Lib.hid (FX0.out.below b)
  have AX1 := Lib.hid ((b.block _ (Array.getElem?_eq_some_iff.1 AX0.out).1).trans AX0.out)
  have TX1 := Lib.hid ((b.block _ (Array.getElem?_eq_some_iff.1 TX0.out).1).trans TX0.out)
  clear b HI1
  have HTK := Lib.hid (qtake_any hM QX1.out [102, 97, 108, 115, 101])
  clear t0 t1 t2
  go_wp2_with fail
  refine HTK.out.mono ?_
  rintro e w7 ⟨rfl, q7, f7⟩
  have A7 := Lib.hid (show Sev w7 w.heap.size 41 _ _ _ _ _ _ _ from f7.cells AX1.out (by decide))
  have T7 : Thr w7 W1.heap.size 96 _ _ _ := f7.cells TX1.out (by decide)
  obtain ⟨⟨t0, t1, t2⟩, -⟩ := thr_of T7
  have Q7 := Lib.hid q7
  have F7 := Lib.hid (FX1.out.trans f7)
  have HTH := Lib.hid (there_of A7.out rfl)
  clear q7 f7 T7 HTK
  go_wp2_with (first | (refine wpList_store_put rfl 41 (.tmp 4) (.tmp 85) rfl w.heap.size _ rfl rfl HTH.out sizeEq (all_oneCell_toArray (by simp [Value.oneCell'])) ?_; intro W9 hW9))
  exact endEq rfl rfl rfl A7.out F7.out Q7.out HRB.out (by rw [HTA.out]; exact bareEq _ _ 3 ta [] 0) hW9
end Go.Proofs.YtijnjoonbjdafaaGreatDoor
namespace Go.Proofs.YtijnjoonbjdafaaGreatDoor
set_option maxRecDepth 20000
open Go.RowKit Go.Shelf
set_option maxHeartbeats 8000000 in
theorem qbasic_num {B M rb : Nat} {all : List Tk} (d : Nat) (w : World) (s : Q) (h : QS B M w rb all s) (hnum : NumT (hd s.ts).t) (hb0 : s.bad = false) (hk0 : (hd s.ts).k = 3) :
    Calls Tryz.prog 94 #[.pointer (some ⟨rb, 0, none⟩), .int .i64 (d : Nat)] w (QPE B M w rb all (.mk 1 (hd s.ts).a [] (numOf (hd s.ts).t) [] [] [], s.next)) := by
  have HRB := Lib.hid h.lt
  have HK0 := Lib.hid hk0
  have HNU := Lib.hid hnum
  obtain ⟨W1, hW1⟩ : ∃ W1, zSev w = W1 := ⟨_, rfl⟩
  have a1 := zsev w
  rw [hW1] at a1
  have HA1 := Lib.hid a1
  have F1 := Lib.hid (show Fr B w W1 by rw [← hW1]; exact (Fr.refl B w).alloc _)
  have q1 := (show QS B M W1 rb all s by rw [← hW1]; exact h.alloc _)
  have Q1 := Lib.hid q1
  have HW1 := Lib.hid (show w.alloc (.cells #[.int .i64 0, .int .i64 0, .string ⟨#[]⟩, .int .i64 0, .slice none 0 0, .slice none 0 0, .slice none 0 0] 41) = W1 from hW1)
  obtain ⟨g, cap, i, vd, h6, hi, hb, hg, c0, c1, c2, -⟩ := q1.first
  obtain ⟨⟨p0, p1, p2, p3⟩, f0, f1, f2, f3⟩ := fou_of h6
  have H6 := Lib.hid h6
  obtain ⟨⟨tk, ta, tt⟩, ht⟩ : ∃ t, t = hd s.ts := ⟨_, rfl⟩
  rw [← ht] at c0 c1 c2
  have HTT := Lib.hid ht
  have hrb1 : rb < W1.heap.size := q1.lt
  have n1 : ¬ rb = W1.heap.size := Nat.ne_of_lt hrb1
  have hlt1 : w.heap.size < W1.heap.size := (Array.getElem?_eq_some_iff.1 a1).1
  have n2 : ¬ w.heap.size = W1.heap.size := Nat.ne_of_lt hlt1
  simp only at c0 c1 c2
  rw [hb0] at p3
  have HBD := Lib.hid hb0
  clear h hW1 a1 q1 h6 hb0 hk0 hnum
  go_enter Tryz.func94, Tryz.ntmps94
  go_upto_region 1 with fail
  rw [HW1.out]
  obtain ⟨W2, hW2⟩ : ∃ W2, (W1.alloc (.cells #[.int .i64 (tk : Nat), .int .i64 (ta : Nat), .string ⟨tt.toArray⟩] 96)).drew = W2 := ⟨_, rfl⟩
  have b2 : Below W1.heap.size W1 W2 := by rw [← hW2]; exact ((Below.refl _ W1).alloc (Nat.le_refl _) _).drew
  have a2 : Thr W2 W1.heap.size 96 (.int .i64 (tk : Nat)) (.int .i64 (ta : Nat)) (.string ⟨tt.toArray⟩) := by rw [← hW2]; exact thr_new W1 _ _ _ _
  have a12 : Sev W2 w.heap.size 41 (.int .i64 0) (.int .i64 0) (.string ⟨#[]⟩) (.int .i64 0) (.slice none 0 0) (.slice none 0 0) (.slice none 0 0) := (b2.block _ hlt1).trans HA1.out
  have Q2 := Lib.hid (Q1.out.below b2)
  have F2 := Lib.hid (F1.out.trans (Fr.of_below (n₀ := B) b2))
  have HA2 := Lib.hid a2
  have HA12 := Lib.hid a12
  have HW2 := Lib.hid hW2
  have h62 := (b2.block rb hrb1).trans H6.out
  have H62 := Lib.hid h62
  have hlt2 : W1.heap.size < W2.heap.size := (Array.getElem?_eq_some_iff.1 a2).1
  have HL12 := Lib.hid hlt1
  have HL2 := Lib.hid hlt2
  clear hW2 a2 a12 b2 h62
  go_upto_region 3 with fail
  go_region
  go_upto_region 4 with fail
  rw [HW2.out]
  clear p0 p1 p2 p3 f0 f1 f2 f3 c0 c1 c2
  obtain ⟨⟨t0, t1, t2⟩, -⟩ := thr_of HA2.out
  have htk : tk = 3 := by have := HK0.out; rw [← HTT.out] at this; exact this
  have hk1 : ((tk : Int) == 1) = false := by simp only [beq_eq_false_iff_ne, ne_eq]; omega
  have hk3 : ((tk : Int) == 3) = true := by simp only [beq_iff_eq]; omega
  have hk4 : ((tk : Int) == 4) = false := by simp only [beq_eq_false_iff_ne, ne_eq]; omega
  have HK := Lib.hid (show (hd s.ts).k ≠ 6 by rw [HK0.out]; decide)
  have HP := Lib.hid (Q2.out.passed HK.out H62.out)
  have HNT := Lib.hid (show NumT tt by have := HNU.out; rw [← HTT.out] at this; exact this)
  obtain ⟨⟨p0, p1, p2, p3⟩, f0, f1, f2, f3⟩ := fou_of H62.out
  have hwr : ¬ w.heap.size = rb := fun e => Nat.ne_of_lt HRB.out e.symm
  have hwb : ¬ W1.heap.size = rb := fun e => n1 e.symm
  obtain ⟨WP, hWP⟩ : ∃ WP, W2.setCell ⟨rb, 1, none⟩ (.int .i64 ((i : Int) + 1)) = WP := ⟨_, rfl⟩
  have A13 := Lib.hid (show Sev WP w.heap.size 41 (.int .i64 0) (.int .i64 0) (.string ⟨#[]⟩) (.int .i64 0) (.slice none 0 0) (.slice none 0 0) (.slice none 0 0) by rw [← hWP]; exact (Below.heap_setCell W2 ⟨rb, 1, none⟩ _ w.heap.size hwr).trans HA12.out)
  have TH := Lib.hid (show Thr WP W1.heap.size 96 (.int .i64 (tk : Nat)) (.int .i64 (ta : Nat)) (.string ⟨tt.toArray⟩) by rw [← hWP]; exact (Below.heap_setCell W2 ⟨rb, 1, none⟩ _ W1.heap.size hwb).trans HA2.out)
  have QP := Lib.hid (show QS B M WP rb all s.next by rw [← hWP]; exact HP.out.1)
  have FP := Lib.hid (show Fr B w WP by rw [← hWP]; exact F2.out.trans HP.out.2)
  have HWP := Lib.hid hWP
  have hn0 : ¬ W1.heap.size = w.heap.size := Nat.ne_of_gt HL12.out
  have hn1 : ¬ w.heap.size = W1.heap.size := Nat.ne_of_lt HL12.out
  clear htk hWP
  go_upto_region 10 with fail
  rw [HWP.out]
  clear p0 p1 p2 p3 f0 f1 f2 f3 t0 t1 t2
  obtain ⟨⟨t0, t1, t2⟩, -⟩ := thr_of TH.out
  have HC : Hid (∀ W, Drawn WP W → Calls Tryz.prog 138 #[.string ⟨tt.toArray⟩] W fun e w' => e = .returned (.int .i64 (numOf tt : Nat)) ∧ Below WP.heap.size WP w') := by
    rintro W ⟨e1, e2, e3, e4⟩
    refine (qnumber_any tt HNT.out W).mono ?_
    rintro e w' ⟨rfl, rfl⟩
    exact ⟨rfl, e2, e3, e4, by rw [e1]; exact Nat.le_refl _, fun k _ => by rw [e1]⟩
  go_region_held3 (fun w' => w'.cell? ⟨W1.heap.size, 1, none⟩ = some (.int .i64 (ta : Nat)) ∧ w'.cell? ⟨W1.heap.size, 2, none⟩ = some (.string ⟨tt.toArray⟩)) (go_keep)
    (first | (go_at_call 138; refine (HC.out _ ?_).mono ?_; exact ⟨rfl, rfl, rfl, rfl⟩; rintro e w5 ⟨rfl, b5⟩; (have T5 : Thr w5 W1.heap.size 96 _ _ _ := (b5.block _ (Array.getElem?_eq_some_iff.1 TH.out).1).trans TH.out); obtain ⟨⟨s0, s1, s2⟩, -⟩ := thr_of T5; (have hA5 := (b5.block _ (Array.getElem?_eq_some_iff.1 A13.out).1).trans A13.out); obtain ⟨⟨q0, q1, q2, q3, q4, q5, q6⟩, v0, v1, v2, v3, v4, v5, v6⟩ := sev_of (t := 41) hA5; (have A5 := Lib.hid hA5); (have F5 := Lib.hid (FP.out.below b5)); (have Q5 := Lib.hid (QP.out.below b5)); clear b5 T5 hA5))
  all_goals
    go_wp2_with fail
    exact endEq rfl rfl rfl A5.out F5.out Q5.out HRB.out (by rw [← HTT.out]; exact bareEq _ _ 1 ta [] (numOf tt)) (Lib.hid rfl)
end Go.Proofs.YtijnjoonbjdafaaGreatDoor
namespace Go.Proofs.YtijnjoonbjdafaaGreatDoor
set_option maxRecDepth 20000
open Go.RowKit Go.Shelf
set_option maxHeartbeats 8000000 in
theorem qbasic_nop {B M rb : Nat} {all : List Tk} (d : Nat) (hM : M ≤ 10000000) (w : World) (s : Q) (h : QS B M w rb all s) (hb0 : s.bad = false) (hk1 : (hd s.ts).k ≠ 1) (hk3 : (hd s.ts).k ≠ 3) (hk4 : (hd s.ts).k ≠ 4) (hm1 : s.is [116, 114, 117, 101] = false) (hm2 : s.is [102, 97, 108, 115, 101] = false) (hm3 : s.is [123] = false) (hp : (s.take [40]).bad = true) :
    Calls Tryz.prog 94 #[.pointer (some ⟨rb, 0, none⟩), .int .i64 (d : Nat)] w (QPE B M w rb all (qE0, s.take [40])) := by
  have HRB := Lib.hid h.lt
  have HK1 := Lib.hid hk1
  have HK3 := Lib.hid hk3
  have HK4 := Lib.hid hk4
  have HM1 := Lib.hid hm1
  have HM2 := Lib.hid hm2
  have HM3 := Lib.hid hm3
  have HPB := Lib.hid hp
  obtain ⟨W1, hW1⟩ : ∃ W1, zSev w = W1 := ⟨_, rfl⟩
  have a1 := zsev w
  rw [hW1] at a1
  have HA1 := Lib.hid a1
  have F1 := Lib.hid (show Fr B w W1 by rw [← hW1]; exact (Fr.refl B w).alloc _)
  have q1 := (show QS B M W1 rb all s by rw [← hW1]; exact h.alloc _)
  have Q1 := Lib.hid q1
  have HW1 := Lib.hid (show w.alloc (.cells #[.int .i64 0, .int .i64 0, .string ⟨#[]⟩, .int .i64 0, .slice none 0 0, .slice none 0 0, .slice none 0 0] 41) = W1 from hW1)
  obtain ⟨g, cap, i, vd, h6, hi, hb, hg, c0, c1, c2, -⟩ := q1.first
  obtain ⟨⟨p0, p1, p2, p3⟩, f0, f1, f2, f3⟩ := fou_of h6
  have H6 := Lib.hid h6
  obtain ⟨⟨tk, ta, tt⟩, ht⟩ : ∃ t, t = hd s.ts := ⟨_, rfl⟩
  rw [← ht] at c0 c1 c2
  have HTT := Lib.hid ht
  have hrb1 : rb < W1.heap.size := q1.lt
  have n1 : ¬ rb = W1.heap.size := Nat.ne_of_lt hrb1
  have hlt1 : w.heap.size < W1.heap.size := (Array.getElem?_eq_some_iff.1 a1).1
  have n2 : ¬ w.heap.size = W1.heap.size := Nat.ne_of_lt hlt1
  simp only at c0 c1 c2
  rw [hb0] at p3
  have HBD := Lib.hid hb0
  clear h hW1 a1 q1 h6 hb0 hk1 hk3 hk4 hm1 hm2 hm3 hp
  go_enter Tryz.func94, Tryz.ntmps94
  go_upto_region 1 with fail
  rw [HW1.out]
  obtain ⟨W2, hW2⟩ : ∃ W2, (W1.alloc (.cells #[.int .i64 (tk : Nat), .int .i64 (ta : Nat), .string ⟨tt.toArray⟩] 96)).drew = W2 := ⟨_, rfl⟩
  have b2 : Below W1.heap.size W1 W2 := by rw [← hW2]; exact ((Below.refl _ W1).alloc (Nat.le_refl _) _).drew
  have a2 : Thr W2 W1.heap.size 96 (.int .i64 (tk : Nat)) (.int .i64 (ta : Nat)) (.string ⟨tt.toArray⟩) := by rw [← hW2]; exact thr_new W1 _ _ _ _
  have a12 : Sev W2 w.heap.size 41 (.int .i64 0) (.int .i64 0) (.string ⟨#[]⟩) (.int .i64 0) (.slice none 0 0) (.slice none 0 0) (.slice none 0 0) := (b2.block _ hlt1).trans HA1.out
  have Q2 := Lib.hid (Q1.out.below b2)
  have F2 := Lib.hid (F1.out.trans (Fr.of_below (n₀ := B) b2))
  have HA2 := Lib.hid a2
  have HA12 := Lib.hid a12
  have HW2 := Lib.hid hW2
  have h62 := (b2.block rb hrb1).trans H6.out
  have H62 := Lib.hid h62
  have hlt2 : W1.heap.size < W2.heap.size := (Array.getElem?_eq_some_iff.1 a2).1
  have HL12 := Lib.hid hlt1
  have HL2 := Lib.hid hlt2
  clear hW2 a2 a12 b2 h62
  go_upto_region 3 with fail
  go_region
  go_upto_region 4 with fail
  rw [HW2.out]
  clear p0 p1 p2 p3 f0 f1 f2 f3 c0 c1 c2
  obtain ⟨⟨t0, t1, t2⟩, -⟩ := thr_of HA2.out
  have g1 : tk ≠ 1 := by have := HK1.out; rw [← HTT.out] at this; exact this
  have g3 : tk ≠ 3 := by have := HK3.out; rw [← HTT.out] at this; exact this
  have g4 : tk ≠ 4 := by have := HK4.out; rw [← HTT.out] at this; exact this
  have hk1 : ((tk : Int) == 1) = false := by simp only [beq_eq_false_iff_ne, ne_eq]; omega
  have hk3 : ((tk : Int) == 3) = false := by simp only [beq_eq_false_iff_ne, ne_eq]; omega
  have hk4 : ((tk : Int) == 4) = false := by simp only [beq_eq_false_iff_ne, ne_eq]; omega
  clear g1 g3 g4
  have HTA := Lib.hid (show (hd s.ts).a = ta by rw [← HTT.out])
  have HI0 := Lib.hid (qis_any Q2.out [116, 114, 117, 101])
  rw [HM1.out] at HI0
  go_wp2_with fail
  refine HI0.out.mono ?_
  rintro e u0 ⟨rfl, b⟩
  have QX0 := Lib.hid (Q2.out.below b)
  have FX0 := Lib.hid (F2.out.below b)
  have AX0 := Lib.hid ((b.block _ (Array.getElem?_eq_some_iff.1 HA12.out).1).trans HA12.out)
  have TX0 := Lib.hid ((b.block _ (Array.getElem?_eq_some_iff.1 HA2.out).1).trans HA2.out)
  clear b HI0
  have HI1 := Lib.hid (qis_any QX0.out [102, 97, 108, 115, 101])
  rw [HM2.out] at HI1
  go_wp2_with fail
  refine HI1.out.mono ?_
  rintro e u1 ⟨rfl, b⟩
  have QX1 := Lib.hid (QX0.out.below b)
  have FX1 := Lib.hid (FX0.out.below b)
  have AX1 := Lib.hid ((b.block _ (Array.getElem?_eq_some_iff.1 AX0.out).1).trans AX0.out)
  have TX1 := Lib.hid ((b.block _ (Array.getElem?_eq_some_iff.1 TX0.out).1).trans TX0.out)
  clear b HI1
  have HI2 := Lib.hid (qis_any QX1.out [123])
  rw [HM3.out] at HI2
  go_wp2_with fail
  refine HI2.out.mono ?_
  rintro e u2 ⟨rfl, b⟩
  have QX2 := Lib.hid (QX1.out.below b)
  have FX2 := Lib.hid (FX1.out.below b)
  have AX2 := Lib.hid ((b.block _ (Array.getElem?_eq_some_iff.1 AX1.out).1).trans AX1.out)
  have TX2 := Lib.hid ((b.block _ (Array.getElem?_eq_some_iff.1 TX1.out).1).trans TX1.out)
  clear b HI2
  clear t0 t1 t2
  have HTKY := Lib.hid (qtake_any hM QX2.out [40])
  go_wp2_with fail
  refine HTKY.out.mono ?_
  rintro e w7 ⟨rfl, q, f⟩
  have AY := Lib.hid (show Sev w7 w.heap.size 41 _ _ _ _ _ _ _ from f.cells AX2.out (by decide))
  have TY := Lib.hid (show Thr w7 W1.heap.size 96 _ _ _ from f.cells TX2.out (by decide))
  have QY := Lib.hid q
  have FY := Lib.hid (FX2.out.trans f)
  obtain ⟨g', cap', i', vd', h7, -⟩ := q.first
  obtain ⟨⟨p0, p1, p2, p3⟩, -⟩ := fou_of h7
  rw [HPB.out] at p3
  have HTH := Lib.hid (there_of AY.out rfl)
  clear q f HTKY h7
  go_wp2_with (first | (refine wpList_store_put rfl 41 (.tmp 4) (.tmp 95) rfl w.heap.size _ rfl rfl HTH.out sizeEq (all_oneCell_toArray (by simp [Value.oneCell'])) ?_; intro W9 hW9))
  exact endEq rfl rfl rfl AY.out FY.out QY.out HRB.out (bareEq _ _ 0 0 [] 0) hW9
set_option maxHeartbeats 8000000 in
theorem qbasic_par {B M rb : Nat} {all : List Tk} (d : Nat) (hd64 : d ≤ 64) (hM : M ≤ 10000000) (qe : Q → PE × Q) (HE : RdsE 48 B M rb all (d + 1) qe) (w : World) (s : Q) (h : QS B M w rb all s) (hb0 : s.bad = false) (hk1 : (hd s.ts).k ≠ 1) (hk3 : (hd s.ts).k ≠ 3) (hk4 : (hd s.ts).k ≠ 4) (hm1 : s.is [116, 114, 117, 101] = false) (hm2 : s.is [102, 97, 108, 115, 101] = false) (hm3 : s.is [123] = false) (hp : (s.take [40]).bad = false) (hc : (qe (s.take [40])).2.is [58] = false) :
    Calls Tryz.prog 94 #[.pointer (some ⟨rb, 0, none⟩), .int .i64 (d : Nat)] w (QPE B M w rb all ((qe (s.take [40])).1, (qe (s.take [40])).2.take [41])) := by
  obtain ⟨out, hout⟩ : ∃ out : PE × Q, out = ((qe (s.take [40])).1, (qe (s.take [40])).2.take [41]) := ⟨_, rfl⟩
  rw [← hout]
  have HON := Lib.hid hout
  clear hout
  have HRB := Lib.hid h.lt
  have HK1 := Lib.hid hk1
  have HK3 := Lib.hid hk3
  have HK4 := Lib.hid hk4
  have HM1 := Lib.hid hm1
  have HM2 := Lib.hid hm2
  have HM3 := Lib.hid hm3
  have HPB := Lib.hid hp
  have HC := Lib.hid hc
  have HE := Lib.hid HE
  obtain ⟨W1, hW1⟩ : ∃ W1, zSev w = W1 := ⟨_, rfl⟩
  have a1 := zsev w
  rw [hW1] at a1
  have HA1 := Lib.hid a1
  have F1 := Lib.hid (show Fr B w W1 by rw [← hW1]; exact (Fr.refl B w).alloc _)
  have q1 := (show QS B M W1 rb all s by rw [← hW1]; exact h.alloc _)
  have Q1 := Lib.hid q1
  have HW1 := Lib.hid (show w.alloc (.cells #[.int .i64 0, .int .i64 0, .string ⟨#[]⟩, .int .i64 0, .slice none 0 0, .slice none 0 0, .slice none 0 0] 41) = W1 from hW1)
  obtain ⟨g, cap, i, vd, h6, hi, hb, hg, c0, c1, c2, -⟩ := q1.first
  obtain ⟨⟨p0, p1, p2, p3⟩, f0, f1, f2, f3⟩ := fou_of h6
  have H6 := Lib.hid h6
  obtain ⟨⟨tk, ta, tt⟩, ht⟩ : ∃ t, t = hd s.ts := ⟨_, rfl⟩
  rw [← ht] at c0 c1 c2
  have HTT := Lib.hid ht
  have hrb1 : rb < W1.heap.size := q1.lt
  have n1 : ¬ rb = W1.heap.size := Nat.ne_of_lt hrb1
  have hlt1 : w.heap.size < W1.heap.size := (Array.getElem?_eq_some_iff.1 a1).1
  have n2 : ¬ w.heap.size = W1.heap.size := Nat.ne_of_lt hlt1
  simp only at c0 c1 c2
  rw [hb0] at p3
  have HBD := Lib.hid hb0
  clear h hW1 a1 q1 h6 hb0 hk1 hk3 hk4 hm1 hm2 hm3 hp hc
  go_enter Tryz.func94, Tryz.ntmps94
  go_upto_region 1 with fail
  rw [HW1.out]
  obtain ⟨W2, hW2⟩ : ∃ W2, (W1.alloc (.cells #[.int .i64 (tk : Nat), .int .i64 (ta : Nat), .string ⟨tt.toArray⟩] 96)).drew = W2 := ⟨_, rfl⟩
  have b2 : Below W1.heap.size W1 W2 := by rw [← hW2]; exact ((Below.refl _ W1).alloc (Nat.le_refl _) _).drew
  have a2 : Thr W2 W1.heap.size 96 (.int .i64 (tk : Nat)) (.int .i64 (ta : Nat)) (.string ⟨tt.toArray⟩) := by rw [← hW2]; exact thr_new W1 _ _ _ _
  have a12 : Sev W2 w.heap.size 41 (.int .i64 0) (.int .i64 0) (.string ⟨#[]⟩) (.int .i64 0) (.slice none 0 0) (.slice none 0 0) (.slice none 0 0) := (b2.block _ hlt1).trans HA1.out
  have Q2 := Lib.hid (Q1.out.below b2)
  have F2 := Lib.hid (F1.out.trans (Fr.of_below (n₀ := B) b2))
  have HA2 := Lib.hid a2
  have HA12 := Lib.hid a12
  have HW2 := Lib.hid hW2
  have h62 := (b2.block rb hrb1).trans H6.out
  have H62 := Lib.hid h62
  have hlt2 : W1.heap.size < W2.heap.size := (Array.getElem?_eq_some_iff.1 a2).1
  have HL12 := Lib.hid hlt1
  have HL2 := Lib.hid hlt2
  clear hW2 a2 a12 b2 h62
  go_upto_region 3 with fail
  go_region
  go_upto_region 4 with fail
  rw [HW2.out]
  clear p0 p1 p2 p3 f0 f1 f2 f3 c0 c1 c2
  obtain ⟨⟨t0, t1, t2⟩, -⟩ := thr_of HA2.out
  have g1 : tk ≠ 1 := by have := HK1.out; rw [← HTT.out] at this; exact this
  have g3 : tk ≠ 3 := by have := HK3.out; rw [← HTT.out] at this; exact this
  have g4 : tk ≠ 4 := by have := HK4.out; rw [← HTT.out] at this; exact this
  have hk1 : ((tk : Int) == 1) = false := by simp only [beq_eq_false_iff_ne, ne_eq]; omega
  have hk3 : ((tk : Int) == 3) = false := by simp only [beq_eq_false_iff_ne, ne_eq]; omega
  have hk4 : ((tk : Int) == 4) = false := by simp only [beq_eq_false_iff_ne, ne_eq]; omega
  clear g1 g3 g4
  have HTA := Lib.hid (show (hd s.ts).a = ta by rw [← HTT.out])
  have HI0 := Lib.hid (qis_any Q2.out [116, 114, 117, 101])
  rw [HM1.out] at HI0
  go_wp2_with fail
  refine HI0.out.mono ?_
  rintro e u0 ⟨rfl, b⟩
  have QX0 := Lib.hid (Q2.out.below b)
  have FX0 := Lib.hid (F2.out.below b)
  have AX0 := Lib.hid ((b.block _ (Array.getElem?_eq_some_iff.1 HA12.out).1).trans HA12.out)
  have TX0 := Lib.hid ((b.block _ (Array.getElem?_eq_some_iff.1 HA2.out).1).trans HA2.out)
  clear b HI0
  have HI1 := Lib.hid (qis_any QX0.out [102, 97, 108, 115, 101])
  rw [HM2.out] at HI1
  go_wp2_with fail
  refine HI1.out.mono ?_
  rintro e u1 ⟨rfl, b⟩
  have QX1 := Lib.hid (QX0.out.below b)
  have FX1 := Lib.hid (FX0.out.below b)
  have AX1 := Lib.hid ((b.block _ (Array.getElem?_eq_some_iff.1 AX0.out).1).trans AX0.out)
  have TX1 := Lib.hid ((b.block _ (Array.getElem?_eq_some_iff.1 TX0.out).1).trans TX0.out)
  clear b HI1
  have HI2 := Lib.hid (qis_any QX1.out [123])
  rw [HM3.out] at HI2
  go_wp2_with fail
  refine HI2.out.mono ?_
  rintro e u2 ⟨rfl, b⟩
  have QX2 := Lib.hid (QX1.out.below b)
  have FX2 := Lib.hid (FX1.out.below b)
  have AX2 := Lib.hid ((b.block _ (Array.getElem?_eq_some_iff.1 AX1.out).1).trans AX1.out)
  have TX2 := Lib.hid ((b.block _ (Array.getElem?_eq_some_iff.1 TX1.out).1).trans TX1.out)
  clear b HI2
  clear t0 t1 t2
  have HTKY := Lib.hid (qtake_any hM QX2.out [40])
  go_wp2_with fail
  refine HTKY.out.mono ?_
  rintro e w7 ⟨rfl, q, f⟩
  have AY := Lib.hid (show Sev w7 w.heap.size 41 _ _ _ _ _ _ _ from f.cells AX2.out (by decide))
  have TY := Lib.hid (show Thr w7 W1.heap.size 96 _ _ _ from f.cells TX2.out (by decide))
  have QY := Lib.hid q
  have FY := Lib.hid (FX2.out.trans f)
  obtain ⟨g', cap', i', vd', h7, -⟩ := q.first
  obtain ⟨⟨p0, p1, p2, p3⟩, -⟩ := fou_of h7
  rw [HPB.out] at p3
  clear q f HTKY h7
  obtain ⟨s7, hs7⟩ : ∃ s7, s7 = s.take [40] := ⟨_, rfl⟩
  rw [← hs7] at QY HC
  have HS7 := Lib.hid hs7
  obtain ⟨⟨x, s8⟩, hx⟩ : ∃ p, p = qe s7 := ⟨_, rfl⟩
  obtain ⟨xk, xa, xn, xm, xns, xl, xts⟩ := x
  have HEX := Lib.hid (rdsE_flat HE.out w7 s7 QY.out xk xa xn xm xns xl xts s8 hx)
  rw [← hx] at HC
  have HX := Lib.hid hx
  clear hx hs7
  go_wp2_with fail
  refine HEX.out.mono ?_
  rintro e w8 ⟨b4, e4, b5, e5, b6, e6, rfl, f8, i8, q8⟩
  obtain ⟨W9, hW9⟩ : ∃ W9, w8.alloc (.cells #[.int .i64 (xk : Nat), .int .i64 (xa : Nat), .string ⟨xn.toArray⟩, .int .i64 (xm : Nat), .slice b4 xns.length e4, .slice b5 xl.length e5, .slice b6 xts.length e6] 41) = W9 := ⟨_, rfl⟩
  have b9 : Below w8.heap.size w8 W9 := by rw [← hW9]; exact (Below.refl _ _).alloc (Nat.le_refl _) _
  have HX9 := Lib.hid (show Sev W9 w8.heap.size 41 _ _ _ _ _ _ _ by rw [← hW9]; exact heap_alloc_new w8 _)
  have Q9 := Lib.hid (q8.below b9)
  have F9 := Lib.hid ((FY.out.trans f8).below b9)
  have A9 := Lib.hid (show Sev W9 w.heap.size 41 _ _ _ _ _ _ _ from (f8.below b9).cells AY.out (by decide))
  have T9 := Lib.hid (show Thr W9 W1.heap.size 96 _ _ _ from (f8.below b9).cells TY.out (by decide))
  have HL7 := Lib.hid (show w.heap.size < w7.heap.size from (Array.getElem?_eq_some_iff.1 AY.out).1)
  have HL78 := Lib.hid f8.size
  have HU9 := Lib.hid (show IsCs (fun b => w.heap.size < b ∧ b ≠ w8.heap.size) W9 (encE 31 41 (.mk xk xa xn xm xns xl xts)) [.int .i64 (xk : Nat), .int .i64 (xa : Nat), .string ⟨xn.toArray⟩, .int .i64 (xm : Nat), .slice b4 xns.length e4, .slice b5 xl.length e5, .slice b6 xts.length e6] from (i8.mono (fun b hb hb' => ⟨by have := HL7.out; omega, by omega⟩)).below b9)
  have HI := Lib.hid (qis_any Q9.out [58])
  rw [HC.out] at HI
  have HW9 := Lib.hid hW9
  clear f8 i8 q8 b9 hW9 p0 p1 p2 p3 HEX
  go_upto_region 25 with fail
  rw [HW9.out]
  go_wp2_with fail
  refine HI.out.mono ?_
  rintro e w10 ⟨rfl, b⟩
  have Q10 := Lib.hid (Q9.out.below b)
  have F10 := Lib.hid (F9.out.below b)
  have A10 := Lib.hid ((b.block _ (Array.getElem?_eq_some_iff.1 A9.out).1).trans A9.out)
  have T10 := Lib.hid ((b.block _ (Array.getElem?_eq_some_iff.1 T9.out).1).trans T9.out)
  have X10 := Lib.hid ((b.block _ (Array.getElem?_eq_some_iff.1 HX9.out).1).trans HX9.out)
  have HU10 := Lib.hid (HU9.out.below b)
  clear b HI
  have HTKZ := Lib.hid (qtake_any hM Q10.out [41])
  go_wp2_with fail
  refine HTKZ.out.mono ?_
  rintro e w20 ⟨rfl, q, f⟩
  have AZ := Lib.hid (show Sev w20 w.heap.size 41 _ _ _ _ _ _ _ from f.cells A10.out (by decide))
  have XZ := Lib.hid (show Sev w20 w8.heap.size 41 _ _ _ _ _ _ _ from f.cells X10.out (by decide))
  have QZ := Lib.hid q
  have FZ := Lib.hid (F10.out.trans f)
  have UZ := Lib.hid ((HU10.out.frA f).mono (A' := fun b => w.heap.size < b) (fun b _ hb => hb.1))
  obtain ⟨⟨z0, z1, z2, z3, z4, z5, z6⟩, -⟩ := sev_of (t := 41) XZ.out
  have HTH := Lib.hid (there_of AZ.out rfl)
  clear q f HTKZ
  go_wp2_with (first | (refine wpList_store_put rfl 41 (.tmp 4) (.tmp 117) rfl w.heap.size _ rfl rfl HTH.out sizeEq (all_oneCell_toArray (by simp [Value.oneCell'])) ?_; intro W21 hW21))
  rw [show out = _ from HON.out.trans (by rw [← HS7.out, ← HX.out])]
  exact endEq rfl rfl rfl AZ.out FZ.out QZ.out HRB.out UZ.out hW21
set_option maxHeartbeats 8000000 in
theorem qbasic_as {B M rb : Nat} {all : List Tk} (d : Nat) (hd64 : d ≤ 64) (hM : M ≤ 10000000) (qt : Q → PT × Q) (qe : Q → PE × Q) (HT : RdsT 45 B M rb all (d + 1) qt) (HE : RdsE 48 B M rb all (d + 1) qe) (w : World) (s : Q) (h : QS B M w rb all s) (hb0 : s.bad = false) (hk1 : (hd s.ts).k ≠ 1) (hk3 : (hd s.ts).k ≠ 3) (hk4 : (hd s.ts).k ≠ 4) (hm1 : s.is [116, 114, 117, 101] = false) (hm2 : s.is [102, 97, 108, 115, 101] = false) (hm3 : s.is [123] = false) (hp : (s.take [40]).bad = false) (hc : (qe (s.take [40])).2.is [58] = true) :
    Calls Tryz.prog 94 #[.pointer (some ⟨rb, 0, none⟩), .int .i64 (d : Nat)] w (QPE B M w rb all (.mk 11 (hd s.ts).a [] 0 [] [(qe (s.take [40])).1] [(qt ((qe (s.take [40])).2.take [58])).1], (qt ((qe (s.take [40])).2.take [58])).2.take [41])) := by
  obtain ⟨out, hout⟩ : ∃ out : PE × Q, out = (.mk 11 (hd s.ts).a [] 0 [] [(qe (s.take [40])).1] [(qt ((qe (s.take [40])).2.take [58])).1], (qt ((qe (s.take [40])).2.take [58])).2.take [41]) := ⟨_, rfl⟩
  rw [← hout]
  have HON := Lib.hid hout
  clear hout
  have HRB := Lib.hid h.lt
  have HK1 := Lib.hid hk1
  have HK3 := Lib.hid hk3
  have HK4 := Lib.hid hk4
  have HM1 := Lib.hid hm1
  have HM2 := Lib.hid hm2
  have HM3 := Lib.hid hm3
  have HPB := Lib.hid hp
  have HC := Lib.hid hc
  have HE := Lib.hid HE
  have HT := Lib.hid HT
  obtain ⟨W1, hW1⟩ : ∃ W1, zSev w = W1 := ⟨_, rfl⟩
  have a1 := zsev w
  rw [hW1] at a1
  have HA1 := Lib.hid a1
  have F1 := Lib.hid (show Fr B w W1 by rw [← hW1]; exact (Fr.refl B w).alloc _)
  have q1 := (show QS B M W1 rb all s by rw [← hW1]; exact h.alloc _)
  have Q1 := Lib.hid q1
  have HW1 := Lib.hid (show w.alloc (.cells #[.int .i64 0, .int .i64 0, .string ⟨#[]⟩, .int .i64 0, .slice none 0 0, .slice none 0 0, .slice none 0 0] 41) = W1 from hW1)
  obtain ⟨g, cap, i, vd, h6, hi, hb, hg, c0, c1, c2, -⟩ := q1.first
  obtain ⟨⟨p0, p1, p2, p3⟩, f0, f1, f2, f3⟩ := fou_of h6
  have H6 := Lib.hid h6
  obtain ⟨⟨tk, ta, tt⟩, ht⟩ : ∃ t, t = hd s.ts := ⟨_, rfl⟩
  rw [← ht] at c0 c1 c2
  have HTT := Lib.hid ht
  have hrb1 : rb < W1.heap.size := q1.lt
  have n1 : ¬ rb = W1.heap.size := Nat.ne_of_lt hrb1
  have hlt1 : w.heap.size < W1.heap.size := (Array.getElem?_eq_some_iff.1 a1).1
  have n2 : ¬ w.heap.size = W1.heap.size := Nat.ne_of_lt hlt1
  simp only at c0 c1 c2
  rw [hb0] at p3
  have HBD := Lib.hid hb0
  clear h hW1 a1 q1 h6 hb0 hk1 hk3 hk4 hm1 hm2 hm3 hp hc
  go_enter Tryz.func94, Tryz.ntmps94
  go_upto_region 1 with fail
  rw [HW1.out]
  obtain ⟨W2, hW2⟩ : ∃ W2, (W1.alloc (.cells #[.int .i64 (tk : Nat), .int .i64 (ta : Nat), .string ⟨tt.toArray⟩] 96)).drew = W2 := ⟨_, rfl⟩
  have b2 : Below W1.heap.size W1 W2 := by rw [← hW2]; exact ((Below.refl _ W1).alloc (Nat.le_refl _) _).drew
  have a2 : Thr W2 W1.heap.size 96 (.int .i64 (tk : Nat)) (.int .i64 (ta : Nat)) (.string ⟨tt.toArray⟩) := by rw [← hW2]; exact thr_new W1 _ _ _ _
  have a12 : Sev W2 w.heap.size 41 (.int .i64 0) (.int .i64 0) (.string ⟨#[]⟩) (.int .i64 0) (.slice none 0 0) (.slice none 0 0) (.slice none 0 0) := (b2.block _ hlt1).trans HA1.out
  have Q2 := Lib.hid (Q1.out.below b2)
  have F2 := Lib.hid (F1.out.trans (Fr.of_below (n₀ := B) b2))
  have HA2 := Lib.hid a2
  have HA12 := Lib.hid a12
  have HW2 := Lib.hid hW2
  have h62 := (b2.block rb hrb1).trans H6.out
  have H62 := Lib.hid h62
  have hlt2 : W1.heap.size < W2.heap.size := (Array.getElem?_eq_some_iff.1 a2).1
  have HL12 := Lib.hid hlt1
  have HL2 := Lib.hid hlt2
  clear hW2 a2 a12 b2 h62
  go_upto_region 3 with fail
  go_region
  go_upto_region 4 with fail
  rw [HW2.out]
  clear p0 p1 p2 p3 f0 f1 f2 f3 c0 c1 c2
  obtain ⟨⟨t0, t1, t2⟩, -⟩ := thr_of HA2.out
  have g1 : tk ≠ 1 := by have := HK1.out; rw [← HTT.out] at this; exact this
  have g3 : tk ≠ 3 := by have := HK3.out; rw [← HTT.out] at this; exact this
  have g4 : tk ≠ 4 := by have := HK4.out; rw [← HTT.out] at this; exact this
  have hk1 : ((tk : Int) == 1) = false := by simp only [beq_eq_false_iff_ne, ne_eq]; omega
  have hk3 : ((tk : Int) == 3) = false := by simp only [beq_eq_false_iff_ne, ne_eq]; omega
  have hk4 : ((tk : Int) == 4) = false := by simp only [beq_eq_false_iff_ne, ne_eq]; omega
  clear g1 g3 g4
  have HTA := Lib.hid (show (hd s.ts).a = ta by rw [← HTT.out])
  have HI0 := Lib.hid (qis_any Q2.out [116, 114, 117, 101])
  rw [HM1.out] at HI0
  go_wp2_with fail
  refine HI0.out.mono ?_
  rintro e u0 ⟨rfl, b⟩
  have QX0 := Lib.hid (Q2.out.below b)
  have FX0 := Lib.hid (F2.out.below b)
  have AX0 := Lib.hid ((b.block _ (Array.getElem?_eq_some_iff.1 HA12.out).1).trans HA12.out)
  have TX0 := Lib.hid ((b.block _ (Array.getElem?_eq_some_iff.1 HA2.out).1).trans HA2.out)
  clear b HI0
  have HI1 := Lib.hid (qis_any QX0.out [102, 97, 108, 115, 101])
  rw [HM2.out] at HI1
  go_wp2_with fail
  refine HI1.out.mono ?_
  rintro e u1 ⟨rfl, b⟩
  have QX1 := Lib.hid (QX0.out.below b)
  have FX1 := Lib.hid (FX0.out.below b)
  have AX1 := Lib.hid ((b.block _ (Array.getElem?_eq_some_iff.1 AX0.out).1).trans AX0.out)
  have TX1 := Lib.hid ((b.block _ (Array.getElem?_eq_some_iff.1 TX0.out).1).trans TX0.out)
  clear b HI1
  have HI2 := Lib.hid (qis_any QX1.out [123])
  rw [HM3.out] at HI2
  go_wp2_with fail
  refine HI2.out.mono ?_
  rintro e u2 ⟨rfl, b⟩
  have QX2 := Lib.hid (QX1.out.below b)
  have FX2 := Lib.hid (FX1.out.below b)
  have AX2 := Lib.hid ((b.block _ (Array.getElem?_eq_some_iff.1 AX1.out).1).trans AX1.out)
  have TX2 := Lib.hid ((b.block _ (Array.getElem?_eq_some_iff.1 TX1.out).1).trans TX1.out)
  clear b HI2
  clear t0 t1 t2
  have HTKY := Lib.hid (qtake_any hM QX2.out [40])
  go_wp2_with fail
  refine HTKY.out.mono ?_
  rintro e w7 ⟨rfl, q, f⟩
  have AY := Lib.hid (show Sev w7 w.heap.size 41 _ _ _ _ _ _ _ from f.cells AX2.out (by decide))
  have TY := Lib.hid (show Thr w7 W1.heap.size 96 _ _ _ from f.cells TX2.out (by decide))
  have QY := Lib.hid q
  have FY := Lib.hid (FX2.out.trans f)
  obtain ⟨g', cap', i', vd', h7, -⟩ := q.first
  obtain ⟨⟨p0, p1, p2, p3⟩, -⟩ := fou_of h7
  rw [HPB.out] at p3
  clear q f HTKY h7
  obtain ⟨s7, hs7⟩ : ∃ s7, s7 = s.take [40] := ⟨_, rfl⟩
  rw [← hs7] at QY HC
  have HS7 := Lib.hid hs7
  obtain ⟨⟨x, s8⟩, hx⟩ : ∃ p, p = qe s7 := ⟨_, rfl⟩
  obtain ⟨xk, xa, xn, xm, xns, xl, xts⟩ := x
  have HEX := Lib.hid (rdsE_flat HE.out w7 s7 QY.out xk xa xn xm xns xl xts s8 hx)
  rw [← hx] at HC
  have HX := Lib.hid hx
  clear hx hs7
  go_wp2_with fail
  refine HEX.out.mono ?_
  rintro e w8 ⟨b4, e4, b5, e5, b6, e6, rfl, f8, i8, q8⟩
  obtain ⟨W9, hW9⟩ : ∃ W9, w8.alloc (.cells #[.int .i64 (xk : Nat), .int .i64 (xa : Nat), .string ⟨xn.toArray⟩, .int .i64 (xm : Nat), .slice b4 xns.length e4, .slice b5 xl.length e5, .slice b6 xts.length e6] 41) = W9 := ⟨_, rfl⟩
  have b9 : Below w8.heap.size w8 W9 := by rw [← hW9]; exact (Below.refl _ _).alloc (Nat.le_refl _) _
  have HX9 := Lib.hid (show Sev W9 w8.heap.size 41 _ _ _ _ _ _ _ by rw [← hW9]; exact heap_alloc_new w8 _)
  have Q9 := Lib.hid (q8.below b9)
  have F9 := Lib.hid ((FY.out.trans f8).below b9)
  have A9 := Lib.hid (show Sev W9 w.heap.size 41 _ _ _ _ _ _ _ from (f8.below b9).cells AY.out (by decide))
  have T9 := Lib.hid (show Thr W9 W1.heap.size 96 _ _ _ from (f8.below b9).cells TY.out (by decide))
  have HL7 := Lib.hid (show w.heap.size < w7.heap.size from (Array.getElem?_eq_some_iff.1 AY.out).1)
  have HL78 := Lib.hid f8.size
  have HU9 := Lib.hid (show IsCs (fun b => w.heap.size < b ∧ b ≠ w8.heap.size) W9 (encE 31 41 (.mk xk xa xn xm xns xl xts)) [.int .i64 (xk : Nat), .int .i64 (xa : Nat), .string ⟨xn.toArray⟩, .int .i64 (xm : Nat), .slice b4 xns.length e4, .slice b5 xl.length e5, .slice b6 xts.length e6] from (i8.mono (fun b hb hb' => ⟨by have := HL7.out; omega, by omega⟩)).below b9)
  have HI := Lib.hid (qis_any Q9.out [58])
  rw [HC.out] at HI
  have HW9 := Lib.hid hW9
  clear f8 i8 q8 b9 hW9 p0 p1 p2 p3 HEX
  go_upto_region 25 with fail
  rw [HW9.out]
  go_wp2_with fail
  refine HI.out.mono ?_
  rintro e w10 ⟨rfl, b⟩
  have Q10 := Lib.hid (Q9.out.below b)
  have F10 := Lib.hid (F9.out.below b)
  have A10 := Lib.hid ((b.block _ (Array.getElem?_eq_some_iff.1 A9.out).1).trans A9.out)
  have T10 := Lib.hid ((b.block _ (Array.getElem?_eq_some_iff.1 T9.out).1).trans T9.out)
  have X10 := Lib.hid ((b.block _ (Array.getElem?_eq_some_iff.1 HX9.out).1).trans HX9.out)
  have HU10 := Lib.hid (HU9.out.below b)
  clear b HI
  have HTKC := Lib.hid (qtake_any hM Q10.out [58])
  go_wp2_with fail
  refine HTKC.out.mono ?_
  rintro e w11 ⟨rfl, q, f⟩
  have Q11 := Lib.hid q
  have F11 := Lib.hid (F10.out.trans f)
  have A11 := Lib.hid (show Sev w11 w.heap.size 41 _ _ _ _ _ _ _ from f.cells A10.out (by decide))
  have T11 := Lib.hid (show Thr w11 W1.heap.size 96 _ _ _ from f.cells T10.out (by decide))
  have X11 := Lib.hid (show Sev w11 w8.heap.size 41 _ _ _ _ _ _ _ from f.cells X10.out (by decide))
  have HU11 := Lib.hid (HU10.out.frA f)
  clear q f HTKC
  obtain ⟨⟨t, s12⟩, hu⟩ : ∃ p, p = qt (s8.take [58]) := ⟨_, rfl⟩
  obtain ⟨uk, un, uns, ul⟩ := t
  have HTY := Lib.hid (rdsT_flat HT.out w11 _ Q11.out uk un uns ul s12 hu)
  have HU := Lib.hid hu
  clear hu
  go_wp2_with fail
  refine HTY.out.mono ?_
  rintro e w12 ⟨a2', c2', a3', c3', rfl, f12, i12, q12⟩
  obtain ⟨W13, hW13⟩ : ∃ W13, w12.alloc (.cells #[.int .i64 (uk : Nat), .string ⟨un.toArray⟩, .slice a2' uns.length c2', .slice a3' ul.length c3'] 31) = W13 := ⟨_, rfl⟩
  have b13 : Below w12.heap.size w12 W13 := by rw [← hW13]; exact (Below.refl _ _).alloc (Nat.le_refl _) _
  have Y13 := Lib.hid (show Fou W13 w12.heap.size 31 (.int .i64 (uk : Nat)) (.string ⟨un.toArray⟩) (.slice a2' uns.length c2') (.slice a3' ul.length c3') by rw [← hW13]; exact heap_alloc_new w12 _)
  have Q13 := Lib.hid (q12.below b13)
  have F13 := Lib.hid ((F11.out.trans f12).below b13)
  have A13 := Lib.hid (show Sev W13 w.heap.size 41 _ _ _ _ _ _ _ from (f12.below b13).cells A11.out (by decide))
  have T13 := Lib.hid (show Thr W13 W1.heap.size 96 _ _ _ from (f12.below b13).cells T11.out (by decide))
  have X13 := Lib.hid (show Sev W13 w8.heap.size 41 _ _ _ _ _ _ _ from (f12.below b13).cells X11.out (by decide))
  have HL11 := Lib.hid (show w8.heap.size < w11.heap.size from (Array.getElem?_eq_some_iff.1 X11.out).1)
  have HU13 := Lib.hid ((HU11.out.frA f12).below b13)
  have HT13 := Lib.hid (show IsCs (fun b => w.heap.size < b ∧ b ≠ w8.heap.size) W13 (encT 31 (.mk uk un uns ul)) [.int .i64 (uk : Nat), .string ⟨un.toArray⟩, .slice a2' uns.length c2', .slice a3' ul.length c3'] from (i12.mono (fun b hb hb' => ⟨by have := HL7.out; have := HL78.out; have := HL11.out; omega, by have := HL11.out; omega⟩)).below b13)
  have HW13 := Lib.hid hW13
  obtain ⟨⟨t0, t1, t2⟩, -⟩ := thr_of T13.out
  obtain ⟨⟨z0, z1, z2, z3, z4, z5, z6⟩, -⟩ := sev_of (t := 41) X13.out
  obtain ⟨W14, hW14⟩ : ∃ W14, W13.alloc (.cells #[.int .i64 (xk : Nat), .int .i64 (xa : Nat), .string ⟨xn.toArray⟩, .int .i64 (xm : Nat), .slice b4 xns.length e4, .slice b5 xl.length e5, .slice b6 xts.length e6] 41) = W14 := ⟨_, rfl⟩
  obtain ⟨W15, hW15⟩ : ∃ W15, W14.alloc (.cells #[.int .i64 (uk : Nat), .string ⟨un.toArray⟩, .slice a2' uns.length c2', .slice a3' ul.length c3'] 31) = W15 := ⟨_, rfl⟩
  have b14 : Below W13.heap.size W13 W14 := by rw [← hW14]; exact (Below.refl _ _).alloc (Nat.le_refl _) _
  have b15 : Below W14.heap.size W14 W15 := by rw [← hW15]; exact (Below.refl _ _).alloc (Nat.le_refl _) _
  have s14 : W14.heap.size = W13.heap.size + 1 := by rw [← hW14]; simp
  have Y14 : Fou W14 w12.heap.size 31 _ _ _ _ := (b14.block _ (Array.getElem?_eq_some_iff.1 Y13.out).1).trans Y13.out
  obtain ⟨⟨y0, y1, y2, y3⟩, -⟩ := fou_of Y14
  have HL13 := Lib.hid (Array.getElem?_eq_some_iff.1 X13.out).1
  have rx := row_lit (e := 41) (size := 7) (n := 1) (g := W13.heap.size) (A := fun b => w.heap.size < b ∧ b ≠ w8.heap.size) (l := encEs 31 41 [.mk xk xa xn xm xns xl xts]) (cs := [.int .i64 (xk : Nat), .int .i64 (xa : Nat), .string ⟨xn.toArray⟩, .int .i64 (xm : Nat), .slice b4 xns.length e4, .slice b5 xl.length e5, .slice b6 xts.length e6]) (by decide) rfl ⟨by have := HL13.out; have := HL7.out; have := HL78.out; omega, by have := HL13.out; omega⟩ (by decide) (by rfl) (by rw [encEs, encEs, List.append_nil]; exact HU13.out)
  have rt := row_lit (e := 31) (size := 4) (n := 1) (g := W13.heap.size + 1) (A := fun b => w.heap.size < b ∧ b ≠ w8.heap.size) (l := encTs 31 [.mk uk un uns ul]) (cs := [.int .i64 (uk : Nat), .string ⟨un.toArray⟩, .slice a2' uns.length c2', .slice a3' ul.length c3']) (by decide) s14 ⟨by have := HL13.out; have := HL7.out; have := HL78.out; omega, by have := HL13.out; omega⟩ (by decide) (by rfl) (by rw [encTs, encTs, List.append_nil]; exact HT13.out.below b14)
  have RX := Lib.hid (show IsC (fun b => w.heap.size < b ∧ b ≠ w8.heap.size) W14 _ _ by rw [← hW14]; exact rx)
  have RT := Lib.hid (show IsC (fun b => w.heap.size < b ∧ b ≠ w8.heap.size) W15 _ _ by rw [← hW15]; exact rt)
  have b35 := b14.trans (b15.mono b14.size)
  have Q15 := Lib.hid (Q13.out.below b35)
  have F15 := Lib.hid (F13.out.below b35)
  have A15 := Lib.hid ((b35.block _ (Array.getElem?_eq_some_iff.1 A13.out).1).trans A13.out)
  have X15 := Lib.hid ((b35.block _ (Array.getElem?_eq_some_iff.1 X13.out).1).trans X13.out)
  have U15 := Lib.hid (show IsCs (fun b => w.heap.size < b ∧ b ≠ w8.heap.size) W15 (encE 31 41 (.mk 11 ta [] 0 [] [.mk xk xa xn xm xns xl xts] [.mk uk un uns ul])) [.int .i64 11, .int .i64 (ta : Nat), .string ⟨#[]⟩, .int .i64 0, .slice none 0 0, .slice (some ⟨W13.heap.size, 0, none⟩) 1 1, .slice (some ⟨W13.heap.size + 1, 0, none⟩) 1 1] from
    IsCs.cons (IsC.num _ _ 11) (IsCs.cons (IsC.num _ _ ta) (IsCs.cons (IsC.str _ _ []) (IsCs.cons (IsC.num _ _ 0) (IsCs.cons (IsC.none _ _ 1 (e := 9) (by decide)) (IsCs.cons (RX.out.bel b15) (IsCs.cons RT.out (IsCs.nil _ _))))))))
  have HTH15 := Lib.hid (there_of X15.out rfl)
  have HW14 := Lib.hid hW14
  have HW15 := Lib.hid hW15
  have HS14 := Lib.hid s14
  clear f12 i12 q12 b13 hW13 hW14 hW15 b14 b15 rx rt b35 s14 Y14 HTY
  go_upto_region 28 with fail
  rw [HW13.out]
  have e14 := HW14.out
  have e15 := HW15.out
  clear HW14 HW15
  subst e15
  subst e14
  go_wp2_with (first | (refine wpList_store_put rfl 41 (.tmp 6) (.tmp 114) rfl w8.heap.size _ rfl rfl HTH15.out sizeEq (all_oneCell_toArray (by simp [Value.oneCell'])) ?_; intro W16 hW16))
  have Q16 := Lib.hid (show QS B M W16 rb all s12 by rw [hW16.out]; exact Q15.out.putL X15.out (by decide) (by have := HRB.out; have := HL7.out; have := HL78.out; omega) _)
  have F16 := Lib.hid (show Fr B w W16 by rw [hW16.out]; exact F15.out.putL (by have := HL7.out; have := HL78.out; omega) _)
  have A16 := Lib.hid (show Sev W16 w.heap.size 41 _ _ _ _ _ _ _ by rw [hW16.out]; exact (putL_far w8.heap.size _ 0 _ w.heap.size (by have := HL7.out; have := HL78.out; omega)).trans A15.out)
  have X16 := Lib.hid (show Sev W16 w8.heap.size 41 (.int .i64 11) (.int .i64 (ta : Nat)) (.string ⟨#[]⟩) (.int .i64 0) (.slice none 0 0) (.slice (some ⟨W13.heap.size, 0, none⟩) 1 1) (.slice (some ⟨W13.heap.size + 1, 0, none⟩) 1 1) by rw [hW16.out]; exact sev_put X15.out _ _ _ _ _ _ _)
  have U16 := Lib.hid (show IsCs (fun b => w.heap.size < b ∧ b ≠ w8.heap.size) W16 _ _ by rw [hW16.out]; exact U15.out.putL w8.heap.size (fun k hk => hk.2) _)
  clear t0 t1 t2 z0 z1 z2 z3 z4 z5 z6 y0 y1 y2 y3
  have HTKZ := Lib.hid (qtake_any hM Q16.out [41])
  go_wp2_with fail
  refine HTKZ.out.mono ?_
  rintro e w20 ⟨rfl, q, f⟩
  have AZ := Lib.hid (show Sev w20 w.heap.size 41 _ _ _ _ _ _ _ from f.cells A16.out (by decide))
  have XZ := Lib.hid (show Sev w20 w8.heap.size 41 _ _ _ _ _ _ _ from f.cells X16.out (by decide))
  have QZ := Lib.hid q
  have FZ := Lib.hid (F16.out.trans f)
  have UZ := Lib.hid ((U16.out.frA f).mono (A' := fun b => w.heap.size < b) (fun b _ hb => hb.1))
  obtain ⟨⟨z0, z1, z2, z3, z4, z5, z6⟩, -⟩ := sev_of (t := 41) XZ.out
  have HTH := Lib.hid (there_of AZ.out rfl)
  clear q f HTKZ
  go_wp2_with (first | (refine wpList_store_put rfl 41 (.tmp 4) (.tmp 117) rfl w.heap.size _ rfl rfl HTH.out sizeEq (all_oneCell_toArray (by simp [Value.oneCell'])) ?_; intro W21 hW21))
  rw [show out = _ from HON.out.trans (by rw [← HS7.out, ← HX.out, ← HU.out, HTA.out])]
  exact endEq rfl rfl rfl AZ.out FZ.out QZ.out HRB.out UZ.out hW21
end Go.Proofs.YtijnjoonbjdafaaGreatDoor

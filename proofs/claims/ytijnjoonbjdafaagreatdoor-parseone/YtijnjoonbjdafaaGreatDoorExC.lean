/-
  The contracts of the readers of numbers and of basic expressions.
-/
import Derived.Test.YtijnjoonbjdafaaGreatDoorShelf
import Derived.Test.YtijnjoonbjdafaaGreatDoorExB
import Derived.Test.YtijnjoonbjdafaaGreatDoorRec
namespace Go.Proofs.YtijnjoonbjdafaaGreatDoor
set_option maxRecDepth 20000
open Go.RowKit Go.Shelf
def NumT (l : Bs) : Prop := l ≠ [] ∧ l.length ≤ 18 ∧ ∀ c ∈ l, 48 ≤ c.toNat ∧ c.toNat ≤ 57
theorem uint_digits : ∀ (l : Bs) (acc k : Nat), (∀ c ∈ l, 48 ≤ c.toNat ∧ c.toNat ≤ 57) → acc < 10 ^ k → k + l.length ≤ 18 → Lib.parseUintM (2 ^ 64 - 1) acc l = .ok (l.foldl (fun n c => 10 * n + (c.toNat - 48)) acc) ∧ l.foldl (fun n c => 10 * n + (c.toNat - 48)) acc < 10 ^ 18
  | [], acc, k, _, ha, hk => by
    refine ⟨rfl, Nat.lt_of_lt_of_le ha (Nat.pow_le_pow_right (by decide) (by simpa using hk))⟩
  | c :: r, acc, k, hd, ha, hk => by
    obtain ⟨h1, h2⟩ := hd c List.mem_cons_self
    have hk' : k ≤ 17 := by simp at hk; omega
    have hp : 10 ^ k ≤ 10 ^ 17 := Nat.pow_le_pow_right (by decide) hk'
    have h17 : (10 : Nat) ^ 17 = 100000000000000000 := by decide
    have ha' : acc * 10 + (c.toNat - 48) < 10 ^ (k + 1) := by rw [Nat.pow_succ]; omega
    have ih := uint_digits r (acc * 10 + (c.toNat - 48)) (k + 1) (fun x hx => hd x (List.mem_cons_of_mem _ hx)) ha' (by simp at hk; omega)
    rw [Nat.mul_comm acc 10] at ih
    rw [Lib.parseUintM, if_pos ⟨h1, h2⟩, if_neg (by omega), if_neg (by omega), List.foldl_cons, Nat.mul_comm acc 10]
    exact ih
theorem int_digits {l : Bs} (h : NumT l) : Lib.parseIntB 64 l = .ok (numOf l : Nat) := by
  obtain ⟨h1, h2, h3⟩ := h
  obtain ⟨a1, a2⟩ := uint_digits l 0 0 h3 (by decide) (by omega)
  cases l with
  | nil => exact absurd rfl h1
  | cons c r =>
    obtain ⟨c1, c2⟩ := h3 c List.mem_cons_self
    have h18 : (10 : Nat) ^ 18 = 1000000000000000000 := by decide
    rw [h18] at a2
    rw [Lib.parseIntB, if_neg (by omega), Lib.parseUintB, if_neg (by simp), a1]
    simp only
    rw [if_neg (by rintro ⟨_, h⟩; omega), if_neg (by rintro ⟨h, _⟩; omega), if_neg (by omega)]
    rfl
set_option maxHeartbeats 1000000 in
theorem num_any (l : Bs) (h : NumT l) (w : World) : Calls Tryz.prog 168 #[.string ⟨l.toArray⟩] w fun e w' => e = .returned (.int .i64 (numOf l : Nat)) ∧ Below w.heap.size w w' := by
  have HC := Lib.hid (strconv_ParseInt_10_at64_ok ⟨l.toArray⟩ (by rw [Lib.size_eq]; have := h.2.1; simp; omega) (numOf l : Nat) (by simpa using int_digits h) w)
  generalize (numOf l : Int) = n at HC ⊢
  clear h
  go_enter Tryz.func168, Tryz.ntmps168
  go_wp2_with fail
  refine HC.out.mono ?_
  rintro e w1 ⟨rfl, h1⟩
  have B1 : Hid (Below w.heap.size w w1) := by
    rcases h1 with rfl | ⟨t, rfl⟩
    · exact Below.refl _ _
    · exact Lib.bytesWorld_below w 5 t
  clear h1
  go_wp2_with fail
  go_ret
  exact ⟨rfl, B1.out⟩
theorem vE_bare (A : Nat → Prop) (w : World) (k a : Nat) (n : Bs) (m : Nat) : IsCs A w (encE 26 36 (.mk k a n m [] [] [])) [.int .i64 (k : Nat), .int .i64 (a : Nat), .string ⟨n.toArray⟩, .int .i64 (m : Nat), .slice none 0 0, .slice none 0 0, .slice none 0 0] := by
  simp only [encE, encEs, encTs, List.map_nil, List.length_nil]
  exact .cons (.num _ _ _) (.cons (.num _ _ _) (.cons (.str _ _ _) (.cons (.num _ _ _) (.cons (.none _ _ _ (by decide)) (.cons (.none _ _ _ (by decide)) (.cons (.none _ _ _ (by decide)) (.nil _ _)))))))
theorem giveE {B M : Nat} {w W : World} {pb : Nat} {all : List Tk} {told : List Dn} {res : R PE} {x : PE} {r : List Tk} {d : List Dn} {cs : List Value} (hq : res = .ok x r d) (hA : W.heap[w.heap.size]? = some zE) (hF : Fr B w W) (hP : PS B M W pb all r (told ++ d)) (hpb : pb < w.heap.size) (hc : IsCs (fun b => w.heap.size < b) W (encE 26 36 x) cs) :
    Post B M w pb all told (vE w.heap.size) res (.returned (.agg cs.toArray)) (putL W w.heap.size cs) :=
  .ok hq (hF.putL (Nat.le_refl _) cs) ⟨cs, rfl, (hc.putL _ (fun b hb => Nat.ne_of_gt hb) cs).mono (fun b _ hb => Nat.le_of_lt hb)⟩ (hP.putL hA (by decide) hpb cs)
set_option maxHeartbeats 800000 in
theorem basic_any {B M : Nat} {pb : Nat} {all : List Tk} (k d : Nat) (_hd64 : d ≤ 64)
    (hnum : ∀ t ∈ all, t.k = 3 → NumT t.t)
    (HR : ∀ (a : Nat) w ts told, PS B M w pb all ts told → Calls Tryz.prog 169 #[.pointer (some ⟨pb, 0, none⟩), .int .i64 (a : Nat), .int .i64 (d : Nat)] w (Post B M w pb all told (vE w.heap.size) ((readP [61] (exp k) ts).bind fun fs r => .ok (recE a fs) r [])))
    (HB : ∀ (a : Nat) w ts told, PS B M w pb all ts told → Calls Tryz.prog 170 #[.pointer (some ⟨pb, 0, none⟩), .int .i64 (a : Nat), .int .i64 (d : Nat)] w (Post B M w pb all told (vE w.heap.size) ((exp k ts).bind fun e r => if isM [58] r then (typ k r.tail).bind fun t r => (want [41] r).bind fun _ r => .ok (.mk 11 a [] 0 [] [e] [t]) r [] else (want [41] r).bind fun _ r => .ok e r [])))
    (w : World) (ts : List Tk) (told : List Dn) (h : PS B M w pb all ts told) :
    Calls Tryz.prog 137 #[.pointer (some ⟨pb, 0, none⟩), .int .i64 (d : Nat)] w (Post B M w pb all told (vE w.heap.size) (basicP (typ k) (exp k) ts)) := by
  have HR := Lib.hid HR
  have HB := Lib.hid HB
  have HPB := Lib.hid h.lt
  have HNUM := Lib.hid (hnum _ h.hd_mem)
  have HN := Lib.hid (now_any (h.alloc zE))
  have P0 := Lib.hid (h.alloc zE)
  have A0 := Lib.hid (show (w.alloc zE).heap[w.heap.size]? = some zE from heap_alloc_new w zE)
  have F0 := Lib.hid ((Fr.refl B w).alloc zE)
  clear h hnum
  obtain ⟨res, hres⟩ : ∃ res, res = basicP (typ k) (exp k) ts := ⟨_, rfl⟩
  rw [← hres]
  have HQ := Lib.hid hres
  clear hres
  obtain ⟨t, ht⟩ : ∃ t, t = hd ts := ⟨_, rfl⟩
  have HT := Lib.hid ht
  rw [← ht] at HN HNUM
  clear ht
  by_cases h3 : t.k = 3
  · have HK := Lib.hid (show (hd ts).k ≠ 6 by rw [← HT.out]; omega)
    have HW := Lib.hid (show res = .ok (.mk 1 t.a [] (numOf t.t) [] [] []) ts.tail [] by rw [HQ.out]; simp [basicP, ← HT.out, h3])
    have HNU := Lib.hid (HNUM.out h3)
    go_enter Tryz.func137, Tryz.ntmps137
    go_wp2_with fail
    refine HN.out.mono ?_
    rintro e w1 ⟨rfl, b1⟩
    have A1 := Lib.hid ((b1.block _ (by simp)).trans A0.out)
    have F1 := Lib.hid (F0.out.below b1)
    have P1 := Lib.hid (P0.out.below b1)
    have HLT := Lib.hid (show w.heap.size < w1.heap.size by have := b1.size; simp at this; omega)
    clear b1 A0 F0 P0
    unfold tokV
    have e3 : (t.k : Int) = 3 := by omega
    have f3 : ((t.k : Int) == 3) = true := by simpa using e3
    clear h3
    go_wp2_with fail
    refine (pass_any (P1.out.alloc _) HK.out).mono ?_
    rintro e w2 ⟨rfl, p2, f2⟩
    have A2 := Lib.hid (f2.cells (blk_alloc A1.out _) (by decide))
    have F2 := Lib.hid ((F1.out.alloc _).trans f2)
    have P2 := Lib.hid p2
    have T2 : Thr w2 w1.heap.size 105 _ _ _ := f2.cells (thr_new w1 105 _ _ _) (by decide)
    have TH := Lib.hid T2
    clear p2 f2 A1 F1 P1 T2
    go_upto_region 5 with fail
    obtain ⟨⟨t0, t1, t2⟩, -⟩ := thr_of (t := 105) TH.out
    have hn0 : ¬ w1.heap.size = w.heap.size := Nat.ne_of_gt HLT.out
    have hn1 : ¬ w.heap.size = w1.heap.size := Nat.ne_of_lt HLT.out
    have HC : Hid (∀ W, Drawn w2 W → Calls Tryz.prog 168 #[.string ⟨t.t.toArray⟩] W fun e w' => e = .returned (.int .i64 (numOf t.t : Nat)) ∧ Below w2.heap.size w2 w') := by
      rintro W ⟨e1, e2, e3, e4⟩
      refine (num_any t.t HNU.out W).mono ?_
      rintro e w' ⟨rfl, b⟩
      rw [e1] at b
      exact ⟨rfl, ⟨b.os.trans e2, b.tape.trans e3, b.output.trans e4, by have := b.size; rw [e1] at this; exact this, fun k hk => (b.block k hk).trans (by rw [e1])⟩⟩
    go_region_held3 (fun w' => w'.cell? ⟨w1.heap.size, 1, none⟩ = some (.int .i64 (t.a : Nat)) ∧ w'.cell? ⟨w1.heap.size, 2, none⟩ = some (.string ⟨t.t.toArray⟩)) (go_keep)
      (first | (go_at_call 168; refine (HC.out _ ?_).mono ?_; exact ⟨rfl, rfl, rfl, rfl⟩; rintro e w5 ⟨rfl, b5⟩; (have T5 : Thr w5 w1.heap.size 105 _ _ _ := (b5.block _ (Array.getElem?_eq_some_iff.1 TH.out).1).trans TH.out); obtain ⟨⟨s0, s1, s2⟩, -⟩ := thr_of T5; (have hA5 := (b5.block _ (Array.getElem?_eq_some_iff.1 A2.out).1).trans A2.out); obtain ⟨⟨q0, q1, q2, q3, q4, q5, q6⟩, v0, v1, v2, v3, v4, v5, v6⟩ := sev_of (t := 36) hA5; (have A5 := Lib.hid hA5); (have F5 := Lib.hid (F2.out.below b5)); (have P5 := Lib.hid (P2.out.below b5)); clear b5 T5 hA5))
    all_goals
      go_wp2_with fail
      exact ret49 rfl rfl rfl (putL_at (vs := [_, _, _, _, _, _, _]) A5.out rfl) (giveE HW.out A5.out F5.out P5.out.nil HPB.out (vE_bare _ _ 1 t.a [] (numOf t.t)))
  by_cases h4 : t.k = 4
  · have HK := Lib.hid (show (hd ts).k ≠ 6 by rw [← HT.out]; omega)
    have HW := Lib.hid (show res = .ok (.mk 2 t.a t.t 0 [] [] []) ts.tail [] by rw [HQ.out]; simp [basicP, ← HT.out, h4])
    go_enter Tryz.func137, Tryz.ntmps137
    go_wp2_with fail
    refine HN.out.mono ?_
    rintro e w1 ⟨rfl, b1⟩
    have A1 := Lib.hid ((b1.block _ (by simp)).trans A0.out)
    have F1 := Lib.hid (F0.out.below b1)
    have P1 := Lib.hid (P0.out.below b1)
    have HLT := Lib.hid (show w.heap.size < w1.heap.size by have := b1.size; simp at this; omega)
    clear b1 A0 F0 P0
    unfold tokV
    have n3 : ¬ (t.k : Int) = 3 := by omega
    have m3 : ((t.k : Int) == 3) = false := by simpa using n3
    have e4 : (t.k : Int) = 4 := by omega
    have f4 : ((t.k : Int) == 4) = true := by simpa using e4
    clear h3 h4
    go_wp2_with fail
    refine (pass_any (P1.out.alloc _) HK.out).mono ?_
    rintro e w2 ⟨rfl, p2, f2⟩
    have A2 := Lib.hid (f2.cells (blk_alloc A1.out _) (by decide))
    have F2 := Lib.hid ((F1.out.alloc _).trans f2)
    have P2 := Lib.hid p2
    have T2 : Thr w2 w1.heap.size 105 _ _ _ := f2.cells (thr_new w1 105 _ _ _) (by decide)
    obtain ⟨⟨t0, t1, t2⟩, -⟩ := thr_of T2
    have HTH := Lib.hid (there_of A2.out rfl)
    clear p2 f2 A1 F1 P1 T2
    go_wp2_with (first | (refine wpList_store_put rfl 36 (.tmp 4) (.tmp 28) rfl (w.heap.size) _ rfl rfl HTH.out size49 (all_oneCell_toArray (by simp [Value.oneCell'])) ?_; intro W9 hW9))
    have e9 : W9 = putL w2 w.heap.size [.int .i64 2, .int .i64 (t.a : Nat), .string ⟨t.t.toArray⟩, .int .i64 0, .slice none 0 0, .slice none 0 0, .slice none 0 0] := hW9.out
    subst e9
    exact ret49 rfl rfl rfl (putL_at (vs := [_, _, _, _, _, _, _]) A2.out rfl) (giveE HW.out A2.out F2.out P2.out.nil HPB.out (vE_bare _ _ 2 t.a t.t 0))
  by_cases h1 : t.k = 1
  · have HK := Lib.hid (show (hd ts).k ≠ 6 by rw [← HT.out]; omega)
    have HW := Lib.hid (show res = .ok (.mk 4 t.a t.t 0 [] [] []) ts.tail [] by rw [HQ.out]; simp [basicP, ← HT.out, h1])
    go_enter Tryz.func137, Tryz.ntmps137
    go_wp2_with fail
    refine HN.out.mono ?_
    rintro e w1 ⟨rfl, b1⟩
    have A1 := Lib.hid ((b1.block _ (by simp)).trans A0.out)
    have F1 := Lib.hid (F0.out.below b1)
    have P1 := Lib.hid (P0.out.below b1)
    have HLT := Lib.hid (show w.heap.size < w1.heap.size by have := b1.size; simp at this; omega)
    clear b1 A0 F0 P0
    unfold tokV
    have n3 : ¬ (t.k : Int) = 3 := by omega
    have m3 : ((t.k : Int) == 3) = false := by simpa using n3
    have n4 : ¬ (t.k : Int) = 4 := by omega
    have m4 : ((t.k : Int) == 4) = false := by simpa using n4
    have e1 : (t.k : Int) = 1 := by omega
    have f1 : ((t.k : Int) == 1) = true := by simpa using e1
    clear h3 h4 h1
    go_wp2_with fail
    refine (pass_any (P1.out.alloc _) HK.out).mono ?_
    rintro e w2 ⟨rfl, p2, f2⟩
    have A2 := Lib.hid (f2.cells (blk_alloc A1.out _) (by decide))
    have F2 := Lib.hid ((F1.out.alloc _).trans f2)
    have P2 := Lib.hid p2
    have T2 : Thr w2 w1.heap.size 105 _ _ _ := f2.cells (thr_new w1 105 _ _ _) (by decide)
    obtain ⟨⟨t0, t1, t2⟩, -⟩ := thr_of T2
    have HTH := Lib.hid (there_of A2.out rfl)
    clear p2 f2 A1 F1 P1 T2
    go_wp2_with (first | (refine wpList_store_put rfl 36 (.tmp 4) (.tmp 37) rfl (w.heap.size) _ rfl rfl HTH.out size49 (all_oneCell_toArray (by simp [Value.oneCell'])) ?_; intro W9 hW9))
    have e9 : W9 = putL w2 w.heap.size [.int .i64 4, .int .i64 (t.a : Nat), .string ⟨t.t.toArray⟩, .int .i64 0, .slice none 0 0, .slice none 0 0, .slice none 0 0] := hW9.out
    subst e9
    exact ret49 rfl rfl rfl (putL_at (vs := [_, _, _, _, _, _, _]) A2.out rfl) (giveE HW.out A2.out F2.out P2.out.nil HPB.out (vE_bare _ _ 4 t.a t.t 0))
  have HK3 := Lib.hid (show ¬ (hd ts).k = 3 by rw [← HT.out]; exact h3)
  have HK4 := Lib.hid (show ¬ (hd ts).k = 4 by rw [← HT.out]; exact h4)
  have HK1 := Lib.hid (show ¬ (hd ts).k = 1 by rw [← HT.out]; exact h1)
  go_enter Tryz.func137, Tryz.ntmps137
  go_wp2_with fail
  refine HN.out.mono ?_
  rintro e w1 ⟨rfl, b1⟩
  have hA1 := blk_alloc ((b1.block _ (by simp)).trans A0.out) (.cells #[.int .i64 (t.k : Nat), .int .i64 (t.a : Nat), .string ⟨t.t.toArray⟩] 105)
  have A1 := Lib.hid hA1
  have F1 := Lib.hid ((F0.out.below b1).alloc (.cells #[.int .i64 (t.k : Nat), .int .i64 (t.a : Nat), .string ⟨t.t.toArray⟩] 105))
  have P1 := Lib.hid ((P0.out.below b1).alloc (.cells #[.int .i64 (t.k : Nat), .int .i64 (t.a : Nat), .string ⟨t.t.toArray⟩] 105))
  have Z1 := Lib.hid (show w.heap.size < w1.heap.size by have := b1.size; simp at this; omega)
  have T1 := Lib.hid (show (w1.alloc (.cells #[.int .i64 (t.k : Nat), .int .i64 (t.a : Nat), .string ⟨t.t.toArray⟩] 105)).heap[w1.heap.size]? = some (.cells #[.int .i64 (t.k : Nat), .int .i64 (t.a : Nat), .string ⟨t.t.toArray⟩] 105) from heap_alloc_new w1 _)
  clear b1 hA1 A0 F0 P0
  unfold tokV
  have n3 : ¬ (t.k : Int) = 3 := by omega
  have m3 : ((t.k : Int) == 3) = false := by simpa using n3
  have n4 : ¬ (t.k : Int) = 4 := by omega
  have m4 : ((t.k : Int) == 4) = false := by simpa using n4
  have n1 : ¬ (t.k : Int) = 1 := by omega
  have m1 : ((t.k : Int) == 1) = false := by simpa using n1
  clear h3 h4 h1
  go_wp2_with fail
  clear n3 n4 n1 m3 m4 m1
  refine (takes_any P1.out [116, 114, 117, 101]).mono ?_
  rintro e w2 ⟨rfl, p2, f2⟩
  have A2 := Lib.hid (f2.cells A1.out (by decide))
  have F2 := Lib.hid (F1.out.trans f2)
  have T2 := Lib.hid (f2.cells T1.out (by decide))
  clear f2 A1 F1 P1 T1
  cases hm2 : isM [116, 114, 117, 101] ts with
  | true =>
    simp only [hm2, if_true] at p2
    have P2 := Lib.hid p2
    have HW := Lib.hid (show res = .ok (.mk 3 t.a [] 1 [] [] []) ts.tail [] by rw [HQ.out]; simp [basicP, HK3.out, HK4.out, HK1.out, hm2, HT.out])
    obtain ⟨⟨t0, t1, t2⟩, -⟩ := thr_of (show Thr w2 w1.heap.size 105 (.int .i64 (t.k : Nat)) (.int .i64 (t.a : Nat)) (.string ⟨t.t.toArray⟩) from T2.out)
    have HTH := Lib.hid (there_of A2.out rfl)
    clear hm2 p2
    go_wp2_with (first | (refine wpList_store_put rfl 36 (.tmp 4) (.tmp 43) rfl (w.heap.size) _ rfl rfl HTH.out size49 (all_oneCell_toArray (by simp [Value.oneCell'])) ?_; intro W9 hW9))
    have e9 : W9 = putL w2 w.heap.size [.int .i64 3, .int .i64 (t.a : Nat), .string ⟨#[]⟩, .int .i64 1, .slice none 0 0, .slice none 0 0, .slice none 0 0] := hW9.out
    subst e9
    exact ret49 rfl rfl rfl (putL_at (vs := [_, _, _, _, _, _, _]) A2.out rfl) (giveE HW.out A2.out F2.out P2.out.nil HPB.out (vE_bare _ _ 3 t.a [] 1))
  | false =>
  simp only [hm2, Bool.false_eq_true, if_false] at p2
  have P2 := Lib.hid p2
  have HM2 := Lib.hid hm2
  clear hm2 p2
  go_wp2_with fail
  refine (takes_any P2.out [102, 97, 108, 115, 101]).mono ?_
  rintro e w3 ⟨rfl, p3, f3⟩
  have A3 := Lib.hid (f3.cells A2.out (by decide))
  have F3 := Lib.hid (F2.out.trans f3)
  have T3 := Lib.hid (f3.cells T2.out (by decide))
  clear f3 A2 F2 P2 T2
  cases hm3 : isM [102, 97, 108, 115, 101] ts with
  | true =>
    simp only [hm3, if_true] at p3
    have P3 := Lib.hid p3
    have HW := Lib.hid (show res = .ok (.mk 3 t.a [] 0 [] [] []) ts.tail [] by rw [HQ.out]; simp [basicP, HK3.out, HK4.out, HK1.out, HM2.out, hm3, HT.out])
    obtain ⟨⟨t0, t1, t2⟩, -⟩ := thr_of (show Thr w3 w1.heap.size 105 (.int .i64 (t.k : Nat)) (.int .i64 (t.a : Nat)) (.string ⟨t.t.toArray⟩) from T3.out)
    have HTH := Lib.hid (there_of A3.out rfl)
    clear hm3 p3
    go_wp2_with (first | (refine wpList_store_put rfl 36 (.tmp 4) (.tmp 49) rfl (w.heap.size) _ rfl rfl HTH.out size49 (all_oneCell_toArray (by simp [Value.oneCell'])) ?_; intro W9 hW9))
    have e9 : W9 = putL w3 w.heap.size [.int .i64 3, .int .i64 (t.a : Nat), .string ⟨#[]⟩, .int .i64 0, .slice none 0 0, .slice none 0 0, .slice none 0 0] := hW9.out
    subst e9
    exact ret49 rfl rfl rfl (putL_at (vs := [_, _, _, _, _, _, _]) A3.out rfl) (giveE HW.out A3.out F3.out P3.out.nil HPB.out (vE_bare _ _ 3 t.a [] 0))
  | false =>
  simp only [hm3, Bool.false_eq_true, if_false] at p3
  have P3 := Lib.hid p3
  have HM3 := Lib.hid hm3
  clear hm3 p3
  go_wp2_with fail
  refine (takes_any P3.out [123]).mono ?_
  rintro e w4 ⟨rfl, p4, f4⟩
  have A4 := Lib.hid (f4.cells A3.out (by decide))
  have F4 := Lib.hid (F3.out.trans f4)
  have T4 := Lib.hid (f4.cells T3.out (by decide))
  clear f4 A3 F3 P3 T3
  cases hm4 : isM [123] ts with
  | true =>
    simp only [hm4, if_true] at p4
    have P4 := Lib.hid p4
    have HW := Lib.hid (show res = ((readP [61] (exp k) ts.tail).bind fun fs r => R.ok (recE t.a fs) r []) by rw [HQ.out]; simp [basicP, HK3.out, HK4.out, HK1.out, HM2.out, HM3.out, hm4, HT.out])
    obtain ⟨⟨t0, t1, t2⟩, -⟩ := thr_of (show Thr w4 w1.heap.size 105 (.int .i64 (t.k : Nat)) (.int .i64 (t.a : Nat)) (.string ⟨t.t.toArray⟩) from T4.out)
    clear hm4 p4
    go_wp2_with fail
    refine (HR.out t.a _ _ _ P4.out).mono ?_
    rintro e w9 ⟨f9, h9⟩
    cases hr : ((readP [61] (exp k) ts.tail).bind fun fs r => R.ok (recE t.a fs) r []) with
    | bad y rest ds =>
      rw [hr] at h9
      obtain ⟨rfl, p9⟩ := h9
      go_wp2_with fail
      exact panics rfl (.bad (HW.out.trans hr) (F4.out.trans f9) p9)
    | ok x rest ds =>
      have HW := Lib.hid (HW.out.trans hr)
      rw [hr] at h9
      obtain ⟨⟨cs, rfl, hcs⟩, p9⟩ := h9
      obtain ⟨ek, ea, en, em, a4, n4, c4, a5, n5, c5, a6, n6, c6, rfl⟩ := cells_E hcs
      have A9 := Lib.hid (f9.cells A4.out (by decide))
      have F9 := Lib.hid (F4.out.trans f9)
      have P9 := Lib.hid p9
      have C9 := Lib.hid (hcs.mono (A' := fun b => w.heap.size < b) (fun b _ hb => by have := Nat.lt_of_lt_of_le (Array.getElem?_eq_some_iff.1 A4.out).1 hb; omega))
      have HTH := Lib.hid (there_of A9.out rfl)
      clear hr f9 p9 hcs
      go_wp2_with (first | (refine wpList_store_put rfl 36 (.tmp 4) (.tmp 57) rfl (w.heap.size) _ rfl rfl HTH.out size49 (all_oneCell_toArray (by simp [Value.oneCell'])) ?_; intro W9 hW9))
      have e9 : W9 = putL w9 w.heap.size [.int .i64 ek, .int .i64 ea, .string en, .int .i64 em, .slice a4 n4 c4, .slice a5 n5 c5, .slice a6 n6 c6] := hW9.out
      subst e9
      exact ret49 rfl rfl rfl (putL_at (vs := [_, _, _, _, _, _, _]) A9.out rfl) (giveE HW.out A9.out F9.out P9.out HPB.out C9.out)
  | false =>
  simp only [hm4, Bool.false_eq_true, if_false] at p4
  have P4 := Lib.hid p4
  have HM4 := Lib.hid hm4
  clear hm4 p4
  go_wp2_with fail
  refine (takes_any P4.out [40]).mono ?_
  rintro e w5 ⟨rfl, p5, f5⟩
  have A5 := Lib.hid (f5.cells A4.out (by decide))
  have F5 := Lib.hid (F4.out.trans f5)
  have T5 := Lib.hid (f5.cells T4.out (by decide))
  clear f5 A4 F4 P4 T4
  cases hm5 : isM [40] ts with
  | true =>
    simp only [hm5, if_true] at p5
    have P5 := Lib.hid p5
    have HW := Lib.hid (show res = ((exp k ts.tail).bind fun e r => if isM [58] r then (typ k r.tail).bind fun t2 r => (want [41] r).bind fun _ r => .ok (.mk 11 t.a [] 0 [] [e] [t2]) r [] else (want [41] r).bind fun _ r => .ok e r []) by rw [HQ.out]; simp [basicP, HK3.out, HK4.out, HK1.out, HM2.out, HM3.out, HM4.out, hm5, HT.out])
    obtain ⟨⟨t0, t1, t2⟩, -⟩ := thr_of (show Thr w5 w1.heap.size 105 (.int .i64 (t.k : Nat)) (.int .i64 (t.a : Nat)) (.string ⟨t.t.toArray⟩) from T5.out)
    clear hm5 p5
    go_wp2_with fail
    refine (HB.out t.a _ _ _ P5.out).mono ?_
    rintro e w9 ⟨f9, h9⟩
    cases hr : ((exp k ts.tail).bind fun e r => if isM [58] r then (typ k r.tail).bind fun t2 r => (want [41] r).bind fun _ r => .ok (.mk 11 t.a [] 0 [] [e] [t2]) r [] else (want [41] r).bind fun _ r => .ok e r []) with
    | bad y rest ds =>
      rw [hr] at h9
      obtain ⟨rfl, p9⟩ := h9
      go_wp2_with fail
      exact panics rfl (.bad (HW.out.trans hr) (F5.out.trans f9) p9)
    | ok x rest ds =>
      have HW := Lib.hid (HW.out.trans hr)
      rw [hr] at h9
      obtain ⟨⟨cs, rfl, hcs⟩, p9⟩ := h9
      obtain ⟨ek, ea, en, em, a4, n4, c4, a5, n5, c5, a6, n6, c6, rfl⟩ := cells_E hcs
      have A9 := Lib.hid (f9.cells A5.out (by decide))
      have F9 := Lib.hid (F5.out.trans f9)
      have P9 := Lib.hid p9
      have C9 := Lib.hid (hcs.mono (A' := fun b => w.heap.size < b) (fun b _ hb => by have := Nat.lt_of_lt_of_le (Array.getElem?_eq_some_iff.1 A5.out).1 hb; omega))
      have HTH := Lib.hid (there_of A9.out rfl)
      clear hr f9 p9 hcs
      go_wp2_with (first | (refine wpList_store_put rfl 36 (.tmp 4) (.tmp 65) rfl (w.heap.size) _ rfl rfl HTH.out size49 (all_oneCell_toArray (by simp [Value.oneCell'])) ?_; intro W9 hW9))
      have e9 : W9 = putL w9 w.heap.size [.int .i64 ek, .int .i64 ea, .string en, .int .i64 em, .slice a4 n4 c4, .slice a5 n5 c5, .slice a6 n6 c6] := hW9.out
      subst e9
      exact ret49 rfl rfl rfl (putL_at (vs := [_, _, _, _, _, _, _]) A9.out rfl) (giveE HW.out A9.out F9.out P9.out HPB.out C9.out)
  | false =>
  simp only [hm5, Bool.false_eq_true, if_false] at p5
  have P5 := Lib.hid p5
  have HM5 := Lib.hid hm5
  clear hm5 p5
  go_wp2_with fail
  have HW := Lib.hid (show res = .bad (syn ts) ts [] by rw [HQ.out]; simp [basicP, HK3.out, HK4.out, HK1.out, HM2.out, HM3.out, HM4.out, HM5.out])
  refine (unwanted_any P5.out).mono ?_
  rintro e w9 ⟨rfl, b9⟩
  unfold gvV
  go_wp2_with fail
  exact panics rfl (.bad HW.out (F5.out.below b9) (P5.out.below b9).nil)
end Go.Proofs.YtijnjoonbjdafaaGreatDoor

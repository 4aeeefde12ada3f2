/-
  The document's reader of a source that is just one expression.
-/
import Derived.Test.YtijnjoonbjdafaaGreatDoorReJ
import Derived.Test.YtijnjoonbjdafaaGreatDoorRdO
namespace Go.Proofs.YtijnjoonbjdafaaGreatDoor
set_option maxRecDepth 20000
open Go.RowKit Go.Shelf
theorem retEB {f : Func} {R : Ending → World → Prop} {a : Act} {w : World} {b : Nat} {u0 u1 u2 u3 u4 u5 u6 v : Value} (hf : f.results = #[.cell 2 41, .tmp 3]) (ht : a.eval (.tmp 2) = .pointer (some ⟨b, 0, none⟩)) (hv : a.eval (.tmp 3) = v) (hd : a.defers = [])
    (h : Sev w b 41 u0 u1 u2 u3 u4 u5 u6) (hR : R (.returned (.tuple #[.agg #[u0, u1, u2, u3, u4, u5, u6], v])) w) : bodyPost Tryz.prog f R Exit.ret a w := by
  obtain ⟨⟨c0, c1, c2, c3, c4, c5, c6⟩, -⟩ := sev_of h
  refine bodyPost_ret ?_ hd hR
  simp [Act.eval] at ht hv
  simp [results, hf, go_sem, c0, c1, c2, c3, c4, c5, c6, ht, hv]
set_option maxHeartbeats 8000000 in
theorem exprOf_any (s : ByteArray) (hs : s.size ≤ 100000) (w : World) :
    Calls Tryz.prog 13 #[.string s] w fun e w' => Below w.heap.size w w' ∧ OptV (fun x cs => IsCs (fun b => w.heap.size ≤ b) w' (encE 31 41 x) cs) #[.int .i64 0, .int .i64 0, .string ⟨#[]⟩, .int .i64 0, .slice none 0 0, .slice none 0 0, .slice none 0 0] (wholeO (readW (exp 64) (toks s.data.toList)) (dns s.data.toList)) e := by
  rw [← one_whole (rd_exp 64)]
  obtain ⟨W1, hW1⟩ : ∃ W1, zSev w = W1 := ⟨_, rfl⟩
  have HOF := Lib.hid (of_any s hs W1)
  have a1 := zsev w
  rw [hW1] at a1
  have HA1 := Lib.hid a1
  have HB1 := Lib.hid (show Below w.heap.size w W1 by rw [← hW1]; exact (Below.refl _ _).alloc (Nat.le_refl _) _)
  have HS1 := Lib.hid (show W1.heap.size = w.heap.size + 1 by rw [← hW1]; simp)
  have HW1 := Lib.hid (show w.alloc (.cells #[.int .i64 0, .int .i64 0, .string ⟨#[]⟩, .int .i64 0, .slice none 0 0, .slice none 0 0, .slice none 0 0] 41) = W1 from hW1)
  have HS := Lib.hid (show s.data.toList.length ≤ 100000 by rw [Lib.size_eq] at hs; exact hs)
  have HTL := Lib.hid (toks_len s.data.toList)
  have HDL := Lib.hid (show (dns s.data.toList).length ≤ s.data.toList.length by have := told_len s.data.toList; simpa [dns] using this)
  have HNUM := Lib.hid (toks_num s.data.toList)
  have HFIN := Lib.hid (show ∃ p e, toks s.data.toList = p ++ [e] ∧ e.k = 6 from ⟨_, _, rfl, rfl⟩)
  obtain ⟨all, hall⟩ : ∃ all, all = toks s.data.toList := ⟨_, rfl⟩
  obtain ⟨nd, hnd⟩ : ∃ nd, nd = (dns s.data.toList).length := ⟨_, rfl⟩
  rw [← hall] at HOF HTL HFIN HNUM ⊢
  rw [← hnd] at HOF HDL ⊢
  obtain ⟨out, hout⟩ : ∃ out, out = oneS (qExp 64) all nd := ⟨_, rfl⟩
  rw [← hout]
  have HOUT := Lib.hid hout
  clear hs hW1 a1 hall hnd hout
  go_enter Tryz.func13, Tryz.ntmps13
  go_upto_region 1 with fail
  rw [HW1.out]
  go_wp2_with fail
  refine HOF.out.mono ?_
  rintro e w2 ⟨v, u, xs, rfl, r1, r2, hv, b2⟩
  obtain ⟨av, cv, rfl⟩ := row_slice r1
  obtain ⟨au, cu, rfl⟩ := row_slice r2
  obtain ⟨W3, hW3⟩ : ∃ W3, w2.alloc (.cells #[.slice av all.length cv, .int .i64 0, .slice au nd cu, .bool false] 92) = W3 := ⟨_, rfl⟩
  have Q3 := Lib.hid (show QS W1.heap.size 10000000 W3 w2.heap.size all ⟨all, nd, false⟩ by
    rw [← hW3]
    refine ⟨b2.size, by have := b2.size; simp; omega, HFIN.out, ?_, ?_, _, _, 0, xs, heap_alloc_new w2 _, r1.alloc _, r2.alloc _, by simp, hv⟩
    · have := HTL.out; have := HDL.out; have := HS.out
      show nd + 2 * all.length + 1 ≤ 10000000
      omega
    · have := HTL.out; have := HS.out; omega)
  have HW3 := Lib.hid hW3
  have HA3 := Lib.hid (show Sev W3 w.heap.size 41 _ _ _ _ _ _ _ by rw [← hW3]; exact blk_alloc ((b2.block _ (Array.getElem?_eq_some_iff.1 HA1.out).1).trans HA1.out) _)
  have HB3 := Lib.hid (show Below W1.heap.size W1 W3 by rw [← hW3]; exact b2.alloc b2.size _)
  have HTY := Lib.hid (fun k a n m ns l ts s8 hp => rdsE_flat (qexp_all (Nat.le_refl _) HNUM.out 64 1 rfl) W3 _ Q3.out k a n m ns l ts s8 hp)
  obtain ⟨⟨t, s8⟩, hu⟩ : ∃ p, p = qExp 64 ⟨all, nd, false⟩ := ⟨_, rfl⟩
  obtain ⟨uk, ua, un, um, uns, ul, uts⟩ := t
  have HT2 := Lib.hid (HTY.out uk ua un um uns ul uts s8 hu)
  have HON := Lib.hid (show out = if s8.bad = true ∨ (hd s8.ts).k ≠ 6 ∨ s8.nd ≠ 0 then none else some (.mk uk ua un um uns ul uts) by rw [HOUT.out, oneS, ← hu])
  clear r1 r2 hv b2 hW3 hu HOUT HTY
  go_upto_region 2 with fail
  rw [HW3.out]
  go_wp2_with fail
  refine HT2.out.mono ?_
  rintro e w4 ⟨b4, e4', b5', e5', b6, e6, rfl, f4, i4, q4⟩
  obtain ⟨W5, hW5⟩ : ∃ W5, w4.alloc (.cells #[.int .i64 (uk : Nat), .int .i64 (ua : Nat), .string ⟨un.toArray⟩, .int .i64 (um : Nat), .slice b4 uns.length e4', .slice b5' ul.length e5', .slice b6 uts.length e6] 41) = W5 := ⟨_, rfl⟩
  have b5 : Below w4.heap.size w4 W5 := by rw [← hW5]; exact (Below.refl _ _).alloc (Nat.le_refl _) _
  have hX5 : Sev W5 w4.heap.size 41 (.int .i64 (uk : Nat)) (.int .i64 (ua : Nat)) (.string ⟨un.toArray⟩) (.int .i64 (um : Nat)) (.slice b4 uns.length e4') (.slice b5' ul.length e5') (.slice b6 uts.length e6) := by rw [← hW5]; exact heap_alloc_new w4 _
  have q5 := q4.below b5
  have hA5 : Sev W5 w.heap.size 41 _ _ _ _ _ _ _ := (f4.below b5).cells HA3.out (by decide)
  have HU5 := Lib.hid ((i4.below b5).mono (A' := fun b => w.heap.size < b) (fun b _ hb => by have := HB3.out.size; have := HS1.out; omega))
  have HB5 := Lib.hid (show Below w.heap.size w W5 from (HB1.out.trans (HB3.out.mono HB1.out.size)).trans (((f4.below b5).belows HB3.out.size).mono HB1.out.size))
  obtain ⟨g, cap, i, vd, h6, hi, hbig, hg, c0, c1, c2, -⟩ := q5.first
  obtain ⟨vt', vd', i', xs', k6, -, k8, -⟩ := q5.ex
  rw [h6] at k6
  simp only [Option.some.injEq, Obj.cells.injEq, Array.mk.injEq, List.cons.injEq, and_true] at k6
  obtain ⟨-, -, rfl, -⟩ := k6
  obtain ⟨ad, cd, rfl⟩ := row_slice k8
  obtain ⟨⟨p0, p1, p2, p3⟩, -⟩ := fou_of h6
  obtain ⟨⟨z0, z1, z2, z3, z4, z5, z6⟩, -⟩ := sev_of (t := 41) hX5
  have HTH := Lib.hid (there_of hA5 rfl)
  have HA5 := Lib.hid hA5
  have HW5 := Lib.hid hW5
  obtain ⟨kk, hkk⟩ : ∃ kk, kk = (hd s8.ts).k := ⟨_, rfl⟩
  rw [← hkk] at c0 HON
  obtain ⟨n8, hn8⟩ : ∃ n8, n8 = s8.nd := ⟨_, rfl⟩
  rw [← hn8] at p2 HON
  clear f4 i4 q4 hW5 b5 hX5 q5 hA5 h6 k8 c1 c2 hkk hn8 HT2
  go_upto_region 3 with fail
  rw [HW5.out]
  cases hb8 : s8.bad with
  | true =>
    rw [hb8] at p3
    have HO2 := Lib.hid (show out = none by rw [HON.out, hb8, if_pos (.inl rfl)])
    clear hb8
    go_wp2_with (first | (refine wpList_store_put rfl 41 (.tmp 2) (.tmp 27) rfl w.heap.size _ rfl rfl HTH.out sizeEq (all_oneCell_toArray (by simp [Value.oneCell'])) ?_; intro WF hWF))
    rw [hWF.out]
    exact retEB rfl rfl rfl rfl (sev_put HA5.out (.int .i64 0) (.int .i64 0) (.string ⟨#[]⟩) (.int .i64 0) (.slice none 0 0) (.slice none 0 0) (.slice none 0 0)) ⟨Below.putL HB5.out (Nat.le_refl _) [.int .i64 0, .int .i64 0, .string ⟨#[]⟩, .int .i64 0, .slice none 0 0, .slice none 0 0, .slice none 0 0], by rw [HO2.out]; rfl⟩
  | false =>
    rw [hb8] at p3
    rw [hb8] at HON
    clear hb8
    by_cases hk : kk = 6
    · have hk1 : ((kk : Int) != 6) = false := by simp only [bne_eq_false_iff_eq]; omega
      by_cases hn : n8 = 0
      · have hn1 : decide ((0 : Int) < (n8 : Int)) = false := by simp only [decide_eq_false_iff_not]; omega
        have hn2 : decide (0 < n8) = false := by simp only [decide_eq_false_iff_not]; omega
        have HO2 := Lib.hid (show out = some (.mk uk ua un um uns ul uts) by rw [HON.out, hk, hn]; simp)
        clear hk hn
        go_wp2_with (first | (refine wpList_store_put rfl 41 (.tmp 2) (.tmp 28) rfl w.heap.size _ rfl rfl HTH.out sizeEq (all_oneCell_toArray (by simp [Value.oneCell'])) ?_; intro WF hWF))
        rw [hWF.out]
        refine retEB rfl rfl rfl rfl (sev_put HA5.out (.int .i64 (uk : Nat)) (.int .i64 (ua : Nat)) (.string ⟨un.toArray⟩) (.int .i64 (um : Nat)) (.slice b4 uns.length e4') (.slice b5' ul.length e5') (.slice b6 uts.length e6)) ⟨Below.putL HB5.out (Nat.le_refl _) [.int .i64 (uk : Nat), .int .i64 (ua : Nat), .string ⟨un.toArray⟩, .int .i64 (um : Nat), .slice b4 uns.length e4', .slice b5' ul.length e5', .slice b6 uts.length e6], ?_⟩
        · rw [HO2.out]
          exact ⟨[.int .i64 (uk : Nat), .int .i64 (ua : Nat), .string ⟨un.toArray⟩, .int .i64 (um : Nat), .slice b4 uns.length e4', .slice b5' ul.length e5', .slice b6 uts.length e6], rfl, (HU5.out.putL w.heap.size (fun k hk => Nat.ne_of_gt hk) [.int .i64 (uk : Nat), .int .i64 (ua : Nat), .string ⟨un.toArray⟩, .int .i64 (um : Nat), .slice b4 uns.length e4', .slice b5' ul.length e5', .slice b6 uts.length e6]).mono (fun _ _ h => Nat.le_of_lt h)⟩
      · have hn1 : decide ((0 : Int) < (n8 : Int)) = true := by simp only [decide_eq_true_eq]; omega
        have hn2 : decide (0 < n8) = true := by simp only [decide_eq_true_eq]; omega
        have HO2 := Lib.hid (show out = none by rw [HON.out, if_pos (.inr (.inr hn))])
        clear hk hn
        go_wp2_with (first | (refine wpList_store_put rfl 41 (.tmp 2) (.tmp 27) rfl w.heap.size _ rfl rfl HTH.out sizeEq (all_oneCell_toArray (by simp [Value.oneCell'])) ?_; intro WF hWF))
        rw [hWF.out]
        exact retEB rfl rfl rfl rfl (sev_put HA5.out (.int .i64 0) (.int .i64 0) (.string ⟨#[]⟩) (.int .i64 0) (.slice none 0 0) (.slice none 0 0) (.slice none 0 0)) ⟨Below.putL HB5.out (Nat.le_refl _) [.int .i64 0, .int .i64 0, .string ⟨#[]⟩, .int .i64 0, .slice none 0 0, .slice none 0 0, .slice none 0 0], by rw [HO2.out]; rfl⟩
    · have hk1 : ((kk : Int) != 6) = true := by simp only [bne_iff_ne, ne_eq]; omega
      have HO2 := Lib.hid (show out = none by rw [HON.out, if_pos (.inr (.inl hk))])
      clear hk
      go_wp2_with (first | (refine wpList_store_put rfl 41 (.tmp 2) (.tmp 27) rfl w.heap.size _ rfl rfl HTH.out sizeEq (all_oneCell_toArray (by simp [Value.oneCell'])) ?_; intro WF hWF))
      rw [hWF.out]
      exact retEB rfl rfl rfl rfl (sev_put HA5.out (.int .i64 0) (.int .i64 0) (.string ⟨#[]⟩) (.int .i64 0) (.slice none 0 0) (.slice none 0 0) (.slice none 0 0)) ⟨Below.putL HB5.out (Nat.le_refl _) [.int .i64 0, .int .i64 0, .string ⟨#[]⟩, .int .i64 0, .slice none 0 0, .slice none 0 0, .slice none 0 0], by rw [HO2.out]; rfl⟩
end Go.Proofs.YtijnjoonbjdafaaGreatDoor

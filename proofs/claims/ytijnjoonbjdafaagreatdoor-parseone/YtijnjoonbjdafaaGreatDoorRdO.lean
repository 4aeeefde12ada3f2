/-
  The document's reader of a source that is just one type.
-/
import Derived.Test.YtijnjoonbjdafaaGreatDoorRyM
import Derived.Test.YtijnjoonbjdafaaGreatDoorRfM
import Derived.Test.YtijnjoonbjdafaaGreatDoorWhM
namespace Go.Proofs.YtijnjoonbjdafaaGreatDoor
set_option maxRecDepth 20000
open Go.RowKit Go.Shelf
theorem one_whole {α : Type} {f : List Tk → R α} {g : Q → α × Q} (h : Rdr f g) (ts : List Tk) (told : List Dn) : oneS g ts told.length = wholeO (readW f ts) told := by
  rw [one_is h]
  unfold wholeP wholeO readW
  cases hf : f ts with
  | bad y r d => rw [R.bind_bad]; split <;> rfl
  | ok x r d =>
    rw [R.bind_ok]
    by_cases hk : (hd r).k = 6
    · rw [if_pos hk]
      simp only [R.tell_ok, List.append_nil]
      cases told with
      | nil =>
        cases d with
        | nil => simp [hk]
        | cons y d => simp
      | cons y t => simp
    · rw [if_neg hk]
      cases d <;> (split <;> simp [R.tell, hk])
theorem retR {f : Func} {R : Ending → World → Prop} {a : Act} {w : World} {b : Nat} {u0 u1 u2 u3 : Value} (hf : f.results = #[.cell 2 92]) (ht : a.eval (.tmp 2) = .pointer (some ⟨b, 0, none⟩)) (hd : a.defers = [])
    (h : Fou w b 92 u0 u1 u2 u3) (hR : R (.returned (.agg #[u0, u1, u2, u3])) w) : bodyPost Tryz.prog f R Exit.ret a w := by
  obtain ⟨⟨c0, c1, c2, c3⟩, -⟩ := fou_of h
  refine bodyPost_ret ?_ hd hR
  simp [Act.eval] at ht
  simp [results, hf, go_sem, c0, c1, c2, c3, ht]
theorem retTB {f : Func} {R : Ending → World → Prop} {a : Act} {w : World} {b : Nat} {u0 u1 u2 u3 v : Value} (hf : f.results = #[.cell 2 31, .tmp 3]) (ht : a.eval (.tmp 2) = .pointer (some ⟨b, 0, none⟩)) (hv : a.eval (.tmp 3) = v) (hd : a.defers = [])
    (h : Fou w b 31 u0 u1 u2 u3) (hR : R (.returned (.tuple #[.agg #[u0, u1, u2, u3], v])) w) : bodyPost Tryz.prog f R Exit.ret a w := by
  obtain ⟨⟨c0, c1, c2, c3⟩, -⟩ := fou_of h
  refine bodyPost_ret ?_ hd hR
  simp [Act.eval] at ht hv
  simp [results, hf, go_sem, c0, c1, c2, c3, ht, hv]
set_option maxHeartbeats 1000000 in
theorem of_any (s : ByteArray) (hs : s.size ≤ 100000) (w : World) :
    Calls Tryz.prog 44 #[.string s] w fun e w' => ∃ v u xs, e = .returned (.agg #[v, .int .i64 0, u, .bool false]) ∧ w'.ownsRow 0 96 3 v (toks s.data.toList).length (tkCells (toks s.data.toList)) ∧ w'.ownsRow w.heap.size 192 3 u (dns s.data.toList).length xs ∧ (∀ b, v.ownBlock = some b → b < w'.heap.size) ∧ Below w.heap.size w w' := by
  obtain ⟨W0, hW0⟩ : ∃ W0, w.alloc (.cells #[.slice none 0 0, .int .i64 0, .slice none 0 0, .bool false] 92) = W0 := ⟨_, rfl⟩
  have HL := Lib.hid (ref_raw s hs W0)
  have HSZ := Lib.hid (Lib.size_eq s)
  have HA := Lib.hid (show Fou W0 w.heap.size 92 (.slice none 0 0) (.int .i64 0) (.slice none 0 0) (.bool false) by rw [← hW0]; exact heap_alloc_new w _)
  have HB0 := Lib.hid (show Below w.heap.size w W0 by rw [← hW0]; exact (Below.refl _ _).alloc (Nat.le_refl _) _)
  have HS0 := Lib.hid (show W0.heap.size = w.heap.size + 1 by rw [← hW0]; simp)
  have HW0 := Lib.hid hW0
  clear hs hW0
  go_enter Tryz.func44, Tryz.ntmps44
  go_upto_region 1 with fail
  rw [HW0.out]
  go_wp2_with fail
  refine HL.out.mono ?_
  rintro e W ⟨v, u, rfl, h1, h2, hb⟩
  have ha : Fou W w.heap.size 92 _ _ _ _ := (hb.block _ (Array.getElem?_eq_some_iff.1 HA.out).1).trans HA.out
  obtain ⟨⟨d0, d1, d2, d3⟩, e0, e1, e2, e3⟩ := fou_of ha
  obtain ⟨a0, c0, rfl⟩ := row_slice h1
  obtain ⟨a1, c1, rfl⟩ := row_slice h2
  have H1 := Lib.hid h1
  have H2 := Lib.hid h2
  have HB := Lib.hid hb
  have HAA := Lib.hid ha
  obtain ⟨n1, hn1⟩ : ∃ n1, n1 = (toksOf (pieces 0 s.data.toList)).length + 1 := ⟨_, rfl⟩
  obtain ⟨n2, hn2⟩ : ∃ n2, n2 = (toldOf (pieces 0 s.data.toList)).length := ⟨_, rfl⟩
  rw [← hn1, ← hn2]
  have HN1 := Lib.hid hn1
  have HN2 := Lib.hid hn2
  clear h1 h2 hb hn1 hn2 ha
  go_wp2_with fail
  have hsz : (putL W w.heap.size [.slice a0 n1 c0, .int .i64 0, .slice a1 n2 c1, .bool false]).heap.size = W.heap.size := (putL_same w.heap.size [.slice a0 n1 c0, .int .i64 0, .slice a1 n2 c1, .bool false] 0 W).2.2.2
  generalize hW' : putL W w.heap.size [.slice a0 n1 c0, .int .i64 0, .slice a1 n2 c1, .bool false] = W' at hsz
  have HP := Lib.hid (show Fou W' w.heap.size 92 (.slice a0 n1 c0) (.int .i64 0) (.slice a1 n2 c1) (.bool false) by rw [← hW']; exact fou_put HAA.out _ _ _ _)
  have hfar : ∀ b, b ≠ w.heap.size → W'.heap[b]? = W.heap[b]? := fun b hb => by rw [← hW']; exact putL_far w.heap.size _ 0 W b hb
  have hbel : Below w.heap.size w W' := by rw [← hW']; exact Below.putL (HB0.out.trans (HB.out.mono HB0.out.size)) (Nat.le_refl _) _
  change bodyPost Tryz.prog _ _ _ _ (putL W w.heap.size [.slice a0 n1 c0, .int .i64 0, .slice a1 n2 c1, .bool false])
  rw [hW']
  refine retR rfl rfl rfl HP.out ⟨.slice a0 n1 c0, .slice a1 n2 c1, dgCells (toldOf (pieces 0 s.data.toList)), rfl, ?_, ?_, ?_, hbel⟩
  · have := H1.out
    rw [← HN1.out] at this
    have e1 : (toks s.data.toList).length = n1 := by rw [HN1.out]; simp [toks]
    rw [e1]
    have h3 : toksOf (pieces 0 s.data.toList) ++ [⟨6, s.size, []⟩] = toks s.data.toList := by rw [HSZ.out]; rfl
    rw [h3] at this
    have h4 := row_kept (S := fun b => b = w.heap.size) this (Nat.le_of_eq hsz.symm) (fun b _ hb => hfar b hb) (fun b hb => by have := (this.lt b hb).1; have := HS0.out; omega)
    refine ⟨h4.1, ?_⟩
    rcases h4.2 with hn | ⟨g, cap, cur, hv, hb, hg, rest⟩
    · exact .inl hn
    · exact .inr ⟨g, cap, cur, hv, Nat.zero_le _, hg, rest⟩
  · have := H2.out
    rw [← HN2.out] at this
    have e1 : (dns s.data.toList).length = n2 := by rw [HN2.out]; simp [dns, told]
    rw [e1]
    have h4 := row_kept (S := fun b => b = w.heap.size) this (Nat.le_of_eq hsz.symm) (fun b _ hb => hfar b hb) (fun b hb => by have := (this.lt b hb).1; have := HS0.out; omega)
    refine ⟨h4.1, ?_⟩
    rcases h4.2 with hn | ⟨g, cap, cur, hv, hb, hg, rest⟩
    · exact .inl hn
    · exact .inr ⟨g, cap, cur, hv, by have := HS0.out; omega, hg, rest⟩
  · intro b hb
    rw [hsz]
    have := H1.out
    rw [← HN1.out] at this
    exact (this.lt b hb).2
set_option maxHeartbeats 2000000 in
theorem typeOf_any (s : ByteArray) (hs : s.size ≤ 100000) (w : World) :
    Calls Tryz.prog 11 #[.string s] w fun e w' => Below w.heap.size w w' ∧ OptV (fun x cs => IsCs (fun b => w.heap.size ≤ b) w' (encT 31 x) cs) #[.int .i64 0, .string ⟨#[]⟩, .slice none 0 0, .slice none 0 0] (wholeO (readW (typ 64) (toks s.data.toList)) (dns s.data.toList)) e := by
  rw [← one_whole (rd_lv 64).1]
  obtain ⟨W1, hW1⟩ : ∃ W1, zFou w = W1 := ⟨_, rfl⟩
  have HOF := Lib.hid (of_any s hs W1)
  have a1 := zfou w
  rw [hW1] at a1
  have HA1 := Lib.hid a1
  have HB1 := Lib.hid (show Below w.heap.size w W1 by rw [← hW1]; exact (Below.refl _ _).alloc (Nat.le_refl _) _)
  have HS1 := Lib.hid (show W1.heap.size = w.heap.size + 1 by rw [← hW1]; simp)
  have HW1 := Lib.hid (show w.alloc (.cells #[.int .i64 0, .string ⟨#[]⟩, .slice none 0 0, .slice none 0 0] 31) = W1 from hW1)
  have HS := Lib.hid (show s.data.toList.length ≤ 100000 by rw [Lib.size_eq] at hs; exact hs)
  have HTL := Lib.hid (toks_len s.data.toList)
  have HDL := Lib.hid (show (dns s.data.toList).length ≤ s.data.toList.length by have := told_len s.data.toList; simpa [dns] using this)
  have HFIN := Lib.hid (show ∃ p e, toks s.data.toList = p ++ [e] ∧ e.k = 6 from ⟨_, _, rfl, rfl⟩)
  obtain ⟨all, hall⟩ : ∃ all, all = toks s.data.toList := ⟨_, rfl⟩
  obtain ⟨nd, hnd⟩ : ∃ nd, nd = (dns s.data.toList).length := ⟨_, rfl⟩
  rw [← hall] at HOF HTL HFIN ⊢
  rw [← hnd] at HOF HDL ⊢
  obtain ⟨out, hout⟩ : ∃ out, out = oneS (qTyp 64) all nd := ⟨_, rfl⟩
  rw [← hout]
  have HOUT := Lib.hid hout
  clear hs hW1 a1 hall hnd hout
  go_enter Tryz.func11, Tryz.ntmps11
  go_upto_region 1 with fail
  rw [HW1.out]
  go_wp2_with fail
  refine HOF.out.mono ?_
  rintro e w2 ⟨v, u, xs, rfl, r1, r2, hv, b2⟩
  obtain ⟨av, cv, rfl⟩ := row_slice r1
  obtain ⟨au, cu, rfl⟩ := row_slice r2
  obtain ⟨W3, hW3⟩ : ∃ W3, w2.alloc (.cells #[.slice av all.length cv, .int .i64 0, .slice au nd cu, .bool false] 92) = W3 := ⟨_, rfl⟩
  have Q3 := Lib.hid (show QS W1.heap.size 10000000 W3 w2.heap.size all ⟨all, nd, false⟩ by
    rw [← hW3]
    refine ⟨b2.size, by have := b2.size; simp; omega, HFIN.out, ?_, ?_, _, _, 0, xs, heap_alloc_new w2 _, r1.alloc _, r2.alloc _, by simp, hv⟩
    · have := HTL.out; have := HDL.out; have := HS.out
      show nd + 2 * all.length + 1 ≤ 10000000
      omega
    · have := HTL.out; have := HS.out; omega)
  have HW3 := Lib.hid hW3
  have HA3 := Lib.hid (show Fou W3 w.heap.size 31 _ _ _ _ by rw [← hW3]; exact blk_alloc ((b2.block _ (Array.getElem?_eq_some_iff.1 HA1.out).1).trans HA1.out) _)
  have HB3 := Lib.hid (show Below W1.heap.size W1 W3 by rw [← hW3]; exact b2.alloc b2.size _)
  have HTY := Lib.hid (fun k n ns l s8 hp => rdsT_flat (qlv_any (Nat.le_refl _) 64 1 rfl).1 W3 _ Q3.out k n ns l s8 hp)
  obtain ⟨⟨t, s8⟩, hu⟩ : ∃ p, p = qTyp 64 ⟨all, nd, false⟩ := ⟨_, rfl⟩
  obtain ⟨uk, un, uns, ul⟩ := t
  have HT2 := Lib.hid (HTY.out uk un uns ul s8 hu)
  have HON := Lib.hid (show out = if s8.bad = true ∨ (hd s8.ts).k ≠ 6 ∨ s8.nd ≠ 0 then none else some (.mk uk un uns ul) by rw [HOUT.out, oneS, ← hu])
  clear r1 r2 hv b2 hW3 hu HOUT HTY
  go_upto_region 2 with fail
  rw [HW3.out]
  go_wp2_with fail
  refine HT2.out.mono ?_
  rintro e w4 ⟨a2', c2', a3', c3', rfl, f4, i4, q4⟩
  obtain ⟨W5, hW5⟩ : ∃ W5, w4.alloc (.cells #[.int .i64 (uk : Nat), .string ⟨un.toArray⟩, .slice a2' uns.length c2', .slice a3' ul.length c3'] 31) = W5 := ⟨_, rfl⟩
  have b5 : Below w4.heap.size w4 W5 := by rw [← hW5]; exact (Below.refl _ _).alloc (Nat.le_refl _) _
  have hX5 : Fou W5 w4.heap.size 31 (.int .i64 (uk : Nat)) (.string ⟨un.toArray⟩) (.slice a2' uns.length c2') (.slice a3' ul.length c3') := by rw [← hW5]; exact heap_alloc_new w4 _
  have q5 := q4.below b5
  have hA5 : Fou W5 w.heap.size 31 _ _ _ _ := (f4.below b5).cells HA3.out (by decide)
  have HU5 := Lib.hid ((i4.below b5).mono (A' := fun b => w.heap.size < b) (fun b _ hb => by have := HB3.out.size; have := HS1.out; omega))
  have HB5 := Lib.hid (show Below w.heap.size w W5 from (HB1.out.trans (HB3.out.mono HB1.out.size)).trans (((f4.below b5).belows HB3.out.size).mono HB1.out.size))
  obtain ⟨g, cap, i, vd, h6, hi, hbig, hg, c0, c1, c2, -⟩ := q5.first
  obtain ⟨vt', vd', i', xs', k6, -, k8, -⟩ := q5.ex
  rw [h6] at k6
  simp only [Option.some.injEq, Obj.cells.injEq, Array.mk.injEq, List.cons.injEq, and_true] at k6
  obtain ⟨-, -, rfl, -⟩ := k6
  obtain ⟨ad, cd, rfl⟩ := row_slice k8
  obtain ⟨⟨p0, p1, p2, p3⟩, -⟩ := fou_of h6
  obtain ⟨⟨d0, d1, d2, d3⟩, e0, e1, e2, e3⟩ := fou_of hA5
  obtain ⟨⟨z0, z1, z2, z3⟩, -⟩ := fou_of hX5
  have HA5 := Lib.hid hA5
  have HW5 := Lib.hid hW5
  obtain ⟨kk, hkk⟩ : ∃ kk, kk = (hd s8.ts).k := ⟨_, rfl⟩
  rw [← hkk] at c0 HON
  obtain ⟨n8, hn8⟩ : ∃ n8, n8 = s8.nd := ⟨_, rfl⟩
  rw [← hn8] at p2 HON
  clear f4 i4 q4 hW5 b5 hX5 q5 hA5 h6 k8 c1 c2 hkk hn8 HT2
  go_upto_region 3 with fail
  rw [HW5.out]
  cases hb8 : s8.bad with
  | true =>
    rw [hb8] at p3
    have HO2 := Lib.hid (show out = none by rw [HON.out, hb8, if_pos (.inl rfl)])
    clear hb8
    go_wp2_with fail
    exact retTB rfl rfl rfl rfl (fou_put HA5.out (.int .i64 0) (.string ⟨#[]⟩) (.slice none 0 0) (.slice none 0 0)) ⟨Below.putL HB5.out (Nat.le_refl _) [.int .i64 0, .string ⟨#[]⟩, .slice none 0 0, .slice none 0 0], by rw [HO2.out]; rfl⟩
  | false =>
    rw [hb8] at p3
    rw [hb8] at HON
    clear hb8
    by_cases hk : kk = 6
    · have hk1 : ((kk : Int) != 6) = false := by simp only [bne_eq_false_iff_eq]; omega
      by_cases hn : n8 = 0
      · have hn1 : decide ((0 : Int) < (n8 : Int)) = false := by simp only [decide_eq_false_iff_not]; omega
        have hn2 : decide (0 < n8) = false := by simp only [decide_eq_false_iff_not]; omega
        have HO2 := Lib.hid (show out = some (.mk uk un uns ul) by rw [HON.out, hk, hn]; simp)
        clear hk hn
        go_wp2_with fail
        refine retTB rfl rfl rfl rfl (fou_put HA5.out (.int .i64 (uk : Nat)) (.string ⟨un.toArray⟩) (.slice a2' uns.length c2') (.slice a3' ul.length c3')) ⟨Below.putL HB5.out (Nat.le_refl _) [.int .i64 (uk : Nat), .string ⟨un.toArray⟩, .slice a2' uns.length c2', .slice a3' ul.length c3'], ?_⟩
        · rw [HO2.out]
          exact ⟨[.int .i64 (uk : Nat), .string ⟨un.toArray⟩, .slice a2' uns.length c2', .slice a3' ul.length c3'], rfl, (HU5.out.putL w.heap.size (fun k hk => Nat.ne_of_gt hk) [.int .i64 (uk : Nat), .string ⟨un.toArray⟩, .slice a2' uns.length c2', .slice a3' ul.length c3']).mono (fun _ _ h => Nat.le_of_lt h)⟩
      · have hn1 : decide ((0 : Int) < (n8 : Int)) = true := by simp only [decide_eq_true_eq]; omega
        have hn2 : decide (0 < n8) = true := by simp only [decide_eq_true_eq]; omega
        have HO2 := Lib.hid (show out = none by rw [HON.out, if_pos (.inr (.inr hn))])
        clear hk hn
        go_wp2_with fail
        exact retTB rfl rfl rfl rfl (fou_put HA5.out (.int .i64 0) (.string ⟨#[]⟩) (.slice none 0 0) (.slice none 0 0)) ⟨Below.putL HB5.out (Nat.le_refl _) [.int .i64 0, .string ⟨#[]⟩, .slice none 0 0, .slice none 0 0], by rw [HO2.out]; rfl⟩
    · have hk1 : ((kk : Int) != 6) = true := by simp only [bne_iff_ne, ne_eq]; omega
      have HO2 := Lib.hid (show out = none by rw [HON.out, if_pos (.inr (.inl hk))])
      clear hk
      go_wp2_with fail
      exact retTB rfl rfl rfl rfl (fou_put HA5.out (.int .i64 0) (.string ⟨#[]⟩) (.slice none 0 0) (.slice none 0 0)) ⟨Below.putL HB5.out (Nat.le_refl _) [.int .i64 0, .string ⟨#[]⟩, .slice none 0 0, .slice none 0 0], by rw [HO2.out]; rfl⟩
end Go.Proofs.YtijnjoonbjdafaaGreatDoor

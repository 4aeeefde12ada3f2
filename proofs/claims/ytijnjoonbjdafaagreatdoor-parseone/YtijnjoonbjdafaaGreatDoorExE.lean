/-
  The contract of the reader of calls and fields.
-/
import Derived.Test.YtijnjoonbjdafaaGreatDoorExD
namespace Go.Proofs.YtijnjoonbjdafaaGreatDoor
set_option maxRecDepth 20000
open Go.RowKit Go.Shelf
structure Lw (w : World) (lo b : Nat) (t : TypeId) (l : List Dt) (cs : List Value) : Prop where
  blk : w.heap[b]? = some (.cells cs.toArray t (0, 0))
  ty : stT t = false
  lt : lo < b
  data : IsCs (fun k => lo < k ∧ k ≠ b) w l cs
theorem Lw.fr {n₀ : Nat} {w w' : World} {lo b : Nat} {t : TypeId} {l : List Dt} {cs : List Value} (h : Lw w lo b t l cs) (hF : Fr n₀ w w') : Lw w' lo b t l cs :=
  ⟨hF.cells h.blk h.ty, h.ty, h.lt, IsCs.fr hF _ _ h.data⟩
theorem Lw.alloc {w : World} {lo b : Nat} {t : TypeId} {l : List Dt} {cs : List Value} (h : Lw w lo b t l cs) (o : Obj) : Lw (w.alloc o) lo b t l cs := h.fr (n₀ := 0) ((Fr.refl _ _).alloc o)
theorem Lw.below {w w' : World} {lo b : Nat} {t : TypeId} {l : List Dt} {cs : List Value} (h : Lw w lo b t l cs) (hb : Below w.heap.size w w') : Lw w' lo b t l cs := h.fr (n₀ := 0) (Fr.of_below hb)
theorem Lw.new {w : World} {lo : Nat} {t : TypeId} {l : List Dt} {cs : List Value} (ht : stT t = false) (hlo : lo < w.heap.size) {lo' : Nat} (hl : lo < lo') (h : IsCs (fun k => lo' ≤ k) w l cs) : Lw (w.alloc (.cells cs.toArray t)) lo w.heap.size t l cs :=
  ⟨heap_alloc_new w _, ht, hlo, (h.mono (A' := fun k => lo < k ∧ k ≠ w.heap.size) (fun b hb' hb => ⟨by omega, by omega⟩)).below ((Below.refl _ _).alloc (Nat.le_refl _) _)⟩
theorem Lw.put {w : World} {lo b : Nat} {t : TypeId} {l l' : List Dt} {cs cs' : List Value} (h : Lw w lo b t l cs) (hl : cs'.length = cs.length) (h' : IsCs (fun k => lo < k ∧ k ≠ b) w l' cs') : Lw (putL w b cs') lo b t l' cs' :=
  ⟨putL_at h.blk (by simpa using hl), h.ty, h.lt, h'.putL b (fun k hk => hk.2) cs'⟩
set_option maxHeartbeats 1000000 in
theorem call_any {B M : Nat} {pb : Nat} {all : List Tk} (k d : Nat) (hd64 : d ≤ 64)
    (HE : ∀ w ts told, PS B M w pb all ts told → Calls Tryz.prog 47 #[.pointer (some ⟨pb, 0, none⟩), .int .i64 ((d + 1 : Nat) : Int)] w (Post B M w pb all told (vE w.heap.size) (exp k ts)))
    (HBA : ∀ w ts told, PS B M w pb all ts told → Calls Tryz.prog 137 #[.pointer (some ⟨pb, 0, none⟩), .int .i64 (d : Nat)] w (Post B M w pb all told (vE w.heap.size) (basicP (typ k) (exp k) ts)))
    (w : World) (ts : List Tk) (told : List Dn) (h : PS B M w pb all ts told) :
    Calls Tryz.prog 92 #[.pointer (some ⟨pb, 0, none⟩), .int .i64 (d : Nat)] w (Post B M w pb all told (vE w.heap.size) ((basicP (typ k) (exp k) ts).bind fun e r => callP (exp k) r.length e r)) := by
  have HBA := Lib.hid HBA
  have HLEN := Lib.hid h.len
  have HE := Lib.hid HE
  have HPB := Lib.hid h.lt
  have P0 := Lib.hid (h.alloc zE).nil
  have A0 := Lib.hid (show (w.alloc zE).heap[w.heap.size]? = some zE from heap_alloc_new w zE)
  have F0 := Lib.hid ((Fr.refl B w).alloc zE)
  have Z0 := Lib.hid (show w.heap.size < (w.alloc zE).heap.size by simp)
  clear h
  obtain ⟨res, hres⟩ : ∃ res, res = (basicP (typ k) (exp k) ts).bind fun e r => callP (exp k) r.length e r := ⟨_, rfl⟩
  rw [← hres]
  have HQ0 := Lib.hid (tellq hres)
  clear hres
  have HD := Lib.hid (show ((d : Int) + 1) = ((d + 1 : Nat) : Int) by omega)
  go_enter Tryz.func92, Tryz.ntmps92
  go_wp2_with fail
  refine (HBA.out _ _ _ P0.out).mono ?_
  rintro e w1 ⟨f1, h1⟩
  cases hr1 : basicP (typ k) (exp k) ts with
  | bad y r d =>
    rw [hr1] at h1
    obtain ⟨rfl, p1⟩ := h1
    go_wp2_with fail
    exact panics rfl (.bad (HQ0.out.trans (by rw [hr1, R.bind_bad, R.tell_bad])) (F0.out.trans f1) p1.assoc)
  | ok x1 r1 d1 =>
  have HS1 := Lib.hid (show r1.length ≤ ts.length by have := basic_shr (typ k) (exp k) (lvT_shr k).1 (exp_shr k) ts; rw [hr1] at this; exact this)
  rw [hr1] at h1
  obtain ⟨⟨cs1, rfl, hcs1⟩, p1⟩ := h1
  obtain ⟨kb, ab, nb, mb, p4b, n4b, c4b, p5b, n5b, c5b, p6b, n6b, c6b, rfl⟩ := cells_E hcs1
  have HQ1 := Lib.hid (HQ0.out.trans (by rw [hr1, R.bind_ok, R.tell_tell]))
  have P1 := Lib.hid (p1.assoc.alloc (.cells #[.int .i64 kb, .int .i64 ab, .string nb, .int .i64 mb, .slice p4b n4b c4b, .slice p5b n5b c5b, .slice p6b n6b c6b] 36))
  have F1 := Lib.hid ((F0.out.trans f1).alloc (.cells #[.int .i64 kb, .int .i64 ab, .string nb, .int .i64 mb, .slice p4b n4b c4b, .slice p5b n5b c5b, .slice p6b n6b c6b] 36))
  have A1 := Lib.hid (blk_alloc (f1.cells A0.out (by decide)) (.cells #[.int .i64 kb, .int .i64 ab, .string nb, .int .i64 mb, .slice p4b n4b c4b, .slice p5b n5b c5b, .slice p6b n6b c6b] 36))
  have hz1 := Nat.lt_of_lt_of_le Z0.out f1.size
  have Z1 := Lib.hid (show w.heap.size < (w1.alloc (.cells #[.int .i64 kb, .int .i64 ab, .string nb, .int .i64 mb, .slice p4b n4b c4b, .slice p5b n5b c5b, .slice p6b n6b c6b] 36)).heap.size by simp; omega)
  have Lb1 := Lib.hid (Lw.new (t := 36) (by decide) hz1 Z0.out hcs1)
  clear hr1 p1 f1 HQ0 P0 F0 A0 Z0
  clear hz1 hcs1
  go_wp2_with fail
  have hfl := fld72_1
  have HFL := Lib.hid hfl
  clear hfl
  obtain ⟨vb, hvb⟩ : ∃ vb, w1.heap.size = vb := ⟨_, rfl⟩
  rw [hvb] at Lb1
  rw [hvb]
  have HVB := Lib.hid (show pb < vb by have := Lb1.out.lt; have := HPB.out; omega)
  clear hvb
  go_loopw [] (fun wr => ∃ (e : PE) (ts' : List Tk) (ds' : List Dn) (n : Nat), ts'.length ≤ n ∧ PS B M wr pb all ts' (told ++ ds') ∧ Fr B w wr ∧ wr.heap[w.heap.size]? = some zE ∧ w.heap.size < wr.heap.size ∧ (∃ cs, Lw wr w.heap.size vb 36 (encE 26 36 e) cs) ∧ Hid (res = (callP (exp k) n e ts').tell ds')) (fun wr => left pb all wr)
  case atStart =>
    exact ⟨x1, r1, _, r1.length, Nat.le_refl _, P1.out, F1.out, A1.out, Z1.out, ⟨_, Lb1.out⟩, HQ1⟩
  case round =>
    obtain ⟨e, ts', ds', n, hn, hp, hF, hA, hz, ⟨cs, hLb⟩, hq⟩ := hrel
    obtain ⟨ke, ae, ne, me, p4e, n4e, c4e, p5e, n5e, c5e, p6e, n6e, c6e, rfl⟩ := cells_E hLb.data
    have HN := Lib.hid hn
    have HLE := Lib.hid hp.left
    have HL' := Lib.hid hp.len
    have HTL := Lib.hid (tail_of hp.len.2)
    have HNW := Lib.hid (now_any hp)
    have P0 := Lib.hid hp
    have F0 := Lib.hid hF
    have A0 := Lib.hid hA
    have Z0 := Lib.hid hz
    have Lb0 := Lib.hid hLb
    clear hn hp hF hA hz hLb P1 F1 A1 Z1 Lb1 HQ1
    obtain ⟨t, ht⟩ : ∃ t, t = hd ts' := ⟨_, rfl⟩
    have HT := Lib.hid ht
    rw [← ht] at HNW
    clear ht
    have hfl := HFL.out
    go_wp2_with fail
    refine HNW.out.mono ?_
    rintro e' w2 ⟨rfl, b2⟩
    have P2 := Lib.hid (P0.out.below b2)
    have F2 := Lib.hid (F0.out.below b2)
    have A2 := Lib.hid ((b2.block _ (Array.getElem?_eq_some_iff.1 A0.out).1).trans A0.out)
    have Z2 := Lib.hid (Nat.lt_of_lt_of_le Z0.out b2.size)
    have Lb2 := Lib.hid (Lb0.out.below b2)
    clear b2 P0 F0 A0 Z0 Lb0
    unfold tokV
    go_wp2_with fail
    clear hfl
    refine (takes_any P2.out [40]).mono ?_
    rintro e' w3 ⟨rfl, p3, f3⟩
    have F3 := Lib.hid (F2.out.trans f3)
    have A3 := Lib.hid (f3.cells A2.out (by decide))
    have Z3 := Lib.hid (Nat.lt_of_lt_of_le Z2.out f3.size)
    have Lb3 := Lib.hid (Lb2.out.fr f3)
    clear f3 P2 F2 A2 Z2 Lb2
    cases hm : isM [40] ts' with
    | true =>
      simp only [hm, if_true] at p3
      have P3 := Lib.hid p3
      obtain ⟨n', rfl⟩ : ∃ n', n = n' + 1 := ⟨n - 1, by have := HN.out; have := HL'.out.2; omega⟩
      have HQ3 := Lib.hid (show res = R.tell ds' ((exp k ts'.tail).bind fun g r => (want [41] r).bind fun _ r => callP (exp k) n' (.mk 7 t.a [] 0 [] [e, g] []) r) by rw [hq.out, callP, hm, if_pos rfl, HT.out])
      clear hm p3 hq
      go_wp2_with fail
      rw [HD.out]
      refine (HE.out _ _ _ P3.out).mono ?_
      rintro e w4 ⟨f4, h4⟩
      cases hr4 : exp k ts'.tail with
      | bad y r d =>
        rw [hr4] at h4
        obtain ⟨rfl, p4⟩ := h4
        go_wp2_with fail
        exact panics rfl (.bad (HQ3.out.trans (by rw [hr4, R.bind_bad, R.tell_bad])) (F3.out.trans f4) p4.assoc)
      | ok y r4 d4 =>
      have HS4 := Lib.hid (show r4.length ≤ ts'.tail.length by have := exp_shr k ts'.tail; rw [hr4] at this; exact this)
      rw [hr4] at h4
      obtain ⟨⟨cs4, rfl, hcs4⟩, p4⟩ := h4
      obtain ⟨kLg, aLg, nLg, mLg, p4Lg, n4Lg, c4Lg, p5Lg, n5Lg, c5Lg, p6Lg, n6Lg, c6Lg, rfl⟩ := cells_E hcs4
      have HQ4 := Lib.hid (HQ3.out.trans (by rw [hr4, R.bind_ok, R.tell_tell]))
      have P4 := Lib.hid (p4.assoc.alloc (.cells #[.int .i64 kLg, .int .i64 aLg, .string nLg, .int .i64 mLg, .slice p4Lg n4Lg c4Lg, .slice p5Lg n5Lg c5Lg, .slice p6Lg n6Lg c6Lg] 36))
      have F4 := Lib.hid ((F3.out.trans f4).alloc (.cells #[.int .i64 kLg, .int .i64 aLg, .string nLg, .int .i64 mLg, .slice p4Lg n4Lg c4Lg, .slice p5Lg n5Lg c5Lg, .slice p6Lg n6Lg c6Lg] 36))
      have A4 := Lib.hid (blk_alloc (f4.cells A3.out (by decide)) (.cells #[.int .i64 kLg, .int .i64 aLg, .string nLg, .int .i64 mLg, .slice p4Lg n4Lg c4Lg, .slice p5Lg n5Lg c5Lg, .slice p6Lg n6Lg c6Lg] 36))
      have hz4 := Nat.lt_of_lt_of_le Z3.out f4.size
      have Z4 := Lib.hid (show w.heap.size < (w4.alloc (.cells #[.int .i64 kLg, .int .i64 aLg, .string nLg, .int .i64 mLg, .slice p4Lg n4Lg c4Lg, .slice p5Lg n5Lg c5Lg, .slice p6Lg n6Lg c6Lg] 36)).heap.size by simp; omega)
      have Lg4 := Lib.hid (Lv.new (t := 36) (by decide) (Nat.lt_of_lt_of_le (Array.getElem?_eq_some_iff.1 Lb3.out.blk).1 f4.size) (Array.getElem?_eq_some_iff.1 Lb3.out.blk).1 hcs4)
      have Lb4 := Lib.hid ((Lb3.out.fr f4).alloc (.cells #[.int .i64 kLg, .int .i64 aLg, .string nLg, .int .i64 mLg, .slice p4Lg n4Lg c4Lg, .slice p5Lg n5Lg c5Lg, .slice p6Lg n6Lg c6Lg] 36))
      clear hr4 p4 f4 HQ3 P3 F3 A3 Z3 Lb3
      clear hz4 hcs4
      go_wp2_with fail
      refine (want_any P4.out [41]).mono ?_
      rintro e w5 ⟨f5, h5⟩
      cases hr5 : want [41] r4 with
      | bad y r d =>
        rw [hr5] at h5
        obtain ⟨rfl, p5⟩ := h5
        go_wp2_with fail
        exact panics rfl (.bad (HQ4.out.trans (by rw [hr5, R.bind_bad, R.tell_bad])) (F4.out.trans f5) p5.assoc)
      | ok x5 r5 d5 =>
      have HS5 := Lib.hid (show r5.length ≤ r4.length by have := want_shr [41] r4; rw [hr5] at this; exact this)
      rw [hr5] at h5
      obtain ⟨h5, p5⟩ := h5
      cases h5
      have HQ5 := Lib.hid (HQ4.out.trans (by rw [hr5, R.bind_ok, R.tell_tell]))
      have P5 := Lib.hid p5.assoc
      have F5 := Lib.hid (F4.out.trans f5)
      have A5 := Lib.hid (f5.cells A4.out (by decide))
      have Z5 := Lib.hid (Nat.lt_of_lt_of_le Z4.out f5.size)
      have Lb5 := Lib.hid (Lb4.out.fr f5)
      have Lg5 := Lib.hid (Lg4.out.fr f5)
      clear hr5 p5 f5 HQ4 P4 F4 A4 Z4 Lb4 Lg4
      go_upto_region 7 with fail
      have HSX := Lib.hid (show r5.length ≤ ts'.tail.length by have a1 := HS4.out; have a2 := HS5.out; omega)
      obtain ⟨W, rfl⟩ : ∃ W, W = w5 := ⟨_, rfl⟩
      obtain ⟨⟨gg0, gg1, gg2, gg3, gg4, gg5, gg6⟩, -⟩ := sev_of (show Sev W _ 36 (.int .i64 kLg) (.int .i64 aLg) (.string nLg) (.int .i64 mLg) (.slice p4Lg n4Lg c4Lg) (.slice p5Lg n5Lg c5Lg) (.slice p6Lg n6Lg c6Lg) from Lg5.out.blk)
      obtain ⟨⟨gx0, gx1, gx2, gx3, gx4, gx5, gx6⟩, -⟩ := sev_of (show Sev W vb 36 (.int .i64 ke) (.int .i64 ae) (.string ne) (.int .i64 me) (.slice p4e n4e c4e) (.slice p5e n5e c5e) (.slice p6e n6e c6e) from Lb5.out.blk)
      have hvl : vb < W.heap.size := (Array.getElem?_eq_some_iff.1 Lb5.out.blk).1
      have hvn : ¬ vb = W.heap.size := Nat.ne_of_lt hvl
      have HTH := Lib.hid (there_of (Lb5.out.alloc (.cells #[.int .i64 ke, .int .i64 ae, .string ne, .int .i64 me, .slice p4e n4e c4e, .slice p5e n5e c5e, .slice p6e n6e c6e, .int .i64 kLg, .int .i64 aLg, .string nLg, .int .i64 mLg, .slice p4Lg n4Lg c4Lg, .slice p5Lg n5Lg c5Lg, .slice p6Lg n6Lg c6Lg] 36)).blk rfl)
      go_wp2_with (first | (refine wpList_store_put rfl 36 (.tmp 5) (.tmp 29) rfl vb _ rfl rfl HTH.out size49 (all_oneCell_toArray (by simp [Value.oneCell'])) ?_; intro W9 hW9))
      have e9 : W9 = putL (W.alloc (.cells #[.int .i64 ke, .int .i64 ae, .string ne, .int .i64 me, .slice p4e n4e c4e, .slice p5e n5e c5e, .slice p6e n6e c6e, .int .i64 kLg, .int .i64 aLg, .string nLg, .int .i64 mLg, .slice p4Lg n4Lg c4Lg, .slice p5Lg n5Lg c5Lg, .slice p6Lg n6Lg c6Lg] 36)) vb [.int .i64 7, .int .i64 (t.a : Nat), .string ⟨#[]⟩, .int .i64 0, .slice none 0 0, .slice (some ⟨W.heap.size, 0, none⟩) 2 2, .slice none 0 0] := hW9.out
      subst e9
      have CC : IsCs (fun b => w.heap.size < b ∧ b ≠ vb) W (encEs 26 36 [e, y]) [.int .i64 ke, .int .i64 ae, .string ne, .int .i64 me, .slice p4e n4e c4e, .slice p5e n5e c5e, .slice p6e n6e c6e, .int .i64 kLg, .int .i64 aLg, .string nLg, .int .i64 mLg, .slice p4Lg n4Lg c4Lg, .slice p5Lg n5Lg c5Lg, .slice p6Lg n6Lg c6Lg] := by
        have := (Lb5.out.data.append _ _ _ _ (Lg5.out.data.mono (A' := fun b => w.heap.size < b ∧ b ≠ vb) (fun b _ hb => ⟨Nat.lt_trans Lb5.out.lt hb, Nat.ne_of_gt hb⟩)))
        simpa [encEs] using this
      have C2 := row_lit (e := 36) (size := 7) (n := 2) (g := W.heap.size) (by decide) rfl ⟨Z5.out, Nat.ne_of_gt hvl⟩ (by decide) rfl CC
      have C3 := IsCs.cons (IsC.num _ _ 7) (IsCs.cons (IsC.num _ _ t.a) (IsCs.cons (IsC.str _ _ []) (IsCs.cons (IsC.num _ _ 0) (IsCs.cons (IsC.none _ _ 1 (e := 9) (by decide)) (IsCs.cons C2 (IsCs.cons (IsC.none _ _ 4 (e := 26) (by decide)) (IsCs.nil _ _)))))))
      have lw : Lw (putL (W.alloc (.cells #[.int .i64 ke, .int .i64 ae, .string ne, .int .i64 me, .slice p4e n4e c4e, .slice p5e n5e c5e, .slice p6e n6e c6e, .int .i64 kLg, .int .i64 aLg, .string nLg, .int .i64 mLg, .slice p4Lg n4Lg c4Lg, .slice p5Lg n5Lg c5Lg, .slice p6Lg n6Lg c6Lg] 36)) vb [.int .i64 7, .int .i64 (t.a : Nat), .string ⟨#[]⟩, .int .i64 0, .slice none 0 0, .slice (some ⟨W.heap.size, 0, none⟩) 2 2, .slice none 0 0]) w.heap.size vb 36 (encE 26 36 (.mk 7 t.a [] 0 [] [e, y] [])) [.int .i64 7, .int .i64 (t.a : Nat), .string ⟨#[]⟩, .int .i64 0, .slice none 0 0, .slice (some ⟨W.heap.size, 0, none⟩) 2 2, .slice none 0 0] := (Lb5.out.alloc (.cells #[.int .i64 ke, .int .i64 ae, .string ne, .int .i64 me, .slice p4e n4e c4e, .slice p5e n5e c5e, .slice p6e n6e c6e, .int .i64 kLg, .int .i64 aLg, .string nLg, .int .i64 mLg, .slice p4Lg n4Lg c4Lg, .slice p5Lg n5Lg c5Lg, .slice p6Lg n6Lg c6Lg] 36)).put rfl C3
      have pp := (P5.out.alloc (.cells #[.int .i64 ke, .int .i64 ae, .string ne, .int .i64 me, .slice p4e n4e c4e, .slice p5e n5e c5e, .slice p6e n6e c6e, .int .i64 kLg, .int .i64 aLg, .string nLg, .int .i64 mLg, .slice p4Lg n4Lg c4Lg, .slice p5Lg n5Lg c5Lg, .slice p6Lg n6Lg c6Lg] 36)).putL (Lb5.out.alloc (.cells #[.int .i64 ke, .int .i64 ae, .string ne, .int .i64 me, .slice p4e n4e c4e, .slice p5e n5e c5e, .slice p6e n6e c6e, .int .i64 kLg, .int .i64 aLg, .string nLg, .int .i64 mLg, .slice p4Lg n4Lg c4Lg, .slice p5Lg n5Lg c5Lg, .slice p6Lg n6Lg c6Lg] 36)).blk (by decide) HVB.out [.int .i64 7, .int .i64 (t.a : Nat), .string ⟨#[]⟩, .int .i64 0, .slice none 0 0, .slice (some ⟨W.heap.size, 0, none⟩) 2 2, .slice none 0 0]
      refine ⟨⟨.mk 7 t.a [] 0 [] [e, y] [], r5, _, n', ?_, pp, (F5.out.alloc (.cells #[.int .i64 ke, .int .i64 ae, .string ne, .int .i64 me, .slice p4e n4e c4e, .slice p5e n5e c5e, .slice p6e n6e c6e, .int .i64 kLg, .int .i64 aLg, .string nLg, .int .i64 mLg, .slice p4Lg n4Lg c4Lg, .slice p5Lg n5Lg c5Lg, .slice p6Lg n6Lg c6Lg] 36)).putL (Nat.le_of_lt Lb5.out.lt) [.int .i64 7, .int .i64 (t.a : Nat), .string ⟨#[]⟩, .int .i64 0, .slice none 0 0, .slice (some ⟨W.heap.size, 0, none⟩) 2 2, .slice none 0 0], (putL_far vb _ _ _ _ (Nat.ne_of_lt Lb5.out.lt)).trans (blk_alloc A5.out (.cells #[.int .i64 ke, .int .i64 ae, .string ne, .int .i64 me, .slice p4e n4e c4e, .slice p5e n5e c5e, .slice p6e n6e c6e, .int .i64 kLg, .int .i64 aLg, .string nLg, .int .i64 mLg, .slice p4Lg n4Lg c4Lg, .slice p5Lg n5Lg c5Lg, .slice p6Lg n6Lg c6Lg] 36)), ?_, ⟨_, lw⟩, HQ5⟩, ?_⟩
      · have := HSX.out; have := HTL.out; have := HN.out; omega
      · rw [(putL_same vb [.int .i64 7, .int .i64 (t.a : Nat), .string ⟨#[]⟩, .int .i64 0, .slice none 0 0, .slice (some ⟨W.heap.size, 0, none⟩) 2 2, .slice none 0 0] 0 (W.alloc (.cells #[.int .i64 ke, .int .i64 ae, .string ne, .int .i64 me, .slice p4e n4e c4e, .slice p5e n5e c5e, .slice p6e n6e c6e, .int .i64 kLg, .int .i64 aLg, .string nLg, .int .i64 mLg, .slice p4Lg n4Lg c4Lg, .slice p5Lg n5Lg c5Lg, .slice p6Lg n6Lg c6Lg] 36))).2.2.2]
        have := Z5.out
        simp; omega
      · rw [pp.left, HLE.out]
        have := HSX.out; have := HTL.out; omega
    | false =>
      simp only [hm, Bool.false_eq_true, if_false] at p3
      have P3 := Lib.hid p3
      have HM3 := Lib.hid hm
      clear hm p3
      go_wp2_with fail
      refine (takes_any P3.out [46]).mono ?_
      rintro e' w4 ⟨rfl, p4, f4⟩
      have F4 := Lib.hid (F3.out.trans f4)
      have A4 := Lib.hid (f4.cells A3.out (by decide))
      have Z4 := Lib.hid (Nat.lt_of_lt_of_le Z3.out f4.size)
      have Lb4 := Lib.hid (Lb3.out.fr f4)
      clear f4 P3 F3 A3 Z3 Lb3
      cases hm : isM [46] ts' with
      | true =>
        simp only [hm, if_true] at p4
        have P4 := Lib.hid p4
        obtain ⟨n', rfl⟩ : ∃ n', n = n' + 1 := ⟨n - 1, by have := HN.out; have := HL'.out.2; omega⟩
        have HQ4 := Lib.hid (show res = R.tell ds' ((wantName ts'.tail).bind fun nm r => callP (exp k) n' (.mk 6 nm.a nm.t 0 [] [e] []) r) by rw [hq.out, callP, HM3.out, hm]; rfl)
        clear hm p4 hq
        go_wp2_with fail
        refine (wantName_any P4.out).mono ?_
        rintro e w5 ⟨f5, h5⟩
        cases hr5 : wantName ts'.tail with
        | bad y r d =>
          rw [hr5] at h5
          obtain ⟨rfl, p5⟩ := h5
          go_wp2_with fail
          exact panics rfl (.bad (HQ4.out.trans (by rw [hr5, R.bind_bad, R.tell_bad])) (F4.out.trans f5) p5.assoc)
        | ok nm r5 d5 =>
        have HS5 := Lib.hid (show r5.length ≤ ts'.tail.length by have := wantName_shr ts'.tail; rw [hr5] at this; exact this)
        rw [hr5] at h5
        obtain ⟨h5, p5⟩ := h5
        cases h5
        unfold tokV
        have HQ5 := Lib.hid (HQ4.out.trans (by rw [hr5, R.bind_ok, R.tell_tell]))
        have P5 := Lib.hid (p5.assoc.alloc (.cells #[.int .i64 (nm.k : Nat), .int .i64 (nm.a : Nat), .string ⟨nm.t.toArray⟩] 105))
        have F5 := Lib.hid ((F4.out.trans f5).alloc (.cells #[.int .i64 (nm.k : Nat), .int .i64 (nm.a : Nat), .string ⟨nm.t.toArray⟩] 105))
        have A5 := Lib.hid (blk_alloc (f5.cells A4.out (by decide)) (.cells #[.int .i64 (nm.k : Nat), .int .i64 (nm.a : Nat), .string ⟨nm.t.toArray⟩] 105))
        have hz5 := Nat.lt_of_lt_of_le Z4.out f5.size
        have Z5 := Lib.hid (show w.heap.size < (w5.alloc (.cells #[.int .i64 (nm.k : Nat), .int .i64 (nm.a : Nat), .string ⟨nm.t.toArray⟩] 105)).heap.size by simp; omega)
        have Ln5 := Lib.hid (Lv.newTok hz5 nm)
        have Lb5 := Lib.hid ((Lb4.out.fr f5).alloc (.cells #[.int .i64 (nm.k : Nat), .int .i64 (nm.a : Nat), .string ⟨nm.t.toArray⟩] 105))
        clear hr5 p5 f5 HQ4 P4 F4 A4 Z4 Lb4
        clear hz5 
        go_upto_region 10 with fail
        have HSX := Lib.hid (show r5.length ≤ ts'.tail.length from HS5.out)
        obtain ⟨W, hW⟩ : ∃ W, w5.alloc (.cells #[.int .i64 (nm.k : Nat), .int .i64 (nm.a : Nat), .string ⟨nm.t.toArray⟩] 105) = W := ⟨_, rfl⟩
        rw [hW] at P5 F5 A5 Z5 Lb5 Ln5
        rw [hW]
        clear hW
        obtain ⟨⟨gg0, gg1, gg2⟩, -⟩ := thr_of (show Thr W _ 105 (.int .i64 (nm.k : Nat)) (.int .i64 (nm.a : Nat)) (.string ⟨nm.t.toArray⟩) from Ln5.out.blk)
        obtain ⟨⟨gx0, gx1, gx2, gx3, gx4, gx5, gx6⟩, -⟩ := sev_of (show Sev W vb 36 (.int .i64 ke) (.int .i64 ae) (.string ne) (.int .i64 me) (.slice p4e n4e c4e) (.slice p5e n5e c5e) (.slice p6e n6e c6e) from Lb5.out.blk)
        have hvl : vb < W.heap.size := (Array.getElem?_eq_some_iff.1 Lb5.out.blk).1
        have hvn : ¬ vb = W.heap.size := Nat.ne_of_lt hvl
        have HTH := Lib.hid (there_of (Lb5.out.alloc (.cells #[.int .i64 ke, .int .i64 ae, .string ne, .int .i64 me, .slice p4e n4e c4e, .slice p5e n5e c5e, .slice p6e n6e c6e] 36)).blk rfl)
        go_wp2_with (first | (refine wpList_store_put rfl 36 (.tmp 5) (.tmp 41) rfl vb _ rfl rfl HTH.out size49 (all_oneCell_toArray (by simp [Value.oneCell'])) ?_; intro W9 hW9))
        have e9 : W9 = putL (W.alloc (.cells #[.int .i64 ke, .int .i64 ae, .string ne, .int .i64 me, .slice p4e n4e c4e, .slice p5e n5e c5e, .slice p6e n6e c6e] 36)) vb [.int .i64 6, .int .i64 (nm.a : Nat), .string ⟨nm.t.toArray⟩, .int .i64 0, .slice none 0 0, .slice (some ⟨W.heap.size, 0, none⟩) 1 1, .slice none 0 0] := hW9.out
        subst e9
        have CC : IsCs (fun b => w.heap.size < b ∧ b ≠ vb) W (encEs 26 36 [e]) [.int .i64 ke, .int .i64 ae, .string ne, .int .i64 me, .slice p4e n4e c4e, .slice p5e n5e c5e, .slice p6e n6e c6e] := by
          have := Lb5.out.data
          simpa [encEs] using this
        have C2 := row_lit (e := 36) (size := 7) (n := 1) (g := W.heap.size) (by decide) rfl ⟨Z5.out, Nat.ne_of_gt hvl⟩ (by decide) rfl CC
        have C3 := IsCs.cons (IsC.num _ _ 6) (IsCs.cons (IsC.num _ _ nm.a) (IsCs.cons (IsC.str _ _ nm.t) (IsCs.cons (IsC.num _ _ 0) (IsCs.cons (IsC.none _ _ 1 (e := 9) (by decide)) (IsCs.cons C2 (IsCs.cons (IsC.none _ _ 4 (e := 26) (by decide)) (IsCs.nil _ _)))))))
        have lw : Lw (putL (W.alloc (.cells #[.int .i64 ke, .int .i64 ae, .string ne, .int .i64 me, .slice p4e n4e c4e, .slice p5e n5e c5e, .slice p6e n6e c6e] 36)) vb [.int .i64 6, .int .i64 (nm.a : Nat), .string ⟨nm.t.toArray⟩, .int .i64 0, .slice none 0 0, .slice (some ⟨W.heap.size, 0, none⟩) 1 1, .slice none 0 0]) w.heap.size vb 36 (encE 26 36 (.mk 6 nm.a nm.t 0 [] [e] [])) [.int .i64 6, .int .i64 (nm.a : Nat), .string ⟨nm.t.toArray⟩, .int .i64 0, .slice none 0 0, .slice (some ⟨W.heap.size, 0, none⟩) 1 1, .slice none 0 0] := (Lb5.out.alloc (.cells #[.int .i64 ke, .int .i64 ae, .string ne, .int .i64 me, .slice p4e n4e c4e, .slice p5e n5e c5e, .slice p6e n6e c6e] 36)).put rfl C3
        have pp := (P5.out.alloc (.cells #[.int .i64 ke, .int .i64 ae, .string ne, .int .i64 me, .slice p4e n4e c4e, .slice p5e n5e c5e, .slice p6e n6e c6e] 36)).putL (Lb5.out.alloc (.cells #[.int .i64 ke, .int .i64 ae, .string ne, .int .i64 me, .slice p4e n4e c4e, .slice p5e n5e c5e, .slice p6e n6e c6e] 36)).blk (by decide) HVB.out [.int .i64 6, .int .i64 (nm.a : Nat), .string ⟨nm.t.toArray⟩, .int .i64 0, .slice none 0 0, .slice (some ⟨W.heap.size, 0, none⟩) 1 1, .slice none 0 0]
        refine ⟨⟨.mk 6 nm.a nm.t 0 [] [e] [], r5, _, n', ?_, pp, (F5.out.alloc (.cells #[.int .i64 ke, .int .i64 ae, .string ne, .int .i64 me, .slice p4e n4e c4e, .slice p5e n5e c5e, .slice p6e n6e c6e] 36)).putL (Nat.le_of_lt Lb5.out.lt) [.int .i64 6, .int .i64 (nm.a : Nat), .string ⟨nm.t.toArray⟩, .int .i64 0, .slice none 0 0, .slice (some ⟨W.heap.size, 0, none⟩) 1 1, .slice none 0 0], (putL_far vb _ _ _ _ (Nat.ne_of_lt Lb5.out.lt)).trans (blk_alloc A5.out (.cells #[.int .i64 ke, .int .i64 ae, .string ne, .int .i64 me, .slice p4e n4e c4e, .slice p5e n5e c5e, .slice p6e n6e c6e] 36)), ?_, ⟨_, lw⟩, HQ5⟩, ?_⟩
        · have := HSX.out; have := HTL.out; have := HN.out; omega
        · rw [(putL_same vb [.int .i64 6, .int .i64 (nm.a : Nat), .string ⟨nm.t.toArray⟩, .int .i64 0, .slice none 0 0, .slice (some ⟨W.heap.size, 0, none⟩) 1 1, .slice none 0 0] 0 (W.alloc (.cells #[.int .i64 ke, .int .i64 ae, .string ne, .int .i64 me, .slice p4e n4e c4e, .slice p5e n5e c5e, .slice p6e n6e c6e] 36))).2.2.2]
          have := Z5.out
          simp; omega
        · rw [pp.left, HLE.out]
          have := HSX.out; have := HTL.out; omega
      | false =>
        simp only [hm, Bool.false_eq_true, if_false] at p4
        have P4 := Lib.hid p4
        have hun : callP (exp k) n e ts' = .ok e ts' [] := by
          cases n with
          | zero => rfl
          | succ n => rw [callP, HM3.out, hm]; rfl
        have HW := Lib.hid (show res = .ok e ts' (ds' ++ []) by rw [hq.out, hun]; rfl)
        have HTH := Lib.hid (there_of A4.out rfl)
        obtain ⟨⟨g0, g1, g2, g3, g4, g5, g6⟩, -⟩ := sev_of (t := 36) Lb4.out.blk
        clear hm p4 hq hun
        go_wp2_with (first | (refine wpList_store_put rfl 36 (.tmp 4) (.tmp 15) rfl w.heap.size _ rfl rfl HTH.out size49 (all_oneCell_toArray (by simp [Value.oneCell'])) ?_; intro W9 hW9))
        have e9 : W9 = putL w4 w.heap.size [.int .i64 ke, .int .i64 ae, .string ne, .int .i64 me, .slice p4e n4e c4e, .slice p5e n5e c5e, .slice p6e n6e c6e] := hW9.out
        subst e9
        exact ret49 rfl rfl rfl (putL_at (vs := [_, _, _, _, _, _, _]) A4.out rfl) (giveE HW.out A4.out F4.out (P4.out.told_eq (by simp)) HPB.out (Lb4.out.data.mono (fun b _ hb => hb.1)))
end Go.Proofs.YtijnjoonbjdafaaGreatDoor

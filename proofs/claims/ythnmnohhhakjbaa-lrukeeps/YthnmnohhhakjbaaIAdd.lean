/-
  The contract of (*List).add.
-/
import Derived.Test.YthnmnohhhakjbaaIFind
import Derived.Deep.DeepCutAuto
namespace Go.Proofs.Ythnmnohhhakjbaa.I
open Go.RowKit Go.Maps

theorem infoPT : (Try.prog.info? 66).map (fun i => (i.zero, i.size, i.bytes)) = some (some (.agg #[(Value.int .i64) (0 : Int), .int .i64 0, .int .i64 0]), 3, 24) := by kernel_rfl

theorem cell_three_new (w : World) (x y z : Value) (t : TypeId) : ∀ j u, [x, y, z][j]? = some u → (w.alloc (.cells #[x, y, z] t)).cell? ((⟨w.heap.size, 0, none⟩ : Addr).add j) = some u := by
  intro j u hj
  match j, hj with
  | 0, hj => simp at hj; subst hj; simp [Addr.add]
  | 1, hj => simp at hj; subst hj; simp [Addr.add]
  | 2, hj => simp at hj; subst hj; simp [Addr.add]

theorem row_shape {w : World} {v' : Value} {n : Nat} {xs : List Value} (h : w.ownsRow 0 66 3 v' (n + 1) xs) : ∃ g cap, v' = .slice (some ⟨g, 0, none⟩) (n + 1) cap := by
  rcases h.2 with ⟨_, hn⟩ | ⟨g, cap, cur, hv, _, _, h1, h2, _⟩
  · omega
  · exact ⟨g, cap, hv⟩

theorem setKey_last (P : List (Pl Int)) (z k : Int) : setKey (P ++ [⟨z, 0, 0⟩]) P.length k = P ++ [⟨k, 0, 0⟩] := by
  induction P with
  | nil => rfl
  | cons p r ih => simp [setKey, ih]

theorem row_ne_block {w : World} {n g cap b : Nat} {xs : List Value} {cs : Array Value} (h : w.ownsRow 0 66 3 (.slice (some ⟨g, 0, none⟩) n cap) n xs) (hb : w.heap[b]? = some (.cells cs 62 (0, 0))) : g ≠ b := by
  rintro rfl
  rcases h.2 with ⟨hv, _⟩ | ⟨g', cap', cur, hv, _, hg, _⟩
  · cases hv
  · injection hv with hv1 _ _
    injection hv1 with hv1
    injection hv1 with hv1 _ _
    rw [← hv1, hb] at hg
    cases hg

theorem row_last {w : World} {n g cap : Nat} {P : List (Pl Int)} {x y z : Value} (h : w.ownsRow 0 66 3 (.slice (some ⟨g, 0, none⟩) (P.length + 1) cap) n (flat (Value.int .i64) P ++ [x, y, z])) (hn : n = P.length + 1) : w.cell? ⟨g, P.length * 3, none⟩ = some x := by
  subst hn
  rw [h.cellAt _ (by omega), List.getElem?_append_right (by rw [flat_length]; omega), flat_length]
  simp

theorem block_behind {w1 w2 : World} {o x : Obj} {b : Nat} {row : Option Nat} (h : w1.heap[b]? = some x) (hg : (w1.alloc o).grownBy w2 row) (hne : some b ≠ row) : w2.heap[b]? = some x := by
  have hlt := (Array.getElem?_eq_some_iff.1 h).1
  exact (hg.block b (by simp; omega) hne).trans ((Below.heap_alloc w1 o b hlt).trans h)

theorem kept_grown {w w2 : World} {o : Obj} {row : Option Nat} (h : (w.alloc o).grownBy w2 row) : KeptBut (fun i => some i = row) w w2 :=
  (KeptBut.alloc _ w o).trans (KeptBut.of_grown h) (fun _ e => .inl e)

theorem map_ne_own {w : World} {m c n g cap : Nat} {D : DataW Unit} {xs : List Value} (h : w.ownsMap Try.prog 3 (plainElem Try.prog 3) m c D) (hr : w.ownsRow 0 66 3 (.slice (some ⟨g, 0, none⟩) n cap) n xs) : m ≠ g :=
  fun e => map_ne_row h hr (by rw [e]; rfl)

/-- What comes of a key that is given a place. -/
def Added (S : Nat → Prop) (w : World) (b N n : Nat) (P' : List (Pl Int)) (sp' : Int) (M' : Int → Nat) (a : Nat) (e : Ending) (w' : World) : Prop :=
  e = .returned (.int .i64 (a : Nat)) ∧ ∃ τ : Loc, τ.b = b ∧ τ.Cells w' P' sp' ∧ MapIs w' τ.m N n M' ∧ KeptBut S w w' ∧ ∀ k, k = τ.m ∨ k = τ.g → S k ∨ w.heap.size ≤ k

/-- The map behind a key that was not there. -/
theorem map_put {D : DataW Unit} {M : Int → Nat} {k : Int} (hk : kok k) (hD : Tidy D) (h : ∀ u, kok u → Maps.has D (kl u) = decide (M u ≠ 0) ∧ D.atKey (kl u) (.lit (.int .i64 0)) = .lit (.int .i64 (M u : Nat))) (hnew : M k = 0) (a : Nat) (ha : a ≠ 0) :
    Maps.size (D.put (kl k) (.lit (.int .i64 (a : Int)))) = Maps.size D + 1 ∧
    ∀ u, kok u → Maps.has (D.put (kl k) (.lit (.int .i64 (a : Int)))) (kl u) = decide (upd M k a u ≠ 0) ∧ (D.put (kl k) (.lit (.int .i64 (a : Int)))).atKey (kl u) (.lit (.int .i64 0)) = .lit (.int .i64 (upd M k a u : Nat)) := by
  have hf : Maps.has D (kl k) = false := by rw [(h k hk).1, hnew]; simp
  refine ⟨by rw [size_put hD, hf]; simp, ?_⟩
  intro u hu
  by_cases e : u = k
  · subst e
    rw [has_put_same hD.isMap (kl_lit u), atKey_put_same hD.isMap (kl_lit u), upd_same]
    exact ⟨by simp [ha], rfl⟩
  · rw [has_put_other (kl_ne e), atKey_put_other (kl_ne e), upd_other M a e]
    exact h u hu

theorem Loc.Cells.setSp {τ : Loc} {w : World} {P : List (Pl Int)} {sp : Int} (h : τ.Cells w P sp) (v : Int) : τ.Cells (w.setCell ⟨τ.b, 2, none⟩ (.int .i64 v)) P v := by
  refine ⟨?_, ownsRow_setCell_other h.row (fun e => h.ne (by simpa [Value.ownBlock] using e.symm)) _⟩
  rw [heap_setCell_same w τ.b 2 _ _ _ h.blk]; rfl

theorem cells_grown {w2 : World} {b m g g' cap cap' : Nat} {P : List (Pl Int)} {sp : Int} {n : Nat} (h2 : w2.heap[b]? = some (.cells #[.map (some m), .slice (some ⟨g, 0, none⟩) n cap, .int .i64 sp] 62 (0, 0)))
    (hr : w2.ownsRow 0 66 3 (.slice (some ⟨g', 0, none⟩) (P.length + 1) cap') (P.length + 1) (flat (Value.int .i64) P ++ [(Value.int .i64) (0 : Int), .int .i64 0, .int .i64 0])) (k : Int) :
    Loc.Cells ⟨b, m, g', cap'⟩ ((w2.setCell ⟨b, 1, none⟩ (.slice (some ⟨g', 0, none⟩) (P.length + 1) cap')).setCell ⟨g', P.length * 3, none⟩ ((Value.int .i64) k)) (P ++ [⟨k, 0, 0⟩]) sp := by
  have hgb := row_ne_block hr h2
  have h3 : Loc.Cells ⟨b, m, g', cap'⟩ (w2.setCell ⟨b, 1, none⟩ (.slice (some ⟨g', 0, none⟩) (P.length + 1) cap')) (P ++ [⟨(0 : Int), 0, 0⟩]) sp := by
    refine ⟨?_, ?_⟩
    · simp only [List.length_append, List.length_cons, List.length_nil]
      rw [heap_setCell_same w2 b 1 _ _ _ h2]; rfl
    · simp only [List.length_append, List.length_cons, List.length_nil, flat_append]
      exact ownsRow_setCell_other hr (fun e => hgb (by simpa [Value.ownBlock] using e)) _
  rw [← setKey_last P (0 : Int) k]
  exact h3.setKey P.length k

set_option maxHeartbeats 2000000 in
theorem add_grow (τ : Loc) (P : List (Pl Int)) (N n : Nat) (M : Int → Nat) (k : Int) (wr : World) (h : τ.Cells wr P 0) (hm : MapIs wr τ.m N n M) (hk : kok k) (hnew : M k = 0) (hpl : 0 < P.length) (hlen : P.length < 1000) (hN : N < 1000) :
    Calls Try.prog 39 #[.pointer (some ⟨τ.b, 0, none⟩), (Value.int .i64) k] wr (Added (fun i => i = τ.b ∨ i = τ.m ∨ i = τ.g) wr τ.b (N + 1) (n + 1) (P ++ [⟨k, 0, 0⟩]) 0 (upd M k P.length) P.length) := by
  have hmn := fun W => run_eql_map_nil (P := Try.prog) W 59 3 3 (some τ.m) Try.underlying59
  have c0 := h.cell0
  have c1 := h.cell1
  have c2 := h.cell2
  obtain ⟨i0, hi, hz0, hz1, hz2⟩ := info_parts infoPT
  have hmax : P.length + 1 ≤ maxLen := by unfold maxLen; omega
  have hbv : some τ.b ≠ (Value.slice (some ⟨τ.g, 0, none⟩) P.length τ.cap).ownBlock := fun e => h.ne (by simpa [Value.ownBlock] using e)
  have hmg := hm.ne_g h
  have hmb := hm.ne_b h
  have hmo : ¬ some τ.m = (Value.slice (some ⟨τ.g, 0, none⟩) P.length τ.cap).ownBlock := fun e => hmg (by simpa [Value.ownBlock] using e)
  have HB := Lib.hid h.blk
  have HN := Lib.hid hnew
  have hrow := h.row
  have H := Lib.hid h
  have HM := Lib.hid hm
  clear hnew h hm
  go_enter Try.func39, Try.ntmps39
  go_wp2_with (first
    | (at_builtin; go_must (refine wpList_append_own_at _ rfl _ _ 60 rfl 0 66 i0 (.agg #[(Value.int .i64) (0 : Int), .int .i64 0, .int .i64 0]) 3 24 Try.underlying60 hi hz0 hz1 hz2 rfl (by decide) (.slice (some ⟨τ.g, 0, none⟩) P.length τ.cap) _ _ rfl (hrow.alloc _) ⟨wr.heap.size, 0, none⟩ 1 1 [(Value.int .i64) (0 : Int), .int .i64 0, .int .i64 0] rfl rfl (cell_three_new _ _ _ _ _) (by simp [Value.oneCell']) hmax (by omega) (by omega) ?_; intro v' w2 hown' hgrow hnil hloc; clear hnil; obtain ⟨g', cap', rfl⟩ := row_shape hown'; have hb2 := block_behind HB.out hgrow hbv; have c20 : w2.cell? ⟨τ.b, 0, none⟩ = some (.map (some τ.m)) := (by simp [World.cell?, hb2]); have f21 : w2.frozen? ⟨τ.b, 1, none⟩ = false := (by simp [World.frozen?, hb2]); have c21 : w2.cell? ⟨τ.b, 1, none⟩ = some (.slice (some ⟨τ.g, 0, none⟩) P.length τ.cap) := (by simp [World.cell?, hb2]); have hgb := row_ne_block hown' hb2; have hgb' := Ne.symm hgb; have d2 := row_last hown' rfl; have f2 := hown'.frozenAt (P.length * 3); have HB2 := Lib.hid hb2; clear hb2; have HO := Lib.hid hown'; clear hown'; have HG := Lib.hid hgrow; clear hgrow; have HL := Lib.hid hloc; clear hloc))
    | (at_mapUpdate; go_must (obtain ⟨D, c, hcN, hown, hsz, hD⟩ := HM.out; have hown2 : w2.ownsMap Try.prog 3 (plainElem Try.prog 3) τ.m c D := ownsMap_kept hown (kept_grown HG.out) hmo; refine wpList_mapUpdate_own _ rfl _ _ _ 59 rfl 3 3 law Try.underlying59 _ τ.m c D rfl ((hown2.setCell hmb _).setCell (map_ne_own hown2 HO.out) _) (by unfold maxLen; omega) _ _ _ rfl rfl (key_of hk) _ [] (plainElem_int Try.underlying3 (WalkArith.wf_i64 (by omega))) ?_; intro w5 hown5 hgrow5)))
  go_ret
  have hmp := map_put hk (hown.tidy law) hD HN.out P.length (by omega)
  have k02 : KeptBut (fun i => i = τ.b ∨ i = τ.m ∨ i = τ.g) wr w2 := (kept_grown HG.out).mono (fun i e => .inr (.inr (by simpa [Value.ownBlock] using e)))
  have hl : g' = τ.g ∨ wr.heap.size ≤ g' := by
    rcases HL.out with e | e
    · exact .inl (by simpa [Value.ownBlock] using e)
    · refine .inr ?_
      simp [Value.ownBlock] at e
      omega
  have k5 : KeptBut (fun i => i = τ.m) _ w5 := (KeptBut.of_grown hgrow5).mono (fun i e => by simpa using e)
  refine ⟨rfl, ⟨τ.b, τ.m, g', cap'⟩, rfl, (cells_grown HB2.out HO.out k).kept k5 (Ne.symm hmb) (Ne.symm (map_ne_own hown2 HO.out)), ?_, ?_, ?_⟩
  · exact ⟨_, _, by omega, hown5, by rw [← hsz]; exact hmp.1, hmp.2⟩
  · refine ((k02.trans (KeptBut.setCell w2 ⟨τ.b, 1, none⟩ _) (fun i e => .inl (.inl e))).trans (KeptBut.setCell _ ⟨g', P.length * 3, none⟩ _) ?_).trans k5 (fun i e => .inl (.inr (.inl e)))
    rintro i rfl
    rcases hl with e | e
    · exact .inl (.inr (.inr e))
    · exact .inr e
  · rintro i (e | e)
    · exact .inl (.inr (.inl e))
    · subst e
      exact hl.imp (fun e => .inr (.inr e)) id

set_option maxHeartbeats 2000000 in
theorem add_spare (τ : Loc) (P : List (Pl Int)) (N n a : Nat) (s : Int) (M : Int → Nat) (k : Int) (w : World) (h : τ.Cells w P (a : Nat)) (hm : MapIs w τ.m N n M) (hk : kok k) (hnew : M k = 0) (ha : a ≠ 0) (hal : a < P.length) (hs : bhAt P a = some s) (hlen : P.length < 1000) (hN : N < 1000) :
    Calls Try.prog 39 #[.pointer (some ⟨τ.b, 0, none⟩), (Value.int .i64) k] w (Added (fun i => i = τ.b ∨ i = τ.m ∨ i = τ.g) w τ.b (N + 1) (n + 1) (setKey P a k) s (upd M k a) a) := by
  have hmn := fun W => run_eql_map_nil (P := Try.prog) W 59 3 3 (some τ.m) Try.underlying59
  have c0 := h.cell0
  have c1 := h.cell1
  have c2 := h.cell2
  obtain ⟨pa, hpa⟩ : ∃ pa, P[a]? = some pa := ⟨_, List.getElem?_eq_getElem hal⟩
  have hpb : pa.bh = s := by simpa [bhAt, hpa] using hs
  obtain ⟨d0, _, d2⟩ := h.place hpa
  rw [hpb] at d2
  have f2 := h.frozen 2
  have f3 := h.frozenAt (a * 3)
  have hla : (a : Int) < (P.length : Int) := by omega
  have ha0 : ¬ (a : Int) = 0 := by omega
  have hmg := hm.ne_g h
  have hmb := hm.ne_b h
  have hne := h.ne
  have hne' := Ne.symm hne
  have HN := Lib.hid hnew
  have H := Lib.hid h
  have HM := Lib.hid hm
  clear hnew h hm hpa hpb hs
  go_enter Try.func39, Try.ntmps39
  go_wp2_with (at_mapUpdate; go_must (obtain ⟨D, c, hcN, hown, hsz, hD⟩ := HM.out; refine wpList_mapUpdate_own _ rfl _ _ _ 59 rfl 3 3 law Try.underlying59 _ τ.m c D rfl ((hown.setCell hmb _).setCell hmg _) (by unfold maxLen; omega) _ _ _ rfl rfl (key_of hk) _ [] (plainElem_int Try.underlying3 (WalkArith.wf_i64 (by omega))) ?_; intro w5 hown5 hgrow5))
  go_ret
  have hmp := map_put hk (hown.tidy law) hD HN.out a ha
  have k5 : KeptBut (fun i => i = τ.m) _ w5 := (KeptBut.of_grown hgrow5).mono (fun i e => by simpa using e)
  refine ⟨rfl, τ, rfl, ((H.out.setSp s).setKey a k).kept k5 (Ne.symm hmb) (Ne.symm hmg), ?_, ?_, ?_⟩
  · exact ⟨_, _, by omega, hown5, by rw [← hsz]; exact hmp.1, hmp.2⟩
  · exact (((KeptBut.setCell w ⟨τ.b, 2, none⟩ _).mono (fun i e => .inl e)).trans (KeptBut.setCell _ ⟨τ.g, a * 3, none⟩ _) (fun i e => .inl (.inr (.inr e)))).trans k5 (fun i e => .inl (.inr (.inl e)))
  · rintro i (e | e)
    · exact .inl (.inr (.inl e))
    · exact .inl (.inr (.inr e))

theorem make_one (W : World) : (Instr.makeSlice 60 (.int .i64 1) (.int .i64 1)).run Try.prog W = .ok (.slice (some ⟨W.heap.size, 0, none⟩) 1 1) (W.alloc (.cells #[(Value.int .i64) (0 : Int), .int .i64 0, .int .i64 0] 66)) := by
  obtain ⟨i0, hi, hz0, hz1, hz2⟩ := info_parts infoPT
  have := run_make (P := Try.prog) W 60 66 i0 _ Try.underlying60 hi hz0 .i64 .i64 1 1 (by omega) (by omega) (by rw [hz2]; decide) (by decide)
  rw [this, hz1]
  have e : madeCells (Value.agg #[(Value.int .i64) (0 : Int), .int .i64 0, .int .i64 0]).cells (Int.toNat 1 * 3) = #[(Value.int .i64) (0 : Int), .int .i64 0, .int .i64 0] := by kernel_rfl
  rw [e]
  rfl

set_option maxHeartbeats 2000000 in
theorem add_first (b : Nat) (k : Int) (w : World) (h : w.heap[b]? = some (.cells #[.map none, .slice none 0 0, .int .i64 0] 62 (0, 0))) (hk : kok k) :
    Calls Try.prog 39 #[.pointer (some ⟨b, 0, none⟩), (Value.int .i64) k] w (Added (fun i => i = b) w b 1 1 [⟨(0 : Int), 0, 0⟩, ⟨k, 0, 0⟩] 0 (upd (fun _ => 0) k 1) 1) := by
  have hmn := fun W => run_eql_map_nil (P := Try.prog) W 59 3 3 none Try.underlying59
  have hmm := @run_makeMap Try.prog
  have hmo := make_one
  have c0 : w.cell? ⟨b, 0, none⟩ = some (.map none) := by simp [World.cell?, h]
  have hbl : b < w.heap.size := (Array.getElem?_eq_some_iff.1 h).1
  have h1 : (w.alloc (.map #[] 0)).heap[b]? = some (.cells #[.map none, .slice none 0 0, .int .i64 0] 62 (0, 0)) := (Below.heap_alloc w _ b hbl).trans h
  have c10 : (w.alloc (.map #[] 0)).cell? ⟨b, 0, none⟩ = some (.map none) := by simp [World.cell?, h1]
  have f10 : (w.alloc (.map #[] 0)).frozen? ⟨b, 0, none⟩ = false := by simp [World.frozen?, h1]
  have HH := Lib.hid h
  have HH1 := Lib.hid h1
  clear h h1
  go_enter Try.func39, Try.ntmps39
  go_upto_region 3 with fail
  obtain ⟨w1, hw1⟩ : ∃ w1, w1 = (w.alloc (.map #[] 0)).setCell ⟨b, 0, none⟩ (.map (some w.heap.size)) := ⟨_, rfl⟩
  rw [show (w.setCell ⟨b, 0, none⟩ (.map (some w.heap.size))).alloc (.map #[] 0) = w1 from by rw [hw1]; exact (World.setCell_alloc_past _ _ _ _ hbl).symm]
  have hb1 : w1.heap[b]? = some (.cells #[.map (some w.heap.size), .slice none 0 0, .int .i64 0] 62 (0, 0)) := by
    rw [hw1, heap_setCell_same _ b 0 _ _ _ HH1.out]; rfl
  have hs1 : w1.heap.size = w.heap.size + 1 := by rw [hw1]; simp [World.setCell]
  have hbl1 : b < w1.heap.size := by omega
  have hb1' : (w1.alloc (.cells #[(Value.int .i64) (0 : Int), .int .i64 0, .int .i64 0] 66)).heap[b]? = some (.cells #[.map (some w.heap.size), .slice none 0 0, .int .i64 0] 62 (0, 0)) := (Below.heap_alloc w1 _ b (by omega)).trans hb1
  have c11 : (w1.alloc (.cells #[(Value.int .i64) (0 : Int), .int .i64 0, .int .i64 0] 66)).cell? ⟨b, 1, none⟩ = some (.slice none 0 0) := by simp [World.cell?, hb1']
  have f11 : (w1.alloc (.cells #[(Value.int .i64) (0 : Int), .int .i64 0, .int .i64 0] 66)).frozen? ⟨b, 1, none⟩ = false := by simp [World.frozen?, hb1']
  have m1 : MapIs w1 w.heap.size 0 0 (fun _ => 0) := by
    rw [hw1]
    refine ⟨.map [], 0, Nat.le_refl _, (World.ownsMap_made w Try.prog 3 (plainElem Try.prog 3)).setCell (by simp; omega) _, rfl, fun u _ => ⟨rfl, rfl⟩⟩
  have k1 : KeptBut (fun i => i = b) w w1 := by
    rw [hw1]; exact (KeptBut.alloc (fun k => k = b) w _).trans (KeptBut.setCell _ ⟨b, 0, none⟩ _) (fun i e => .inl e)
  have HM1 := Lib.hid m1
  have HK1 := Lib.hid k1
  have HB1 := Lib.hid hb1'
  have HS1 := Lib.hid hs1
  clear m1 k1 hb1 hb1' hw1 c0 c10 f10 HH HH1 hs1
  go_upto_region 4 with fail
  obtain ⟨wr, hwr⟩ : ∃ wr, wr = (w1.alloc (.cells #[(Value.int .i64) (0 : Int), .int .i64 0, .int .i64 0] 66)).setCell ⟨b, 1, none⟩ (.slice (some ⟨w1.heap.size, 0, none⟩) 1 1) := ⟨_, rfl⟩
  rw [show (w1.setCell ⟨b, 1, none⟩ (.slice (some ⟨w1.heap.size, 0, none⟩) 1 1)).alloc (.cells #[(Value.int .i64) (0 : Int), .int .i64 0, .int .i64 0] 66) = wr from by rw [hwr]; exact (World.setCell_alloc_past _ _ _ _ hbl1).symm]
  have HWR := Lib.hid hwr
  clear hwr c11 f11
  obtain ⟨τ, P, M, N, n, hτ, hP, hM, hNe, hne, h, hm, hpl, hlen, hN, hnew, kk, kf⟩ : ∃ (τ : Loc) (P : List (Pl Int)) (M : Int → Nat) (N n : Nat), b = τ.b ∧ Hid (P = [⟨(0 : Int), 0, 0⟩]) ∧ Hid (M = fun _ => 0) ∧ N = 0 ∧ n = 0 ∧ τ.Cells wr P 0 ∧ MapIs wr τ.m N n M ∧ 0 < P.length ∧ P.length < 1000 ∧ N < 1000 ∧ M k = 0 ∧ KeptBut (fun i => i = b) w wr ∧ (∀ i, i = τ.b ∨ i = τ.m ∨ i = τ.g → i = b ∨ w.heap.size ≤ i) := by
    have hs1 := HS1.out
    have kr : KeptBut (fun i => i = b) w1 wr := by rw [HWR.out]; exact (KeptBut.alloc (fun k => k = b) w1 _).trans (KeptBut.setCell _ ⟨b, 1, none⟩ _) (fun i e => .inl e)
    refine ⟨⟨b, w.heap.size, w1.heap.size, 1⟩, [⟨(0 : Int), 0, 0⟩], fun _ => 0, 0, 0, rfl, rfl, rfl, rfl, rfl, ⟨?_, ?_⟩, HM1.out.kept kr (by show ¬ w.heap.size = b; omega), by simp, by simp, by omega, rfl, HK1.out.trans kr (fun i e => .inl e), ?_⟩
    · rw [HWR.out, heap_setCell_same _ b 1 _ _ _ HB1.out]; rfl
    · rw [HWR.out]
      refine ownsRow_setCell_other ?_ (fun e => ?_) _
      · exact World.ownsRow_lit w1 #[(Value.int .i64) (0 : Int), .int .i64 0, .int .i64 0] 1 (Nat.zero_le _) (by unfold maxLen; omega) rfl
      · simp [Value.ownBlock] at e
        omega
    · rintro i (e | e | e)
      · exact .inl e
      · exact .inr (Nat.le_of_eq e.symm)
      · exact .inr (by simp only at e; omega)
  subst hτ
  have HKK := Lib.hid kk
  have HKF := Lib.hid kf
  clear kk kf HM1 HK1 HB1 HWR
  have c0 := h.cell0
  have c1 := h.cell1
  have c2 := h.cell2
  obtain ⟨i0, hi, hz0, hz1, hz2⟩ := info_parts infoPT
  have hmax : P.length + 1 ≤ maxLen := by unfold maxLen; omega
  have hbv : some τ.b ≠ (Value.slice (some ⟨τ.g, 0, none⟩) P.length τ.cap).ownBlock := fun e => h.ne (by simpa [Value.ownBlock] using e)
  have hmg := hm.ne_g h
  have hmb := hm.ne_b h
  have hmo : ¬ some τ.m = (Value.slice (some ⟨τ.g, 0, none⟩) P.length τ.cap).ownBlock := fun e => hmg (by simpa [Value.ownBlock] using e)
  have HB := Lib.hid h.blk
  have HN := Lib.hid hnew
  have hrow := h.row
  have H := Lib.hid h
  have HM := Lib.hid hm
  clear hnew h hm
  go_wp2_with (first
    | (at_builtin; go_must (refine wpList_append_own_at _ rfl _ _ 60 rfl 0 66 i0 (.agg #[(Value.int .i64) (0 : Int), .int .i64 0, .int .i64 0]) 3 24 Try.underlying60 hi hz0 hz1 hz2 rfl (by decide) (.slice (some ⟨τ.g, 0, none⟩) P.length τ.cap) _ _ rfl (hrow.alloc _) ⟨wr.heap.size, 0, none⟩ 1 1 [(Value.int .i64) (0 : Int), .int .i64 0, .int .i64 0] rfl rfl (cell_three_new _ _ _ _ _) (by simp [Value.oneCell']) hmax (by omega) (by omega) ?_; intro v' w2 hown' hgrow hnil hloc; clear hnil; obtain ⟨g', cap', rfl⟩ := row_shape hown'; have hb2 := block_behind HB.out hgrow hbv; have c20 : w2.cell? ⟨τ.b, 0, none⟩ = some (.map (some τ.m)) := (by simp [World.cell?, hb2]); have f21 : w2.frozen? ⟨τ.b, 1, none⟩ = false := (by simp [World.frozen?, hb2]); have c21 : w2.cell? ⟨τ.b, 1, none⟩ = some (.slice (some ⟨τ.g, 0, none⟩) P.length τ.cap) := (by simp [World.cell?, hb2]); have hgb := row_ne_block hown' hb2; have hgb' := Ne.symm hgb; have d2 := row_last hown' rfl; have f2 := hown'.frozenAt (P.length * 3); have HB2 := Lib.hid hb2; clear hb2; have HO := Lib.hid hown'; clear hown'; have HG := Lib.hid hgrow; clear hgrow; have HL := Lib.hid hloc; clear hloc))
    | (at_mapUpdate; go_must (obtain ⟨D, c, hcN, hown, hsz, hD⟩ := HM.out; have hown2 : w2.ownsMap Try.prog 3 (plainElem Try.prog 3) τ.m c D := ownsMap_kept hown (kept_grown HG.out) hmo; refine wpList_mapUpdate_own _ rfl _ _ _ 59 rfl 3 3 law Try.underlying59 _ τ.m c D rfl ((hown2.setCell hmb _).setCell (map_ne_own hown2 HO.out) _) (by unfold maxLen; omega) _ _ _ rfl rfl (key_of hk) _ [] (plainElem_int Try.underlying3 (WalkArith.wf_i64 (by omega))) ?_; intro w5 hown5 hgrow5)))
  go_ret
  suffices hadd : Added (fun i => i = τ.b ∨ i = τ.m ∨ i = τ.g) wr τ.b (N + 1) (n + 1) (P ++ [⟨k, 0, 0⟩]) 0 (upd M k P.length) P.length (Ending.returned (.int .i64 (P.length : Nat))) w5 by
    obtain ⟨he, τ', e1, e2, e3, e4, e5⟩ := hadd
    rw [hP.out, hM.out, hNe, hne] at e3
    rw [hP.out] at e2
    refine ⟨by rw [hP.out]; rfl, τ', e1, e2, e3, HKK.out.trans e4 HKF.out, fun i hi => ?_⟩
    rcases e5 i hi with e | e
    · exact HKF.out i e
    · exact .inr (Nat.le_trans HKK.out.size e)
  have hmp := map_put hk (hown.tidy law) hD HN.out P.length (by omega)
  have k02 : KeptBut (fun i => i = τ.b ∨ i = τ.m ∨ i = τ.g) wr w2 := (kept_grown HG.out).mono (fun i e => .inr (.inr (by simpa [Value.ownBlock] using e)))
  have hl : g' = τ.g ∨ wr.heap.size ≤ g' := by
    rcases HL.out with e | e
    · exact .inl (by simpa [Value.ownBlock] using e)
    · refine .inr ?_
      simp [Value.ownBlock] at e
      omega
  have k5 : KeptBut (fun i => i = τ.m) _ w5 := (KeptBut.of_grown hgrow5).mono (fun i e => by simpa using e)
  refine ⟨rfl, ⟨τ.b, τ.m, g', cap'⟩, rfl, (cells_grown HB2.out HO.out k).kept k5 (Ne.symm hmb) (Ne.symm (map_ne_own hown2 HO.out)), ?_, ?_, ?_⟩
  · exact ⟨_, _, by omega, hown5, by rw [← hsz]; exact hmp.1, hmp.2⟩
  · refine ((k02.trans (KeptBut.setCell w2 ⟨τ.b, 1, none⟩ _) (fun i e => .inl (.inl e))).trans (KeptBut.setCell _ ⟨g', P.length * 3, none⟩ _) ?_).trans k5 (fun i e => .inl (.inr (.inl e)))
    rintro i rfl
    rcases hl with e | e
    · exact .inl (.inr (.inr e))
    · exact .inr e
  · rintro i (e | e)
    · exact .inl (.inr (.inl e))
    · subst e
      exact hl.imp (fun e => .inr (.inr e)) id

end Go.Proofs.Ythnmnohhhakjbaa.I

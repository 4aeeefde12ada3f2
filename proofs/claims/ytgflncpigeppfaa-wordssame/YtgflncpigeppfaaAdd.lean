/-
  The contract of (*Table).add.
-/
import Derived.Test.YtgflncpigeppfaaLeaf
import Derived.Test.YtgflncpigeppfaaClone
import Derived.StillTailTactics
namespace Go.Proofs.Ytgflncpigeppfaa
open Go.RowKit Go.Maps

theorem info9 : (Try.prog.info? 9).map (fun i => (i.zero, i.size, i.bytes)) = some (some (.string ⟨#[]⟩), 1, 16) := by kernel_rfl

/-- What comes of a text that is laid into a table. -/
def Added (τ : Tab) (w : World) (L : List ByteArray) (r : Nat) (e : Ending) (w' : World) : Prop :=
  e = .returned (.int .i64 (r : Nat)) ∧ ∃ τ' : Tab, τ'.b = τ.b ∧ τ'.At w' L ∧ KeptBut τ.foot w w' ∧ ∀ k, τ'.foot k → τ.foot k ∨ w.heap.size ≤ k

theorem row_shape {w : World} {v' : Value} {n : Nat} {xs : List Value} (h : w.ownsRow 0 9 1 v' (n + 1) xs) : ∃ g cap, v' = .slice (some ⟨g, 0, none⟩) (n + 1) cap ∧ n + 1 ≤ cap ∧ cap ≤ maxLen := by
  rcases h.2 with ⟨_, hn⟩ | ⟨g, cap, cur, hv, _, _, h1, h2, _⟩
  · omega
  · exact ⟨g, cap, hv, h1, h2⟩

/-- A draw turns nothing but the count of draws. -/
structure Drawn (w w' : World) : Prop where
  heap : w'.heap = w.heap
  os : w'.os = w.os
  tape : w'.tape = w.tape
  output : w'.output = w.output

theorem KeptBut.of_drawn {w w' : World} (h : Drawn w w') (S : Nat → Prop) : KeptBut S w w' := ⟨h.os, h.tape, h.output, by rw [h.heap]; exact Nat.le_refl _, fun i _ _ => by rw [h.heap]⟩

theorem region_tail {P : Program} {id : Nat} {Q : Exit → Act → World → Prop} {a : Act} {w : World} {l : List Oper} (n : Nat) (hm : P.follows .mixedOrders = true) (hB : Region.lexTailB .any l.toArray n = true)
    (h : ∀ w4, Drawn w w4 → wpStill P l.toArray w4 (fun a' => wpList P l.toArray Q (l.drop n) a' w4) (l.take n) a) : (Code.region id l.toArray true).wp P Q a w :=
  wp_region_still_tail n hm hB (h _ ⟨rfl, rfl, rfl, rfl⟩)

theorem ownsMap_kept {S : Nat → Prop} {w w' : World} {P : Program} {k : TypeId} {R : Value → Option (DataW Unit × List MemPlace)} {b n : Nat} {D : DataW Unit} (h : w.ownsMap P k R b n D) (hk : KeptBut S w w') (hn : ¬ S b) : w'.ownsMap P k R b n D := by
  have hlt := h.lt
  obtain ⟨es, clock, hb, r⟩ := h
  exact ⟨es, clock, (hk.block b hlt hn).trans hb, r⟩

/-- A map's block is no row's. -/
theorem map_ne_row {w : World} {P : Program} {k : TypeId} {R : Value → Option (DataW Unit × List MemPlace)} {b n : Nat} {D : DataW Unit} (h : w.ownsMap P k R b n D) {base : Nat} {e : TypeId} {size : Nat} {v : Value} {m : Nat} {xs : List Value} (hr : w.ownsRow base e size v m xs) : some b ≠ v.ownBlock := by
  intro e
  obtain ⟨es, clock, hb, _⟩ := h
  rcases hr.2 with ⟨hv, _⟩ | ⟨g, cap, cur, hv, _, hg, _⟩
  · rw [hv] at e; cases e
  · rw [hv] at e
    simp only [Value.ownBlock, Option.some.injEq] at e
    subst e
    rw [hb] at hg
    cases hg

theorem string_lit_ne {s u : ByteArray} (h : u ≠ s) : Lit.string u.data.toList ≠ Lit.string s.data.toList := by
  intro e
  injection e with e
  exact h (ByteArray.ext (Array.toList_inj.1 e))

/-- The map behind a text that was not there. -/
theorem map_put {D : DataW Unit} {L : List ByteArray} {s : ByteArray} (hD : IsMap D) (hk : ∀ u : ByteArray, Maps.has D (.string u.data.toList) = has L u ∧ D.atKey (.string u.data.toList) (.lit (.int .i64 0)) = .lit (.int .i64 (num L u : Nat))) (hnew : num L s = 0) :
    ∀ u : ByteArray, Maps.has (D.put (.string s.data.toList) (.lit (.int .i64 ((L.length + 1 : Nat) : Int)))) (.string u.data.toList) = has (L ++ [s]) u ∧ (D.put (.string s.data.toList) (.lit (.int .i64 ((L.length + 1 : Nat) : Int)))).atKey (.string u.data.toList) (.lit (.int .i64 0)) = .lit (.int .i64 (num (L ++ [s]) u : Nat)) := by
  intro u
  by_cases hu : u = s
  · subst hu
    have hlit : WideAt.IsKeyLit (.string u.data.toList) := trivial
    rw [has_put_same hD hlit, atKey_put_same hD hlit, num_snoc_same L u hnew]
    exact ⟨by simp [has, num_snoc_same L u hnew], rfl⟩
  · rw [has_put_other (string_lit_ne hu), atKey_put_other (string_lit_ne hu), (hk u).1, (hk u).2, num_snoc_other L u s (Ne.symm hu)]
    exact ⟨by simp [has, num_snoc_other L u s (Ne.symm hu)], rfl⟩

theorem block_behind {w1 w2 : World} {o x : Obj} {b : Nat} {row : Option Nat} (h : w1.heap[b]? = some x) (hg : (w1.alloc o).grownBy w2 row) (hne : some b ≠ row) : w2.heap[b]? = some x := by
  have hlt := (Array.getElem?_eq_some_iff.1 h).1
  exact (hg.block b (by simp; omega) hne).trans ((Below.heap_alloc w1 o b hlt).trans h)

/-- The same from an earlier world, in which the table had the same block. -/
theorem Added.pre {τ τ0 : Tab} {w w0 : World} {L : List ByteArray} {r : Nat} {e : Ending} {w' : World} (h : Added τ0 w0 L r e w') (hb : τ0.b = τ.b) (hk : KeptBut τ.foot w w0) (hf : ∀ k, τ0.foot k → τ.foot k ∨ w.heap.size ≤ k) : Added τ w L r e w' := by
  obtain ⟨he, τ', h1, h2, h3, h4⟩ := h
  refine ⟨he, τ', h1.trans hb, h2, hk.trans h3 hf, fun k hk' => ?_⟩
  rcases h4 k hk' with e | e
  · exact hf k e
  · exact .inr (Nat.le_trans hk.size e)

/-- A table whose map has just been made. -/
theorem At_made {b : Nat} {v : Value} {w : World} {L : List ByteArray} (h : Tab.At ⟨b, none, v⟩ w L) :
    Tab.At ⟨b, some w.heap.size, v⟩ ((w.alloc (.map #[] 0)).setCell ⟨b, 0, none⟩ (.map (some w.heap.size))) L ∧ KeptBut (fun k => k = b) w ((w.alloc (.map #[] 0)).setCell ⟨b, 0, none⟩ (.map (some w.heap.size))) := by
  have hlt : b < w.heap.size := (Array.getElem?_eq_some_iff.1 h.blk).1
  have hL : L = [] := h.map
  have hk : KeptBut (fun k => k = b) w ((w.alloc (.map #[] 0)).setCell ⟨b, 0, none⟩ (.map (some w.heap.size))) :=
    (KeptBut.alloc (fun k => k = b) w _).trans (KeptBut.setCell _ ⟨b, 0, none⟩ _) (fun i e => .inl e)
  have hvb : ∀ k, v.ownBlock = some k → ¬ k = b := fun k hk e => h.v_ne (by rw [← e]; exact hk)
  refine ⟨⟨?_, ownsRow_kept h.row hk hvb, ?_⟩, hk⟩
  · have hb : (w.alloc (.map #[] 0)).heap[b]? = some (.cells #[.map none, v] 40 (0, 0)) := (Below.heap_alloc w _ b hlt).trans h.blk
    rw [heap_setCell_same _ b 0 _ _ _ hb]; rfl
  · subst hL
    refine ⟨.map [], ?_, fun u => ⟨rfl, rfl⟩⟩
    exact (World.ownsMap_made w Try.prog 9 (plainElem Try.prog 3)).setCell (by simp; omega) _

set_option maxHeartbeats 1000000 in
theorem add_some (b bm : Nat) (v : Value) (L : List ByteArray) (s : ByteArray) (w : World) (h : Tab.At ⟨b, some bm, v⟩ w L) (hs : s.size ≤ 281474976710656) (hlen : L.length < 1000) (hnew : num L s = 0) :
    Calls Try.prog 16 #[.pointer (some ⟨b, 0, none⟩), .string s] w (Added ⟨b, some bm, v⟩ w (L ++ [s]) (L.length + 1)) := by
  have c0 := cell0 h
  have hmn := fun W => run_eql_map_nil (P := Try.prog) W 38 9 3 (some bm) Try.underlying38
  have HN := Lib.hid hnew
  clear hnew
  simp only at c0
  go_enter Try.func16, Try.ntmps16
  go_wp2_with fail
  refine (strings_clone _ _ hs).mono ?_
  rintro e w1 ⟨rfl, hb⟩
  have k1 : KeptBut (fun _ => False) w w1 := KeptBut.of_below hb _
  have h1 : Tab.At ⟨b, some bm, v⟩ w1 L := h.kept k1 (fun _ _ e => e)
  have c10 := cell0 h1
  have c11 := cell1 h1
  have f11 := frozen1 h1
  simp only at c10 c11 f11
  clear c0
  obtain ⟨i0, hi, hz0, hz1, hz2⟩ := info_parts info9
  have hmax : L.length + 1 ≤ maxLen := by unfold maxLen; omega
  have hvb : some b ≠ v.ownBlock := fun e => h1.v_ne e.symm
  have hb1 := h1.blk
  have HB := Lib.hid hb1
  clear hb1
  go_wp2_with (at_builtin; go_must (refine wpList_append_own_at _ rfl _ _ 22 rfl 0 9 i0 (.string ⟨#[]⟩) 1 16 Try.underlying22 hi hz0 hz1 hz2 rfl (by decide) _ _ _ rfl (h1.row.alloc _) ⟨w1.heap.size, 0, none⟩ 1 1 [.string s] rfl rfl (cell_one_new _ _ _) (by simp [Value.oneCell']) hmax (by omega) (by omega) ?_; intro v' w2 hown' hgrow hnil hloc; clear hnil; obtain ⟨g, cap, rfl, hcap, hcapm⟩ := row_shape hown'; have hb2 := block_behind HB.out hgrow hvb; have c20 : w2.cell? ⟨b, 0, none⟩ = some (.map (some bm)) := (by simp [World.cell?, hb2]); have f21 : w2.frozen? ⟨b, 1, none⟩ = false := (by simp [World.frozen?, hb2]); have c21 : w2.cell? ⟨b, 1, none⟩ = some v := (by simp [World.cell?, hb2]); have HB2 := Lib.hid hb2; clear hb2))
  obtain ⟨w3, hw3⟩ : ∃ w3, w3 = w2.setCell ⟨b, 1, none⟩ (.slice (some ⟨g, 0, none⟩) (L.length + 1) cap) := ⟨_, rfl⟩
  rw [← hw3]
  have HW3 := Lib.hid hw3
  clear hw3 c20 c21 f21 c10 c11 f11
  refine region_tail 10 (by kernel_rfl) (by kernel_rfl) ?_
  intro w4 hd4
  have hb4 : w4.heap[b]? = some (.cells #[.map (some bm), .slice (some ⟨g, 0, none⟩) (L.length + 1) cap] 40 (0, 0)) := by
    rw [hd4.heap, HW3.out, heap_setCell_same w2 b 1 _ _ _ HB2.out]; rfl
  have c40 : w4.cell? ⟨b, 0, none⟩ = some (.map (some bm)) := by simp [World.cell?, hb4]
  have c41 : w4.cell? ⟨b, 1, none⟩ = some (.slice (some ⟨g, 0, none⟩) (L.length + 1) cap) := by simp [World.cell?, hb4]
  have HB4 := Lib.hid hb4
  clear hb4
  simp only [List.take_succ_cons, List.take_zero, List.drop_succ_cons, List.drop_zero]
  repeat still_step
  refine wpStill_nil ?_
  obtain ⟨D, hown, hD⟩ := h.map
  have k24 : KeptBut (fun k => k = b) w2 w4 := by
    refine KeptBut.trans (S := fun k => k = b) (S' := fun _ => False) (b := w3) ?_ (KeptBut.of_drawn hd4 _) (fun _ e => e.elim)
    rw [HW3.out]
    exact KeptBut.setCell w2 ⟨b, 1, none⟩ _
  have k12 : KeptBut (fun k => some k = v.ownBlock) w1 w2 := (KeptBut.alloc _ w1 _).trans (KeptBut.of_grown hgrow) (fun i e => .inl e)
  have k02 : KeptBut (fun k => some k = v.ownBlock) w w2 := (k1.mono (fun _ e => e.elim)).trans k12 (fun i e => .inl e)
  have k04 : KeptBut (fun k => k = b ∨ some k = v.ownBlock) w w4 := (k02.mono (fun _ e => .inr e)).trans k24 (fun i e => .inl (.inl e))
  have hbm : some bm ≠ v.ownBlock := map_ne_row hown h.row
  have hbb : bm ≠ b := fun e => h.m_ne (by rw [e])
  have hown2 := ownsMap_kept hown k02 hbm
  have hown4 := ownsMap_kept hown k04 (fun e => e.elim hbb hbm)
  have hkey := WideMaps.keyOf_string_mk (P := Try.prog) (k := 9) Try.underlying9 (s := s) (by unfold maxLen; omega)
  have HK := Lib.hid hkey
  clear hkey
  have hwf : (Lit.int .i64 ((L.length : Int) + 1)).wf = true := WalkArith.wf_i64 (by omega)
  refine wpList_mapUpdate_own _ rfl _ _ _ 38 rfl 9 3 law9 Try.underlying38 _ bm L.length D rfl hown4 (by unfold maxLen; omega) _ _ _ rfl rfl HK.out _ [] (plainElem_int Try.underlying3 hwf) ?_
  intro w5 hown5 hgrow5
  have k45 : KeptBut (fun k => some k = some bm) w4 w5 := KeptBut.of_grown hgrow5
  have hb5 : w5.heap[b]? = some (.cells #[.map (some bm), .slice (some ⟨g, 0, none⟩) (L.length + 1) cap] 40 (0, 0)) := (k45.block b (Array.getElem?_eq_some_iff.1 HB4.out).1 (fun e => hbb (Option.some.inj e).symm)).trans HB4.out
  have c51 : w5.cell? ⟨b, 1, none⟩ = some (.slice (some ⟨g, 0, none⟩) (L.length + 1) cap) := by simp [World.cell?, hb5]
  have HB5 := Lib.hid hb5
  clear hb5 c40 c41
  have HD := Lib.hid hD
  clear hD
  go_wp2
  go_ret
  refine ⟨rfl, ⟨b, some bm, .slice (some ⟨g, 0, none⟩) (L.length + 1) cap⟩, rfl, ⟨HB5.out, ?_, ?_⟩, ?_, ?_⟩
  · have hgb : ∀ k, (Value.slice (some ⟨g, 0, none⟩) (L.length + 1) cap).ownBlock = some k → k ≠ b := by
      intro k hk e
      subst e
      rcases hown'.2 with ⟨hv, _⟩ | ⟨g', cap', cur, hv, _, hg, _⟩
      · cases hv
      · injection hv with hv1 _ _
        injection hv1 with hv1
        injection hv1 with hv1 _ _
        simp only [Value.ownBlock, Option.some.injEq] at hk
        subst hk
        rw [← hv1, HB2.out] at hg
        cases hg
    have hgm : ∀ k, (Value.slice (some ⟨g, 0, none⟩) (L.length + 1) cap).ownBlock = some k → some k ≠ some bm := fun k hk e => map_ne_row hown2 hown' (e ▸ hk.symm)
    have r5 := ownsRow_kept (ownsRow_kept hown' k24 hgb) k45 hgm
    simpa using r5
  · refine ⟨_, by simpa using hown5, ?_⟩
    exact map_put hown.isMap HD.out HN.out
  · refine (k04.mono ?_).trans k45 ?_
    · rintro i (e | e)
      · exact .inl e
      · exact .inr (.inr e)
    · intro i e
      exact .inl (.inr (.inl e))
  · rintro k (e | e | e)
    · exact .inl (.inl e)
    · exact .inl (.inr (.inl e))
    · rcases hloc with hl | hl
      · exact .inl (.inr (.inr (e.trans hl)))
      · right
        have e2 := e.trans hl
        simp at e2
        have := hb.size
        omega

set_option maxHeartbeats 1000000 in
theorem add_none (b : Nat) (v : Value) (L : List ByteArray) (s : ByteArray) (w : World) (h : Tab.At ⟨b, none, v⟩ w L) (hs : s.size ≤ 281474976710656) (hlen : L.length < 1000) (hnew : num L s = 0) :
    Calls Try.prog 16 #[.pointer (some ⟨b, 0, none⟩), .string s] w (Added ⟨b, none, v⟩ w (L ++ [s]) (L.length + 1)) := by
  have c0 := cell0 h
  have hmn := fun W => run_eql_map_nil (P := Try.prog) W 38 9 3 none Try.underlying38
  have HN := Lib.hid hnew
  clear hnew
  have fr0 := frozen0 h
  simp only at c0 fr0
  have hmm := @run_makeMap Try.prog
  obtain ⟨bm, w0, h0, kk, kf, HR⟩ : ∃ (bm : Nat) (w0 : World), Tab.At ⟨b, some bm, v⟩ w0 L ∧ KeptBut (Tab.foot ⟨b, none, v⟩) w w0 ∧ (∀ k, Tab.foot ⟨b, some bm, v⟩ k → Tab.foot ⟨b, none, v⟩ k ∨ w.heap.size ≤ k) ∧ Hid (w0 = (w.alloc (.map #[] 0)).setCell ⟨b, 0, none⟩ (.map (some w.heap.size))) := by
    obtain ⟨h1, h2⟩ := At_made h
    refine ⟨_, _, h1, h2.mono (fun i e => .inl e), ?_, rfl⟩
    rintro k (e | e | e)
    · exact .inl (.inl e)
    · exact .inr (Nat.le_of_eq (Option.some.inj e).symm)
    · exact .inl (.inr (.inr e))
  have hba : (w.alloc (.map #[] 0)).heap[b]? = some (.cells #[.map none, v] 40 (0, 0)) := (Below.heap_alloc w _ b (Array.getElem?_eq_some_iff.1 h.blk).1).trans h.blk
  have ca0 : (w.alloc (.map #[] 0)).cell? ⟨b, 0, none⟩ = some (.map none) := by simp [World.cell?, hba]
  have fa0 : (w.alloc (.map #[] 0)).frozen? ⟨b, 0, none⟩ = false := by simp [World.frozen?, hba]
  clear h hba
  go_enter Try.func16, Try.ntmps16
  go_wp2_with fail
  rw [← HR.out]
  refine (strings_clone _ _ hs).mono ?_
  rintro e w1 ⟨rfl, hb⟩
  have k1 : KeptBut (fun _ => False) w0 w1 := KeptBut.of_below hb _
  have h1 : Tab.At ⟨b, some bm, v⟩ w1 L := h0.kept k1 (fun _ _ e => e)
  have c10 := cell0 h1
  have c11 := cell1 h1
  have f11 := frozen1 h1
  simp only at c10 c11 f11
  clear c0 ca0 fa0 fr0
  obtain ⟨i0, hi, hz0, hz1, hz2⟩ := info_parts info9
  have hmax : L.length + 1 ≤ maxLen := by unfold maxLen; omega
  have hvb : some b ≠ v.ownBlock := fun e => h1.v_ne e.symm
  have hb1 := h1.blk
  have HB := Lib.hid hb1
  clear hb1
  go_wp2_with (at_builtin; go_must (refine wpList_append_own_at _ rfl _ _ 22 rfl 0 9 i0 (.string ⟨#[]⟩) 1 16 Try.underlying22 hi hz0 hz1 hz2 rfl (by decide) _ _ _ rfl (h1.row.alloc _) ⟨w1.heap.size, 0, none⟩ 1 1 [.string s] rfl rfl (cell_one_new _ _ _) (by simp [Value.oneCell']) hmax (by omega) (by omega) ?_; intro v' w2 hown' hgrow hnil hloc; clear hnil; obtain ⟨g, cap, rfl, hcap, hcapm⟩ := row_shape hown'; have hb2 := block_behind HB.out hgrow hvb; have c20 : w2.cell? ⟨b, 0, none⟩ = some (.map (some bm)) := (by simp [World.cell?, hb2]); have f21 : w2.frozen? ⟨b, 1, none⟩ = false := (by simp [World.frozen?, hb2]); have c21 : w2.cell? ⟨b, 1, none⟩ = some v := (by simp [World.cell?, hb2]); have HB2 := Lib.hid hb2; clear hb2))
  obtain ⟨w3, hw3⟩ : ∃ w3, w3 = w2.setCell ⟨b, 1, none⟩ (.slice (some ⟨g, 0, none⟩) (L.length + 1) cap) := ⟨_, rfl⟩
  rw [← hw3]
  have HW3 := Lib.hid hw3
  clear hw3 c20 c21 f21 c10 c11 f11
  refine region_tail 10 (by kernel_rfl) (by kernel_rfl) ?_
  intro w4 hd4
  have hb4 : w4.heap[b]? = some (.cells #[.map (some bm), .slice (some ⟨g, 0, none⟩) (L.length + 1) cap] 40 (0, 0)) := by
    rw [hd4.heap, HW3.out, heap_setCell_same w2 b 1 _ _ _ HB2.out]; rfl
  have c40 : w4.cell? ⟨b, 0, none⟩ = some (.map (some bm)) := by simp [World.cell?, hb4]
  have c41 : w4.cell? ⟨b, 1, none⟩ = some (.slice (some ⟨g, 0, none⟩) (L.length + 1) cap) := by simp [World.cell?, hb4]
  have HB4 := Lib.hid hb4
  clear hb4
  simp only [List.take_succ_cons, List.take_zero, List.drop_succ_cons, List.drop_zero]
  repeat still_step
  refine wpStill_nil ?_
  obtain ⟨D, hown, hD⟩ := h0.map
  have k24 : KeptBut (fun k => k = b) w2 w4 := by
    refine KeptBut.trans (S := fun k => k = b) (S' := fun _ => False) (b := w3) ?_ (KeptBut.of_drawn hd4 _) (fun _ e => e.elim)
    rw [HW3.out]
    exact KeptBut.setCell w2 ⟨b, 1, none⟩ _
  have k12 : KeptBut (fun k => some k = v.ownBlock) w1 w2 := (KeptBut.alloc _ w1 _).trans (KeptBut.of_grown hgrow) (fun i e => .inl e)
  have k02 : KeptBut (fun k => some k = v.ownBlock) w0 w2 := (k1.mono (fun _ e => e.elim)).trans k12 (fun i e => .inl e)
  have k04 : KeptBut (fun k => k = b ∨ some k = v.ownBlock) w0 w4 := (k02.mono (fun _ e => .inr e)).trans k24 (fun i e => .inl (.inl e))
  have hbm : some bm ≠ v.ownBlock := map_ne_row hown h0.row
  have hbb : bm ≠ b := fun e => h0.m_ne (by rw [e])
  have hown2 := ownsMap_kept hown k02 hbm
  have hown4 := ownsMap_kept hown k04 (fun e => e.elim hbb hbm)
  have hkey := WideMaps.keyOf_string_mk (P := Try.prog) (k := 9) Try.underlying9 (s := s) (by unfold maxLen; omega)
  have HK := Lib.hid hkey
  clear hkey
  have hwf : (Lit.int .i64 ((L.length : Int) + 1)).wf = true := WalkArith.wf_i64 (by omega)
  refine wpList_mapUpdate_own _ rfl _ _ _ 38 rfl 9 3 law9 Try.underlying38 _ bm L.length D rfl hown4 (by unfold maxLen; omega) _ _ _ rfl rfl HK.out _ [] (plainElem_int Try.underlying3 hwf) ?_
  intro w5 hown5 hgrow5
  have k45 : KeptBut (fun k => some k = some bm) w4 w5 := KeptBut.of_grown hgrow5
  have hb5 : w5.heap[b]? = some (.cells #[.map (some bm), .slice (some ⟨g, 0, none⟩) (L.length + 1) cap] 40 (0, 0)) := (k45.block b (Array.getElem?_eq_some_iff.1 HB4.out).1 (fun e => hbb (Option.some.inj e).symm)).trans HB4.out
  have c51 : w5.cell? ⟨b, 1, none⟩ = some (.slice (some ⟨g, 0, none⟩) (L.length + 1) cap) := by simp [World.cell?, hb5]
  have HB5 := Lib.hid hb5
  clear hb5 c40 c41
  have HD := Lib.hid hD
  clear hD
  go_wp2
  go_ret
  refine Added.pre (τ0 := ⟨b, some bm, v⟩) (w0 := w0) ?_ rfl kk kf
  refine ⟨rfl, ⟨b, some bm, .slice (some ⟨g, 0, none⟩) (L.length + 1) cap⟩, rfl, ⟨HB5.out, ?_, ?_⟩, ?_, ?_⟩
  · have hgb : ∀ k, (Value.slice (some ⟨g, 0, none⟩) (L.length + 1) cap).ownBlock = some k → k ≠ b := by
      intro k hk e
      subst e
      rcases hown'.2 with ⟨hv, _⟩ | ⟨g', cap', cur, hv, _, hg, _⟩
      · cases hv
      · injection hv with hv1 _ _
        injection hv1 with hv1
        injection hv1 with hv1 _ _
        simp only [Value.ownBlock, Option.some.injEq] at hk
        subst hk
        rw [← hv1, HB2.out] at hg
        cases hg
    have hgm : ∀ k, (Value.slice (some ⟨g, 0, none⟩) (L.length + 1) cap).ownBlock = some k → some k ≠ some bm := fun k hk e => map_ne_row hown2 hown' (e ▸ hk.symm)
    have r5 := ownsRow_kept (ownsRow_kept hown' k24 hgb) k45 hgm
    simpa using r5
  · refine ⟨_, by simpa using hown5, ?_⟩
    exact map_put hown.isMap HD.out HN.out
  · refine (k04.mono ?_).trans k45 ?_
    · rintro i (e | e)
      · exact .inl e
      · exact .inr (.inr e)
    · intro i e
      exact .inl (.inr (.inl e))
  · rintro k (e | e | e)
    · exact .inl (.inl e)
    · exact .inl (.inr (.inl e))
    · rcases hloc with hl | hl
      · exact .inl (.inr (.inr (e.trans hl)))
      · right
        have e2 := e.trans hl
        simp at e2
        have := hb.size
        omega

theorem add_any (τ : Tab) (L : List ByteArray) (s : ByteArray) (w : World) (h : τ.At w L) (hs : s.size ≤ 281474976710656) (hlen : L.length < 1000) (hnew : num L s = 0) :
    Calls Try.prog 16 #[.pointer (some ⟨τ.b, 0, none⟩), .string s] w (Added τ w (L ++ [s]) (L.length + 1)) := by
  obtain ⟨b, m, v⟩ := τ
  cases m with
  | none => exact add_none b v L s w h hs hlen hnew
  | some bm => exact add_some b bm v L s w h hs hlen hnew

set_option maxHeartbeats 400000 in
theorem of_any (τ : Tab) (L : List ByteArray) (s : ByteArray) (w : World) (h : τ.At w L) (hs : s.size ≤ 281474976710656) (hlen : L.length < 1000) :
    Calls Try.prog 11 #[.pointer (some ⟨τ.b, 0, none⟩), .string s] w (Added τ w (put L s) (num (put L s) s)) := by
  have c0 := cell0 h
  have hm := h.map
  have hkey := WideMaps.keyOf_string_mk (P := Try.prog) (k := 9) Try.underlying9 (s := s) (by unfold maxLen; omega)
  have HK := Lib.hid hkey
  clear hkey
  by_cases hnew : num L s = 0
  · have hadd := add_any τ L s w h hs hlen hnew
    have e1 : put L s = L ++ [s] := by simp [put, hnew]
    rw [e1, num_snoc_same L s hnew]
    obtain ⟨b, m, v⟩ := τ
    simp only at c0 hadd ⊢
    have HA := Lib.hid hadd
    clear hadd e1 h
    cases m with
    | none =>
      have hrun := look_nil (w := w) true law9 Try.underlying38 (zero3 _) HK.out
      clear hm hnew
      go_enter Try.func11, Try.ntmps11
      go_wp2_with (go_at_call 16; refine HA.out.mono ?_; rintro e w' ⟨rfl, hp⟩)
      go_ret
      exact ⟨rfl, hp⟩
    | some bm =>
      obtain ⟨D, hown, hD⟩ := hm
      have h1 : Maps.has D (.string s.data.toList) = false := by rw [(hD s).1]; simp [has, hnew]
      clear hD hnew
      go_enter Try.func11, Try.ntmps11
      go_wp2_with (first
        | (at_lookup; refine wpList_lookup_own_ok_int _ rfl _ _ 38 rfl 9 3 .i64 law9 Try.underlying38 Try.underlying3 (zero3 _) bm _ D rfl hown _ _ rfl HK.out ?_; intro c hat hwc; rw [h1]; clear hat hwc)
        | (go_at_call 16; refine HA.out.mono ?_; rintro e w' ⟨rfl, hp⟩))
      go_ret
      exact ⟨rfl, hp⟩
  · have e1 : put L s = L := by simp [put, hnew]
    rw [e1]
    have hself : ∃ τ' : Tab, τ'.b = τ.b ∧ τ'.At w L ∧ KeptBut τ.foot w w ∧ ∀ k, τ'.foot k → τ.foot k ∨ w.heap.size ≤ k := ⟨τ, rfl, h, KeptBut.refl _ _, fun k e => .inl e⟩
    have HS := Lib.hid hself
    clear hself e1 h
    obtain ⟨b, m, v⟩ := τ
    simp only at c0 ⊢
    cases m with
    | none =>
      obtain rfl : L = [] := hm
      simp [num] at hnew
    | some bm =>
      obtain ⟨D, hown, hD⟩ := hm
      have h1 : Maps.has D (.string s.data.toList) = true := by rw [(hD s).1]; simp [has, hnew]
      have H2 := Lib.hid (hD s).2
      clear hD hnew
      go_enter Try.func11, Try.ntmps11
      go_wp2_with (at_lookup; refine wpList_lookup_own_ok_int _ rfl _ _ 38 rfl 9 3 .i64 law9 Try.underlying38 Try.underlying3 (zero3 _) bm _ D rfl hown _ _ rfl HK.out ?_; intro c hat hwc; rw [h1]; rw [H2.out] at hat; obtain rfl := lit_int_inj hat; clear hat hwc)
      go_ret
      exact ⟨rfl, HS.out⟩

end Go.Proofs.Ytgflncpigeppfaa

/-
  A list of package lru in memory, and the contracts of unlink and linkFirst.
-/
import Derived.Test.YthnmnohhhakjbaaFrame
namespace Go.Proofs.Ythnmnohhhakjbaa.B
open Go.RowKit Go.Maps

/-- Where a list lies, once it has had a key: its own block, its map's, its row's. -/
structure Loc where
  b : Nat
  m : Nat
  g : Nat
  cap : Nat

/-- The list's own block and its places. -/
structure Loc.Cells (τ : Loc) (w : World) (P : List (Pl Int)) (sp : Int) : Prop where
  blk : w.heap[τ.b]? = some (.cells #[.map (some τ.m), .slice (some ⟨τ.g, 0, none⟩) P.length τ.cap, .int .i64 sp] 84 (0, 0))
  row : w.ownsRow 0 88 3 (.slice (some ⟨τ.g, 0, none⟩) P.length τ.cap) P.length (flat (Value.int .u8) P)

theorem Loc.Cells.cell0 {τ : Loc} {w : World} {P : List (Pl Int)} {sp : Int} (h : τ.Cells w P sp) : w.cell? ⟨τ.b, 0, none⟩ = some (.map (some τ.m)) := by simp [World.cell?, h.blk]
theorem Loc.Cells.cell1 {τ : Loc} {w : World} {P : List (Pl Int)} {sp : Int} (h : τ.Cells w P sp) : w.cell? ⟨τ.b, 1, none⟩ = some (.slice (some ⟨τ.g, 0, none⟩) P.length τ.cap) := by simp [World.cell?, h.blk]
theorem Loc.Cells.cell2 {τ : Loc} {w : World} {P : List (Pl Int)} {sp : Int} (h : τ.Cells w P sp) : w.cell? ⟨τ.b, 2, none⟩ = some (.int .i64 sp) := by simp [World.cell?, h.blk]
theorem Loc.Cells.frozen {τ : Loc} {w : World} {P : List (Pl Int)} {sp : Int} (h : τ.Cells w P sp) (i : Nat) : w.frozen? ⟨τ.b, i, none⟩ = false := by simp [World.frozen?, h.blk]
theorem Loc.Cells.place {τ : Loc} {w : World} {P : List (Pl Int)} {sp : Int} (h : τ.Cells w P sp) {i : Nat} {p : Pl Int} (hp : P[i]? = some p) :
    w.cell? ⟨τ.g, i * 3, none⟩ = some ((Value.int .u8) p.key) ∧ w.cell? ⟨τ.g, i * 3 + 1, none⟩ = some (.int .i64 p.ah) ∧ w.cell? ⟨τ.g, i * 3 + 2, none⟩ = some (.int .i64 p.bh) := by
  have hi : i < P.length := (List.getElem?_eq_some_iff.1 hp).1
  obtain ⟨h1, h2, h3⟩ := flat_get (Value.int .u8) P i p hp
  refine ⟨?_, ?_, ?_⟩
  · rw [h.row.cellAt _ (by omega), h1]
  · rw [h.row.cellAt _ (by omega), h2]
  · rw [h.row.cellAt _ (by omega), h3]
theorem Loc.Cells.frozenAt {τ : Loc} {w : World} {P : List (Pl Int)} {sp : Int} (h : τ.Cells w P sp) (i : Nat) : w.frozen? ⟨τ.g, i, none⟩ = false := h.row.frozenAt i
theorem Loc.Cells.ne {τ : Loc} {w : World} {P : List (Pl Int)} {sp : Int} (h : τ.Cells w P sp) : τ.b ≠ τ.g := by
  intro e
  rcases h.row.2 with ⟨hv, _⟩ | ⟨g, cap, cur, hv, _, hg, _⟩
  · cases hv
  · injection hv with hv1 _ _
    injection hv1 with hv1
    injection hv1 with hv1 _ _
    rw [← hv1, ← e, h.blk] at hg
    cases hg
theorem Loc.Cells.blt {τ : Loc} {w : World} {P : List (Pl Int)} {sp : Int} (h : τ.Cells w P sp) : τ.b < w.heap.size := (Array.getElem?_eq_some_iff.1 h.blk).1
theorem Loc.Cells.glt {τ : Loc} {w : World} {P : List (Pl Int)} {sp : Int} (h : τ.Cells w P sp) : τ.g < w.heap.size := (h.row.lt τ.g rfl).2
theorem Loc.Cells.kept {S : Nat → Prop} {τ : Loc} {w w' : World} {P : List (Pl Int)} {sp : Int} (h : τ.Cells w P sp) (k : KeptBut S w w') (hb : ¬ S τ.b) (hg : ¬ S τ.g) : τ.Cells w' P sp :=
  ⟨(k.block τ.b h.blt hb).trans h.blk, ownsRow_kept h.row k (fun b hb' => by simp only [Value.ownBlock, Option.some.injEq] at hb'; rw [← hb']; exact hg)⟩
/-- A cell of a place is written. -/
theorem Loc.Cells.stored {τ : Loc} {w : World} {P P' : List (Pl Int)} {sp : Int} (h : τ.Cells w P sp) (j : Nat) (u : Value) (hl : P'.length = P.length) (hf : flat (Value.int .u8) P' = (flat (Value.int .u8) P).set j u) : τ.Cells (w.setCell ⟨τ.g, j, none⟩ u) P' sp := by
  refine ⟨?_, ?_⟩
  · rw [heap_setCell_other w ⟨τ.g, j, none⟩ τ.b u h.ne, h.blk, hl]
  · rw [hl, hf]
    exact (h.row.stored j u).1
theorem Loc.Cells.setBh {τ : Loc} {w : World} {P : List (Pl Int)} {sp : Int} (h : τ.Cells w P sp) (i : Nat) (v : Int) : τ.Cells (w.setCell ⟨τ.g, i * 3 + 2, none⟩ (.int .i64 v)) (setBh P i v) sp :=
  h.stored _ _ (by simp) (flat_setBh (Value.int .u8) P i v)
theorem Loc.Cells.setAh {τ : Loc} {w : World} {P : List (Pl Int)} {sp : Int} (h : τ.Cells w P sp) (i : Nat) (v : Int) : τ.Cells (w.setCell ⟨τ.g, i * 3 + 1, none⟩ (.int .i64 v)) (setAh P i v) sp :=
  h.stored _ _ (by simp) (flat_setAh (Value.int .u8) P i v)
theorem Loc.Cells.setKey {τ : Loc} {w : World} {P : List (Pl Int)} {sp : Int} (h : τ.Cells w P sp) (i : Nat) (v : Int) : τ.Cells (w.setCell ⟨τ.g, i * 3, none⟩ ((Value.int .u8) v)) (setKey P i v) sp :=
  h.stored _ _ (by simp) (flat_setKey (Value.int .u8) P i v)
theorem Loc.Cells.alike {τ : Loc} {w w' : World} {P : List (Pl Int)} {sp : Int} (h : τ.Cells w P sp) (e : w'.heap = w.heap) : τ.Cells w' P sp := by
  refine ⟨by rw [e]; exact h.blk, ?_⟩
  have := h.row
  unfold World.ownsRow at this ⊢
  rw [e]; exact this

set_option maxHeartbeats 1000000 in
theorem unlink_any (τ : Loc) (P : List (Pl Int)) (sp : Int) (w : World) (h : τ.Cells w P sp) (a x y : Nat) (k : Int) (hp : P[a]? = some ⟨k, x, y⟩) (hx : x < P.length) (hy : y < P.length) :
    Calls Try.prog 52 #[.pointer (some ⟨τ.b, 0, none⟩), .int .i64 (a : Nat)] w fun e w' => e = .returned (.tuple #[]) ∧ τ.Cells w' (setAh (setBh P x y) y x) sp ∧ KeptBut (fun k => k = τ.g) w w' := by
  have c1 := h.cell1
  obtain ⟨d0, d1, d2⟩ := h.place hp
  simp only at d0 d1 d2
  have ha : a < P.length := (List.getElem?_eq_some_iff.1 hp).1
  have hbl := h.blt
  have hgl := h.glt
  have hne := h.ne
  go_enter Try.func52, Try.ntmps52
  go_wp2
  obtain ⟨w1, hw1⟩ : ∃ w1, w1 = w.alloc (.cells #[(Value.int .u8) k, .int .i64 (x : Nat), .int .i64 (y : Nat)] 88) := ⟨_, rfl⟩
  rw [← hw1]
  have k1 : KeptBut (fun _ => False) w w1 := by rw [hw1]; exact KeptBut.alloc _ _ _
  have h1 : τ.Cells w1 P sp := h.kept k1 id id
  have c11 := h1.cell1
  have hb1 : w1.heap[w.heap.size]? = some (.cells #[(Value.int .u8) k, .int .i64 (x : Nat), .int .i64 (y : Nat)] 88 (0, 0)) := by rw [hw1]; exact heap_alloc_new w _
  have e1 : w1.cell? ⟨w.heap.size, 1, none⟩ = some (.int .i64 (x : Nat)) := by simp [World.cell?, hb1]
  have e2 : w1.cell? ⟨w.heap.size, 2, none⟩ = some (.int .i64 (y : Nat)) := by simp [World.cell?, hb1]
  have f1 := h1.frozenAt (x * 3 + 2)
  have f2 := h1.frozenAt (y * 3 + 1)
  have n1 : τ.g ≠ w.heap.size := by omega
  have hlx : (x : Int) < (P.length : Int) := by omega
  have hly : (y : Int) < (P.length : Int) := by omega
  obtain ⟨px, hpx⟩ : ∃ px, P[x]? = some px := ⟨_, List.getElem?_eq_getElem hx⟩
  obtain ⟨py, hpy⟩ : ∃ py, P[y]? = some py := ⟨_, List.getElem?_eq_getElem hy⟩
  have q1 := (h1.place hpx).2.2
  have q2 := (h1.place hpy).2.1
  have H1 := Lib.hid h1
  have HK := Lib.hid k1
  have HB := Lib.hid hb1
  clear h h1 k1 hb1 hw1 c1 d0 d1 d2 hp hpx hpy
  go_region
  all_goals
    go_end0
    refine ⟨rfl, ((H1.out.setBh x y).setAh y x).alike rfl, ?_⟩
    exact KeptBut.trans (S' := fun k => k = τ.g) (HK.out.mono (fun _ e => e.elim)) (((KeptBut.setCell w1 ⟨τ.g, x * 3 + 2, none⟩ (.int .i64 (y : Nat))).trans (KeptBut.setCell _ ⟨τ.g, y * 3 + 1, none⟩ (.int .i64 (x : Nat))) (fun _ e => .inl e)).alike rfl rfl rfl rfl) (fun _ e => .inl e)

set_option maxHeartbeats 1000000 in
theorem link_any (τ : Loc) (P : List (Pl Int)) (sp : Int) (w : World) (h : τ.Cells w P sp) (a f : Nat) (ha : a < P.length) (hf : f < P.length) (h0 : bhAt P 0 = some (f : Int)) :
    Calls Try.prog 53 #[.pointer (some ⟨τ.b, 0, none⟩), .int .i64 (a : Nat)] w fun e w' => e = .returned (.tuple #[]) ∧ τ.Cells w' (setAh (setBh (setBh (setAh P a 0) a f) 0 a) f a) sp ∧ KeptBut (fun k => k = τ.g) w w' := by
  have c1 := h.cell1
  have hne := h.ne
  obtain ⟨pa, hpa⟩ : ∃ px, P[a]? = some px := ⟨_, List.getElem?_eq_getElem ha⟩
  obtain ⟨pf, hpf⟩ : ∃ py, P[f]? = some py := ⟨_, List.getElem?_eq_getElem hf⟩
  obtain ⟨p0, hp0⟩ : ∃ py, P[0]? = some py := ⟨_, List.getElem?_eq_getElem (by omega)⟩
  have h0' : p0.bh = (f : Int) := by simpa [bhAt, hp0] using h0
  have q0 := (h.place hp0).2.2
  rw [h0'] at q0
  have q1 := (h.place hpa).2.1
  have q2 := (h.place hpa).2.2
  have g1 := h.frozenAt (a * 3 + 1)
  have g2 := h.frozenAt (a * 3 + 2)
  have hla : (a : Int) < (P.length : Int) := by omega
  have hlf : (f : Int) < (P.length : Int) := by omega
  have hl0 : (0 : Int) < (P.length : Int) := by omega
  have q0' : w.cell? ⟨τ.g, 2, none⟩ = some (.int .i64 (f : Nat)) := by simpa using q0
  have H := Lib.hid h
  clear h hpa hpf hp0 h0 h0' q0
  go_enter Try.func53, Try.ntmps53
  go_wp2
  go_region
  all_goals
    obtain ⟨w1, hw1⟩ : ∃ w1, w1 = ((w.setCell ⟨τ.g, a * 3 + 1, none⟩ (.int .i64 0)).setCell ⟨τ.g, a * 3 + 2, none⟩ (.int .i64 (f : Nat))).drew := ⟨_, rfl⟩
    rw [← hw1]
    have h1 : τ.Cells w1 (setBh (setAh P a 0) a f) sp := by rw [hw1]; exact ((H.out.setAh a 0).setBh a f).alike rfl
    have k1 : KeptBut (fun k => k = τ.g) w w1 := by
      rw [hw1]
      exact ((KeptBut.setCell w ⟨τ.g, a * 3 + 1, none⟩ (.int .i64 0)).trans (KeptBut.setCell _ ⟨τ.g, a * 3 + 2, none⟩ (.int .i64 (f : Nat))) (fun _ e => .inl e)).alike rfl rfl rfl rfl
    have c11 := h1.cell1
    simp only [length_setBh, length_setAh] at c11
    obtain ⟨r0, hr0⟩ : ∃ r, (setBh (setAh P a 0) a f)[0]? = some r := ⟨_, List.getElem?_eq_getElem (by simp; omega)⟩
    obtain ⟨rf, hrf⟩ : ∃ r, (setBh (setAh P a 0) a f)[f]? = some r := ⟨_, List.getElem?_eq_getElem (by simp; omega)⟩
    have u0 : w1.cell? ⟨τ.g, 2, none⟩ = some (.int .i64 r0.bh) := by simpa using (h1.place hr0).2.2
    have u1 := (h1.place hrf).2.1
    have g0 := h1.frozenAt 2
    have g3 := h1.frozenAt (f * 3 + 1)
    have H1 := Lib.hid h1
    have HK1 := Lib.hid k1
    clear h1 k1 hw1 hr0 hrf q1 q2 g1 g2 c1 q0'
    go_wp2
    go_region
    all_goals
      go_end0
      refine ⟨rfl, ((H1.out.setBh 0 a).setAh f a).alike rfl, ?_⟩
      exact HK1.out.trans (((KeptBut.setCell w1 ⟨τ.g, 2, none⟩ (.int .i64 (a : Nat))).trans (KeptBut.setCell _ ⟨τ.g, f * 3 + 1, none⟩ (.int .i64 (a : Nat))) (fun _ e => .inl e)).alike rfl rfl rfl rfl) (fun _ e => .inl e)


end Go.Proofs.Ythnmnohhhakjbaa.B

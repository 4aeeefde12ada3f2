/-
  The contract of Lex of package lex: all tokens, the end last, and what is told.
-/
import Derived.Test.YthpoffklhpbdoaaGreatDoorLexP
import Derived.Deep.RegionLaw
import Derived.Deep.AppendLies
import Derived.OneCell
namespace Go.Proofs.YthpoffklhpbdoaaGreatDoor
set_option maxRecDepth 20000
open Go.RowKit Go.Shelf
attribute [local go_sem] Oper.semAt_some

theorem info35 : (Tryz.prog.info? 88).map (fun i => (i.zero, i.size, i.bytes)) = some (some (.agg #[.int .i64 0, .int .i64 0, .string ⟨#[]⟩]), 3, 32) := by kernel_rfl
theorem info41 : (Tryz.prog.info? 113).map (fun i => (i.zero, i.size, i.bytes)) = some (some (.agg #[.int .i64 0, .int .i64 0, .string ⟨#[]⟩]), 3, 32) := by kernel_rfl

theorem cell_at {W : World} {b i : Nat} {c : Array Value} {t : TypeId} (h : W.heap[b]? = some (.cells c t (0, 0))) : W.cell? ⟨b, i, none⟩ = c[i]? := by simp [World.cell?, h]
theorem add_zero (b j : Nat) : (⟨b, 0, none⟩ : Addr).add j = ⟨b, j, none⟩ := by unfold Addr.add; split <;> simp_all

theorem cells3_new (W : World) (x y z : Value) (t : TypeId) : ∀ (j : Nat) (u : Value), [x, y, z][j]? = some u → (W.alloc (.cells #[x, y, z] t)).cell? ((⟨W.heap.size, 0, none⟩ : Addr).add j) = some u := by
  intro j u hj
  rw [add_zero, cell_at (heap_alloc_new W (.cells #[x, y, z] t))]
  simpa using hj

theorem cells3_set (W : World) (b i : Nat) (v x y z : Value) (t : TypeId) : ∀ (j : Nat) (u : Value), [x, y, z][j]? = some u → ((W.setCell ⟨b, i, none⟩ v).alloc (.cells #[x, y, z] t)).cell? ((⟨W.heap.size, 0, none⟩ : Addr).add j) = some u := by
  intro j u hj
  have := cells3_new (W.setCell ⟨b, i, none⟩ v) x y z t j u hj
  simpa [World.setCell] using this
theorem size_setal (W : World) (b i : Nat) (v : Value) (o : Obj) : ((W.setCell ⟨b, i, none⟩ v).alloc o).heap.size = W.heap.size + 1 := by simp [World.setCell]

theorem one3 {k a : Int} {t : ByteArray} : ∀ u ∈ [Value.int .i64 k, .int .i64 a, .string t], u.oneCell' = true := by
  intro u hu
  simp only [List.mem_cons, List.not_mem_nil, or_false] at hu
  rcases hu with rfl | rfl | rfl <;> rfl

theorem pieces_le : ∀ (N a : Nat) (l : Bs), l.length ≤ N → (pieces a l).length ≤ l.length
  | 0, a, l, h => by
    have : l = [] := List.eq_nil_of_length_eq_zero (by omega)
    subst this
    simp [pieces_nil]
  | N + 1, a, l, h => by
    by_cases hl : l = []
    · subst hl
      simp [pieces_nil]
    · have hn := stepOf_n l hl
      have ih := pieces_le N (a + (stepOf l).n) (l.drop (stepOf l).n) (by rw [List.length_drop]; omega)
      rw [List.length_drop] at ih
      by_cases hp : (stepOf l).k ≠ 0 ∨ (stepOf l).d ≠ 0
      · rw [pieces_piece a l hl hp, List.length_cons]
        omega
      · rw [pieces_gap a l hl (by omega) (by omega)]
        omega

/-- What an append leaves of the blocks that are no row of that kind. -/
theorem far_row {W W' : World} {B : Nat} {e : TypeId} {v : Value} {n : Nat} {xs : List Value} (hr : W.ownsRow B e 3 v n xs) (hg : W.grownBy W' v.ownBlock) {k : Nat} {o : Obj} (hk : W.heap[k]? = some o) (ho : ∀ c fz, o ≠ .cells c e fz) : W'.heap[k]? = some o := by
  refine (hg.block k (Array.getElem?_eq_some_iff.1 hk).1 ?_).trans hk
  intro e1
  rcases hr.2 with ⟨rfl, _⟩ | ⟨g, cap, cur, rfl, hb, hgg, _⟩
  · cases e1
  · simp only [Value.ownBlock, Option.some.injEq] at e1
    subst e1
    rw [hgg] at hk
    cases hk
    exact ho _ _ rfl

/-- A piece of code that ends in the plain way alone. -/
def onlyNormal (R : Act → World → Prop) : Exit → Act → World → Prop
  | .normal, a, w => R a w
  | _, _, _ => False
theorem only_intro {R : Act → World → Prop} {a : Act} {w : World} (h : R a w) : onlyNormal R .normal a w := h
theorem wp_only {n : Nat} {P : Program} {c : Code} {Q : Exit → Act → World → Prop} {a : Act} {w : World} (h : c.wp P (onlyNormal (fun a w => Q .normal a w)) a w) : c.wpIn Fence.wide n P Q a w :=
  wpIn_mono (wpIn_wide.2 h) fun e _ _ h => by cases e <;> first | exact h | exact h.elim

/-- The end of a round. -/
theorem round_end {w W W' : World} {B0 : Nat} {v u : Value} {ts : List Tk} {ds : List Dg} {l : List PK} {Ix : Code → List PK → World → Prop} {a' : Act} (hS : St w.heap.size v ts.length (tkCells ts) u ds.length (dgCells ds) W') (hR : Rd w.heap.size W W') (hB : Below w.heap.size w W)
    (h1 : toksOf (l.map Subtype.val) = ts) (h2 : toldOf (l.map Subtype.val) = ds) :
    ownPostG B0 (Kc w.heap.size) (fun (pre : List PK) W => (∃ v u, St w.heap.size v (toksOf (pre.map Subtype.val)).length (tkCells (toksOf (pre.map Subtype.val))) u (toldOf (pre.map Subtype.val)).length (dgCells (toldOf (pre.map Subtype.val))) W) ∧ Below w.heap.size w W) Ix l W Exit.normal a' W' := by
  refine ⟨hR.others.from _, hR.kc hB.size, ⟨v, u, ?_⟩, hB.trans (hR.belows hB.size)⟩
  rw [h1, h2]
  exact hS

set_option maxRecDepth 100000 in
set_option maxHeartbeats 4000000 in
theorem lex_any (s : ByteArray) (hs : s.size ≤ 1000000) (w : World) :
    Calls Tryz.prog 72 #[.string s] w fun e W' => ∃ v u, e = .returned (.tuple #[v, u]) ∧
      W'.ownsRow w.heap.size 88 3 v ((toksOf (pieces 0 s.data.toList)).length + 1) (tkCells (toksOf (pieces 0 s.data.toList) ++ [⟨6, s.size, []⟩])) ∧
      W'.ownsRow w.heap.size 113 3 u (toldOf (pieces 0 s.data.toList)).length (dgCells (toldOf (pieces 0 s.data.toList))) ∧ Below w.heap.size w W' := by
  obtain ⟨xα, hα⟩ := lift_pcs (pieces 0 s.data.toList) (fun x hx => by
    have := pcs_t s.data.toList.length 0 s.data.toList (Nat.le_refl _) x (List.mem_filter.1 hx).1
    rw [← Lib.size_eq] at this
    omega)
  rw [← callsIn_wide (n := 5)]
  have hff : Fence.wide.fn 105 := trivial
  refine callsIn_of_wp_marks Tryz.func72 rfl trivial ?_ rfl
  simp only [Tryz.ntmps72, List.size_toArray, List.length_cons, List.length_nil, Nat.reduceAdd, Nat.reduceSub, Array.replicate_succ, Array.replicate_zero, List.push_toArray, List.append_toArray, List.nil_append, List.cons_append]
  gi_wp2_with (gi_at_call 105; refine (pieces_in _ _ _).mono ?_; rintro e w' ⟨rfl, rfl⟩)
  obtain ⟨W0, hW0⟩ : ∃ W0, ((w.alloc (.cells #[.slice none 0 0] 93)).alloc (.cells #[.slice none 0 0] 51)).alloc (.cells #[.string s] 9) = W0 := ⟨_, rfl⟩
  have hs0 : W0.heap.size = w.heap.size + 3 := by rw [← hW0]; simp
  have hT0 : W0.heap[w.heap.size]? = some (.cells #[.slice none 0 0] 93 (0, 0)) := by
    rw [← hW0]; exact ((Below.heap_alloc _ _ _ (by simp; omega)).trans (Below.heap_alloc _ _ _ (by simp))).trans (World.alloc_heap_new w _)
  have hD0 : W0.heap[w.heap.size + 1]? = some (.cells #[.slice none 0 0] 51 (0, 0)) := by
    rw [← hW0]; refine (Below.heap_alloc _ _ _ (by simp)).trans ?_
    have := World.alloc_heap_new (w.alloc (.cells #[.slice none 0 0] 93)) (.cells #[.slice none 0 0] 51); rwa [World.size_alloc] at this
  have hB0 : W0.heap[w.heap.size + 1 + 1]? = some (.cells #[.string s] 9 (0, 0)) := by
    rw [← hW0]
    have := World.alloc_heap_new ((w.alloc (.cells #[.slice none 0 0] 93)).alloc (.cells #[.slice none 0 0] 51)) (.cells #[.string s] 9); rwa [World.size_alloc, World.size_alloc] at this
  have hBW : Below w.heap.size w W0 := by rw [← hW0]; exact (((Below.refl _ w).alloc (Nat.le_refl _) _).alloc (by simp) _).alloc (by simp; omega) _
  rw [hW0]
  clear hW0
  have hxl : xα.length ≤ s.size := by
    have h1 := congrArg List.length hα
    rw [List.length_map] at h1
    rw [h1, Lib.size_eq]
    exact pieces_le _ _ _ (Nat.le_refl _)
  refine wpIn_rangeFunc_ownH rfl (by omega) (gf := 119) (lb := #[.pointer (some ⟨w.heap.size + 1 + 1, 0, none⟩)]) rfl trivial (enters_of Tryz.func119 (by kernel_rfl) rfl)
    (pieces_stops 4 (by omega) (w.heap.size + 1 + 1) w.heap.size s (by omega) xα hα W0 hB0 (by omega)) (fun h k => Kc.trans h k) (fun W l o o' h1 h2 h3 h4 => Kc.put (w := W0) (by omega) W l o o' h1 h2 h3 h4) (Below.refl _ _) (fun _ => rfl)
    (fun pre W => (∃ v u, St w.heap.size v (toksOf (pre.map Subtype.val)).length (tkCells (toksOf (pre.map Subtype.val))) u (toldOf (pre.map Subtype.val)).length (dgCells (toldOf (pre.map Subtype.val))) W) ∧ Below w.heap.size w W)
    (fun _ _ _ => False)
    (OwnFrom.and (Own.from (I := fun (pre : List PK) W => ∃ v u, St w.heap.size v (toksOf (pre.map Subtype.val)).length (tkCells (toksOf (pre.map Subtype.val))) u (toldOf (pre.map Subtype.val)).length (dgCells (toldOf (pre.map Subtype.val))) W) (fun s A B row ⟨v, u, hs⟩ hg hr => ⟨v, u, hs.same fun k c t _ hk => block_kept hk hg hr⟩) _) (ownFrom_below (Nat.le_refl _) (by omega)))
    (fun _ _ _ _ _ hs _ _ => hs)
    ⟨⟨.slice none 0 0, .slice none 0 0, hT0, hD0, World.ownsRow_nil _ _ _ _, World.ownsRow_nil _ _ _ _⟩, hBW⟩
    (fun x a' W => ∃ b, w.heap.size + 2 ≤ b ∧ a' = { tmps := #[.string s, undef, .slice none 0 0, .slice none 0 0, .pointer (some ⟨w.heap.size, 0, none⟩), .pointer (some ⟨w.heap.size + 1, 0, none⟩), .pointer (some ⟨b, 0, none⟩), .string s, .func (.func 119) #[] #[.pointer (some ⟨w.heap.size + 1 + 1, 0, none⟩)], pcV x.1, undef, undef, undef, undef, undef, undef, undef, undef, undef, undef, undef, undef, undef, undef, undef, undef, undef, undef, undef, undef, undef, undef, undef, undef, undef, undef, undef, undef, undef, undef, undef, undef, undef, undef], defers := [] } ∧ Five W b (.int .i64 x.1.s.k) (.int .i64 x.1.at_) (.string ⟨x.1.s.t.toArray⟩) (.int .i64 ((x.1.at_ + x.1.s.n : Nat) : Int)) (.int .i64 x.1.s.d))
    (fun x a' => Own.from (fun _ A B row ⟨b, h1, h2, h3⟩ hg hr => ⟨b, h1, h2, block_kept h3 hg hr⟩) _)
    ?assign ?body ?done ?stop
  case assign =>
    rintro l pre ⟨⟨ya, sn, sk, st, sd⟩, hyl⟩ W K ⟨⟨v, u, hSt⟩, hB⟩ hK
    have hsz : w.heap.size + 2 ≤ W.heap.size := (Array.getElem?_eq_some_iff.1 hSt.c1).1
    obtain ⟨m, hm⟩ : ∃ m, m = ya + sn := ⟨_, rfl⟩
    have HM := Lib.hid hm
    simp only [pcV, pieceV, ← hm]
    clear hm
    gi_wp2
    have hBa : Below W.heap.size W (W.alloc (.cells #[.int .i64 sk, .int .i64 ya, .string ⟨st.toArray⟩, .int .i64 (m : Int), .int .i64 sd] 149)) := (Below.refl _ _).alloc (Nat.le_refl _) _
    refine hK _ _ ((Rd.of_below (n₀ := w.heap.size) hBa).others.from _) (Kc.of_below hBa hB.size) ⟨⟨v, u, hSt.below hBa⟩, hB.trans (hBa.mono hB.size)⟩ ⟨W.heap.size, hsz, ?_, ?_⟩
    · simp only [pcV, pieceV, ← HM.out]
    · simp only [← HM.out]
      exact five_new W _ _ _ _ _
  case body =>
    rintro l pre ⟨⟨ya, sn, sk, st, sd⟩, hyl⟩ a' W hl hrec ⟨⟨v, u, hSt⟩, hB⟩ ⟨b, hb0, rfl, h5⟩ hlen
    obtain ⟨m, hm⟩ : ∃ m, m = ya + sn := ⟨_, rfl⟩
    simp only [pcV, pieceV, ← hm] at h5 ⊢
    clear hm
    have hbW := (Array.getElem?_eq_some_iff.1 h5).1
    have hne : ¬ w.heap.size = b := by omega
    have hne' : ¬ b = w.heap.size := by omega
    have hne1 : ¬ w.heap.size + 1 = b := by omega
    have hne1' : ¬ b = w.heap.size + 1 := by omega
    obtain ⟨ts, hts⟩ : ∃ ts, ts = toksOf (pre.map Subtype.val) := ⟨_, rfl⟩
    obtain ⟨ds, hds⟩ : ∃ ds, ds = toldOf (pre.map Subtype.val) := ⟨_, rfl⟩
    have htl : ts.length ≤ pre.length := by rw [hts]; simpa using toksOf_le (pre.map Subtype.val)
    have hdl : ds.length ≤ pre.length := by rw [hds]; simpa using toldOf_le (pre.map Subtype.val)
    rw [← hts, ← hds] at hSt
    have HTS := Lib.hid hts
    have HDS := Lib.hid hds
    clear hts hds
    obtain ⟨⟨c0, c1, c2, c3, c4⟩, f0, f1, f2, f3, f4⟩ := five_of h5
    obtain ⟨i0, hi, hz0, hz1, hz2⟩ := info_parts info35
    obtain ⟨j0, hj, hy0, hy1, hy2⟩ := info_parts info41
    have hf17 : Fence.wide.fn 106 := trivial
    rcases Nat.eq_zero_or_pos sk with rfl | hsk
    · rcases Nat.eq_zero_or_pos sd with rfl | hsd
      ·
        gi_wp2
        exact round_end hSt (Rd.refl _ _) hB (by rw [List.map_append, List.map_cons, List.map_nil, toksOf_snoc, ← HTS.out]; simp) (by rw [List.map_append, List.map_cons, List.map_nil, toldOf_snoc, ← HDS.out]; simp)
      ·
        have hd1 : ((sd : Int) == 0) = false := by simp; omega
        have hd2 : ¬ (sd : Int) = 0 := by omega
        have hmy : ds.length + 1 ≤ maxLen := by unfold maxLen; omega
        have HBY : Hid (w.heap.size ≤ (W.alloc (.cells #[.int .i64 ya, .int .i64 sd, .string ⟨#[]⟩] 113)).heap.size) := by
          have h1 := hB.size
          show _ ≤ _
          rw [World.size_alloc]
          omega
        have tu := (cell_of_block hSt.c1).1
        have HS0 := Lib.hid hSt
        gi_wp2_with (first | (gi_at_builtin; refine wpListIn_append_own _ rfl (.tmp 28) (.tmp 35) 51 rfl w.heap.size 113 j0 _ 3 32 Tryz.underlying51 hj hy0 hy1 hy2 rfl (by decide) _ _ _ rfl (HS0.out.r1.alloc _) ⟨W.heap.size, 0, none⟩ 1 1 [.int .i64 ya, .int .i64 sd, .string ⟨#[]⟩] rfl rfl (cells3_new W _ _ _ 113) one3 hmy (by omega) (HBY.out) ?_; intro u' W7 hown7 hg7 hnil7; clear hnil7; obtain ⟨g', cap', rfl⟩ := ownsRow_succ hown7; (have hSt8 := (HS0.out.alloc (.cells #[.int .i64 ya, .int .i64 sd, .string ⟨#[]⟩] 113)).told hown7 hg7); obtain ⟨m0, m1⟩ := cell_of_block hSt8.1; (have HR7 := Lib.hid ((Rd.refl _ _ : Rd w.heap.size W _).alloc (.cells #[.int .i64 ya, .int .i64 sd, .string ⟨#[]⟩] 113) |>.grown (HS0.out.alloc (.cells #[.int .i64 ya, .int .i64 sd, .string ⟨#[]⟩] 113)).r1 (.inr rfl) hg7)); (have HS8 := Lib.hid hSt8.2); clear hSt8 hown7 hg7))
        refine round_end (ts := ts) (ds := ds ++ [⟨ya, sd⟩]) (by rw [List.length_append, dgCells_snoc]; exact HS8.out) (HR7.out.setVar hSt.c1 (.inr rfl) (by omega) _) hB (by rw [List.map_append, List.map_cons, List.map_nil, toksOf_snoc, ← HTS.out]; simp) (by rw [List.map_append, List.map_cons, List.map_nil, toldOf_snoc, ← HDS.out, if_neg (show ¬ sd = 0 by omega)])
    · rcases Nat.eq_zero_or_pos sd with rfl | hsd
      ·
        have hk1 : ((sk : Int) == 0) = false := by simp; omega
        have hk2 : ¬ (sk : Int) = 0 := by omega
        gi_wp2_with fail
        refine (CallsIn.inRound l (callsIn_wide.2 (strings_clone ⟨st.toArray⟩ _ (by rw [Lib.size_eq]; exact hyl)))).mono ?_
        rintro e W2 ⟨rfl, hb2⟩
        have h52 := five_kept h5 hb2 hbW
        have h53 := five_text h52 (.string ⟨st.toArray⟩)
        have hSt2 := hSt.below hb2
        have hSt3 := hSt2.setOther (i := 2) h52 (.string ⟨st.toArray⟩)
        have hR3 := (Rd.of_below (n₀ := w.heap.size) hb2).setSame h52
        obtain ⟨⟨d0, d1, d2, d3, d4⟩, g0, g1, g2, g3, g4⟩ := five_of h52
        obtain ⟨⟨p0, p1, p2, p3, p4⟩, -⟩ := five_of h53
        have t2 := (cell_of_block hSt2.c0).1
        have t3 := (cell_of_block hSt3.c0).1
        have HBS : Hid (w.heap.size ≤ ((W2.setCell ⟨b, 2, none⟩ (.string ⟨st.toArray⟩)).alloc (.cells #[.int .i64 sk, .int .i64 ya, .string ⟨st.toArray⟩] 88)).heap.size) := by
          have h1 := hB.size
          have h2 := hb2.size
          show _ ≤ _
          rw [size_setal]
          omega
        have hmx : ts.length + 1 ≤ maxLen := by unfold maxLen; omega
        have H53 := Lib.hid h53
        have HS3 := Lib.hid (hSt3.alloc (.cells #[.int .i64 sk, .int .i64 ya, .string ⟨st.toArray⟩] 88))
        have HR3 := Lib.hid (hR3.alloc (.cells #[.int .i64 sk, .int .i64 ya, .string ⟨st.toArray⟩] 88))
        clear h53 h52 hSt2 hSt3 hR3 c0 c1 c2 c3 c4 f0 f1 f2 f3 f4
        gi_wp2_with (first | (gi_at_builtin; refine wpListIn_append_own _ rfl (.tmp 20) (.tmp 23) 93 rfl w.heap.size 88 i0 _ 3 32 Tryz.underlying93 hi hz0 hz1 hz2 rfl (by decide) _ _ _ rfl HS3.out.r0 ⟨W2.heap.size, 0, none⟩ 1 1 [.int .i64 sk, .int .i64 ya, .string ⟨st.toArray⟩] rfl rfl (cells3_set W2 b 2 _ _ _ _ 88) one3 hmx (by omega) HBS.out ?_; intro v' W5 hown5 hg5 hnil5; clear hnil5; obtain ⟨g, cap, rfl⟩ := ownsRow_succ hown5; (have hSt6 := HS3.out.toks hown5 hg5); (have h55 := five_grown (five_kept H53.out ((Below.refl _ _).alloc (Nat.le_refl _) _) (Array.getElem?_eq_some_iff.1 H53.out).1) HS3.out.r0 (by decide) hg5); obtain ⟨⟨q0, q1, q2, q3, q4⟩, -⟩ := five_of h55; obtain ⟨k0, k1⟩ := cell_of_block hSt6.1; (have hk5 : W5.heap[w.heap.size + 1]? = some (.cells #[u] 51 (0, 0)) := (Below.heap_setCell W5 ⟨w.heap.size, 0, none⟩ _ _ (by simp)).symm.trans hSt6.2.c1); obtain ⟨k2, k3⟩ := cell_of_block hk5; (have HR5 := Lib.hid (HR3.out.grown HS3.out.r0 (.inl rfl) hg5)); (have HS6 := Lib.hid hSt6.2); clear hSt6 h55 hown5 hg5 hk5 t2 t3 d0 d1 d2 d3 d4 g0 g1 g2 g3 g4 p0 p1 p2 p3 p4))
        refine round_end (ts := ts ++ [⟨sk, ya, st⟩]) (ds := ds) (by rw [List.length_append, tkCells_snoc]; exact HS6.out) (HR5.out.setVar hSt.c0 (.inl rfl) (Nat.le_refl _) _) hB (by rw [List.map_append, List.map_cons, List.map_nil, toksOf_snoc, ← HTS.out, if_neg (show ¬ sk = 0 by omega)]) (by rw [List.map_append, List.map_cons, List.map_nil, toldOf_snoc, ← HDS.out]; simp)
      ·
        have hd1 : ((sd : Int) == 0) = false := by simp; omega
        have hd2 : ¬ (sd : Int) = 0 := by omega
        have hmy : ds.length + 1 ≤ maxLen := by unfold maxLen; omega
        have hk1 : ((sk : Int) == 0) = false := by simp; omega
        have hk2 : ¬ (sk : Int) = 0 := by omega
        gi_wp2_with fail
        refine (CallsIn.inRound l (callsIn_wide.2 (strings_clone ⟨st.toArray⟩ _ (by rw [Lib.size_eq]; exact hyl)))).mono ?_
        rintro e W2 ⟨rfl, hb2⟩
        have h52 := five_kept h5 hb2 hbW
        have h53 := five_text h52 (.string ⟨st.toArray⟩)
        have hSt2 := hSt.below hb2
        have hSt3 := hSt2.setOther (i := 2) h52 (.string ⟨st.toArray⟩)
        have hR3 := (Rd.of_below (n₀ := w.heap.size) hb2).setSame h52
        obtain ⟨⟨d0, d1, d2, d3, d4⟩, g0, g1, g2, g3, g4⟩ := five_of h52
        obtain ⟨⟨p0, p1, p2, p3, p4⟩, -⟩ := five_of h53
        have t2 := (cell_of_block hSt2.c0).1
        have t3 := (cell_of_block hSt3.c0).1
        have HBS : Hid (w.heap.size ≤ ((W2.setCell ⟨b, 2, none⟩ (.string ⟨st.toArray⟩)).alloc (.cells #[.int .i64 sk, .int .i64 ya, .string ⟨st.toArray⟩] 88)).heap.size) := by
          have h1 := hB.size
          have h2 := hb2.size
          show _ ≤ _
          rw [size_setal]
          omega
        have hmx : ts.length + 1 ≤ maxLen := by unfold maxLen; omega
        have H53 := Lib.hid h53
        have HS3 := Lib.hid (hSt3.alloc (.cells #[.int .i64 sk, .int .i64 ya, .string ⟨st.toArray⟩] 88))
        have HR3 := Lib.hid (hR3.alloc (.cells #[.int .i64 sk, .int .i64 ya, .string ⟨st.toArray⟩] 88))
        clear h53 h52 hSt2 hSt3 hR3 c0 c1 c2 c3 c4 f0 f1 f2 f3 f4
        gi_wp2_with (first | (gi_at_builtin; refine wpListIn_append_own _ rfl (.tmp 20) (.tmp 23) 93 rfl w.heap.size 88 i0 _ 3 32 Tryz.underlying93 hi hz0 hz1 hz2 rfl (by decide) _ _ _ rfl HS3.out.r0 ⟨W2.heap.size, 0, none⟩ 1 1 [.int .i64 sk, .int .i64 ya, .string ⟨st.toArray⟩] rfl rfl (cells3_set W2 b 2 _ _ _ _ 88) one3 hmx (by omega) HBS.out ?_; intro v' W5 hown5 hg5 hnil5; clear hnil5; obtain ⟨g, cap, rfl⟩ := ownsRow_succ hown5; (have hSt6 := HS3.out.toks hown5 hg5); (have h55 := five_grown (five_kept H53.out ((Below.refl _ _).alloc (Nat.le_refl _) _) (Array.getElem?_eq_some_iff.1 H53.out).1) HS3.out.r0 (by decide) hg5); obtain ⟨⟨q0, q1, q2, q3, q4⟩, -⟩ := five_of h55; obtain ⟨k0, k1⟩ := cell_of_block hSt6.1; (have hk5 : W5.heap[w.heap.size + 1]? = some (.cells #[u] 51 (0, 0)) := (Below.heap_setCell W5 ⟨w.heap.size, 0, none⟩ _ _ (by simp)).symm.trans hSt6.2.c1); obtain ⟨k2, k3⟩ := cell_of_block hk5; (have HR5 := Lib.hid (HR3.out.grown HS3.out.r0 (.inl rfl) hg5)); (have HS6 := Lib.hid hSt6.2); clear hSt6 h55 hown5 hg5 hk5 t2 t3 d0 d1 d2 d3 d4 g0 g1 g2 g3 g4 p0 p1 p2 p3 p4) | (gi_at_builtin; refine wpListIn_append_own _ rfl (.tmp 28) (.tmp 35) 51 rfl w.heap.size 113 j0 _ 3 32 Tryz.underlying51 hj hy0 hy1 hy2 rfl (by decide) _ _ _ rfl (HS6.out.r1.alloc _) ⟨W5.heap.size, 0, none⟩ 1 1 [.int .i64 ya, .int .i64 sd, .string ⟨#[]⟩] rfl rfl (cells3_set W5 w.heap.size 0 _ _ _ _ 113) one3 hmy (by omega) ((by rw [size_setal]; have h1 := hB.size; have h3 := HR5.out.size; omega)) ?_; intro u' W7 hown7 hg7 hnil7; clear hnil7; obtain ⟨g', cap', rfl⟩ := ownsRow_succ hown7; (have hSt8 := (HS6.out.alloc (.cells #[.int .i64 ya, .int .i64 sd, .string ⟨#[]⟩] 113)).told hown7 hg7); obtain ⟨m0, m1⟩ := cell_of_block hSt8.1; (have HR7 := Lib.hid ((HR5.out.setVar hSt.c0 (.inl rfl) (Nat.le_refl _) _ : Rd w.heap.size W _).alloc (.cells #[.int .i64 ya, .int .i64 sd, .string ⟨#[]⟩] 113) |>.grown (HS6.out.alloc (.cells #[.int .i64 ya, .int .i64 sd, .string ⟨#[]⟩] 113)).r1 (.inr rfl) hg7)); (have HS8 := Lib.hid hSt8.2); clear hSt8 hown7 hg7))
        refine round_end (ts := ts ++ [⟨sk, ya, st⟩]) (ds := ds ++ [⟨ya, sd⟩]) (by rw [List.length_append, List.length_append, tkCells_snoc, dgCells_snoc]; exact HS8.out) (HR7.out.setVar hSt.c1 (.inr rfl) (by omega) _) hB (by rw [List.map_append, List.map_cons, List.map_nil, toksOf_snoc, ← HTS.out, if_neg (show ¬ sk = 0 by omega)]) (by rw [List.map_append, List.map_cons, List.map_nil, toldOf_snoc, ← HDS.out, if_neg (show ¬ sd = 0 by omega)])
  case done =>
    rintro D ys W hD rfl ⟨⟨v, u, hSt⟩, hB⟩ hK
    rw [hα] at hSt
    obtain ⟨ts, hts⟩ : ∃ ts, ts = toksOf (pieces 0 s.data.toList) := ⟨_, rfl⟩
    obtain ⟨ds, hds⟩ : ∃ ds, ds = toldOf (pieces 0 s.data.toList) := ⟨_, rfl⟩
    have htl : ts.length ≤ s.size := by
      rw [hts, Lib.size_eq]; exact Nat.le_trans (toksOf_le _) (pieces_le _ _ _ (Nat.le_refl _))
    rw [← hts, ← hds] at hSt
    have HTS := Lib.hid hts
    have HDS := Lib.hid hds
    clear hts hds
    obtain ⟨i0, hi, hz0, hz1, hz2⟩ := info_parts info35
    have hSd : St w.heap.size v ts.length (tkCells ts) u ds.length (dgCells ds) W.drew := hSt.same fun _ _ _ _ h => h
    have hKd : W.drew.heap[D]? = some (.deferred (some [])) := hK
    have hBd : Below w.heap.size w W.drew := hB.drew
    obtain ⟨t0, -⟩ := cell_of_block hSt.c0
    obtain ⟨t1, -⟩ := cell_of_block hSt.c1
    have hmx : ts.length + 1 ≤ maxLen := by unfold maxLen; omega
    have HS4 := Lib.hid (hSd.alloc (.cells #[.int .i64 6, .int .i64 (s.size : Int), .string ⟨#[]⟩] 88))
    have HB4 := Lib.hid (hBd.alloc hBd.size (.cells #[.int .i64 6, .int .i64 (s.size : Int), .string ⟨#[]⟩] 88))
    have HK4 := Lib.hid ((Below.heap_alloc W.drew (.cells #[.int .i64 6, .int .i64 (s.size : Int), .string ⟨#[]⟩] 88) D (Array.getElem?_eq_some_iff.1 hKd).1).trans hKd)
    have hSa := hSt.alloc (.cells #[.int .i64 6, .int .i64 (s.size : Int), .string ⟨#[]⟩] 88)
    obtain ⟨t2, -⟩ := cell_of_block hSa.c0
    obtain ⟨t3, -⟩ := cell_of_block hSa.c1
    clear hSt hSd hKd hK hBd hB hSa
    gi_wp2
    refine wp_only ?_
    go_region_law (refine step_append_lies _ rfl (.tmp 37) (.tmp 41) 93 rfl w.heap.size 88 i0 _ 3 32 Tryz.underlying93 hi hz0 hz1 hz2 rfl (by decide) v ts.length (tkCells ts) rfl HS4.out.r0 ⟨W.heap.size, 0, none⟩ 1 1 [.int .i64 6, .int .i64 (s.size : Int), .string ⟨#[]⟩] rfl rfl (cells3_new W.drew _ _ _ 88) one3 (by decide) hmx (by omega) HB4.out.size _ rfl ?_; intro g cap W5 hown5 hg5 hloc5 hlt5; clear hloc5 hlt5; (have hc5 := far_row HS4.out.r0 hg5 HS4.out.c1 (fun c fz h => by cases h)); obtain ⟨t5, -⟩ := cell_of_block hc5; (have HO5 := Lib.hid hown5); (have HG5 := Lib.hid hg5); clear hown5 hg5 hc5)
    all_goals
      have hK5 : W5.heap[D]? = some (.deferred (some [])) := far_row HS4.out.r0 HG5.out HK4.out (fun c fz h => by cases h)
      have hR5 : W5.ownsRow w.heap.size 113 3 u ds.length (dgCells ds) := ownsRow_same HS4.out.r1 (fun k c hk => far_row HS4.out.r0 HG5.out hk (fun c fz h => by cases h))
      have hB5 : Below w.heap.size w W5 := HB4.out.trans (Rd.belows (Rd.grown (Rd.refl _ _) HS4.out.r0 (.inl rfl) HG5.out) HB4.out.size)
      have HR5 := Lib.hid hR5
      clear hR5
      refine only_intro ?_
      gi_wp2
      refine ⟨by simp, .inl ⟨_, _, rfl, run_takeDeferred hK5, ?_⟩⟩
      refine ⟨_, results_tmp2 rfl _ _ _, _, _, rfl, ?_, ?_, ?_⟩
      · rw [← HTS.out, tkCells_snoc]
        exact ownsRow_same HO5.out (fun k c hk => (World.putObj_heap_other (by rintro rfl; rw [hK5] at hk; cases hk)).trans hk)
      · rw [← HDS.out]
        exact ownsRow_same HR5.out (fun k c hk => (World.putObj_heap_other (by rintro rfl; rw [hK5] at hk; cases hk)).trans hk)
      · exact hB5.trans (belowK_b (w := w) (Nat.le_refl _) W5 D _ _ (by omega) hK5 rfl rfl)
  case stop =>
    rintro D c pre W _ _ h _
    exact h.elim

end Go.Proofs.YthpoffklhpbdoaaGreatDoor

/-
  The contracts of Name and Same of package lex.
-/
import Derived.Test.YtiblndmblchhmaaIs
namespace Go.Proofs.Ytiblndmblchhmaa
open Go.RowKit Go.Shelf
attribute [local go_sem] Oper.semAt_some

/-- What Name tells of the first piece. -/
def pcName (n : Nat) (x : Pc) : Bool := x.s.k == 1 && x.s.t.length == n
def isName (l : Bs) : Bool := match pieces 0 l with | [] => false | x :: _ => pcName l.length x

set_option maxRecDepth 100000 in
set_option maxHeartbeats 4000000 in
theorem name_any (s : ByteArray) (hs : s.size ≤ 1000000) (w : World) :
    Calls Try.prog 14 #[.string s] w fun e W' => e = .returned (.bool (isName s.data.toList)) ∧ Below w.heap.size w W' := by
  obtain ⟨xα, hα⟩ := lift_pcs (pieces 0 s.data.toList) (fun x hx => by
    have := pcs_t s.data.toList.length 0 s.data.toList (Nat.le_refl _) x (List.mem_filter.1 hx).1
    rw [← Lib.size_eq] at this
    omega)
  rw [← callsIn_wide (n := 5)]
  have hff : Fence.wide.fn 16 := trivial
  refine callsIn_of_wp_marks Try.func14 rfl trivial ?_ rfl
  simp only [Try.ntmps14, List.size_toArray, List.length_cons, List.length_nil, Nat.reduceAdd, Nat.reduceSub, Array.replicate_succ, Array.replicate_zero, List.push_toArray, List.append_toArray, List.nil_append, List.cons_append]
  gi_wp2_with (gi_at_call 16; refine (pieces_in _ _ _).mono ?_; rintro e w' ⟨rfl, rfl⟩)
  obtain ⟨W0, hW0⟩ : ∃ W0, ((w.alloc (.cells #[.string s] 9)).alloc (.cells #[.bool false] 4)).alloc (.cells #[.string s] 9) = W0 := ⟨_, rfl⟩
  have hs0 : W0.heap.size = w.heap.size + 3 := by rw [← hW0]; simp
  have hT0 : W0.heap[w.heap.size]? = some (.cells #[.string s] 9 (0, 0)) := by
    rw [← hW0]; exact ((Below.heap_alloc _ _ _ (by simp; omega)).trans (Below.heap_alloc _ _ _ (by simp))).trans (World.alloc_heap_new w _)
  have hD0 : W0.heap[w.heap.size + 1]? = some (.cells #[.bool false] 4 (0, 0)) := by
    rw [← hW0]; refine (Below.heap_alloc _ _ _ (by simp)).trans ?_
    have := World.alloc_heap_new (w.alloc (.cells #[.string s] 9)) (.cells #[.bool false] 4); rwa [World.size_alloc] at this
  have hB0 : W0.heap[w.heap.size + 1 + 1]? = some (.cells #[.string s] 9 (0, 0)) := by
    rw [← hW0]
    have := World.alloc_heap_new ((w.alloc (.cells #[.string s] 9)).alloc (.cells #[.bool false] 4)) (.cells #[.string s] 9); rwa [World.size_alloc, World.size_alloc] at this
  have hBW : Below w.heap.size w W0 := by rw [← hW0]; exact (((Below.refl _ w).alloc (Nat.le_refl _) _).alloc (by simp) _).alloc (by simp; omega) _
  rw [hW0]
  clear hW0
  refine wpIn_rangeFunc_ownH rfl (by omega) (gf := 24) (lb := #[.pointer (some ⟨w.heap.size + 1 + 1, 0, none⟩)]) rfl trivial (enters_of Try.func24 (by kernel_rfl) rfl)
    (pieces_stops 4 (by omega) (w.heap.size + 1 + 1) w.heap.size s (by omega) xα hα W0 hB0 (by omega)) (fun h k => Kc.trans h k) (fun W l o o' h1 h2 h3 h4 => Kc.put (w := W0) (by omega) W l o o' h1 h2 h3 h4) (Below.refl _ _) (fun _ => rfl)
    (fun pre W => (pre = [] ∧ W.heap[w.heap.size]? = some (.cells #[.string s] 9 (0, 0)) ∧ W.heap[w.heap.size + 1]? = some (.cells #[.bool false] 4 (0, 0))) ∧ Below w.heap.size w W)
    (fun c pre W => (c = .ret ∧ ∃ x : PK, pre = [x] ∧ W.heap[w.heap.size + 1]? = some (.cells #[.bool (pcName s.size x.1)] 4 (0, 0))) ∧ Below w.heap.size w W)
    (OwnFrom.and (Own.from (I := fun (pre : List PK) W => pre = [] ∧ W.heap[w.heap.size]? = some (.cells #[.string s] 9 (0, 0)) ∧ W.heap[w.heap.size + 1]? = some (.cells #[.bool false] 4 (0, 0))) (fun s A B row h hg hr => ⟨h.1, block_kept h.2.1 hg hr, block_kept h.2.2 hg hr⟩) _) (ownFrom_below (Nat.le_refl _) (by omega)))
    (fun c => OwnFrom.and (Own.from (I := fun (pre : List PK) W => c = .ret ∧ ∃ x : PK, pre = [x] ∧ W.heap[w.heap.size + 1]? = some (.cells #[.bool (pcName s.size x.1)] 4 (0, 0))) (fun s A B row h hg hr => by obtain ⟨h1, x, h2, h3⟩ := h; exact ⟨h1, x, h2, block_kept h3 hg hr⟩) _) (ownFrom_below (Nat.le_refl _) (by omega)))
    ⟨⟨rfl, hT0, hD0⟩, hBW⟩
    (fun x a' W => ∃ b, w.heap.size + 2 ≤ b ∧ a' = { tmps := #[.string s, .pointer (some ⟨w.heap.size, 0, none⟩), .pointer (some ⟨w.heap.size + 1, 0, none⟩), .pointer (some ⟨b, 0, none⟩), .string s, .func (.func 24) #[] #[.pointer (some ⟨w.heap.size + 1 + 1, 0, none⟩)], pcV x.1, undef, undef, undef, undef, undef, undef, undef, undef, undef, undef, undef, undef, undef], defers := [] } ∧ Five W b (.int .i64 x.1.s.k) (.int .i64 x.1.at_) (.string ⟨x.1.s.t.toArray⟩) (.int .i64 ((x.1.at_ + x.1.s.n : Nat) : Int)) (.int .i64 x.1.s.d))
    (fun x a' => Own.from (fun _ A B row ⟨b, h1, h2, h3⟩ hg hr => ⟨b, h1, h2, block_kept h3 hg hr⟩) _)
    ?assign ?body ?done ?stop
  case assign =>
    rintro l pre ⟨⟨ya, sn, sk, st, sd⟩, hyl⟩ W K ⟨⟨hp, hS0, hS1⟩, hB⟩ hK
    have hsz : w.heap.size + 2 ≤ W.heap.size := (Array.getElem?_eq_some_iff.1 hS1).1
    obtain ⟨m, hm⟩ : ∃ m, m = ya + sn := ⟨_, rfl⟩
    have HM := Lib.hid hm
    simp only [pcV, pieceV, ← hm]
    clear hm
    gi_wp2
    have hBa : Below W.heap.size W (W.alloc (.cells #[.int .i64 sk, .int .i64 ya, .string ⟨st.toArray⟩, .int .i64 (m : Int), .int .i64 sd] 50)) := (Below.refl _ _).alloc (Nat.le_refl _) _
    refine hK _ _ ((Rd.of_below (n₀ := w.heap.size) hBa).others.from _) (Kc.of_below hBa hB.size) ⟨⟨hp, (hBa.block _ (by omega)).trans hS0, (hBa.block _ (by omega)).trans hS1⟩, hB.trans (hBa.mono hB.size)⟩ ⟨W.heap.size, hsz, ?_, ?_⟩
    · simp only [pcV, pieceV, ← HM.out]
    · simp only [← HM.out]
      exact five_new W _ _ _ _ _
  case body =>
    rintro l pre ⟨⟨ya, sn, sk, st, sd⟩, hyl⟩ a' W hl hrec ⟨⟨rfl, hS0, hS1⟩, hB⟩ ⟨b, hb0, rfl, h5⟩ hlen
    obtain ⟨m, hm⟩ : ∃ m, m = ya + sn := ⟨_, rfl⟩
    simp only [pcV, pieceV, ← hm] at h5 ⊢
    clear hm
    have hne1 : ¬ w.heap.size + 1 = b := by omega
    obtain ⟨⟨c0, c1, c2, c3, c4⟩, f0, f1, f2, f3, f4⟩ := five_of h5
    obtain ⟨k0, -⟩ := cell_of_block hS0
    obtain ⟨k1, k2⟩ := cell_of_block hS1
    have hsz : (⟨st.toArray⟩ : ByteArray).size = st.length := by rw [Lib.size_eq]
    by_cases hk : sk = 1
    · subst hk
      gi_wp2
      refine ⟨(KeepsOthers.setCell _ _ _).from _, ⟨rfl, _, rfl, ?_⟩, hB.setCell (p := ⟨w.heap.size + 1, 0, none⟩) (by simp) _⟩
      rw [one_setCell hS1]
      have e : ((st.length : Int) == (s.size : Int)) = (st.length == s.size) := by rw [Bool.eq_iff_iff]; simp; omega
      simp [pcName, e]
    · have hk1 : ((sk : Int) == 1) = false := by simp; omega
      have hk2 : ¬ (sk : Int) = 1 := by omega
      gi_wp2
      refine ⟨(KeepsOthers.setCell _ _ _).from _, ⟨rfl, _, rfl, ?_⟩, hB.setCell (p := ⟨w.heap.size + 1, 0, none⟩) (by simp) _⟩
      rw [one_setCell hS1]
      simp [pcName, hk]
  case done =>
    rintro D ys W hD rfl ⟨⟨rfl, hS0, hS1⟩, hB⟩ hK
    obtain ⟨k1, k2⟩ := cell_of_block hS1
    have hn : isName s.data.toList = false := by unfold isName; rw [← hα]; rfl
    gi_wp2
    have hK' := (KeepsOthers.setCell W ⟨w.heap.size + 1, 0, none⟩ (.bool false)).same D _ hK rfl
    refine ⟨by simp, .inl ⟨_, _, rfl, run_takeDeferred hK', ?_⟩⟩
    have hc5 := cell_kept (cell_of_block (one_setCell (v := .bool false) hS1)).1 (grownBy_putObj' _ D (.deferred none)) (fun r e => by cases e; exact ⟨_, hK', rfl⟩)
    refine ⟨.bool false, by simp [results, Try.f14, go_sem, hc5], by rw [hn], ?_⟩
    exact (hB.setCell (p := ⟨w.heap.size + 1, 0, none⟩) (by simp) _).trans (belowK_b (w := w) (Nat.le_refl _) _ D _ _ (by omega) hK' rfl rfl)
  case stop =>
    rintro D c pre W hD hpre ⟨⟨rfl, x, rfl, hS1⟩, hB⟩ hK
    have hn : isName s.data.toList = pcName s.size x.1 := by
      unfold isName
      obtain ⟨r, hr⟩ := hpre
      rw [← hα, ← hr, Lib.size_eq]
      rfl
    gi_wp2
    refine ⟨by simp, .inl ⟨_, _, rfl, run_takeDeferred hK, ?_⟩⟩
    have hc5 := cell_kept (cell_of_block hS1).1 (grownBy_putObj' _ D (.deferred none)) (fun r e => by cases e; exact ⟨_, hK, rfl⟩)
    refine ⟨.bool (pcName s.size x.1), by simp [results, Try.f14, go_sem, hc5], by rw [hn], ?_⟩
    exact hB.trans (belowK_b (w := w) (Nat.le_refl _) W D _ _ (by omega) hK rfl rfl)

end Go.Proofs.Ytiblndmblchhmaa

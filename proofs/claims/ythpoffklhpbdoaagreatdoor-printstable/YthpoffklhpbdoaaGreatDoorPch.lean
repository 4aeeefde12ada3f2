/-
  The contract of what prints a chain: links are gathered, what they are of is printed, then each link, the innermost first.
-/
import Derived.Test.YthpoffklhpbdoaaGreatDoorXpM
import Derived.Test.YthpoffklhpbdoaaGreatDoorLxM
import Derived.Test.YthpoffklhpbdoaaGreatDoorSplitE
import Derived.Test.YthpoffklhpbdoaaGreatDoorCnvX
namespace Go.Proofs.YthpoffklhpbdoaaGreatDoor
set_option maxRecDepth 100000
open Go.RowKit Go.Shelf
variable {S : Nat}
attribute [local go_sem] Oper.semAt_some

mutual
/-- Data below a block lie so in every world that is alike below it. -/
theorem IsC.alike {m : Nat} {w w' : World} (hk : ∀ k, k < m → w'.heap[k]? = w.heap[k]?) : ∀ (d : Dt) (v : Value), IsC (fun k => k < m) w d v → IsC (fun k => k < m) w' d v
  | .num n, v, h => by simpa only [IsC] using h
  | .str s, v, h => by simpa only [IsC] using h
  | .row e size n l, v, h => by
    simp only [IsC] at h ⊢
    obtain ⟨xs, h1, h2, h3, h4⟩ := h
    refine ⟨xs, h1, ⟨h2.1, ?_⟩, h3, IsCs.alike hk l xs h4⟩
    rcases h2.2 with hn' | ⟨g, cap, cur, rfl, hb, hgg, rest⟩
    · exact .inl hn'
    · exact .inr ⟨g, cap, cur, rfl, hb, (hk g (h3 g rfl)).trans hgg, rest⟩
theorem IsCs.alike {m : Nat} {w w' : World} (hk : ∀ k, k < m → w'.heap[k]? = w.heap[k]?) : ∀ (l : List Dt) (xs : List Value), IsCs (fun k => k < m) w l xs → IsCs (fun k => k < m) w' l xs
  | [], xs, h => by simpa only [IsCs] using h
  | d :: r, xs, h => by
    simp only [IsCs] at h ⊢
    obtain ⟨x, ys, h1, h2, h3⟩ := h
    exact ⟨x, ys, h1, IsC.alike hk d x h2, IsCs.alike hk r ys h3⟩
end
def slen : Value → Nat | .slice _ n _ => n | _ => 0
theorem cells_E5 {A : Nat → Prop} {w : World} {k a : Nat} {n : Bs} {m : Nat} {ns : List Bs} {l : List PE} {ts : List PT} {v0 v1 v2 v3 v4 v5 v6 : Value} (h : IsCs A w (encE 26 36 (.mk k a n m ns l ts)) [v0, v1, v2, v3, v4, v5, v6]) : IsC A w (.row 36 7 l.length (encEs 26 36 l)) v5 := by
  obtain ⟨a4, c4, a5, c5, a6, c6, he, h4, h5, h6⟩ := cells_E2 h
  simp only [List.cons.injEq] at he
  rw [he.2.2.2.2.2.1]
  exact h5
theorem chn_end {x : PE} {ls : List PE} {b : PE} (h : Chn x ls b) (hk : ¬ (x.kind = 6 ∨ x.kind = 7)) : ls = [] ∧ x = b := by
  cases h with
  | base _ => exact ⟨rfl, rfl⟩
  | link h' _ => exact absurd h' hk
theorem chn_next {x : PE} {ls : List PE} {b : PE} (h : Chn x ls b) (hk : x.kind = 6 ∨ x.kind = 7) : ∃ r, ls = x :: r ∧ Chn (x.parts[0]?.getD zPE) r b := by
  cases h with
  | base h' => exact absurd hk h'
  | link _ hr => exact ⟨_, rfl, hr⟩

/-- The state of the loop that gathers the links. -/
structure Gat (w : World) (b : Nat) (LS : List PE) (bb : PE) (s4 : Value) (wr : World) (ls : List PE) (cur : PE) (cs ys : List Value) : Prop where
  chn : ∃ r, Chn cur r bb ∧ LS = ls ++ r
  bx : wr.heap[w.heap.size]? = some (.cells #[.pointer (some ⟨b, 0, none⟩)] 130 (0, 0))
  by' : wr.heap[w.heap.size + 1]? = some (.cells cs.toArray 36 (0, 0))
  cur : IsCs (fun k => k < w.heap.size) w (encE 26 36 cur) cs
  bl : Below w.heap.size w wr
  row : wr.ownsRow (w.heap.size + 2) 36 7 s4 ls.length ys
  all : IsCs (fun k => k < w.heap.size) w (encEs 26 36 ls) ys

/-- A link is printed. -/
theorem link_any {S' : Nat} (y : PE) (HE : ∀ p, (p ∈ y.parts ∨ p = zPE) → (prE 0 p).length + 2 ≤ (lnk y).length → ExOk S' p) (A : Nat → Prop) (cs : List Value) :
    PrtE S' 113 (fun b => #[.pointer (some ⟨b, 0, none⟩), .agg cs.toArray]) (lnk y) (fun B w => IsCs A w (encE 26 36 y) cs ∧ Tab B w) := by
  obtain ⟨k, a, n, m, ns, l, ts⟩ := y
  by_cases h6 : k = 6
  · have e : lnk (.mk k a n m ns l ts) = [46] ++ n := by rw [lnk, if_pos h6]; rfl
    rw [e]
    exact link_field k a n m ns l ts h6 A cs
  · have e : lnk (.mk k a n m ns l ts) = [40] ++ (prE 0 (l[1]?.getD zPE) ++ [41]) := by rw [lnk, if_neg h6]; rfl
    have hl : (prE 0 (l[1]?.getD zPE)).length + 2 = (lnk (.mk k a n m ns l ts)).length := by
      rw [e]; simp only [List.length_append, List.length_cons, List.length_nil]; omega
    rw [e]
    exact link_call (L := (prE 0 (l[1]?.getD zPE)).length + 1) k a n m ns l ts (fun p hp h => HE p hp (by omega)) (Nat.lt_succ_self _) h6 A cs
theorem pst_grown {B b : Nat} {W W' : World} {bs : Bs} {row : Option Nat} (h : Pst B W b bs) (hg : W.grownBy W' row) (hr : ∀ r, row = some r → ∃ o : Obj, W.heap[r]? = some o ∧ o.isCells = false) : Pst B W' b bs := by
  obtain ⟨hB, p, v, hp, hb, hrow, hn, h0⟩ := h
  refine ⟨hB, p, v, hp, block_kept hb hg hr, ⟨hrow.1, ?_⟩, hn, h0⟩
  rcases hrow.2 with e | ⟨g, cap, cur, fz, hv, hbg, hgg, rest⟩
  · exact .inl e
  · exact .inr ⟨g, cap, cur, fz, hv, hbg, block_kept hgg hg hr, rest⟩
theorem fb_grown {B b : Nat} {w W W' : World} {row : Option Nat} (h : Fb B b w W) (hg : W.grownBy W' row) (hr : ∀ r, row = some r → w.heap.size ≤ r) (hB : B ≤ w.heap.size) : Fb B b w W' := by
  refine ⟨h.1.grown hg (Nat.le_trans hB h.1.size) (fun k e => Nat.le_trans hB (hr k e)), fun k o hk hb ho => ?_⟩
  have h1 := h.2 k o hk hb ho
  have h2 := (Array.getElem?_eq_some_iff.1 hk).1
  exact (hg.block k (Array.getElem?_eq_some_iff.1 h1).1 (fun e => by have := hr k e.symm; omega)).trans h1
theorem Kb.of_fb {B b : Nat} {W W' : World} {bs : Bs} (h : Fb B b W W') (hp : Pst B W b bs) : Kb W W' := by
  refine ⟨h.1.size, fun k c t fz ht hk => h.2 k _ hk ?_ ?_⟩
  · intro e
    obtain ⟨-, p, v, -, hb, -⟩ := hp
    obtain rfl : k = b := Option.some.inj e
    rw [hb] at hk
    cases hk
    rcases ht with e | e <;> exact absurd e (by decide)
  · intro c' fz' e
    cases e
    rcases ht with e | e <;> exact absurd e (by decide)
theorem keeps_fb {B b : Nat} {W W' : World} {bs : Bs} (h : Fb B b W W') (hp : Pst B W b bs) (B0 : Nat) : KeepsFrom B0 W W' := by
  refine ⟨h.1.size, fun k o _ hk ho => h.2 k o hk ?_ ?_⟩
  · intro e
    obtain ⟨-, p, v, -, hb, -⟩ := hp
    obtain rfl : k = b := Option.some.inj e
    rw [hb] at hk
    cases hk
    cases ho
  · rintro c fz rfl
    cases ho
/-- What is so between the rounds: so much is printed; if it went in order, just that. -/
def RI (B b : Nat) (bs t0 : Bs) (M : Nat) (ls : List PE) (w : World) (px : Value) (pre : List (Fin ls.length)) (W : World) : Prop :=
  ∃ T : Bs, T.length ≤ t0.length + pre.length * M ∧ Pst B W b (bs ++ T) ∧ Fb B b w W ∧ W.heap[w.heap.size]? = some (.cells #[px] 130 (0, 0)) ∧ (pre <+: bkSeq ls.length → T = t0 ++ pre.flatMap (fun i => lnk (ls[i.1]?.getD zPE)))
theorem ri_own {B b : Nat} {bs t0 : Bs} {M : Nat} {ls : List PE} {w : World} {px : Value} {B0 : Nat} (hB0 : w.heap.size ≤ B0) (hB : B ≤ w.heap.size) : OwnFrom B0 (RI B b bs t0 M ls w px) :=
  fun _ _ _ _ ⟨T, h1, h2, h3, h4, h5⟩ hg hr => ⟨T, h1, pst_grown h2 hg (fun r e => (hr r e).2), fb_grown h3 hg (fun r e => Nat.le_trans hB0 (hr r e).1) hB, block_kept h4 hg (fun r e => (hr r e).2), h5⟩
theorem ri_next {B b : Nat} {bs t0 : Bs} {M : Nat} {ls : List PE} {w : World} {px : Value} {B0 : Nat} {pre : List (Fin ls.length)} {x : Fin ls.length} {W W' : World} {T : Bs} {Ix : Code → List (Fin ls.length) → World → Prop} {a' : Act}
    (h1 : T.length ≤ t0.length + pre.length * M) (h2 : Pst B W b (bs ++ T)) (h3 : Fb B b w W) (h4 : W.heap[w.heap.size]? = some (.cells #[px] 130 (0, 0))) (h5 : pre <+: bkSeq ls.length → T = t0 ++ pre.flatMap (fun i => lnk (ls[i.1]?.getD zPE)))
    (hbw : b < w.heap.size) (hM : (lnk (ls[x.1]?.getD zPE)).length ≤ M) (hF : Fb B b W W') (hP : Pst B W' b ((bs ++ T) ++ lnk (ls[x.1]?.getD zPE))) :
    ownPostG B0 Kb (RI B b bs t0 M ls w px) Ix (pre ++ [x]) W .normal a' W' := by
  refine ⟨keeps_fb hF h2 _, Kb.of_fb hF h2, T ++ lnk (ls[x.1]?.getD zPE), ?_, ?_, h3.trans hF, hF.2 _ _ h4 (fun e => by have := Option.some.inj e; omega) (fun c fz e => by cases e), ?_⟩
  · rw [List.length_append, List.length_append, List.length_singleton, Nat.add_mul, Nat.one_mul]; omega
  · rw [← List.append_assoc]; exact hP
  · intro h
    rw [h5 ((List.prefix_append pre [x]).trans h), List.flatMap_append, List.append_assoc]
    simp

theorem bk_text (ls : List PE) : (bkSeq ls.length).flatMap (fun i => lnk (ls[i.1]?.getD zPE)) = ls.reverse.flatMap lnk := by
  have h : (List.finRange ls.length).map (fun i : Fin ls.length => ls[i.1]?.getD zPE) = ls := by
    apply List.ext_getElem
    · simp
    · intro i h1 h2
      simp
  unfold bkSeq
  conv => rhs; rw [← h]
  rw [← List.map_reverse, List.flatMap_map]

set_option maxHeartbeats 4000000 in
theorem chain_any {S' M : Nat} (k a : Nat) (n : Bs) (m : Nat) (ns : List Bs) (l : List PE) (ts : List PT) (LS : List PE) (bb : PE) (hk0 : k = 6 ∨ k = 7) (hch : Chn (.mk k a n m ns l ts) LS bb) (HB : ExOk S bb) (HL : ∀ y ∈ LS, ∀ p, (p ∈ y.parts ∨ p = zPE) → (prE 0 p).length + 2 ≤ (lnk y).length → ExOk S' p) (hM : ∀ y ∈ LS, (lnk y).length ≤ M) (hS : S' + LS.length * M ≤ S) (hN : LS.length * LS.length ≤ S) (A : Nat → Prop) (cs : List Value) :
    PrtE S 87 (fun b => #[.pointer (some ⟨b, 0, none⟩), .agg cs.toArray]) (prE 2 (.mk k a n m ns l ts)) (fun B w => IsCs A w (encE 26 36 (.mk k a n m ns l ts)) cs ∧ Tab B w) := by
  intro B b bs w hP hD hlen
  obtain ⟨hC, hTab⟩ := hD
  rw [chn_text hch] at hlen ⊢
  have HLS := Lib.hid (show LS.length ≤ 1000000000 by
    rcases Nat.lt_or_ge 1000000000 LS.length with h | h
    · have h1 : 1000000000 * 1000000000 ≤ LS.length * LS.length := Nat.mul_le_mul (Nat.le_of_lt h) (Nat.le_of_lt h)
      omega
    · exact h)
  have HNE := Lib.hid (show LS ≠ [] by
    obtain ⟨r, e, -⟩ := chn_next hch hk0
    rw [e]; simp)
  have HSM := Lib.hid hS
  have HMM := Lib.hid hM
  have HLEN := Lib.hid hlen
  obtain ⟨i0, hi, hz0, hz1, hz2⟩ := info_parts info49
  have HP := Lib.hid hP
  have HTB := Lib.hid hTab
  have HBB := Lib.hid HB
  have HLL := Lib.hid HL
  have hC0 := hC.mono (A' := fun k => k < w.heap.size) (fun k hk _ => hk)
  have HC0 := Lib.hid hC0
  have HCH := Lib.hid hch
  obtain ⟨x, hx⟩ : ∃ x, x = PE.mk k a n m ns l ts := ⟨_, rfl⟩
  rw [← hx] at HC0 HCH
  obtain ⟨tk, ta, tn, tm, a4, n4, c4, a5, n5, c5, a6, n6, c6, rfl⟩ := cells_E hC
  obtain ⟨W1, hW1⟩ : ∃ W1, (w.alloc (.cells #[.pointer (some ⟨b, 0, none⟩)] 130)).alloc (.cells #[.int .i64 tk, .int .i64 ta, .string tn, .int .i64 tm, .slice a4 n4 c4, .slice a5 n5 c5, .slice a6 n6 c6] 36) = W1 := ⟨_, rfl⟩
  have hA0 : W1.heap[w.heap.size]? = some (.cells #[.pointer (some ⟨b, 0, none⟩)] 130 (0, 0)) := by rw [← hW1]; exact blk_alloc (heap_alloc_new w _) _
  have hA1 : W1.heap[w.heap.size + 1]? = some (.cells #[.int .i64 tk, .int .i64 ta, .string tn, .int .i64 tm, .slice a4 n4 c4, .slice a5 n5 c5, .slice a6 n6 c6] 36 (0, 0)) := by
    rw [← hW1]
    have := heap_alloc_new (w.alloc (.cells #[.pointer (some ⟨b, 0, none⟩)] 130)) (.cells #[.int .i64 tk, .int .i64 ta, .string tn, .int .i64 tm, .slice a4 n4 c4, .slice a5 n5 c5, .slice a6 n6 c6] 36)
    simpa using this
  have hB1 : Below w.heap.size w W1 := by rw [← hW1]; exact ((Below.refl _ w).alloc (Nat.le_refl _) _).alloc (by simp) _
  have G1 : Hid (Gat w b LS bb (.slice none 0 0) W1 [] x [.int .i64 tk, .int .i64 ta, .string tn, .int .i64 tm, .slice a4 n4 c4, .slice a5 n5 c5, .slice a6 n6 c6] []) :=
    ⟨⟨LS, HCH.out, rfl⟩, hA0, hA1, HC0.out, hB1, World.ownsRow_nil _ _ _ _, by simp only [encEs]; exact IsCs.nil _ _⟩
  rw [← callsIn_wide (n := 5)]
  refine callsIn_of_wp_marks Tryz.func87 rfl trivial ?_ rfl
  simp only [Tryz.ntmps87, List.size_toArray, List.length_cons, List.length_nil, Nat.reduceAdd, Nat.reduceSub, Array.replicate_succ, Array.replicate_zero, List.push_toArray, List.append_toArray, List.nil_append, List.cons_append]
  clear hC hC0 hch hx hA0 hA1 hB1 hP hTab hlen HB HL hk0 hM hS hN
  gi_wp2_with fail
  clear hW1
  refine wpIn_wide.2 ?_
  go_loopw [4] (fun s4 wr => ∃ (ls : List PE) (cur : PE) (cs ys : List Value), Hid (Gat w b LS bb s4 wr ls cur cs ys)) (fun s4 _ => LS.length - slen s4)
  case atStart => exact ⟨_, _, _, _, G1⟩
  case round =>
    obtain ⟨ls, cur, cs, ys, hG⟩ := hrel
    obtain ⟨a0, c0, rfl⟩ := row_slice hG.out.row
    obtain ⟨r, hr, hLS⟩ := hG.out.chn
    obtain ⟨k1, a1, n1, m1, ns1, l1, ts1⟩ := cur
    obtain ⟨x4, y4, x5, y5, x6, y6, rfl, -, k5, -⟩ := cells_E2 hG.out.cur
    have hby := hG.out.by'
    obtain ⟨⟨q0, q1, q2, q3, q4, q5, q6⟩, -⟩ := sev_of (t := 36) hby
    have K5 := Lib.hid (k5.below hG.out.bl)
    by_cases hk : k1 = 6 ∨ k1 = 7
    · obtain ⟨r', hr', hn⟩ := chn_next hr hk
      have HLS' := Lib.hid (show LS = (ls ++ [.mk k1 a1 n1 m1 ns1 l1 ts1]) ++ r' by rw [hLS, hr']; simp)
      have HN := Lib.hid hn
      have hlen2 : ls.length + 1 ≤ LS.length := by rw [HLS'.out]; simp
      have HL2 := Lib.hid hlen2
      have hmx : ls.length + 1 ≤ maxLen := by have := HLS.out; unfold maxLen; omega
      have hmb : (ls.length + 1) * 112 ≤ 140737488355328 := by have := HLS.out; omega
      have R4 := Lib.hid (hG.out.row.alloc (.cells #[.int .i64 (k1 : Nat), .int .i64 (a1 : Nat), .string ⟨n1.toArray⟩, .int .i64 (m1 : Nat), .slice x4 ns1.length y4, .slice x5 l1.length y5, .slice x6 ts1.length y6] 36))
      have HNB := Lib.hid (World.news_of_block (heap_alloc_new wr (.cells #[.int .i64 (k1 : Nat), .int .i64 (a1 : Nat), .string ⟨n1.toArray⟩, .int .i64 (m1 : Nat), .slice x4 ns1.length y4, .slice x5 l1.length y5, .slice x6 ts1.length y6] 36)))
      have HONE := Lib.hid (show ∀ u ∈ ([.int .i64 (k1 : Nat), .int .i64 (a1 : Nat), .string ⟨n1.toArray⟩, .int .i64 (m1 : Nat), .slice x4 ns1.length y4, .slice x5 l1.length y5, .slice x6 ts1.length y6] : List Value), u.oneCell' = true by simp [Value.oneCell'])
      have HBS := Lib.hid (show w.heap.size + 2 ≤ (wr.alloc (.cells #[.int .i64 (k1 : Nat), .int .i64 (a1 : Nat), .string ⟨n1.toArray⟩, .int .i64 (m1 : Nat), .slice x4 ns1.length y4, .slice x5 l1.length y5, .slice x6 ts1.length y6] 36)).heap.size from by
        have := (Array.getElem?_eq_some_iff.1 hG.out.by').1
        simp; omega)
      have hkk : ((k1 : Int) == 6) = true ∨ (((k1 : Int) == 6) = false ∧ ((k1 : Int) == 7) = true) := by
        rcases hk with rfl | rfl
        · exact .inl rfl
        · exact .inr ⟨rfl, rfl⟩
      have HK := Lib.hid hk
      clear hr hLS hr' hn hby k5 hk hlen2
      rcases hkk with e6 | ⟨e6, e7⟩
      all_goals
        go_upto_region 4 with (first | (at_builtin; refine wpList_append_lies _ rfl (.tmp 15) (.tmp 17) 34 rfl (w.heap.size + 2) 36 i0 _ 7 112 Tryz.underlying34 hi hz0 hz1 hz2 rfl (by decide) (.slice a0 ls.length c0) ls.length ys rfl R4.out ⟨wr.heap.size, 0, none⟩ 1 1 [.int .i64 (k1 : Nat), .int .i64 (a1 : Nat), .string ⟨n1.toArray⟩, .int .i64 (m1 : Nat), .slice x4 ns1.length y4, .slice x5 l1.length y5, .slice x6 ts1.length y6] rfl rfl HNB.out HONE.out (by decide) hmx hmb HBS.out (wr.heap.size + 1) (World.size_alloc _ _) ?_; intro g4 cap4 w4 hown4 hg4 hat4 hlt4))
        have hO4 : ∀ b', (Value.slice a0 ls.length c0).ownBlock = some b' → w.heap.size + 2 ≤ b' := fun b' hb' => (R4.out.lt b' hb').1
        have hB4 : Below w.heap.size w w4 := below_grown (hG.out.bl.alloc hG.out.bl.size _) hg4 (fun b' hb' => by have := hO4 b' hb'; omega)
        have hx4 := blk_grown (blk_alloc hG.out.bx _) hg4 (fun e => by have := hO4 _ e.symm; omega)
        have hy4 := blk_grown (blk_alloc hG.out.by' _) hg4 (fun e => by have := hO4 _ e.symm; omega)
        have HB4 := Lib.hid hB4
        have HX4 := Lib.hid hx4
        have HY4 := Lib.hid hy4
        have HO4 := Lib.hid hown4
        obtain ⟨⟨u0, u1, u2, u3, u4, u5, u6⟩, -⟩ := sev_of (t := 36) hy4
        have hP5 := partE_any l1 0 (fun k => k < w.heap.size) w4 _ ((cells_E5 hG.out.cur).below hB4) (by decide)
        have HP5 := Lib.hid hP5
        clear hO4 hB4 hx4 hy4 hown4 hg4 hat4 hlt4 hP5 q0 q1 q2 q3 q4 q5 q6
        go_wp2_with fail
        refine HP5.out.mono ?_
        rintro e w5 ⟨cs5, rfl, b5, i5⟩
        obtain ⟨tk5, ta5, tn5, tm5, a45, n45, c45, a55, n55, c55, a65, n65, c65, rfl⟩ := cells_E i5
        have hlx : w.heap.size < w4.heap.size := (Array.getElem?_eq_some_iff.1 HX4.out).1
        have hly : w.heap.size + 1 < w4.heap.size := (Array.getElem?_eq_some_iff.1 HY4.out).1
        have hx5 := (b5.block _ hlx).trans HX4.out
        have hy5 := (b5.block _ hly).trans HY4.out
        have HTH := Lib.hid (there_of hy5 rfl)
        have HB5 := Lib.hid (HB4.out.trans (b5.mono HB4.out.size))
        have HX5 := Lib.hid hx5
        have HY5 := Lib.hid hy5
        have HR5 := Lib.hid (row_below HO4.out b5)
        have HC5 := Lib.hid (IsCs.alike (m := w.heap.size) (w := w5) (w' := w) (fun k hk => (HB5.out.block k hk).symm) _ _ i5)
        clear hlx hly hx5 hy5 b5 i5 u0 u1 u2 u3 u4 u5 u6
        go_wp2_with (first | (refine wpList_store_put rfl 36 (.tmp 3) (.tmp 21) rfl (w.heap.size + 1) _ rfl rfl HTH.out size49 (all_oneCell_toArray (by simp [Value.oneCell'])) ?_; intro W9 hW9))
        have e9 : W9 = putL w5 (w.heap.size + 1) [.int .i64 tk5, .int .i64 ta5, .string tn5, .int .i64 tm5, .slice a45 n45 c45, .slice a55 n55 c55, .slice a65 n65 c65] := hW9.out
        have hrow := row_kept (S := fun i => i = w.heap.size + 1) HR5.out (w' := W9) (by rw [e9]; exact Nat.le_of_eq (putL_same _ _ _ _).2.2.2.symm) (fun i _ hne => by rw [e9]; exact putL_far _ _ 0 _ _ hne) (fun b' hb' e => by have := (HR5.out.lt b' hb').1; omega)
        have hall := IsCs.append _ _ _ _ hG.out.all hG.out.cur
        refine ⟨⟨ls ++ [.mk k1 a1 n1 m1 ns1 l1 ts1], l1[0]?.getD zPE, _, ys ++ [.int .i64 (k1 : Nat), .int .i64 (a1 : Nat), .string ⟨n1.toArray⟩, .int .i64 (m1 : Nat), .slice x4 ns1.length y4, .slice x5 l1.length y5, .slice x6 ts1.length y6], Lib.hid ⟨⟨r', HN.out, HLS'.out⟩, ?_, ?_, HC5.out, ?_, ?_, ?_⟩⟩, ?_⟩
        · rw [e9]; exact (putL_far _ _ 0 _ _ (by omega)).trans HX5.out
        · rw [e9]; exact putL_at (vs := [.int .i64 tk5, .int .i64 ta5, .string tn5, .int .i64 tm5, .slice a45 n45 c45, .slice a55 n55 c55, .slice a65 n65 c65]) HY5.out rfl
        · rw [e9]; exact Below.putL HB5.out (by omega) _
        · rw [List.length_append, List.length_singleton]; exact hrow
        · rw [encEs_append, encEs, encEs, List.append_nil]; exact hall
        · have := HL2.out
          simp only [slen]
          omega
    · obtain ⟨hr0, hcb⟩ := chn_end hr hk
      have e6 : ((k1 : Int) == 6) = false := by simp only [beq_eq_false_iff_ne, ne_eq]; omega
      have e7 : ((k1 : Int) == 7) = false := by simp only [beq_eq_false_iff_ne, ne_eq]; omega
      obtain ⟨g, rfl⟩ : ∃ g, a0 = some ⟨g, 0, none⟩ := by
        rcases hG.out.row.2 with ⟨_, e⟩ | ⟨g, cap, cur, e, -⟩
        · exact absurd (List.eq_nil_of_length_eq_zero e) (by rw [hr0, List.append_nil] at hLS; rw [← hLS]; exact HNE.out)
        · injection e with e1 _ _; exact ⟨g, e1⟩
      subst hcb
      subst hr0
      rw [List.append_nil] at hLS
      subst hLS
      clear hk hr k5 K5
      have hbx := (cell_of_block hG.out.bx).1
      have FW : Hid (Fb B b w wr) := Fb.of_below HP.out.hi hG.out.bl
      have PW : Hid (Pst B wr b bs) := HP.out.below hG.out.bl
      have HCW := Lib.hid (hG.out.cur.below hG.out.bl)
      have HTW := Lib.hid (HTB.out.fb FW.out)
      have HE52 := Lib.hid (HBB.out 2 (.inr rfl) _ _ B b bs wr PW.out ⟨HCW.out, HTW.out⟩ (by have := HLEN.out; rw [List.length_append] at this; omega))
      have hf52 : Fence.wide.fn 52 := trivial
      go_wp2_with fail
      gi_wp2_with fail
      refine (callsIn_wide.2 HE52.out).mono ?_
      rintro e w5 ⟨rfl, F5, P5⟩
      have HF5 := Lib.hid F5
      have HP5 := Lib.hid P5
      clear F5 P5 q0 q1 q2 q3 q4 q5 q6 hbx hby
      have hff : Fence.wide.fn 112 := trivial
      gi_wp2_with (gi_at_call 112; refine (back_in _ _ _ _ _).mono ?_; rintro e w' ⟨rfl, rfl⟩)
      have hB0 : Kb wr w5 := Kb.of_fb HF5.out PW.out
      obtain ⟨W0, hW0⟩ : ∃ W0, w5.alloc (.cells #[.slice (some ⟨g, 0, none⟩) LS.length c0] 34) = W0 := ⟨_, rfl⟩
      have hX0 : W0.heap[w5.heap.size]? = some (.cells #[.slice (some ⟨g, 0, none⟩) LS.length c0] 34 (0, 0)) := by rw [← hW0]; exact heap_alloc_new w5 _
      have hR0 : W0.ownsRow (w.heap.size + 2) 36 7 (.slice (some ⟨g, 0, none⟩) LS.length c0) LS.length ys := by rw [← hW0]; exact (hB0.row hG.out.row).alloc _
      have hP0 : Pst B W0 b (bs ++ prE 2 (.mk k1 a1 n1 m1 ns1 l1 ts1)) := by rw [← hW0]; exact HP5.out.alloc _
      have hF0 : Fb B b w W0 := by rw [← hW0]; exact (FW.out.trans HF5.out).alloc HP.out.hi _
      have hbx0 : W0.heap[w.heap.size]? = some (.cells #[.pointer (some ⟨b, 0, none⟩)] 130 (0, 0)) := by
        rw [← hW0]
        exact blk_alloc (HF5.out.2 _ _ hG.out.bx (fun e => by have := HP.out.lt; have := Option.some.inj e; omega) (fun c fz e => by cases e)) _
      have HALL := Lib.hid hG.out.all
      have HX0 := Lib.hid hX0
      have HR0 := Lib.hid hR0
      have HY7 := Lib.hid hR0.1
      have hsz : w.heap.size < W0.heap.size := (Array.getElem?_eq_some_iff.1 hbx0).1
      obtain ⟨t0, ht0⟩ : ∃ t0, t0 = prE 2 (.mk k1 a1 n1 m1 ns1 l1 ts1) := ⟨_, rfl⟩
      rw [← ht0] at hP0 HLEN
      have HT0 := Lib.hid ht0
      rw [hW0]
      have HI0 : Hid (RI B b bs t0 M LS w (.pointer (some ⟨b, 0, none⟩)) [] W0) := ⟨t0, by simp, hP0, hF0, hbx0, fun _ => by simp⟩
      have hf113 : Fence.wide.fn 113 := trivial
      clear hX0 hR0 hP0 hF0 hbx0 hB0 hW0 ht0
      refine wpIn_rangeFunc_ownH rfl (by omega) (gf := 128) (lb := #[.pointer (some ⟨w5.heap.size, 0, none⟩)]) rfl trivial (enters_of Tryz.func128 (by kernel_rfl) rfl)
        (back_stops 4 (by omega) w5.heap.size _ g c0 LS.length ys HLS.out W0 HX0.out HR0.out) (fun h k => Kb.trans h k) (fun W l o o' _ h2 h3 _ => Kb.put W l o o' h2 h3) (Below.refl _ _) (fun _ => rfl)
        (RI B b bs t0 M LS w (.pointer (some ⟨b, 0, none⟩)))
        (fun _ _ _ => False)
        (ri_own (Nat.le_of_lt hsz) HP.out.hi)
        (fun _ _ _ _ _ hs _ _ => hs)
        HI0.out
        (fun x a' W => ∃ b6, a' = { tmps := #[.pointer (some ⟨b, 0, none⟩), .agg #[.int .i64 tk, .int .i64 ta, .string tn, .int .i64 tm, .slice a4 n4 c4, .slice a5 n5 c5, .slice a6 n6 c6], .pointer (some ⟨w.heap.size, 0, none⟩), .pointer (some ⟨w.heap.size + 1, 0, none⟩), .slice (some ⟨g, 0, none⟩) LS.length c0, undef, .pointer (some ⟨b6, 0, none⟩), .pointer (some ⟨w.heap.size + 1, 0, none⟩), .int .i64 (k1 : Nat), .bool false, .bool false, .pointer (some ⟨w.heap.size + 1, 0, none⟩), .int .i64 (k1 : Nat), .bool false, .bool false, u15, u16, u17, u18, u19, u20, u21, .pointer (some ⟨b, 0, none⟩), .agg #[.int .i64 (k1 : Nat), .int .i64 (a1 : Nat), .string ⟨n1.toArray⟩, .int .i64 (m1 : Nat), .slice x4 ns1.length y4, .slice x5 l1.length y5, .slice x6 ts1.length y6], .tuple #[], .slice (some ⟨g, 0, none⟩) LS.length c0, .func (.func 128) #[] #[.pointer (some ⟨w5.heap.size, 0, none⟩)], .int .i64 (x.1 : Nat), .agg (elC ys x.1).toArray, undef, undef, undef], defers := [] } ∧ W.heap[b6]? = some (.cells (elC ys x.1).toArray 36 (0, 0)))
        (fun x a' => Own.from (fun _ A B row ⟨b6, h1, h2⟩ hg hr => ⟨b6, h1, block_kept h2 hg hr⟩) _)
        ?assign ?body ?done ?stop
      case assign =>
        rintro l pre x W K ⟨T, i1, i2, i3, i4, i5⟩ hK
        obtain ⟨y, hy⟩ : ∃ y, LS[x.1]? = some y := ⟨_, List.getElem?_eq_getElem x.2⟩
        obtain ⟨zk, za, zn, zm, z4, v4, e4, z5, v5, e5, z6, v6, e6, he⟩ := cells_E (el_data HALL.out hy)
        have hBa : Below W.heap.size W (W.alloc (.cells #[.int .i64 zk, .int .i64 za, .string zn, .int .i64 zm, .slice z4 v4 e4, .slice z5 v5 e5, .slice z6 v6 e6] 36)) := (Below.refl _ _).alloc (Nat.le_refl _) _
        have hIa := (ri_own (B0 := W0.heap.size) (Nat.le_of_lt hsz) HP.out.hi).alloc (s := pre) (.cells #[.int .i64 zk, .int .i64 za, .string zn, .int .i64 zm, .slice z4 v4 e4, .slice z5 v5 e5, .slice z6 v6 e6] 36) ⟨T, i1, i2, i3, i4, i5⟩
        have HIa := Lib.hid hIa
        have HBa := Lib.hid hBa
        simp only [elV, he]
        clear hi hz0 hz1 hz2 hIa hBa i1 i2 i3 i4 i5 hy
        gi_wp2
        refine hK _ _ ⟨HBa.out.size, fun k o _ hk _ => blk_alloc hk _⟩ (Kb.of_below HBa.out) HIa.out ⟨W.heap.size, ?_, ?_⟩
        · rw [he]
        · rw [he]; exact heap_alloc_new W _
      case body =>
        rintro l pre x a' W hl hrec ⟨T, i1, i2, i3, i4, i5⟩ ⟨b6, rfl, h6⟩ hlen
        obtain ⟨y0, yy1, yy2, yy3, yy4, yy5, yy6, he⟩ := list7 (el_at HY7.out x.2).1
        obtain ⟨y, hy⟩ : ∃ y, LS[x.1]? = some y := ⟨_, List.getElem?_eq_getElem x.2⟩
        have hmem := List.mem_of_getElem? hy
        have hyz : LS[x.1]?.getD zPE = y := by rw [hy]; rfl
        have hd := IsCs.fb HP.out i3 _ _ (nb_E _) (el_data HALL.out hy)
        have hMl := HMM.out y hmem
        have hmul : pre.length * M + M ≤ LS.length * M := by rw [← Nat.succ_mul]; exact Nat.mul_le_mul_right M hlen
        have HC113 := Lib.hid (link_any y (HLL.out y hmem) _ _ B b (bs ++ T) W i2 ⟨hd, HTB.out.fb i3⟩ (by
          have h1 := HLEN.out
          have h2 := HSM.out
          rw [List.length_append] at h1 ⊢
          omega))
        rw [he] at h6 HC113
        have HEQ := Lib.hid (fun (a' : Act) (W' : World) (h1 : Fb B b W W') (h2 : Pst B W' b ((bs ++ T) ++ lnk y)) => ri_next (B0 := W0.heap.size) (Ix := fun _ _ _ => False) (x := x) (W := W) (a' := a') (W' := W') i1 i2 i3 i4 i5 HP.out.lt (by rw [hyz]; exact hMl) h1 (by rw [hyz]; exact h2))
        obtain ⟨⟨q0, q1, q2, q3, q4, q5, q6⟩, -⟩ := sev_of (t := 36) h6
        have hbx := (cell_of_block i4).1
        simp only [he]
        clear hd hMl hmul hmem hyz hy h6 i1 i2 i3 i4 i5 hlen
        gi_wp2_with fail
        refine (CallsIn.inRound l (callsIn_wide.2 HC113.out)).mono ?_
        rintro e W2 ⟨rfl, F2, P2⟩
        gi_wp2_with fail
        exact HEQ.out _ _ F2 P2
      case done =>
        rintro D zs W hD rfl ⟨T, i1, i2, i3, i4, i5⟩ hK
        have hT := i5 (List.prefix_refl _)
        rw [bk_text] at hT
        gi_wp2
        refine ⟨by simp, .inl ⟨_, _, rfl, run_takeDeferred hK, ?_⟩⟩
        refine ⟨_, results_none rfl _ _ _, rfl, fb_grown i3 (grownBy_putObj' W D _) (fun r e => by cases e; omega) HP.out.hi, ?_⟩
        rw [← HT0.out, ← hT]
        exact pst_grown i2 (grownBy_putObj' W D _) (fun r e => by cases e; exact ⟨_, hK, rfl⟩)
      case stop =>
        rintro D c pre W _ _ h _
        exact h.elim

end Go.Proofs.YthpoffklhpbdoaaGreatDoor

/-
  The laws' own functions: the program's data told as the document's.
-/
import Derived.Test.YthpoffklhpbdoaaGreatDoorAlv
import Derived.Test.YthpoffklhpbdoaaGreatDoorPurX

/-
  The laws' own types: the program's types told as the document's.
-/
namespace Go.Proofs.YthpoffklhpbdoaaGreatDoor
set_option maxRecDepth 20000
open Go.RowKit Go.Shelf

theorem info44 : (Tryz.prog.info? 31).map (fun i => (i.zero, i.size, i.bytes)) = some (some (.agg #[.int .i64 0, .string ⟨#[]⟩, .slice none 0 0, .slice none 0 0]), 4, 72) := by kernel_rfl
theorem ret44 {f : Func} {R : Ending → World → Prop} {a : Act} {w : World} {b s : Nat} {u0 u1 u2 u3 : Value} (hf : f.results = #[.cell s 31]) (ht : a.eval (.tmp s) = .pointer (some ⟨b, 0, none⟩)) (hd : a.defers = [])
    (h : Fou w b 31 u0 u1 u2 u3) (hR : R (.returned (.agg #[u0, u1, u2, u3])) w) : bodyPost Tryz.prog f R Exit.ret a w := by
  obtain ⟨⟨c0, c1, c2, c3⟩, -⟩ := fou_of h
  refine bodyPost_ret ?_ hd hR
  simp [Act.eval] at ht
  simp [results, hf, go_sem, c0, c1, c2, c3, ht]
theorem cells_TT {e : TypeId} {A : Nat → Prop} {w : World} {k : Nat} {n : Bs} {ns : List Bs} {l : List PT} {cs : List Value} (h : IsCs A w (encT e (.mk k n ns l)) cs) : ∃ v2 v3, cs = [.int .i64 k, .string ⟨n.toArray⟩, v2, v3] ∧ IsC A w (.row 9 1 ns.length (ns.map .str)) v2 ∧ IsC A w (.row e 4 l.length (encTs e l)) v3 := by
  rw [encT] at h
  obtain ⟨x0, ys, rfl, k0, h⟩ := h.uncons
  obtain ⟨x1, ys, rfl, k1, h⟩ := h.uncons
  obtain ⟨x2, ys, rfl, k2, h⟩ := h.uncons
  obtain ⟨x3, ys, rfl, k3, h⟩ := h.uncons
  simp only [IsC] at k0 k1
  obtain rfl : ys = [] := by simpa only [IsCs] using h
  subst k0 k1
  exact ⟨x2, x3, rfl, k2, k3⟩

/-- What To and Ts tell. -/
def ToOk (t : PT) : Prop := ∀ (A : Nat → Prop) (w : World) (cs : List Value), IsCs A w (encT 26 t) cs → Calls Tryz.prog 16 #[.agg cs.toArray] w (fun e w' => ∃ us, e = .returned (.agg us.toArray) ∧ Below w.heap.size w w' ∧ IsCs (fun b => A b ∨ w.heap.size ≤ b) w' (encT 31 t) us)
def TsOk (l : List PT) : Prop := ∀ (A : Nat → Prop) (w : World) (v : Value), Sub A w (encTs 26 l) l.length v → Calls Tryz.prog 41 #[v] w (fun e w' => ∃ u, e = .returned u ∧ Below w.heap.size w w' ∧ IsC (fun b => A b ∨ w.heap.size ≤ b) w' (.row 31 4 l.length (encTs 31 l)) u)

set_option maxHeartbeats 1000000 in
theorem to_step (k : Nat) (n : Bs) (ns : List Bs) (l : List PT) (HT : TsOk l) : ToOk (.mk k n ns l) := by
  intro A w cs h
  obtain ⟨v2, v3, rfl, h2, h3⟩ := cells_TT h
  obtain ⟨xs2, r2, -, -⟩ := h2.unrow
  obtain ⟨a2, c2, rfl⟩ := row_slice r2
  obtain ⟨xs3, r3, -, -⟩ := h3.unrow
  obtain ⟨a3, c3, rfl⟩ := row_slice r3
  have S3 := Lib.hid ((Sub.of_row h3 (by rw [encTs_flat]; exact flat_length (encT_length 26) l)).mono (A' := fun b => A b ∧ b < w.heap.size) (fun b hb ha => ⟨ha, hb⟩))
  have S2 := Lib.hid (h2.mono (A' := fun b => A b ∧ b < w.heap.size) (fun b hb ha => ⟨ha, hb⟩))
  obtain ⟨W, hW⟩ : ∃ W, W = (w.alloc (.cells #[.int .i64 k, .string ⟨n.toArray⟩, .slice a2 ns.length c2, .slice a3 l.length c3] 26)).alloc (.cells #[.int .i64 0, .string ⟨#[]⟩, .slice none 0 0, .slice none 0 0] 31) := ⟨_, rfl⟩
  have HB := Lib.hid (show Below w.heap.size w W by rw [hW]; exact ((Below.refl _ _).alloc (Nat.le_refl _) _).alloc (by simp) _)
  have HSZ := Lib.hid (show W.heap.size = w.heap.size + 2 by rw [hW]; simp)
  have A0 := Lib.hid (show Fou W w.heap.size 26 (.int .i64 k) (.string ⟨n.toArray⟩) (.slice a2 ns.length c2) (.slice a3 l.length c3) by rw [hW]; exact blk_alloc (heap_alloc_new w _) _)
  have A1 := Lib.hid (show Fou W (w.heap.size + 1) 31 (.int .i64 0) (.string ⟨#[]⟩) (.slice none 0 0) (.slice none 0 0) by rw [hW]; have := heap_alloc_new (w.alloc (.cells #[.int .i64 k, .string ⟨n.toArray⟩, .slice a2 ns.length c2, .slice a3 l.length c3] 26)) (.cells #[.int .i64 0, .string ⟨#[]⟩, .slice none 0 0, .slice none 0 0] 31); rw [World.size_alloc] at this; exact this)
  have HC : Hid (∀ X : World, X.heap = W.heap ∧ X.os = W.os ∧ X.tape = W.tape ∧ X.output = W.output → Calls Tryz.prog 41 #[.slice a3 l.length c3] X (fun e w' => ∃ u, e = .returned u ∧ Below W.heap.size W w' ∧ IsC (fun b => (A b ∧ b < w.heap.size) ∨ W.heap.size ≤ b) w' (.row 31 4 l.length (encTs 31 l)) u)) := by
    rintro X ⟨e1, e2, e3, e4⟩
    have hX : Below W.heap.size W X := ⟨e2, e3, e4, by rw [e1]; exact Nat.le_refl _, fun k _ => by rw [e1]⟩
    have S := (S3.out.below HB.out).below hX
    refine (HT _ X _ S).mono ?_
    rintro e w' ⟨u, h1, h2, h3⟩
    rw [e1] at h2 h3
    exact ⟨u, h1, hX.trans h2, h3⟩
  obtain ⟨⟨p0, p1, p2, p3⟩, t0, t1, t2, t3⟩ := fou_of A0.out
  obtain ⟨⟨q0, q1, q2, q3⟩, u0, u1, u2, u3⟩ := fou_of A1.out
  clear h h2 h3 r2 r3 HT
  go_enter Tryz.func16, Tryz.ntmps16
  go_wp2_with fail
  rw [← hW]
  clear hW
  obtain ⟨b1, hb1⟩ : ∃ b, b = w.heap.size + 1 := ⟨_, rfl⟩
  obtain ⟨b0, hb0⟩ : ∃ b, b = w.heap.size := ⟨_, rfl⟩
  rw [← hb1] at A1 q0 q1 q2 q3 u0 u1 u2 u3 ⊢
  rw [← hb0] at A0 p0 p1 p2 p3 t0 t1 t2 t3 ⊢
  have HB1 := Lib.hid hb1
  have HB0 := Lib.hid hb0
  have hne : ¬ b1 = b0 := by omega
  have hne' : ¬ b0 = b1 := by omega
  clear hb1 hb0
  go_region_held3 (fun w' => w'.cell? ⟨b0, 0, none⟩ = some (.int .i64 k) ∧ w'.cell? ⟨b0, 1, none⟩ = some (.string ⟨n.toArray⟩) ∧ w'.cell? ⟨b0, 2, none⟩ = some (.slice a2 ns.length c2) ∧ w'.cell? ⟨b0, 3, none⟩ = some (.slice a3 l.length c3)) (go_keep)
    (first | (go_at_call 41; refine (HC.out _ ?_).mono ?_; exact ⟨rfl, rfl, rfl, rfl⟩; rintro e w3 ⟨u, rfl, b3, i3⟩; obtain ⟨xs, r3, -, -⟩ := i3.unrow; obtain ⟨au, cu, rfl⟩ := row_slice r3; obtain ⟨⟨s0, s1, s2, s3⟩, -⟩ := fou_of (show Fou w3 b0 26 (.int .i64 k) (.string ⟨n.toArray⟩) (.slice a2 ns.length c2) (.slice a3 l.length c3) from (b3.block _ (by rw [HSZ.out, HB0.out]; omega)).trans A0.out); (have hA3 : Fou w3 b1 31 (.int .i64 0) (.string ⟨#[]⟩) (.slice none 0 0) (.slice none 0 0) := (b3.block _ (by rw [HSZ.out, HB1.out]; omega)).trans A1.out); obtain ⟨⟨q0, q1, q2, q3⟩, u0, u1, u2, u3⟩ := fou_of (t := 31) hA3; (have HA3 := Lib.hid hA3); (have B3 := Lib.hid b3); (have I3 := Lib.hid i3); clear b3 i3 r3 hA3))
  all_goals
    go_wp2_with fail
    have B4 : Below w.heap.size w (putL w3 b1 [.int .i64 k, .string ⟨n.toArray⟩, .slice a2 ns.length c2, .slice au l.length cu]) := Below.putL (HB.out.trans (B3.out.mono HB.out.size)) (by rw [HB1.out]; omega) _
    have S2' : IsC (fun b => (A b ∨ w.heap.size ≤ b) ∧ b ≠ b1) w3 (.row 9 1 ns.length (ns.map .str)) (.slice a2 ns.length c2) := ((S2.out.below HB.out).below B3.out).mono (fun b _ hb => ⟨.inl hb.1, by have := HB1.out; omega⟩)
    have I4 : IsC (fun b => (A b ∨ w.heap.size ≤ b) ∧ b ≠ b1) w3 (.row 31 4 l.length (encTs 31 l)) (.slice au l.length cu) := I3.out.mono (fun b _ hb => by rw [HSZ.out] at hb; rcases hb with hb | hb; exact ⟨.inl hb.1, by have := HB1.out; omega⟩; exact ⟨.inr (by omega), by have := HB1.out; omega⟩)
    have CC : IsCs (fun b => (A b ∨ w.heap.size ≤ b) ∧ b ≠ b1) w3 (encT 31 (.mk k n ns l)) [.int .i64 k, .string ⟨n.toArray⟩, .slice a2 ns.length c2, .slice au l.length cu] := by
      rw [encT]
      exact .cons (.num _ _ _) (.cons (.str _ _ _) (.cons S2' (.cons I4 (.nil _ _))))
    have F4 : Fou (putL w3 b1 [.int .i64 k, .string ⟨n.toArray⟩, .slice a2 ns.length c2, .slice au l.length cu]) b1 31 (.int .i64 k) (.string ⟨n.toArray⟩) (.slice a2 ns.length c2) (.slice au l.length cu) := putL_at (vs := [.int .i64 k, .string ⟨n.toArray⟩, .slice a2 ns.length c2, .slice au l.length cu]) HA3.out rfl
    have C4 := (CC.putL b1 (fun b hb => hb.2) [.int .i64 k, .string ⟨n.toArray⟩, .slice a2 ns.length c2, .slice au l.length cu]).mono (A' := fun b => A b ∨ w.heap.size ≤ b) (fun b _ hb => hb.1)
    refine ret44 (s := 2) (b := b1) rfl rfl rfl F4 ?_
    exact ⟨[.int .i64 k, .string ⟨n.toArray⟩, .slice a2 ns.length c2, .slice au l.length cu], rfl, B4, C4⟩

theorem below_grown {w w' w'' : World} {row : Option Nat} (h : Below w.heap.size w w') (hg : w'.grownBy w'' row) (hr : ∀ b, row = some b → w.heap.size ≤ b) : Below w.heap.size w w'' :=
  ⟨hg.os.trans h.os, hg.tape.trans h.tape, hg.output.trans h.output, Nat.le_trans h.size hg.size, fun k hk => (hg.block k (Nat.lt_of_lt_of_le hk h.size) (fun e => by have := hr k e.symm; omega)).trans (h.block k hk)⟩

set_option maxHeartbeats 1000000 in
theorem ts_step (l : List PT) (hsz : l.length ≤ 1000000) (HT : ∀ t ∈ l, ToOk t) : TsOk l := by
  intro A w v h
  obtain ⟨i0, hi, hz0, hz1, hz2⟩ := info_parts info44
  obtain ⟨a0, cap, xs, rfl, -, -⟩ := id h
  have S := Lib.hid ((h.mono (A' := fun b => A b ∧ b < w.heap.size) (fun b hb ha => ⟨ha, hb⟩)))
  have HT := Lib.hid HT
  have HSZ := Lib.hid hsz
  clear h hsz
  go_enter Tryz.func41, Tryz.ntmps41
  go_wp2_with fail
  go_loopw [3, 4] (fun s3 s4 wr => ∃ (i : Nat) (ys : List Value), s4 = .int .i64 (i : Nat) ∧ i ≤ l.length ∧ Hid (Below w.heap.size w wr) ∧ Hid (wr.ownsRow w.heap.size 31 4 s3 i ys) ∧ Hid (IsCs (fun b => (A b ∨ w.heap.size ≤ b) ∧ some b ≠ s3.ownBlock) wr (encTs 31 (l.take i)) ys)) (fun _ s4 _ => l.length - (intOf s4).toNat)
  case atStart =>
    exact ⟨0, [], rfl, Nat.zero_le _, Below.refl _ _, World.ownsRow_nil _ _ _ _, (show IsCs _ _ (encTs 31 (l.take 0)) [] by rw [List.take_zero, encTs]; exact IsCs.nil _ _)⟩
  case round =>
    obtain ⟨i, ys, rfl, hil, hB, hR, hC⟩ := hrel
    have SR := Lib.hid (S.out.below hB.out)
    by_cases hi2 : i < l.length
    · have hlt : decide ((i : Int) < (l.length : Int)) = true := by simp only [decide_eq_true_eq]; omega
      have hltn : decide (i < l.length) = true := by simp only [decide_eq_true_eq]; exact hi2
      have hget : l[i]? = some l[i] := List.getElem?_eq_getElem hi2
      obtain ⟨t, ht⟩ : ∃ t, t = l[i] := ⟨_, rfl⟩
      rw [← ht] at hget
      have HGT := Lib.hid hget
      have hmem : t ∈ l := by rw [ht]; exact List.getElem_mem hi2
      have HTO := Lib.hid (HT.out t hmem)
      have hSR := SR.out
      rw [encTs_flat] at hSR
      obtain ⟨g, o, cs, rfl, hg, hcs, hcell⟩ := Sub.at (encT_length 26) hSR hget (by omega)
      obtain ⟨tk, tn, a2, n2, c2, a3, n3, c3, rfl⟩ := cells_T hcs
      have d0 := hcell 0 _ rfl
      have d1 := hcell 1 _ rfl
      have d2 := hcell 2 _ rfl
      have d3 := hcell 3 _ rfl
      rw [Nat.add_zero] at d0
      have HCS := Lib.hid hcs
      clear hget ht hmem hSR hcs hcell
      have hbig := HSZ.out
      go_wp2_with fail
      refine (HTO.out _ wr _ HCS.out).mono ?_
      rintro e w3 ⟨us, rfl, b3, i3⟩
      obtain ⟨k', n', ns', l'⟩ := t
      obtain ⟨v2, v3, rfl, hv2, hv3⟩ := cells_TT i3
      obtain ⟨xs2, r2, -, -⟩ := hv2.unrow
      obtain ⟨x2, y2, rfl⟩ := row_slice r2
      obtain ⟨xs3, r3, -, -⟩ := hv3.unrow
      obtain ⟨x3, y3, rfl⟩ := row_slice r3
      have hb3 : Below w.heap.size w (w3.alloc (.cells #[.int .i64 (k' : Nat), .string ⟨n'.toArray⟩, .slice x2 ns'.length y2, .slice x3 l'.length y3] 31)) := (hB.out.trans (b3.mono hB.out.size)).alloc (Nat.le_trans hB.out.size b3.size) _
      have HB3 := Lib.hid hb3
      have R3 := Lib.hid ((row_below hR.out b3).alloc (.cells #[.int .i64 (k' : Nat), .string ⟨n'.toArray⟩, .slice x2 ns'.length y2, .slice x3 l'.length y3] 31))
      have C3 := Lib.hid ((hC.out.below b3).below ((Below.refl _ _).alloc (Nat.le_refl _) (.cells #[.int .i64 (k' : Nat), .string ⟨n'.toArray⟩, .slice x2 ns'.length y2, .slice x3 l'.length y3] 31)))
      have E3 := Lib.hid ((i3.mono (A' := fun b => (A b ∨ w.heap.size ≤ b) ∧ some b ≠ u3.ownBlock) (fun b _ hb => by
        rcases hb with hb | hb
        · exact ⟨.inl hb.1, fun e => by have := (hR.out.lt b e.symm).1; omega⟩
        · exact ⟨.inr (Nat.le_trans hB.out.size hb), fun e => by have := (hR.out.lt b e.symm).2; omega⟩)).below ((Below.refl _ _).alloc (Nat.le_refl _) (.cells #[.int .i64 (k' : Nat), .string ⟨n'.toArray⟩, .slice x2 ns'.length y2, .slice x3 l'.length y3] 31)))
      have HNB := Lib.hid (World.news_of_block (heap_alloc_new w3 (.cells #[.int .i64 (k' : Nat), .string ⟨n'.toArray⟩, .slice x2 ns'.length y2, .slice x3 l'.length y3] 31)))
      have HONE := Lib.hid (i3.one)
      have hmx : i + 1 ≤ maxLen := by unfold maxLen; omega
      have hmb : (i + 1) * 72 ≤ 140737488355328 := by omega
      have HR := Lib.hid hR.out
      have HBS := Lib.hid (show w.heap.size ≤ (w3.alloc (.cells #[.int .i64 (k' : Nat), .string ⟨n'.toArray⟩, .slice x2 ns'.length y2, .slice x3 l'.length y3] 31)).heap.size from hb3.size)
      clear b3 i3 hv2 hv3 r2 r3 hb3
      go_wp2_with (first | (at_builtin; refine wpList_append_lies _ rfl (.tmp 11) (.tmp 17) 29 rfl w.heap.size 31 i0 _ 4 72 Tryz.underlying29 hi hz0 hz1 hz2 rfl (by decide) u3 i ys rfl R3.out ⟨w3.heap.size, 0, none⟩ 1 1 [.int .i64 (k' : Nat), .string ⟨n'.toArray⟩, .slice x2 ns'.length y2, .slice x3 l'.length y3] rfl rfl HNB.out HONE.out (by decide) hmx hmb HBS.out (w3.heap.size + 1) (World.size_alloc _ _) ?_; intro g' cap' w4 hown4 hg4 hat4 hlt4))
      refine ⟨⟨i + 1, ys ++ [.int .i64 (k' : Nat), .string ⟨n'.toArray⟩, .slice x2 ns'.length y2, .slice x3 l'.length y3], by simp, by omega, Lib.hid (below_grown HB3.out hg4 (fun b hb => (HR.out.lt b hb).1)), Lib.hid hown4, Lib.hid ?_⟩, ?_⟩
      · have c1 := (C3.out.mono (A' := fun b => (A b ∨ w.heap.size ≤ b) ∧ some b ≠ u3.ownBlock ∧ b < w3.heap.size + 1) (fun b hb hb' => ⟨hb'.1, hb'.2, by simpa using hb⟩)).grown hg4 (fun b hb e => hb.2.1 e)
        have c2 := (E3.out.mono (A' := fun b => (A b ∨ w.heap.size ≤ b) ∧ some b ≠ u3.ownBlock ∧ b < w3.heap.size + 1) (fun b hb hb' => ⟨hb'.1, hb'.2, by simpa using hb⟩)).grown hg4 (fun b hb e => hb.2.1 e)
        have e1 : encTs 31 (l.take (i + 1)) = encTs 31 (l.take i) ++ encT 31 (.mk k' n' ns' l') := by
          rw [List.take_add_one, HGT.out, Option.toList_some, encTs_append, encTs, encTs, List.append_nil]
        show IsCs _ _ (encTs 31 (l.take (i + 1))) _
        rw [e1]
        refine (c1.append _ _ _ _ c2).mono (fun b _ hb => ⟨hb.1, ?_⟩)
        rcases hat4 with e | e
        · intro e2; exact hb.2.1 (e2.trans e.symm)
        · intro e2
          have : b = g' := Option.some.inj e2
          omega
      · simp [intOf]; omega
    · have hge : i = l.length := by omega
      have hlt : decide ((i : Int) < (l.length : Int)) = false := by simp only [decide_eq_false_iff_not]; omega
      have hltn : decide (i < l.length) = false := by simp only [decide_eq_false_iff_not]; exact hi2
      have HGE := Lib.hid hge
      clear hge
      go_wp2_with fail
      go_ret
      have hc := hC.out
      have hr := hR.out
      rw [HGE.out] at hr hc
      rw [List.take_length] at hc
      exact ⟨u3, rfl, hB.out, IsC.row (by decide) hr (fun b hb => .inr (hr.lt b hb).1) (hc.mono (fun b _ hb => hb.1))⟩

theorem ts_any : ∀ (N : Nat), (∀ t, szT t ≤ N → szT t ≤ 1000000 → ToOk t) ∧ (∀ l, szTs l ≤ N → szTs l ≤ 1000000 → TsOk l)
  | 0 => by
    refine ⟨fun t h => absurd (szT_pos t) (by omega), fun l h _ => ?_⟩
    have := szTs_len l
    obtain rfl : l = [] := List.eq_nil_of_length_eq_zero (by omega)
    exact ts_step [] (by simp) (by simp)
  | N + 1 => by
    have ih := ts_any N
    have hT : ∀ t, szT t ≤ N + 1 → szT t ≤ 1000000 → ToOk t := by
      rintro ⟨k, n, ns, l⟩ h h2
      rw [szT] at h h2
      exact to_step k n ns l (ih.2 l (by omega) (by omega))
    refine ⟨hT, fun l h h2 => ts_step l (by have := szTs_len l; omega) fun t ht => ?_⟩
    obtain ⟨i, hi, rfl⟩ := List.getElem_of_mem ht
    have := szTs_get l i _ (List.getElem?_eq_getElem hi)
    exact hT _ (by omega) (by omega)
theorem tsOk (l : List PT) (h : szTs l ≤ 1000000) : TsOk l := (ts_any (szTs l)).2 l (Nat.le_refl _) h
theorem toOk (t : PT) (h : szT t ≤ 1000000) : ToOk t := (ts_any (szT t)).1 t (Nat.le_refl _) h
end Go.Proofs.YthpoffklhpbdoaaGreatDoor

/-
  The laws' own expressions: the program's told as the document's.
-/
namespace Go.Proofs.YthpoffklhpbdoaaGreatDoor
set_option maxRecDepth 20000
open Go.RowKit Go.Shelf

theorem info54 : (Tryz.prog.info? 41).map (fun i => (i.zero, i.size, i.bytes)) = some (some (.agg #[.int .i64 0, .int .i64 0, .string ⟨#[]⟩, .int .i64 0, .slice none 0 0, .slice none 0 0, .slice none 0 0]), 7, 112) := by kernel_rfl
theorem cells_EE {e f : TypeId} {A : Nat → Prop} {w : World} {k a : Nat} {n : Bs} {m : Nat} {ns : List Bs} {l : List PE} {ts : List PT} {cs : List Value} (h : IsCs A w (encE e f (.mk k a n m ns l ts)) cs) : ∃ v4 v5 v6, cs = [.int .i64 k, .int .i64 a, .string ⟨n.toArray⟩, .int .i64 m, v4, v5, v6] ∧ IsC A w (.row 9 1 ns.length (ns.map .str)) v4 ∧ IsC A w (.row f 7 l.length (encEs e f l)) v5 ∧ IsC A w (.row e 4 ts.length (encTs e ts)) v6 := by
  rw [encE] at h
  obtain ⟨x0, ys, rfl, k0, h⟩ := h.uncons
  obtain ⟨x1, ys, rfl, k1, h⟩ := h.uncons
  obtain ⟨x2, ys, rfl, k2, h⟩ := h.uncons
  obtain ⟨x3, ys, rfl, k3, h⟩ := h.uncons
  obtain ⟨x4, ys, rfl, k4, h⟩ := h.uncons
  obtain ⟨x5, ys, rfl, k5, h⟩ := h.uncons
  obtain ⟨x6, ys, rfl, k6, h⟩ := h.uncons
  simp only [IsC] at k0 k1 k2 k3
  obtain rfl : ys = [] := by simpa only [IsCs] using h
  subst k0 k1 k2 k3
  exact ⟨x4, x5, x6, rfl, k4, k5, k6⟩

def EsOk (l : List PE) : Prop := ∀ (A : Nat → Prop) (w : World) (v : Value), Sub A w (encEs 26 36 l) l.length v → Calls Tryz.prog 18 #[v] w (fun e w' => ∃ u, e = .returned u ∧ Below w.heap.size w w' ∧ IsC (fun b => A b ∨ w.heap.size ≤ b) w' (.row 41 7 l.length (encEs 31 41 l)) u)

set_option maxHeartbeats 1000000 in
theorem es_step (l : List PE) (hsz : l.length ≤ 1000000) (HE : ∀ k a n m ns l' ts, PE.mk k a n m ns l' ts ∈ l → EsOk l' ∧ TsOk ts) : EsOk l := by
  intro A w v h
  obtain ⟨i0, hi, hz0, hz1, hz2⟩ := info_parts info54
  obtain ⟨a0, cap, xs, rfl, -, -⟩ := id h
  have S := Lib.hid ((h.mono (A' := fun b => A b ∧ b < w.heap.size) (fun b hb ha => ⟨ha, hb⟩)))
  have HE := Lib.hid HE
  have HSZ := Lib.hid hsz
  clear h hsz
  go_enter Tryz.func18, Tryz.ntmps18
  go_wp2_with fail
  go_loopw [3, 4] (fun s3 s4 wr => ∃ (i : Nat) (ys : List Value), s4 = .int .i64 (i : Nat) ∧ i ≤ l.length ∧ Hid (Below w.heap.size w wr) ∧ Hid (wr.ownsRow w.heap.size 41 7 s3 i ys) ∧ Hid (IsCs (fun b => (A b ∨ w.heap.size ≤ b) ∧ some b ≠ s3.ownBlock) wr (encEs 31 41 (l.take i)) ys)) (fun _ s4 _ => l.length - (intOf s4).toNat)
  case atStart =>
    exact ⟨0, [], rfl, Nat.zero_le _, Below.refl _ _, World.ownsRow_nil _ _ _ _, (show IsCs _ _ (encEs 31 41 (l.take 0)) [] by rw [List.take_zero, encEs]; exact IsCs.nil _ _)⟩
  case round =>
    obtain ⟨i, ys, rfl, hil, hB, hR, hC⟩ := hrel
    have SR := Lib.hid (S.out.below hB.out)
    by_cases hi2 : i < l.length
    · have hlt : decide ((i : Int) < (l.length : Int)) = true := by simp only [decide_eq_true_eq]; omega
      have hltn : decide (i < l.length) = true := by simp only [decide_eq_true_eq]; exact hi2
      have hget : l[i]? = some l[i] := List.getElem?_eq_getElem hi2
      obtain ⟨t, ht⟩ : ∃ t, t = l[i] := ⟨_, rfl⟩
      rw [← ht] at hget
      have HGT := Lib.hid hget
      have hmem : t ∈ l := by rw [ht]; exact List.getElem_mem hi2
      have hSR := SR.out
      rw [encEs_flat] at hSR
      obtain ⟨g, o, cs, rfl, hg, hcs, hcell⟩ := Sub.at (encE_length 26 36) hSR hget (by omega)
      clear ht
      obtain ⟨k, a, n, m, ns, l', ts⟩ := t
      obtain ⟨v4, v5, v6, rfl, h4, h5, h6⟩ := cells_EE hcs
      obtain ⟨H1, H2⟩ := HE.out k a n m ns l' ts hmem
      obtain ⟨_, r4, -, -⟩ := h4.unrow
      obtain ⟨a4, c4, rfl⟩ := row_slice r4
      obtain ⟨_, r5, -, -⟩ := h5.unrow
      obtain ⟨a5, c5, rfl⟩ := row_slice r5
      obtain ⟨_, r6, -, -⟩ := h6.unrow
      obtain ⟨a6, c6, rfl⟩ := row_slice r6
      have d0 := hcell 0 _ rfl
      have d1 := hcell 1 _ rfl
      have d2 := hcell 2 _ rfl
      have d3 := hcell 3 _ rfl
      have d4 := hcell 4 _ rfl
      have d5 := hcell 5 _ rfl
      have d6 := hcell 6 _ rfl
      rw [Nat.add_zero] at d0
      have G4 := Lib.hid h4
      have G5 := Lib.hid (Sub.of_row h5 (by rw [encEs_flat]; exact flat_length (encE_length 26 36) l'))
      have G6 := Lib.hid (Sub.of_row h6 (by rw [encTs_flat]; exact flat_length (encT_length 26) ts))
      have H1 := Lib.hid H1
      have H2 := Lib.hid H2
      have hbig := HSZ.out
      have HTH := Lib.hid (there_of (heap_alloc_new wr zE) (n := 7) rfl)
      clear hget hmem hSR hcs hcell h4 h5 h6 r4 r5 r6
      go_wp2_with (first | (refine wpList_store_put rfl 36 (.tmp 5) (.tmp 15) rfl wr.heap.size _ rfl rfl HTH.out size49 (all_oneCell_toArray (by simp [Value.oneCell'])) ?_; intro W9 hW9))
      have e9 : W9 = putL (wr.alloc zE) wr.heap.size [.int .i64 (k : Nat), .int .i64 (a : Nat), .string ⟨n.toArray⟩, .int .i64 (m : Nat), .slice a4 ns.length c4, .slice a5 l'.length c5, .slice a6 ts.length c6] := hW9.out
      have hA9 : Sev W9 wr.heap.size 36 (.int .i64 (k : Nat)) (.int .i64 (a : Nat)) (.string ⟨n.toArray⟩) (.int .i64 (m : Nat)) (.slice a4 ns.length c4) (.slice a5 l'.length c5) (.slice a6 ts.length c6) := by rw [e9]; exact putL_at (vs := [.int .i64 (k : Nat), .int .i64 (a : Nat), .string ⟨n.toArray⟩, .int .i64 (m : Nat), .slice a4 ns.length c4, .slice a5 l'.length c5, .slice a6 ts.length c6]) (heap_alloc_new wr zE) rfl
      have hBR : Below wr.heap.size wr W9 := by rw [e9]; exact Below.putL ((Below.refl _ _).alloc (Nat.le_refl _) _) (Nat.le_refl _) _
      have hS9 : W9.heap.size = wr.heap.size + 1 := by rw [e9, (putL_same _ _ _ _).2.2.2, World.size_alloc]
      obtain ⟨b5, hb5⟩ : ∃ b, b = wr.heap.size := ⟨_, rfl⟩
      rw [← hb5] at hA9 ⊢
      have HB5 := Lib.hid hb5
      have HA9 := Lib.hid hA9
      have HBR := Lib.hid hBR
      have HS9 := Lib.hid hS9
      have HB9 := Lib.hid (hB.out.trans (hBR.mono hB.out.size))
      have HC1 : Hid (∀ X : World, Below W9.heap.size W9 X → Calls Tryz.prog 18 #[.slice a5 l'.length c5] X (fun e w' => ∃ u, e = .returned u ∧ Below W9.heap.size W9 w' ∧ IsC (fun b => (A b ∧ b < w.heap.size) ∨ W9.heap.size ≤ b) w' (.row 41 7 l'.length (encEs 31 41 l')) u)) := by
        intro X hX
        refine (H1.out _ X _ ((G5.out.below HBR.out).below hX)).mono ?_
        rintro e w' ⟨u, q1, q2, q3⟩
        exact ⟨u, q1, hX.trans (q2.mono hX.size), q3.mono (fun b _ hb => hb.imp id (Nat.le_trans hX.size))⟩
      have HC2 : Hid (∀ W X : World, Below W9.heap.size W9 W → X.heap = W.heap ∧ X.os = W.os ∧ X.tape = W.tape ∧ X.output = W.output → Calls Tryz.prog 41 #[.slice a6 ts.length c6] X (fun e w' => ∃ u, e = .returned u ∧ Below W.heap.size W w' ∧ IsC (fun b => (A b ∧ b < w.heap.size) ∨ W9.heap.size ≤ b) w' (.row 31 4 ts.length (encTs 31 ts)) u)) := by
        rintro W X hW ⟨e1, e2, e3, e4⟩
        have hX : Below W.heap.size W X := ⟨e2, e3, e4, by rw [e1]; exact Nat.le_refl _, fun k _ => by rw [e1]⟩
        refine (H2.out _ X _ (((G6.out.below HBR.out).below hW).below hX)).mono ?_
        rintro e w' ⟨u, q1, q2, q3⟩
        rw [e1] at q2 q3
        exact ⟨u, q1, hX.trans q2, q3.mono (fun b _ hb => hb.imp id (Nat.le_trans hW.size))⟩
      obtain ⟨⟨p0, p1, p2, p3, p4, p5, p6⟩, t0, t1, t2, t3, t4, t5, t6⟩ := sev_of HA9.out
      have hmx : i + 1 ≤ maxLen := by unfold maxLen; omega
      have hmb : (i + 1) * 112 ≤ 140737488355328 := by omega
      clear hW9 e9 hA9 hBR hS9 hb5 HTH d0 d1 d2 d3 d4 d5 d6
      go_region_held3 (fun w' => w'.cell? ⟨b5, 0, none⟩ = some (.int .i64 (k : Nat)) ∧ w'.cell? ⟨b5, 1, none⟩ = some (.int .i64 (a : Nat)) ∧ w'.cell? ⟨b5, 2, none⟩ = some (.string ⟨n.toArray⟩) ∧ w'.cell? ⟨b5, 3, none⟩ = some (.int .i64 (m : Nat)) ∧ w'.cell? ⟨b5, 4, none⟩ = some (.slice a4 ns.length c4) ∧ w'.cell? ⟨b5, 5, none⟩ = some (.slice a5 l'.length c5) ∧ w'.cell? ⟨b5, 6, none⟩ = some (.slice a6 ts.length c6)) (go_keep)
        (first
          | (go_at_call 18; refine (HC1.out _ ?_).mono ?_; exact ⟨rfl, rfl, rfl, Nat.le_refl _, fun _ _ => rfl⟩; rintro e w3 ⟨u5, rfl, b3, i3⟩; obtain ⟨_, r5, -, -⟩ := i3.unrow; obtain ⟨x5, y5, rfl⟩ := row_slice r5; obtain ⟨⟨s0, s1, s2, s3, s4, s5, s6⟩, -⟩ := sev_of (show Sev w3 b5 36 (.int .i64 (k : Nat)) (.int .i64 (a : Nat)) (.string ⟨n.toArray⟩) (.int .i64 (m : Nat)) (.slice a4 ns.length c4) (.slice a5 l'.length c5) (.slice a6 ts.length c6) from (b3.block _ (by rw [HS9.out, HB5.out]; omega)).trans HA9.out); (have B3 := Lib.hid b3); (have I3 := Lib.hid i3); clear b3 i3 r5)
          | (go_at_call 41; refine (HC2.out w3 _ B3.out ⟨rfl, rfl, rfl, rfl⟩).mono ?_; rintro e w4 ⟨u6, rfl, b4, i4⟩; obtain ⟨_, r6, -, -⟩ := i4.unrow; obtain ⟨x6, y6, rfl⟩ := row_slice r6; obtain ⟨⟨s0, s1, s2, s3, s4, s5, s6⟩, -⟩ := sev_of (show Sev w4 b5 36 (.int .i64 (k : Nat)) (.int .i64 (a : Nat)) (.string ⟨n.toArray⟩) (.int .i64 (m : Nat)) (.slice a4 ns.length c4) (.slice a5 l'.length c5) (.slice a6 ts.length c6) from (b4.block _ (by have := B3.out.size; have := HS9.out; have := HB5.out; omega)).trans ((B3.out.block _ (by rw [HS9.out, HB5.out]; omega)).trans HA9.out)); (have hn1 : ¬ b5 = w4.heap.size := by have := b4.size; have := B3.out.size; have := HS9.out; have := HB5.out; omega); (have hn2 : b5 < w4.heap.size := by have := b4.size; have := B3.out.size; have := HS9.out; have := HB5.out; omega); (have B4 := Lib.hid b4); (have I4 := Lib.hid i4);
             (have R4 := Lib.hid ((row_below (row_below (row_below hR.out HBR.out) B3.out) b4).alloc (.cells #[.int .i64 (k : Nat), .int .i64 (a : Nat), .string ⟨n.toArray⟩, .int .i64 (m : Nat), .slice a4 ns.length c4, .slice x5 l'.length y5, .slice x6 ts.length y6] 41))); (have HNB := Lib.hid (World.news_of_block (heap_alloc_new w4 (.cells #[.int .i64 (k : Nat), .int .i64 (a : Nat), .string ⟨n.toArray⟩, .int .i64 (m : Nat), .slice a4 ns.length c4, .slice x5 l'.length y5, .slice x6 ts.length y6] 41)))); (have HONE := Lib.hid (show ∀ u ∈ ([.int .i64 (k : Nat), .int .i64 (a : Nat), .string ⟨n.toArray⟩, .int .i64 (m : Nat), .slice a4 ns.length c4, .slice x5 l'.length y5, .slice x6 ts.length y6] : List Value), u.oneCell' = true by intro u hu; simp only [List.mem_cons, List.not_mem_nil, or_false] at hu; rcases hu with rfl | rfl | rfl | rfl | rfl | rfl | rfl <;> rfl)); (have HBS := Lib.hid (show w.heap.size ≤ (w4.alloc (.cells #[.int .i64 (k : Nat), .int .i64 (a : Nat), .string ⟨n.toArray⟩, .int .i64 (m : Nat), .slice a4 ns.length c4, .slice x5 l'.length y5, .slice x6 ts.length y6] 41)).heap.size by rw [World.size_alloc]; have := b4.size; have := B3.out.size; have := HB9.out.size; omega)); clear b4 i4 r6)
          | (refine step_append_lies _ rfl (.tmp 16) (.tmp 34) 39 rfl w.heap.size 41 i0 _ 7 112 Tryz.underlying39 hi hz0 hz1 hz2 rfl (by decide) u3 i ys rfl R4.out ⟨w4.heap.size, 0, none⟩ 1 1 [.int .i64 (k : Nat), .int .i64 (a : Nat), .string ⟨n.toArray⟩, .int .i64 (m : Nat), .slice a4 ns.length c4, .slice x5 l'.length y5, .slice x6 ts.length y6] rfl rfl HNB.out HONE.out (by decide) hmx hmb HBS.out (w4.heap.size + 1) (World.size_alloc _ _) ?_; intro g' cap' w5 hown5 hg5 hat5 hlt5; obtain ⟨⟨s0, s1, s2, s3, s4, s5, s6⟩, -⟩ := sev_of (show Sev w5 b5 36 (.int .i64 (k : Nat)) (.int .i64 (a : Nat)) (.string ⟨n.toArray⟩) (.int .i64 (m : Nat)) (.slice a4 ns.length c4) (.slice a5 l'.length c5) (.slice a6 ts.length c6) from (hg5.block _ (by rw [World.size_alloc]; omega) (fun e => by have := (hR.out.lt b5 e.symm).2; have := HB5.out; omega)).trans ((Below.heap_alloc _ _ _ hn2).trans ((B4.out.block _ (by have := B3.out.size; have := HS9.out; have := HB5.out; omega)).trans ((B3.out.block _ (by rw [HS9.out, HB5.out]; omega)).trans HA9.out))))))
      go_wp2_with fail
      have HB4 : Below w.heap.size w (w4.alloc (.cells #[.int .i64 (k : Nat), .int .i64 (a : Nat), .string ⟨n.toArray⟩, .int .i64 (m : Nat), .slice a4 ns.length c4, .slice x5 l'.length y5, .slice x6 ts.length y6] 41)) := (HB9.out.trans ((B3.out.trans (B4.out.mono B3.out.size)).mono HB9.out.size)).alloc (Nat.le_trans HB9.out.size (Nat.le_trans B3.out.size B4.out.size)) _
      have hal : Below w4.heap.size w4 (w4.alloc (.cells #[.int .i64 (k : Nat), .int .i64 (a : Nat), .string ⟨n.toArray⟩, .int .i64 (m : Nat), .slice a4 ns.length c4, .slice x5 l'.length y5, .slice x6 ts.length y6] 41)) := (Below.refl _ _).alloc (Nat.le_refl _) _
      refine ⟨⟨i + 1, ys ++ [.int .i64 (k : Nat), .int .i64 (a : Nat), .string ⟨n.toArray⟩, .int .i64 (m : Nat), .slice a4 ns.length c4, .slice x5 l'.length y5, .slice x6 ts.length y6], by simp, by omega, Lib.hid (below_grown HB4 hg5 (fun b hb => (hR.out.lt b hb).1)), Lib.hid hown5, Lib.hid ?_⟩, ?_⟩
      · have c1 := (((((hC.out.below HBR.out).below B3.out).below B4.out).below hal).mono (A' := fun b => (A b ∨ w.heap.size ≤ b) ∧ some b ≠ u3.ownBlock ∧ b < w4.heap.size + 1) (fun b hb hb' => ⟨hb'.1, hb'.2, by simpa using hb⟩)).grown hg5 (fun b hb e => hb.2.1 e)
        have hno : ∀ b, W9.heap.size ≤ b → some b ≠ u3.ownBlock := fun b hb e => by have := (hR.out.lt b e.symm).2; have := HBR.out.size; omega
        have hno2 : ∀ b, b < w.heap.size → some b ≠ u3.ownBlock := fun b hb e => by have := (hR.out.lt b e.symm).1; omega
        have q5 := (I3.out.below B4.out).mono (A' := fun b => (A b ∨ w.heap.size ≤ b) ∧ some b ≠ u3.ownBlock) (fun b _ hb => hb.elim (fun hb => ⟨.inl hb.1, hno2 b hb.2⟩) (fun hb => ⟨.inr (Nat.le_trans HB9.out.size hb), hno b hb⟩))
        have q6 := I4.out.mono (A' := fun b => (A b ∨ w.heap.size ≤ b) ∧ some b ≠ u3.ownBlock) (fun b _ hb => hb.elim (fun hb => ⟨.inl hb.1, hno2 b hb.2⟩) (fun hb => ⟨.inr (Nat.le_trans HB9.out.size hb), hno b hb⟩))
        have q4 := (((G4.out.below HBR.out).below B3.out).below B4.out).mono (A' := fun b => (A b ∨ w.heap.size ≤ b) ∧ some b ≠ u3.ownBlock) (fun b _ hb => ⟨.inl hb.1, hno2 b hb.2⟩)
        have q0 : IsCs (fun b => (A b ∨ w.heap.size ≤ b) ∧ some b ≠ u3.ownBlock) w4 (encE 31 41 (.mk k a n m ns l' ts)) [.int .i64 (k : Nat), .int .i64 (a : Nat), .string ⟨n.toArray⟩, .int .i64 (m : Nat), .slice a4 ns.length c4, .slice x5 l'.length y5, .slice x6 ts.length y6] := by
          rw [encE]
          exact .cons (.num _ _ _) (.cons (.num _ _ _) (.cons (.str _ _ _) (.cons (.num _ _ _) (.cons q4 (.cons q5 (.cons q6 (.nil _ _)))))))
        have c2 := ((q0.below hal).mono (A' := fun b => (A b ∨ w.heap.size ≤ b) ∧ some b ≠ u3.ownBlock ∧ b < w4.heap.size + 1) (fun b hb hb' => ⟨hb'.1, hb'.2, by simpa using hb⟩)).grown hg5 (fun b hb e => hb.2.1 e)
        have e1 : encEs 31 41 (l.take (i + 1)) = encEs 31 41 (l.take i) ++ encE 31 41 (.mk k a n m ns l' ts) := by
          rw [List.take_add_one, HGT.out, Option.toList_some, encEs_append, encEs, encEs, List.append_nil]
        show IsCs _ _ (encEs 31 41 (l.take (i + 1))) _
        rw [e1]
        refine (c1.append _ _ _ _ c2).mono (fun b _ hb => ⟨hb.1, ?_⟩)
        rcases hat5 with e | e
        · intro e2; exact hb.2.1 (e2.trans e.symm)
        · intro e2
          have : b = g' := Option.some.inj e2
          omega
      · simp [intOf]; omega
    · have hge : i = l.length := by omega
      have hlt : decide ((i : Int) < (l.length : Int)) = false := by simp only [decide_eq_false_iff_not]; omega
      have hltn : decide (i < l.length) = false := by simp only [decide_eq_false_iff_not]; exact hi2
      have HGE := Lib.hid hge
      clear hge
      go_wp2_with fail
      go_ret
      have hc := hC.out
      have hr := hR.out
      rw [HGE.out] at hr hc
      rw [List.take_length] at hc
      exact ⟨u3, rfl, hB.out, IsC.row (by decide) hr (fun b hb => .inr (hr.lt b hb).1) (hc.mono (fun b _ hb => hb.1))⟩

theorem es_any : ∀ (N : Nat) (l : List PE), szEs l ≤ N → szEs l ≤ 1000000 → EsOk l
  | 0, l, h, _ => by
    have := szEs_len l
    obtain rfl : l = [] := List.eq_nil_of_length_eq_zero (by omega)
    exact es_step [] (by simp) (fun _ _ _ _ _ _ _ h => by cases h)
  | N + 1, l, h, h2 => by
    refine es_step l (by have := szEs_len l; omega) fun k a n m ns l' ts hm => ?_
    obtain ⟨i, hi, he⟩ := List.getElem_of_mem hm
    have h3 := szEs_get l i _ (List.getElem?_eq_getElem hi)
    rw [he, szE] at h3
    exact ⟨es_any N l' (by omega) (by omega), tsOk ts (by omega)⟩
theorem esOk (l : List PE) (h : szEs l ≤ 1000000) : EsOk l := es_any (szEs l) l (Nat.le_refl _) h
end Go.Proofs.YthpoffklhpbdoaaGreatDoor

/-
  The laws' own declarations: the program's told as the document's.
-/
namespace Go.Proofs.YthpoffklhpbdoaaGreatDoor
set_option maxRecDepth 20000
open Go.RowKit Go.Shelf

theorem info86 : (Tryz.prog.info? 97).map (fun i => (i.zero, i.size, i.bytes)) = some (some (.agg #[.int .i64 0, .int .i64 0, .string ⟨#[]⟩, .slice none 0 0, .slice none 0 0]), 5, 80) := by kernel_rfl
theorem encD_length (e f : TypeId) (d : PD) : (encD e f d).length = 5 := rfl
theorem cells_DD {e f : TypeId} {A : Nat → Prop} {w : World} {d : PD} {cs : List Value} (h : IsCs A w (encD e f d) cs) : ∃ v3 v4, cs = [.int .i64 (d.k : Nat), .int .i64 (d.a : Nat), .string ⟨d.n.toArray⟩, v3, v4] ∧ IsC A w (.row e 4 d.ts.length (encTs e d.ts)) v3 ∧ IsC A w (.row f 7 d.es.length (encEs e f d.es)) v4 := by
  rw [encD] at h
  obtain ⟨x0, ys, rfl, k0, h⟩ := h.uncons
  obtain ⟨x1, ys, rfl, k1, h⟩ := h.uncons
  obtain ⟨x2, ys, rfl, k2, h⟩ := h.uncons
  obtain ⟨x3, ys, rfl, k3, h⟩ := h.uncons
  obtain ⟨x4, ys, rfl, k4, h⟩ := h.uncons
  simp only [IsC] at k0 k1 k2
  obtain rfl : ys = [] := by simpa only [IsCs] using h
  subst k0 k1 k2
  exact ⟨x3, x4, rfl, k3, k4⟩

theorem cell_same {w w' : World} {g j : Nat} (h : w'.heap[g]? = w.heap[g]?) : w'.cell? ⟨g, j, none⟩ = w.cell? ⟨g, j, none⟩ := by simp only [World.cell?, h]
def DsOk (l : List PD) : Prop := ∀ (A : Nat → Prop) (w : World) (v : Value), Sub A w (encDs 26 36 l) l.length v → Calls Tryz.prog 31 #[v] w (fun e w' => ∃ u, e = .returned u ∧ Below w.heap.size w w' ∧ IsC (fun b => A b ∨ w.heap.size ≤ b) w' (.row 97 5 l.length (encDs 31 41 l)) u)

set_option maxHeartbeats 1000000 in
theorem ds_step (l : List PD) (hsz : l.length ≤ 1000000) (HE : ∀ t ∈ l, TsOk t.ts ∧ EsOk t.es) : DsOk l := by
  intro A w v h
  obtain ⟨i0, hi, hz0, hz1, hz2⟩ := info_parts info86
  obtain ⟨a0, cap, xs, rfl, -, -⟩ := id h
  have S := Lib.hid ((h.mono (A' := fun b => A b ∧ b < w.heap.size) (fun b hb ha => ⟨ha, hb⟩)))
  have HE := Lib.hid HE
  have HSZ := Lib.hid hsz
  clear h hsz
  go_enter Tryz.func31, Tryz.ntmps31
  go_wp2_with fail
  go_loopw [3, 4] (fun s3 s4 wr => ∃ (i : Nat) (ys : List Value), s4 = .int .i64 (i : Nat) ∧ i ≤ l.length ∧ Hid (Below w.heap.size w wr) ∧ Hid (wr.ownsRow w.heap.size 97 5 s3 i ys) ∧ Hid (IsCs (fun b => (A b ∨ w.heap.size ≤ b) ∧ some b ≠ s3.ownBlock) wr (encDs 31 41 (l.take i)) ys)) (fun _ s4 _ => l.length - (intOf s4).toNat)
  case atStart =>
    exact ⟨0, [], rfl, Nat.zero_le _, Below.refl _ _, World.ownsRow_nil _ _ _ _, (show IsCs _ _ (encDs 31 41 (l.take 0)) [] by rw [List.take_zero]; exact IsCs.nil _ _)⟩
  case round =>
    obtain ⟨i, ys, rfl, hil, hB, hR, hC⟩ := hrel
    have SR := Lib.hid (S.out.below hB.out)
    by_cases hi2 : i < l.length
    · have hlt : decide ((i : Int) < (l.length : Int)) = true := by simp only [decide_eq_true_eq]; omega
      have hltn : decide (i < l.length) = true := by simp only [decide_eq_true_eq]; exact hi2
      have hget : l[i]? = some l[i] := List.getElem?_eq_getElem hi2
      obtain ⟨t, ht⟩ : ∃ t, t = l[i] := ⟨_, rfl⟩
      rw [← ht] at hget
      have HGT := Lib.hid hget
      have hmem : t ∈ l := by rw [ht]; exact List.getElem_mem hi2
      obtain ⟨g, o, cs1, rfl, hgw, -, -⟩ := Sub.at (encD_length 26 36) S.out hget (by omega)
      obtain ⟨g1, o1, cs, he, hg, hcs, hcell⟩ := Sub.at (encD_length 26 36) SR.out hget (by omega)
      cases he
      have HGW := Lib.hid hgw
      clear hgw cs1
      clear ht
      obtain ⟨v3, v4, rfl, h3, h4⟩ := cells_DD hcs
      obtain ⟨H1, H2⟩ := HE.out t hmem
      obtain ⟨_, r3, -, -⟩ := h3.unrow
      obtain ⟨a3, c3, rfl⟩ := row_slice r3
      obtain ⟨_, r4, -, -⟩ := h4.unrow
      obtain ⟨a4, c4, rfl⟩ := row_slice r4
      have d0 := hcell 0 _ rfl
      have d1 := hcell 1 _ rfl
      have d2 := hcell 2 _ rfl
      have d3 := hcell 3 _ rfl
      have d4 := hcell 4 _ rfl
      rw [Nat.add_zero] at d0
      have G3 := Lib.hid (Sub.of_row h3 (by rw [encTs_flat]; exact flat_length (encT_length 26) t.ts))
      have G4 := Lib.hid (Sub.of_row h4 (by rw [encEs_flat]; exact flat_length (encE_length 26 36) t.es))
      have HG := Lib.hid hg
      have hbig := HSZ.out
      have HC1 : Hid (∀ X : World, Below wr.heap.size wr X → Calls Tryz.prog 41 #[.slice a3 t.ts.length c3] X (fun e w' => ∃ u, e = .returned u ∧ Below wr.heap.size wr w' ∧ IsC (fun b => (A b ∧ b < w.heap.size) ∨ wr.heap.size ≤ b) w' (.row 31 4 t.ts.length (encTs 31 t.ts)) u)) := by
        intro X hX
        refine (H1 _ X _ (G3.out.below hX)).mono ?_
        rintro e w' ⟨u, q1, q2, q3⟩
        exact ⟨u, q1, hX.trans (q2.mono hX.size), q3.mono (fun b _ hb => hb.imp id (Nat.le_trans hX.size))⟩
      have HC2 : Hid (∀ W X : World, Below wr.heap.size wr W → X.heap = W.heap ∧ X.os = W.os ∧ X.tape = W.tape ∧ X.output = W.output → Calls Tryz.prog 18 #[.slice a4 t.es.length c4] X (fun e w' => ∃ u, e = .returned u ∧ Below W.heap.size W w' ∧ IsC (fun b => (A b ∧ b < w.heap.size) ∨ wr.heap.size ≤ b) w' (.row 41 7 t.es.length (encEs 31 41 t.es)) u)) := by
        rintro W X hW ⟨e1, e2, e3, e4⟩
        have hX : Below W.heap.size W X := ⟨e2, e3, e4, by rw [e1]; exact Nat.le_refl _, fun k _ => by rw [e1]⟩
        refine (H2 _ X _ ((G4.out.below hW).below hX)).mono ?_
        rintro e w' ⟨u, q1, q2, q3⟩
        rw [e1] at q2 q3
        exact ⟨u, q1, hX.trans q2, q3.mono (fun b _ hb => hb.imp id (Nat.le_trans hW.size))⟩
      have hmx : i + 1 ≤ maxLen := by unfold maxLen; omega
      have hmb : (i + 1) * 80 ≤ 140737488355328 := by omega
      clear hget hmem hcs hcell h3 h4 r3 r4 hg H1 H2
      go_wp2_with fail
      go_region_held3 (fun w' => w'.cell? ⟨g, o + i * 5, none⟩ = some (.int .i64 (t.k : Nat)) ∧ w'.cell? ⟨g, o + i * 5 + 1, none⟩ = some (.int .i64 (t.a : Nat)) ∧ w'.cell? ⟨g, o + i * 5 + 2, none⟩ = some (.string ⟨t.n.toArray⟩) ∧ w'.cell? ⟨g, o + i * 5 + 3, none⟩ = some (.slice a3 t.ts.length c3) ∧ w'.cell? ⟨g, o + i * 5 + 4, none⟩ = some (.slice a4 t.es.length c4)) (go_keep)
        (first
          | (go_at_call 41; refine (HC1.out _ ?_).mono ?_; exact ⟨rfl, rfl, rfl, Nat.le_refl _, fun _ _ => rfl⟩; rintro e w3 ⟨u5, rfl, b3, i3⟩; obtain ⟨_, r5, -, -⟩ := i3.unrow; obtain ⟨x3, y3, rfl⟩ := row_slice r5; (have s0 := (b3.cell (p := ⟨g, o + i * 5, none⟩) HG.out).trans d0); (have s1 := (b3.cell (p := ⟨g, o + i * 5 + 1, none⟩) HG.out).trans d1); (have s2 := (b3.cell (p := ⟨g, o + i * 5 + 2, none⟩) HG.out).trans d2); (have s3 := (b3.cell (p := ⟨g, o + i * 5 + 3, none⟩) HG.out).trans d3); (have s4 := (b3.cell (p := ⟨g, o + i * 5 + 4, none⟩) HG.out).trans d4); (have B3 := Lib.hid b3); (have I3 := Lib.hid i3); clear b3 i3 r5)
          | (go_at_call 18; refine (HC2.out w3 _ B3.out ⟨rfl, rfl, rfl, rfl⟩).mono ?_; rintro e w4 ⟨u6, rfl, b4, i4⟩; obtain ⟨_, r6, -, -⟩ := i4.unrow; obtain ⟨x4, y4, rfl⟩ := row_slice r6; (have b34 : Below wr.heap.size wr w4 := B3.out.trans (b4.mono B3.out.size)); (have s0 := (b34.cell (p := ⟨g, o + i * 5, none⟩) HG.out).trans d0); (have s1 := (b34.cell (p := ⟨g, o + i * 5 + 1, none⟩) HG.out).trans d1); (have s2 := (b34.cell (p := ⟨g, o + i * 5 + 2, none⟩) HG.out).trans d2); (have s3 := (b34.cell (p := ⟨g, o + i * 5 + 3, none⟩) HG.out).trans d3); (have s4 := (b34.cell (p := ⟨g, o + i * 5 + 4, none⟩) HG.out).trans d4); (have hn1 : ¬ g = w4.heap.size := by have := b34.size; have := HG.out; omega); (have hn2 : g < w4.heap.size := by have := b34.size; have := HG.out; omega); (have B34 := Lib.hid b34); (have B4 := Lib.hid b4); (have I4 := Lib.hid i4);
             (have R4 := Lib.hid ((row_below hR.out b34).alloc (.cells #[.int .i64 (t.k : Nat), .int .i64 (t.a : Nat), .string ⟨t.n.toArray⟩, .slice x3 t.ts.length y3, .slice x4 t.es.length y4] 97))); (have HNB := Lib.hid (World.news_of_block (heap_alloc_new w4 (.cells #[.int .i64 (t.k : Nat), .int .i64 (t.a : Nat), .string ⟨t.n.toArray⟩, .slice x3 t.ts.length y3, .slice x4 t.es.length y4] 97)))); (have HONE := Lib.hid (show ∀ u ∈ ([.int .i64 (t.k : Nat), .int .i64 (t.a : Nat), .string ⟨t.n.toArray⟩, .slice x3 t.ts.length y3, .slice x4 t.es.length y4] : List Value), u.oneCell' = true by intro u hu; simp only [List.mem_cons, List.not_mem_nil, or_false] at hu; rcases hu with rfl | rfl | rfl | rfl | rfl <;> rfl)); (have HBS := Lib.hid (show w.heap.size ≤ (w4.alloc (.cells #[.int .i64 (t.k : Nat), .int .i64 (t.a : Nat), .string ⟨t.n.toArray⟩, .slice x3 t.ts.length y3, .slice x4 t.es.length y4] 97)).heap.size by rw [World.size_alloc]; have := b34.size; have := hB.out.size; omega)); clear b4 i4 r6 b34)
          | (refine step_append_lies _ rfl (.tmp 11) (.tmp 40) 54 rfl w.heap.size 97 i0 _ 5 80 Tryz.underlying54 hi hz0 hz1 hz2 rfl (by decide) u3 i ys rfl R4.out ⟨w4.heap.size, 0, none⟩ 1 1 [.int .i64 (t.k : Nat), .int .i64 (t.a : Nat), .string ⟨t.n.toArray⟩, .slice x3 t.ts.length y3, .slice x4 t.es.length y4] rfl rfl HNB.out HONE.out (by decide) hmx hmb HBS.out (w4.heap.size + 1) (World.size_alloc _ _) ?_; intro g' cap' w5 hown5 hg5 hat5 hlt5; (have hgq : w5.heap[g]? = w4.heap[g]? := (hg5.block _ (by rw [World.size_alloc]; omega) (fun e => by have := (hR.out.lt g e.symm).1; have := HGW.out; omega)).trans (Below.heap_alloc _ _ _ hn2)); (have s0 := (cell_same (j := o + i * 5) hgq).trans s0); (have s1 := (cell_same (j := o + i * 5 + 1) hgq).trans s1); (have s2 := (cell_same (j := o + i * 5 + 2) hgq).trans s2); (have s3 := (cell_same (j := o + i * 5 + 3) hgq).trans s3); (have s4 := (cell_same (j := o + i * 5 + 4) hgq).trans s4)))
      go_wp2_with fail
      have HB4 : Below w.heap.size w (w4.alloc (.cells #[.int .i64 (t.k : Nat), .int .i64 (t.a : Nat), .string ⟨t.n.toArray⟩, .slice x3 t.ts.length y3, .slice x4 t.es.length y4] 97)) := (hB.out.trans (B34.out.mono hB.out.size)).alloc (Nat.le_trans hB.out.size B34.out.size) _
      have hal : Below w4.heap.size w4 (w4.alloc (.cells #[.int .i64 (t.k : Nat), .int .i64 (t.a : Nat), .string ⟨t.n.toArray⟩, .slice x3 t.ts.length y3, .slice x4 t.es.length y4] 97)) := (Below.refl _ _).alloc (Nat.le_refl _) _
      refine ⟨⟨i + 1, ys ++ [.int .i64 (t.k : Nat), .int .i64 (t.a : Nat), .string ⟨t.n.toArray⟩, .slice x3 t.ts.length y3, .slice x4 t.es.length y4], by simp, by omega, Lib.hid (below_grown HB4 hg5 (fun b hb => (hR.out.lt b hb).1)), Lib.hid hown5, Lib.hid ?_⟩, ?_⟩
      · have c1 := (((hC.out.below B34.out).below hal).mono (A' := fun b => (A b ∨ w.heap.size ≤ b) ∧ some b ≠ u3.ownBlock ∧ b < w4.heap.size + 1) (fun b hb hb' => ⟨hb'.1, hb'.2, by simpa using hb⟩)).grown hg5 (fun b hb e => hb.2.1 e)
        have hno : ∀ b, wr.heap.size ≤ b → some b ≠ u3.ownBlock := fun b hb e => by have := (hR.out.lt b e.symm).2; omega
        have hno2 : ∀ b, b < w.heap.size → some b ≠ u3.ownBlock := fun b hb e => by have := (hR.out.lt b e.symm).1; omega
        have q3 := (I3.out.below B4.out).mono (A' := fun b => (A b ∨ w.heap.size ≤ b) ∧ some b ≠ u3.ownBlock) (fun b _ hb => hb.elim (fun hb => ⟨.inl hb.1, hno2 b hb.2⟩) (fun hb => ⟨.inr (Nat.le_trans hB.out.size hb), hno b hb⟩))
        have q4 := I4.out.mono (A' := fun b => (A b ∨ w.heap.size ≤ b) ∧ some b ≠ u3.ownBlock) (fun b _ hb => hb.elim (fun hb => ⟨.inl hb.1, hno2 b hb.2⟩) (fun hb => ⟨.inr (Nat.le_trans hB.out.size hb), hno b hb⟩))
        have q0 : IsCs (fun b => (A b ∨ w.heap.size ≤ b) ∧ some b ≠ u3.ownBlock) w4 (encD 31 41 t) [.int .i64 (t.k : Nat), .int .i64 (t.a : Nat), .string ⟨t.n.toArray⟩, .slice x3 t.ts.length y3, .slice x4 t.es.length y4] := by
          rw [encD]
          exact .cons (.num _ _ _) (.cons (.num _ _ _) (.cons (.str _ _ _) (.cons q3 (.cons q4 (.nil _ _)))))
        have c2 := ((q0.below hal).mono (A' := fun b => (A b ∨ w.heap.size ≤ b) ∧ some b ≠ u3.ownBlock ∧ b < w4.heap.size + 1) (fun b hb hb' => ⟨hb'.1, hb'.2, by simpa using hb⟩)).grown hg5 (fun b hb e => hb.2.1 e)
        have e1 : encDs 31 41 (l.take (i + 1)) = encDs 31 41 (l.take i) ++ encD 31 41 t := by
          rw [List.take_add_one, HGT.out, Option.toList_some, encDs, encDs, List.flatMap_append]
          simp
        show IsCs _ _ (encDs 31 41 (l.take (i + 1))) _
        rw [e1]
        refine (c1.append _ _ _ _ c2).mono (fun b _ hb => ⟨hb.1, ?_⟩)
        rcases hat5 with e | e
        · intro e2; exact hb.2.1 (e2.trans e.symm)
        · intro e2
          have : b = g' := Option.some.inj e2
          omega
      · simp [intOf]; omega
    · have hge : i = l.length := by omega
      have hlt : decide ((i : Int) < (l.length : Int)) = false := by simp only [decide_eq_false_iff_not]; omega
      have hltn : decide (i < l.length) = false := by simp only [decide_eq_false_iff_not]; exact hi2
      have HGE := Lib.hid hge
      clear hge
      go_wp2_with fail
      go_ret
      have hc := hC.out
      have hr := hR.out
      rw [HGE.out] at hr hc
      rw [List.take_length] at hc
      exact ⟨u3, rfl, hB.out, IsC.row (by decide) hr (fun b hb => .inr (hr.lt b hb).1) (hc.mono (fun b _ hb => hb.1))⟩

theorem dsOk (l : List PD) (h : szDs l ≤ 1000000) : DsOk l := by
  refine ds_step l (by have := szDs_len l; omega) fun t ht => ?_
  obtain ⟨i, hi, rfl⟩ := List.getElem_of_mem ht
  have h3 := szDs_get l i _ (List.getElem?_eq_getElem hi)
  rw [szD] at h3
  exact ⟨tsOk _ (by omega), esOk _ (by omega)⟩
end Go.Proofs.YthpoffklhpbdoaaGreatDoor

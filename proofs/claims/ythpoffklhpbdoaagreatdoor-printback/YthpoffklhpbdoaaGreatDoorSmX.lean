/-
  The document's Same functions, of two that are alike.
-/
import Derived.Test.YthpoffklhpbdoaaGreatDoorCnvX
import Derived.Lib.QuietBelow

/-
  The document's Same, of two that are alike: names, types.
-/
namespace Go.Proofs.YthpoffklhpbdoaaGreatDoor
set_option maxRecDepth 20000
open Go.RowKit Go.Shelf

theorem strs_flat : ∀ ns : List Bs, ns.map Dt.str = ns.flatMap fun s => [Dt.str s]
  | [] => rfl
  | x :: r => by rw [List.map_cons, strs_flat r]; rfl
/-- It tells true, and nothing that was there has turned. -/
def Tells (w : World) (e : Ending) (w' : World) : Prop := e = .returned (.bool true) ∧ Below w.heap.size w w'

set_option maxHeartbeats 1000000 in
theorem names_any (ns : List Bs) (hsz : ns.length ≤ 1000000) (A A' : Nat → Prop) (w : World) (v1 v2 : Value) (h1 : Sub A w (ns.map .str) ns.length v1) (h2 : Sub A' w (ns.map .str) ns.length v2) : Calls Tryz.prog 39 #[v1, v2] w (Tells w) := by
  obtain ⟨a0, cap, _, rfl, -, -⟩ := id h1
  obtain ⟨b0, bcap, _, rfl, -, -⟩ := id h2
  rw [strs_flat] at h1 h2
  have S1 := Lib.hid h1
  have S2 := Lib.hid h2
  have HSZ := Lib.hid hsz
  clear h1 h2 hsz
  go_enter Tryz.func39, Tryz.ntmps39
  go_wp2_with fail
  go_loopw [5] (fun s5 wr => ∃ i : Nat, s5 = .int .i64 (i : Nat) ∧ i ≤ ns.length ∧ Hid (Below w.heap.size w wr)) (fun s5 _ => ns.length - (intOf s5).toNat)
  case atStart => exact ⟨0, rfl, Nat.zero_le _, Below.refl _ _⟩
  case round =>
    obtain ⟨i, rfl, hil, hB⟩ := hrel
    by_cases hi2 : i < ns.length
    · have hlt : decide ((i : Int) < (ns.length : Int)) = true := by simp only [decide_eq_true_eq]; omega
      have hltn : decide (i < ns.length) = true := by simp only [decide_eq_true_eq]; exact hi2
      obtain ⟨s, hget⟩ : ∃ s, ns[i]? = some s := ⟨_, List.getElem?_eq_getElem hi2⟩
      obtain ⟨g, o, cs, rfl, hg, hcs, hcell⟩ := Sub.at (k := 1) (fun _ => rfl) (S1.out.below hB.out) hget (by omega)
      obtain ⟨g', o', cs', rfl, hg', hcs', hcell'⟩ := Sub.at (k := 1) (fun _ => rfl) (S2.out.below hB.out) hget (by omega)
      obtain ⟨x, ys, rfl, k0, -⟩ := hcs.uncons
      obtain ⟨x', ys', rfl, k0', -⟩ := hcs'.uncons
      simp only [IsC] at k0 k0'
      subst k0 k0'
      have d0 := hcell 0 _ rfl
      have d0' := hcell' 0 _ rfl
      rw [Nat.add_zero, Nat.mul_one] at d0 d0'
      have hbig := HSZ.out
      clear hget hcs hcs' hcell hcell'
      go_wp2_with fail
      go_quiet (fail)
      go_wp2_with fail
      refine ⟨⟨i + 1, by simp, by omega, Lib.hid ?_⟩, ?_⟩
      · exact hB.out.trans ⟨rfl, rfl, rfl, Nat.le_refl _, fun _ _ => rfl⟩
      · simp [intOf]; omega
    · have hge : i = ns.length := by omega
      have hlt : decide ((i : Int) < (ns.length : Int)) = false := by simp only [decide_eq_false_iff_not]; omega
      have hltn : decide (i < ns.length) = false := by simp only [decide_eq_false_iff_not]; exact hi2
      clear hge
      go_wp2_with fail
      go_ret
      exact ⟨rfl, hB.out⟩

def SmOk (t : PT) : Prop := ∀ (A A' : Nat → Prop) (w : World) (cs cs' : List Value), IsCs A w (encT 31 t) cs → IsCs A' w (encT 31 t) cs' → Calls Tryz.prog 15 #[.agg cs.toArray, .agg cs'.toArray] w (Tells w)
def SaOk (l : List PT) : Prop := ∀ (A A' : Nat → Prop) (w : World) (v v' : Value), Sub A w (encTs 31 l) l.length v → Sub A' w (encTs 31 l) l.length v' → Calls Tryz.prog 40 #[v, v'] w (Tells w)

set_option maxHeartbeats 1000000 in
theorem same_step (k : Nat) (n : Bs) (ns : List Bs) (l : List PT) (hn : ns.length ≤ 1000000) (HA : SaOk l) : SmOk (.mk k n ns l) := by
  intro A A' w cs cs' h h'
  obtain ⟨v2, v3, rfl, h2, h3⟩ := cells_TT h
  obtain ⟨u2, u3, rfl, q2, q3⟩ := cells_TT h'
  obtain ⟨_, r2, -, -⟩ := h2.unrow
  obtain ⟨a2, c2, rfl⟩ := row_slice r2
  obtain ⟨_, r3, -, -⟩ := h3.unrow
  obtain ⟨a3, c3, rfl⟩ := row_slice r3
  obtain ⟨_, r4, -, -⟩ := q2.unrow
  obtain ⟨b2, e2, rfl⟩ := row_slice r4
  obtain ⟨_, r5, -, -⟩ := q3.unrow
  obtain ⟨b3, e3, rfl⟩ := row_slice r5
  have S2 := Lib.hid (Sub.of_row h2 (by simp))
  have S3 := Lib.hid (Sub.of_row h3 (by rw [encTs_flat]; exact flat_length (encT_length 31) l))
  have T2 := Lib.hid (Sub.of_row q2 (by simp))
  have T3 := Lib.hid (Sub.of_row q3 (by rw [encTs_flat]; exact flat_length (encT_length 31) l))
  obtain ⟨W, hW⟩ : ∃ W, W = (w.alloc (.cells #[.int .i64 k, .string ⟨n.toArray⟩, .slice a2 ns.length c2, .slice a3 l.length c3] 31)).alloc (.cells #[.int .i64 k, .string ⟨n.toArray⟩, .slice b2 ns.length e2, .slice b3 l.length e3] 31) := ⟨_, rfl⟩
  have HB := Lib.hid (show Below w.heap.size w W by rw [hW]; exact ((Below.refl _ _).alloc (Nat.le_refl _) _).alloc (by simp) _)
  have HSZ := Lib.hid (show W.heap.size = w.heap.size + 2 by rw [hW]; simp)
  have A0 := Lib.hid (show Fou W w.heap.size 31 (.int .i64 k) (.string ⟨n.toArray⟩) (.slice a2 ns.length c2) (.slice a3 l.length c3) by rw [hW]; exact blk_alloc (heap_alloc_new w _) _)
  have A1 := Lib.hid (show Fou W (w.heap.size + 1) 31 (.int .i64 k) (.string ⟨n.toArray⟩) (.slice b2 ns.length e2) (.slice b3 l.length e3) by rw [hW]; have := heap_alloc_new (w.alloc (.cells #[.int .i64 k, .string ⟨n.toArray⟩, .slice a2 ns.length c2, .slice a3 l.length c3] 31)) (.cells #[.int .i64 k, .string ⟨n.toArray⟩, .slice b2 ns.length e2, .slice b3 l.length e3] 31); rw [World.size_alloc] at this; exact this)
  obtain ⟨⟨p0, p1, p2, p3⟩, -⟩ := fou_of A0.out
  obtain ⟨⟨z0, z1, z2, z3⟩, -⟩ := fou_of A1.out
  have HN := Lib.hid (names_any ns hn)
  have HA := Lib.hid HA
  clear h h' h2 h3 q2 q3 r2 r3 r4 r5 hn
  subst hW
  go_enter Tryz.func15, Tryz.ntmps15
  go_wp2_with fail
  refine (HN.out _ _ _ _ _ (S2.out.below HB.out) (T2.out.below HB.out)).mono ?_
  rintro e w3 ⟨rfl, b3'⟩
  obtain ⟨⟨-, -, -, s3⟩, -⟩ := fou_of (show Fou w3 w.heap.size 31 (.int .i64 k) (.string ⟨n.toArray⟩) (.slice a2 ns.length c2) (.slice a3 l.length c3) from (b3'.block _ (by rw [HSZ.out]; omega)).trans A0.out)
  obtain ⟨⟨-, -, -, y3⟩, -⟩ := fou_of (show Fou w3 (w.heap.size + 1) 31 (.int .i64 k) (.string ⟨n.toArray⟩) (.slice b2 ns.length e2) (.slice b3 l.length e3) from (b3'.block _ (by rw [HSZ.out]; omega)).trans A1.out)
  have B3 := Lib.hid b3'
  clear b3'
  go_wp2_with fail
  refine (HA.out _ _ w3 _ _ ((S3.out.below HB.out).below B3.out) ((T3.out.below HB.out).below B3.out)).mono ?_
  rintro e w4 ⟨rfl, b4⟩
  go_wp2_with fail
  go_ret
  exact ⟨rfl, HB.out.trans ((B3.out.trans (b4.mono B3.out.size)).mono HB.out.size)⟩

theorem four {A : Nat → Prop} {w : World} {t : PT} {e : TypeId} {cs : List Value} (h : IsCs A w (encT e t) cs) : ∃ x0 x1 x2 x3, cs = [x0, x1, x2, x3] := by
  have := IsCs.length _ _ h
  rw [encT_length] at this
  match cs, this with
  | [x0, x1, x2, x3], _ => exact ⟨x0, x1, x2, x3, rfl⟩

set_option maxHeartbeats 1000000 in
theorem all_step (l : List PT) (hsz : l.length ≤ 1000000) (HT : ∀ t ∈ l, SmOk t) : SaOk l := by
  intro A A' w v v' h h'
  obtain ⟨a0, cap, _, rfl, -, -⟩ := id h
  obtain ⟨b0, bcap, _, rfl, -, -⟩ := id h'
  rw [encTs_flat] at h h'
  have S1 := Lib.hid h
  have S2 := Lib.hid h'
  have HT := Lib.hid HT
  have HSZ := Lib.hid hsz
  clear h h' hsz
  go_enter Tryz.func40, Tryz.ntmps40
  go_wp2_with fail
  go_loopw [5] (fun s5 wr => ∃ i : Nat, s5 = .int .i64 (i : Nat) ∧ i ≤ l.length ∧ Hid (Below w.heap.size w wr)) (fun s5 _ => l.length - (intOf s5).toNat)
  case atStart => exact ⟨0, rfl, Nat.zero_le _, Below.refl _ _⟩
  case round =>
    obtain ⟨i, rfl, hil, hB⟩ := hrel
    by_cases hi2 : i < l.length
    · have hlt : decide ((i : Int) < (l.length : Int)) = true := by simp only [decide_eq_true_eq]; omega
      have hltn : decide (i < l.length) = true := by simp only [decide_eq_true_eq]; exact hi2
      obtain ⟨t, ht⟩ : ∃ t, t = l[i] := ⟨_, rfl⟩
      have hmem : t ∈ l := by rw [ht]; exact List.getElem_mem hi2
      have hget : l[i]? = some t := by rw [ht]; exact List.getElem?_eq_getElem hi2
      obtain ⟨g, o, cs, rfl, hg, hcs, hcell⟩ := Sub.at (encT_length 31) (S1.out.below hB.out) hget (by omega)
      obtain ⟨g', o', cs', rfl, hg', hcs', hcell'⟩ := Sub.at (encT_length 31) (S2.out.below hB.out) hget (by omega)
      obtain ⟨x0, x1, x2, x3, rfl⟩ := four hcs
      obtain ⟨y0, y1, y2, y3, rfl⟩ := four hcs'
      have d0 := hcell 0 _ rfl
      have d1 := hcell 1 _ rfl
      have d2 := hcell 2 _ rfl
      have d3 := hcell 3 _ rfl
      have f0 := hcell' 0 _ rfl
      have f1 := hcell' 1 _ rfl
      have f2 := hcell' 2 _ rfl
      have f3 := hcell' 3 _ rfl
      rw [Nat.add_zero] at d0 f0
      have HG := Lib.hid hg
      have HG' := Lib.hid hg'
      have hbig := HSZ.out
      have HC : Hid (∀ X : World, X.heap = wr.heap ∧ X.os = wr.os ∧ X.tape = wr.tape ∧ X.output = wr.output → Calls Tryz.prog 15 #[.agg #[x0, x1, x2, x3], .agg #[y0, y1, y2, y3]] X (fun e w' => e = .returned (.bool true) ∧ Below wr.heap.size wr w')) := by
        rintro X ⟨e1, e2, e3, e4⟩
        have hX : Below wr.heap.size wr X := ⟨e2, e3, e4, by rw [e1]; exact Nat.le_refl _, fun k _ => by rw [e1]⟩
        refine (HT.out t hmem _ _ X _ _ (hcs.below hX) (hcs'.below hX)).mono ?_
        rintro e w' ⟨q1, q2⟩
        rw [e1] at q2
        exact ⟨q1, hX.trans q2⟩
      clear hget hcs hcs' hcell hcell' ht hmem hg hg'
      go_wp2_with fail
      go_region_held3 (fun w' => w'.cell? ⟨g, o + i * 4, none⟩ = some x0 ∧ w'.cell? ⟨g, o + i * 4 + 1, none⟩ = some x1 ∧ w'.cell? ⟨g, o + i * 4 + 2, none⟩ = some x2 ∧ w'.cell? ⟨g, o + i * 4 + 3, none⟩ = some x3 ∧ w'.cell? ⟨g', o' + i * 4, none⟩ = some y0 ∧ w'.cell? ⟨g', o' + i * 4 + 1, none⟩ = some y1 ∧ w'.cell? ⟨g', o' + i * 4 + 2, none⟩ = some y2 ∧ w'.cell? ⟨g', o' + i * 4 + 3, none⟩ = some y3) (go_keep)
        (first | (go_at_call 15; refine (HC.out _ ?_).mono ?_; exact ⟨rfl, rfl, rfl, rfl⟩; rintro e w3 ⟨rfl, b3⟩; (have s0 := (b3.cell (p := ⟨g, o + i * 4, none⟩) HG.out).trans d0); (have s1 := (b3.cell (p := ⟨g, o + i * 4 + 1, none⟩) HG.out).trans d1); (have s2 := (b3.cell (p := ⟨g, o + i * 4 + 2, none⟩) HG.out).trans d2); (have s3 := (b3.cell (p := ⟨g, o + i * 4 + 3, none⟩) HG.out).trans d3); (have z0 := (b3.cell (p := ⟨g', o' + i * 4, none⟩) HG'.out).trans f0); (have z1 := (b3.cell (p := ⟨g', o' + i * 4 + 1, none⟩) HG'.out).trans f1); (have z2 := (b3.cell (p := ⟨g', o' + i * 4 + 2, none⟩) HG'.out).trans f2); (have z3 := (b3.cell (p := ⟨g', o' + i * 4 + 3, none⟩) HG'.out).trans f3); (have B3 := Lib.hid b3); clear b3))
      go_wp2_with fail
      refine ⟨⟨i + 1, by simp, by omega, Lib.hid (hB.out.trans (B3.out.mono hB.out.size))⟩, ?_⟩
      simp [intOf]; omega
    · have hlt : decide ((i : Int) < (l.length : Int)) = false := by simp only [decide_eq_false_iff_not]; omega
      have hltn : decide (i < l.length) = false := by simp only [decide_eq_false_iff_not]; exact hi2
      go_wp2_with fail
      go_ret
      exact ⟨rfl, hB.out⟩

theorem sa_any : ∀ (N : Nat), (∀ t, szT t ≤ N → szT t ≤ 1000000 → SmOk t) ∧ (∀ l, szTs l ≤ N → szTs l ≤ 1000000 → SaOk l)
  | 0 => by
    refine ⟨fun t h => absurd (szT_pos t) (by omega), fun l h _ => ?_⟩
    have := szTs_len l
    obtain rfl : l = [] := List.eq_nil_of_length_eq_zero (by omega)
    exact all_step [] (by simp) (by simp)
  | N + 1 => by
    have ih := sa_any N
    have hT : ∀ t, szT t ≤ N + 1 → szT t ≤ 1000000 → SmOk t := by
      rintro ⟨k, n, ns, l⟩ h h2
      rw [szT] at h h2
      exact same_step k n ns l (by omega) (ih.2 l (by omega) (by omega))
    refine ⟨hT, fun l h h2 => all_step l (by have := szTs_len l; omega) fun t ht => ?_⟩
    obtain ⟨i, hi, rfl⟩ := List.getElem_of_mem ht
    have := szTs_get l i _ (List.getElem?_eq_getElem hi)
    exact hT _ (by omega) (by omega)
theorem saOk (l : List PT) (h : szTs l ≤ 1000000) : SaOk l := (sa_any (szTs l)).2 l (Nat.le_refl _) h
theorem smOk (t : PT) (h : szT t ≤ 1000000) : SmOk t := (sa_any (szT t)).1 t (Nat.le_refl _) h
end Go.Proofs.YthpoffklhpbdoaaGreatDoor

/-
  The document's SameExprs and SameDecls, of two that are alike but for places.
-/
namespace Go.Proofs.YthpoffklhpbdoaaGreatDoor
set_option maxRecDepth 20000
open Go.RowKit Go.Shelf

/-- The same, their places too, or not. -/
def EqA (at_ : Bool) (l l' : List PE) : Prop := PE.pls (fun _ => 0) l = PE.pls (fun _ => 0) l' ∧ (at_ = true → l = l')
theorem EqA.len {at_ : Bool} {l l' : List PE} (h : EqA at_ l l') : l'.length = l.length := by
  have := congrArg List.length h.1
  rw [pls_map, pls_map, List.length_map, List.length_map] at this
  exact this.symm
theorem EqA.get {at_ : Bool} {l l' : List PE} (h : EqA at_ l l') {i : Nat} {k a : Nat} {n : Bs} {m : Nat} {ns : List Bs} {L1 : List PE} {ts : List PT} (hi : l[i]? = some (.mk k a n m ns L1 ts)) : ∃ a' L2, l'[i]? = some (.mk k a' n m ns L2 ts) ∧ (at_ = true → a = a') ∧ EqA at_ L1 L2 := by
  have h1 : (PE.pls (fun _ => 0) l)[i]? = some (PE.pl (fun _ => 0) (.mk k a n m ns L1 ts)) := by rw [pls_map, List.getElem?_map, hi]; rfl
  rw [h.1, pls_map, List.getElem?_map] at h1
  cases hx : l'[i]? with
  | none => rw [hx] at h1; cases h1
  | some y =>
    rw [hx] at h1
    obtain ⟨k', a', n', m', ns', L2, ts'⟩ := y
    simp only [Option.map_some, Option.some.injEq, PE.pl, PE.mk.injEq] at h1
    obtain ⟨rfl, -, rfl, rfl, rfl, h6, rfl⟩ := h1
    refine ⟨a', L2, rfl, fun e => ?_, h6.symm, fun e => ?_⟩
    · have := h.2 e
      subst this
      rw [hi] at hx
      cases hx
      rfl
    · have := h.2 e
      subst this
      rw [hi] at hx
      cases hx
      rfl

def SeOk (at_ : Bool) (l l' : List PE) : Prop := ∀ (A A' : Nat → Prop) (w : World) (v v' : Value), Sub A w (encEs 31 41 l) l.length v → Sub A' w (encEs 31 41 l') l.length v' → Calls Tryz.prog 17 #[v, v', .bool at_] w (Tells w)

set_option maxHeartbeats 2000000 in
theorem se_step (at_ : Bool) (l l' : List PE) (hE : EqA at_ l l') (hsz : l.length ≤ 1000000) (HT : ∀ k a n m ns L1 ts, PE.mk k a n m ns L1 ts ∈ l → ns.length ≤ 1000000 ∧ SaOk ts ∧ ∀ L2, EqA at_ L1 L2 → SeOk at_ L1 L2) : SeOk at_ l l' := by
  intro A A' w v v' h h'
  obtain ⟨a0, cap, _, rfl, -, -⟩ := id h
  obtain ⟨b0, bcap, _, rfl, -, -⟩ := id h'
  rw [encEs_flat] at h h'
  have S1 := Lib.hid h
  have S2 := Lib.hid h'
  have HT := Lib.hid HT
  have HSZ := Lib.hid hsz
  have HE := Lib.hid hE
  clear h h' hsz hE
  go_enter Tryz.func17, Tryz.ntmps17
  go_wp2_with fail
  go_loopw [7] (fun s7 wr => ∃ i : Nat, s7 = .int .i64 (i : Nat) ∧ i ≤ l.length ∧ Hid (Below w.heap.size w wr)) (fun s7 _ => l.length - (intOf s7).toNat)
  case atStart => exact ⟨0, rfl, Nat.zero_le _, Below.refl _ _⟩
  case round =>
    obtain ⟨i, rfl, hil, hB⟩ := hrel
    by_cases hi2 : i < l.length
    · have hlt : decide ((i : Int) < (l.length : Int)) = true := by simp only [decide_eq_true_eq]; omega
      have hltn : decide (i < l.length) = true := by simp only [decide_eq_true_eq]; exact hi2
      obtain ⟨t, ht⟩ : ∃ t, t = l[i] := ⟨_, rfl⟩
      have hmem : t ∈ l := by rw [ht]; exact List.getElem_mem hi2
      have hget : l[i]? = some t := by rw [ht]; exact List.getElem?_eq_getElem hi2
      clear ht
      obtain ⟨k, a, n, m, ns, L1, ts⟩ := t
      obtain ⟨a', L2, hget', hat, hL⟩ := HE.out.get hget
      have hlen := hL.len
      obtain ⟨g, o, cs, rfl, hg, hcs, hcell⟩ := Sub.at (encE_length 31 41) (S1.out.below hB.out) hget (by omega)
      obtain ⟨g', o', cs', rfl, hg', hcs', hcell'⟩ := Sub.at (encE_length 31 41) (S2.out.below hB.out) hget' (by omega)
      obtain ⟨v4, v5, v6, rfl, h4, h5, h6⟩ := cells_EE hcs
      obtain ⟨u4, u5, u6, rfl, q4, q5, q6⟩ := cells_EE hcs'
      obtain ⟨_, r4, -, -⟩ := h4.unrow
      obtain ⟨a4, ac4, rfl⟩ := row_slice r4
      obtain ⟨_, r5, -, -⟩ := h5.unrow
      obtain ⟨a5, ac5, rfl⟩ := row_slice r5
      obtain ⟨_, r6, -, -⟩ := h6.unrow
      obtain ⟨a6, ac6, rfl⟩ := row_slice r6
      obtain ⟨_, z4, -, -⟩ := q4.unrow
      obtain ⟨b4, bc4, rfl⟩ := row_slice z4
      obtain ⟨_, z5, -, -⟩ := q5.unrow
      obtain ⟨b5, bc5, rfl⟩ := row_slice z5
      obtain ⟨_, z6, -, -⟩ := q6.unrow
      obtain ⟨b6, bc6, rfl⟩ := row_slice z6
      have G4 := Lib.hid (Sub.of_row h4 (by simp))
      have G5 := Lib.hid (Sub.of_row h5 (by rw [encEs_flat]; exact flat_length (encE_length 31 41) L1))
      have G6 := Lib.hid (Sub.of_row h6 (by rw [encTs_flat]; exact flat_length (encT_length 31) ts))
      have K4 := Lib.hid (Sub.of_row q4 (by simp))
      have K5 := Lib.hid (Sub.of_row q5 (by rw [encEs_flat]; exact flat_length (encE_length 31 41) L2))
      have K6 := Lib.hid (Sub.of_row q6 (by rw [encTs_flat]; exact flat_length (encT_length 31) ts))
      rw [hlen] at K5 hcell'
      obtain ⟨H1, H2, H3⟩ := HT.out k a n m ns L1 ts hmem
      have H4 := Lib.hid (names_any ns H1)
      have H6 := Lib.hid H2
      have H5 := Lib.hid (H3 L2 hL)
      have HAT := Lib.hid hat
      have d0 := hcell 0 _ rfl
      have d1 := hcell 1 _ rfl
      have d2 := hcell 2 _ rfl
      have d3 := hcell 3 _ rfl
      have d4 := hcell 4 _ rfl
      have d5 := hcell 5 _ rfl
      have d6 := hcell 6 _ rfl
      have f0 := hcell' 0 _ rfl
      have f1 := hcell' 1 _ rfl
      have f2 := hcell' 2 _ rfl
      have f3 := hcell' 3 _ rfl
      have f4 := hcell' 4 _ rfl
      have f5 := hcell' 5 _ rfl
      have f6 := hcell' 6 _ rfl
      rw [Nat.add_zero] at d0 f0
      have HG := Lib.hid hg
      have HG' := Lib.hid hg'
      have hbig := HSZ.out
      have hn1 : ¬ g = wr.heap.size := by omega
      have hn2 : ¬ g' = wr.heap.size := by omega
      have hn3 : ¬ g = wr.heap.size + 1 := by omega
      have hn4 : ¬ g' = wr.heap.size + 1 := by omega
      clear hget hget' hcs hcs' hcell hcell' hmem h4 h5 h6 q4 q5 q6 r4 r5 r6 z4 z5 z6 H1 H2 H3 hL hlen hat
      go_wp2_with fail
      go_region_held3 (fun w' => w'.cell? ⟨g, o + i * 7, none⟩ = some (.int .i64 (k : Nat)) ∧ w'.cell? ⟨g, o + i * 7 + 1, none⟩ = some (.int .i64 (a : Nat)) ∧ w'.cell? ⟨g, o + i * 7 + 2, none⟩ = some (.string ⟨n.toArray⟩) ∧ w'.cell? ⟨g, o + i * 7 + 3, none⟩ = some (.int .i64 (m : Nat)) ∧ w'.cell? ⟨g, o + i * 7 + 4, none⟩ = some (.slice a4 ns.length ac4) ∧ w'.cell? ⟨g, o + i * 7 + 5, none⟩ = some (.slice a5 L1.length ac5) ∧ w'.cell? ⟨g, o + i * 7 + 6, none⟩ = some (.slice a6 ts.length ac6) ∧ w'.cell? ⟨g', o' + i * 7, none⟩ = some (.int .i64 (k : Nat)) ∧ w'.cell? ⟨g', o' + i * 7 + 1, none⟩ = some (.int .i64 (a' : Nat)) ∧ w'.cell? ⟨g', o' + i * 7 + 2, none⟩ = some (.string ⟨n.toArray⟩) ∧ w'.cell? ⟨g', o' + i * 7 + 3, none⟩ = some (.int .i64 (m : Nat)) ∧ w'.cell? ⟨g', o' + i * 7 + 4, none⟩ = some (.slice b4 ns.length bc4) ∧ w'.cell? ⟨g', o' + i * 7 + 5, none⟩ = some (.slice b5 L1.length bc5) ∧ w'.cell? ⟨g', o' + i * 7 + 6, none⟩ = some (.slice b6 ts.length bc6)) (go_keep) (fail)
      · obtain ⟨W, hW⟩ : ∃ W, W = ((wr.alloc (.cells #[.int .i64 (k : Nat), .int .i64 (a : Nat), .string ⟨n.toArray⟩, .int .i64 (m : Nat), .slice a4 ns.length ac4, .slice a5 L1.length ac5, .slice a6 ts.length ac6] 41)).alloc (.cells #[.int .i64 (k : Nat), .int .i64 (a' : Nat), .string ⟨n.toArray⟩, .int .i64 (m : Nat), .slice b4 ns.length bc4, .slice b5 L1.length bc5, .slice b6 ts.length bc6] 41)).drew := ⟨_, rfl⟩
        have HBW := Lib.hid (show Below wr.heap.size wr W by rw [hW]; exact (((Below.refl _ _).alloc (Nat.le_refl _) _).alloc (by simp) _).drew)
        have HSW := Lib.hid (show W.heap.size = wr.heap.size + 2 by rw [hW]; simp)
        have X0 := Lib.hid (show Sev W (wr.heap.size) 41 (.int .i64 (k : Nat)) (.int .i64 (a : Nat)) (.string ⟨n.toArray⟩) (.int .i64 (m : Nat)) (.slice a4 ns.length ac4) (.slice a5 L1.length ac5) (.slice a6 ts.length ac6) by rw [hW]; exact blk_alloc (heap_alloc_new wr (.cells #[.int .i64 (k : Nat), .int .i64 (a : Nat), .string ⟨n.toArray⟩, .int .i64 (m : Nat), .slice a4 ns.length ac4, .slice a5 L1.length ac5, .slice a6 ts.length ac6] 41)) _)
        have Y0 := Lib.hid (show Sev W (wr.heap.size + 1) 41 (.int .i64 (k : Nat)) (.int .i64 (a' : Nat)) (.string ⟨n.toArray⟩) (.int .i64 (m : Nat)) (.slice b4 ns.length bc4) (.slice b5 L1.length bc5) (.slice b6 ts.length bc6) by rw [hW]; exact (by have := heap_alloc_new (wr.alloc (.cells #[.int .i64 (k : Nat), .int .i64 (a : Nat), .string ⟨n.toArray⟩, .int .i64 (m : Nat), .slice a4 ns.length ac4, .slice a5 L1.length ac5, .slice a6 ts.length ac6] 41)) (.cells #[.int .i64 (k : Nat), .int .i64 (a' : Nat), .string ⟨n.toArray⟩, .int .i64 (m : Nat), .slice b4 ns.length bc4, .slice b5 L1.length bc5, .slice b6 ts.length bc6] 41); rw [World.size_alloc] at this; exact this))
        rw [← hW]
        clear hW
        obtain ⟨by', hY⟩ : ∃ b, b = wr.heap.size + 1 := ⟨_, rfl⟩
        rw [← hY] at Y0 ⊢
        have HY := Lib.hid (show by' < W.heap.size by rw [hY, HSW.out]; omega)
        clear hY
        obtain ⟨bx, hX⟩ : ∃ b, b = wr.heap.size := ⟨_, rfl⟩
        rw [← hX] at X0 ⊢
        have HX := Lib.hid (show bx < W.heap.size by rw [hX, HSW.out]; omega)
        clear hX
        cases at_ with
        | true =>
          obtain rfl : a = a' := HAT.out rfl
          obtain ⟨⟨p0, p1, p2, p3, p4, p5, p6⟩, -⟩ := sev_of X0.out
          obtain ⟨⟨z0, z1, z2, z3, z4, z5, z6⟩, -⟩ := sev_of Y0.out
          go_wp2_with fail
          refine (H4.out _ _ W _ _ (G4.out.below HBW.out) (K4.out.below HBW.out)).mono ?_
          rintro e w3 ⟨rfl, b3'⟩
          obtain ⟨⟨-, -, -, -, -, s5, s6⟩, -⟩ := sev_of (show Sev w3 bx 41 (.int .i64 (k : Nat)) (.int .i64 (a : Nat)) (.string ⟨n.toArray⟩) (.int .i64 (m : Nat)) (.slice a4 ns.length ac4) (.slice a5 L1.length ac5) (.slice a6 ts.length ac6) from (b3'.block _ HX.out).trans X0.out)
          obtain ⟨⟨-, -, -, -, -, y5, y6⟩, -⟩ := sev_of (show Sev w3 by' 41 (.int .i64 (k : Nat)) (.int .i64 (a : Nat)) (.string ⟨n.toArray⟩) (.int .i64 (m : Nat)) (.slice b4 ns.length bc4) (.slice b5 L1.length bc5) (.slice b6 ts.length bc6) from (b3'.block _ HY.out).trans Y0.out)
          have B3 := Lib.hid b3'
          clear b3'
          go_wp2_with fail
          refine (H6.out _ _ w3 _ _ ((G6.out.below HBW.out).below B3.out) ((K6.out.below HBW.out).below B3.out)).mono ?_
          rintro e w4 ⟨rfl, b4'⟩
          have B4 := Lib.hid (B3.out.trans (b4'.mono B3.out.size))
          clear b4'
          obtain ⟨⟨-, -, -, -, -, s5', -⟩, -⟩ := sev_of (show Sev w4 bx 41 (.int .i64 (k : Nat)) (.int .i64 (a : Nat)) (.string ⟨n.toArray⟩) (.int .i64 (m : Nat)) (.slice a4 ns.length ac4) (.slice a5 L1.length ac5) (.slice a6 ts.length ac6) from (B4.out.block _ HX.out).trans X0.out)
          obtain ⟨⟨-, -, -, -, -, y5', -⟩, -⟩ := sev_of (show Sev w4 by' 41 (.int .i64 (k : Nat)) (.int .i64 (a : Nat)) (.string ⟨n.toArray⟩) (.int .i64 (m : Nat)) (.slice b4 ns.length bc4) (.slice b5 L1.length bc5) (.slice b6 ts.length bc6) from (B4.out.block _ HY.out).trans Y0.out)
          go_wp2_with fail
          refine (H5.out _ _ w4 _ _ ((G5.out.below HBW.out).below B4.out) ((K5.out.below HBW.out).below B4.out)).mono ?_
          rintro e w5 ⟨rfl, b5'⟩
          have B5 := Lib.hid (HBW.out.trans ((B4.out.trans (b5'.mono B4.out.size)).mono HBW.out.size))
          clear b5'
          go_wp2_with fail
          refine ⟨⟨i + 1, by simp, by omega, Lib.hid (hB.out.trans (B5.out.mono hB.out.size))⟩, ?_⟩
          simp [intOf]; omega
        | false =>
          obtain ⟨⟨p0, p1, p2, p3, p4, p5, p6⟩, -⟩ := sev_of X0.out
          obtain ⟨⟨z0, z1, z2, z3, z4, z5, z6⟩, -⟩ := sev_of Y0.out
          go_wp2_with fail
          refine (H4.out _ _ W _ _ (G4.out.below HBW.out) (K4.out.below HBW.out)).mono ?_
          rintro e w3 ⟨rfl, b3'⟩
          obtain ⟨⟨-, -, -, -, -, s5, s6⟩, -⟩ := sev_of (show Sev w3 bx 41 (.int .i64 (k : Nat)) (.int .i64 (a : Nat)) (.string ⟨n.toArray⟩) (.int .i64 (m : Nat)) (.slice a4 ns.length ac4) (.slice a5 L1.length ac5) (.slice a6 ts.length ac6) from (b3'.block _ HX.out).trans X0.out)
          obtain ⟨⟨-, -, -, -, -, y5, y6⟩, -⟩ := sev_of (show Sev w3 by' 41 (.int .i64 (k : Nat)) (.int .i64 (a' : Nat)) (.string ⟨n.toArray⟩) (.int .i64 (m : Nat)) (.slice b4 ns.length bc4) (.slice b5 L1.length bc5) (.slice b6 ts.length bc6) from (b3'.block _ HY.out).trans Y0.out)
          have B3 := Lib.hid b3'
          clear b3'
          go_wp2_with fail
          refine (H6.out _ _ w3 _ _ ((G6.out.below HBW.out).below B3.out) ((K6.out.below HBW.out).below B3.out)).mono ?_
          rintro e w4 ⟨rfl, b4'⟩
          have B4 := Lib.hid (B3.out.trans (b4'.mono B3.out.size))
          clear b4'
          obtain ⟨⟨-, -, -, -, -, s5', -⟩, -⟩ := sev_of (show Sev w4 bx 41 (.int .i64 (k : Nat)) (.int .i64 (a : Nat)) (.string ⟨n.toArray⟩) (.int .i64 (m : Nat)) (.slice a4 ns.length ac4) (.slice a5 L1.length ac5) (.slice a6 ts.length ac6) from (B4.out.block _ HX.out).trans X0.out)
          obtain ⟨⟨-, -, -, -, -, y5', -⟩, -⟩ := sev_of (show Sev w4 by' 41 (.int .i64 (k : Nat)) (.int .i64 (a' : Nat)) (.string ⟨n.toArray⟩) (.int .i64 (m : Nat)) (.slice b4 ns.length bc4) (.slice b5 L1.length bc5) (.slice b6 ts.length bc6) from (B4.out.block _ HY.out).trans Y0.out)
          go_wp2_with fail
          refine (H5.out _ _ w4 _ _ ((G5.out.below HBW.out).below B4.out) ((K5.out.below HBW.out).below B4.out)).mono ?_
          rintro e w5 ⟨rfl, b5'⟩
          have B5 := Lib.hid (HBW.out.trans ((B4.out.trans (b5'.mono B4.out.size)).mono HBW.out.size))
          clear b5'
          go_wp2_with fail
          refine ⟨⟨i + 1, by simp, by omega, Lib.hid (hB.out.trans (B5.out.mono hB.out.size))⟩, ?_⟩
          simp [intOf]; omega
      · obtain ⟨W, hW⟩ : ∃ W, W = ((wr.alloc (.cells #[.int .i64 (k : Nat), .int .i64 (a' : Nat), .string ⟨n.toArray⟩, .int .i64 (m : Nat), .slice b4 ns.length bc4, .slice b5 L1.length bc5, .slice b6 ts.length bc6] 41)).alloc (.cells #[.int .i64 (k : Nat), .int .i64 (a : Nat), .string ⟨n.toArray⟩, .int .i64 (m : Nat), .slice a4 ns.length ac4, .slice a5 L1.length ac5, .slice a6 ts.length ac6] 41)).drew := ⟨_, rfl⟩
        have HBW := Lib.hid (show Below wr.heap.size wr W by rw [hW]; exact (((Below.refl _ _).alloc (Nat.le_refl _) _).alloc (by simp) _).drew)
        have HSW := Lib.hid (show W.heap.size = wr.heap.size + 2 by rw [hW]; simp)
        have X0 := Lib.hid (show Sev W (wr.heap.size + 1) 41 (.int .i64 (k : Nat)) (.int .i64 (a : Nat)) (.string ⟨n.toArray⟩) (.int .i64 (m : Nat)) (.slice a4 ns.length ac4) (.slice a5 L1.length ac5) (.slice a6 ts.length ac6) by rw [hW]; exact (by have := heap_alloc_new (wr.alloc (.cells #[.int .i64 (k : Nat), .int .i64 (a' : Nat), .string ⟨n.toArray⟩, .int .i64 (m : Nat), .slice b4 ns.length bc4, .slice b5 L1.length bc5, .slice b6 ts.length bc6] 41)) (.cells #[.int .i64 (k : Nat), .int .i64 (a : Nat), .string ⟨n.toArray⟩, .int .i64 (m : Nat), .slice a4 ns.length ac4, .slice a5 L1.length ac5, .slice a6 ts.length ac6] 41); rw [World.size_alloc] at this; exact this))
        have Y0 := Lib.hid (show Sev W (wr.heap.size) 41 (.int .i64 (k : Nat)) (.int .i64 (a' : Nat)) (.string ⟨n.toArray⟩) (.int .i64 (m : Nat)) (.slice b4 ns.length bc4) (.slice b5 L1.length bc5) (.slice b6 ts.length bc6) by rw [hW]; exact blk_alloc (heap_alloc_new wr (.cells #[.int .i64 (k : Nat), .int .i64 (a' : Nat), .string ⟨n.toArray⟩, .int .i64 (m : Nat), .slice b4 ns.length bc4, .slice b5 L1.length bc5, .slice b6 ts.length bc6] 41)) _)
        rw [← hW]
        clear hW
        obtain ⟨bx, hX⟩ : ∃ b, b = wr.heap.size + 1 := ⟨_, rfl⟩
        rw [← hX] at X0 ⊢
        have HX := Lib.hid (show bx < W.heap.size by rw [hX, HSW.out]; omega)
        clear hX
        obtain ⟨by', hY⟩ : ∃ b, b = wr.heap.size := ⟨_, rfl⟩
        rw [← hY] at Y0 ⊢
        have HY := Lib.hid (show by' < W.heap.size by rw [hY, HSW.out]; omega)
        clear hY
        cases at_ with
        | true =>
          obtain rfl : a = a' := HAT.out rfl
          obtain ⟨⟨p0, p1, p2, p3, p4, p5, p6⟩, -⟩ := sev_of X0.out
          obtain ⟨⟨z0, z1, z2, z3, z4, z5, z6⟩, -⟩ := sev_of Y0.out
          go_wp2_with fail
          refine (H4.out _ _ W _ _ (G4.out.below HBW.out) (K4.out.below HBW.out)).mono ?_
          rintro e w3 ⟨rfl, b3'⟩
          obtain ⟨⟨-, -, -, -, -, s5, s6⟩, -⟩ := sev_of (show Sev w3 bx 41 (.int .i64 (k : Nat)) (.int .i64 (a : Nat)) (.string ⟨n.toArray⟩) (.int .i64 (m : Nat)) (.slice a4 ns.length ac4) (.slice a5 L1.length ac5) (.slice a6 ts.length ac6) from (b3'.block _ HX.out).trans X0.out)
          obtain ⟨⟨-, -, -, -, -, y5, y6⟩, -⟩ := sev_of (show Sev w3 by' 41 (.int .i64 (k : Nat)) (.int .i64 (a : Nat)) (.string ⟨n.toArray⟩) (.int .i64 (m : Nat)) (.slice b4 ns.length bc4) (.slice b5 L1.length bc5) (.slice b6 ts.length bc6) from (b3'.block _ HY.out).trans Y0.out)
          have B3 := Lib.hid b3'
          clear b3'
          go_wp2_with fail
          refine (H6.out _ _ w3 _ _ ((G6.out.below HBW.out).below B3.out) ((K6.out.below HBW.out).below B3.out)).mono ?_
          rintro e w4 ⟨rfl, b4'⟩
          have B4 := Lib.hid (B3.out.trans (b4'.mono B3.out.size))
          clear b4'
          obtain ⟨⟨-, -, -, -, -, s5', -⟩, -⟩ := sev_of (show Sev w4 bx 41 (.int .i64 (k : Nat)) (.int .i64 (a : Nat)) (.string ⟨n.toArray⟩) (.int .i64 (m : Nat)) (.slice a4 ns.length ac4) (.slice a5 L1.length ac5) (.slice a6 ts.length ac6) from (B4.out.block _ HX.out).trans X0.out)
          obtain ⟨⟨-, -, -, -, -, y5', -⟩, -⟩ := sev_of (show Sev w4 by' 41 (.int .i64 (k : Nat)) (.int .i64 (a : Nat)) (.string ⟨n.toArray⟩) (.int .i64 (m : Nat)) (.slice b4 ns.length bc4) (.slice b5 L1.length bc5) (.slice b6 ts.length bc6) from (B4.out.block _ HY.out).trans Y0.out)
          go_wp2_with fail
          refine (H5.out _ _ w4 _ _ ((G5.out.below HBW.out).below B4.out) ((K5.out.below HBW.out).below B4.out)).mono ?_
          rintro e w5 ⟨rfl, b5'⟩
          have B5 := Lib.hid (HBW.out.trans ((B4.out.trans (b5'.mono B4.out.size)).mono HBW.out.size))
          clear b5'
          go_wp2_with fail
          refine ⟨⟨i + 1, by simp, by omega, Lib.hid (hB.out.trans (B5.out.mono hB.out.size))⟩, ?_⟩
          simp [intOf]; omega
        | false =>
          obtain ⟨⟨p0, p1, p2, p3, p4, p5, p6⟩, -⟩ := sev_of X0.out
          obtain ⟨⟨z0, z1, z2, z3, z4, z5, z6⟩, -⟩ := sev_of Y0.out
          go_wp2_with fail
          refine (H4.out _ _ W _ _ (G4.out.below HBW.out) (K4.out.below HBW.out)).mono ?_
          rintro e w3 ⟨rfl, b3'⟩
          obtain ⟨⟨-, -, -, -, -, s5, s6⟩, -⟩ := sev_of (show Sev w3 bx 41 (.int .i64 (k : Nat)) (.int .i64 (a : Nat)) (.string ⟨n.toArray⟩) (.int .i64 (m : Nat)) (.slice a4 ns.length ac4) (.slice a5 L1.length ac5) (.slice a6 ts.length ac6) from (b3'.block _ HX.out).trans X0.out)
          obtain ⟨⟨-, -, -, -, -, y5, y6⟩, -⟩ := sev_of (show Sev w3 by' 41 (.int .i64 (k : Nat)) (.int .i64 (a' : Nat)) (.string ⟨n.toArray⟩) (.int .i64 (m : Nat)) (.slice b4 ns.length bc4) (.slice b5 L1.length bc5) (.slice b6 ts.length bc6) from (b3'.block _ HY.out).trans Y0.out)
          have B3 := Lib.hid b3'
          clear b3'
          go_wp2_with fail
          refine (H6.out _ _ w3 _ _ ((G6.out.below HBW.out).below B3.out) ((K6.out.below HBW.out).below B3.out)).mono ?_
          rintro e w4 ⟨rfl, b4'⟩
          have B4 := Lib.hid (B3.out.trans (b4'.mono B3.out.size))
          clear b4'
          obtain ⟨⟨-, -, -, -, -, s5', -⟩, -⟩ := sev_of (show Sev w4 bx 41 (.int .i64 (k : Nat)) (.int .i64 (a : Nat)) (.string ⟨n.toArray⟩) (.int .i64 (m : Nat)) (.slice a4 ns.length ac4) (.slice a5 L1.length ac5) (.slice a6 ts.length ac6) from (B4.out.block _ HX.out).trans X0.out)
          obtain ⟨⟨-, -, -, -, -, y5', -⟩, -⟩ := sev_of (show Sev w4 by' 41 (.int .i64 (k : Nat)) (.int .i64 (a' : Nat)) (.string ⟨n.toArray⟩) (.int .i64 (m : Nat)) (.slice b4 ns.length bc4) (.slice b5 L1.length bc5) (.slice b6 ts.length bc6) from (B4.out.block _ HY.out).trans Y0.out)
          go_wp2_with fail
          refine (H5.out _ _ w4 _ _ ((G5.out.below HBW.out).below B4.out) ((K5.out.below HBW.out).below B4.out)).mono ?_
          rintro e w5 ⟨rfl, b5'⟩
          have B5 := Lib.hid (HBW.out.trans ((B4.out.trans (b5'.mono B4.out.size)).mono HBW.out.size))
          clear b5'
          go_wp2_with fail
          refine ⟨⟨i + 1, by simp, by omega, Lib.hid (hB.out.trans (B5.out.mono hB.out.size))⟩, ?_⟩
          simp [intOf]; omega
    · have hlt : decide ((i : Int) < (l.length : Int)) = false := by simp only [decide_eq_false_iff_not]; omega
      have hltn : decide (i < l.length) = false := by simp only [decide_eq_false_iff_not]; exact hi2
      go_wp2_with fail
      go_ret
      exact ⟨rfl, hB.out⟩

theorem se_any (at_ : Bool) : ∀ (N : Nat) (l l' : List PE), EqA at_ l l' → szEs l ≤ N → szEs l ≤ 1000000 → SeOk at_ l l'
  | 0, l, l', hE, h, _ => by
    have := szEs_len l
    obtain rfl : l = [] := List.eq_nil_of_length_eq_zero (by omega)
    exact se_step at_ [] l' hE (by simp) (fun _ _ _ _ _ _ _ h => by cases h)
  | N + 1, l, l', hE, h, h2 => by
    refine se_step at_ l l' hE (by have := szEs_len l; omega) fun k a n m ns L1 ts hm => ?_
    obtain ⟨i, hi, he⟩ := List.getElem_of_mem hm
    have h3 := szEs_get l i _ (List.getElem?_eq_getElem hi)
    rw [he, szE] at h3
    exact ⟨by omega, saOk ts (by omega), fun L2 hL => se_any at_ N L1 L2 hL (by omega) (by omega)⟩
theorem seOk (at_ : Bool) (l l' : List PE) (hE : EqA at_ l l') (h : szEs l ≤ 1000000) : SeOk at_ l l' := se_any at_ (szEs l) l l' hE (Nat.le_refl _) h
end Go.Proofs.YthpoffklhpbdoaaGreatDoor

/-
  The document's SameDecls, of two that are alike but for places.
-/
namespace Go.Proofs.YthpoffklhpbdoaaGreatDoor
set_option maxRecDepth 20000
open Go.RowKit Go.Shelf Go.Sort

def EqD (at_ : Bool) (l l' : List PD) : Prop := l.map (PD.pl (fun _ => 0)) = l'.map (PD.pl (fun _ => 0)) ∧ (at_ = true → l = l')
theorem EqD.len {at_ : Bool} {l l' : List PD} (h : EqD at_ l l') : l'.length = l.length := by
  have := congrArg List.length h.1
  rw [List.length_map, List.length_map] at this
  exact this.symm
theorem EqD.get {at_ : Bool} {l l' : List PD} (h : EqD at_ l l') {i : Nat} {t : PD} (hi : l[i]? = some t) : ∃ t', l'[i]? = some t' ∧ t'.k = t.k ∧ t'.n = t.n ∧ t'.ts = t.ts ∧ (at_ = true → t.a = t'.a) ∧ EqA at_ t.es t'.es := by
  have h1 : (l.map (PD.pl (fun _ => 0)))[i]? = some (PD.pl (fun _ => 0) t) := by rw [List.getElem?_map, hi]; rfl
  rw [h.1, List.getElem?_map] at h1
  cases hx : l'[i]? with
  | none => rw [hx] at h1; cases h1
  | some y =>
    rw [hx] at h1
    simp only [Option.map_some, Option.some.injEq, PD.pl, PD.mk.injEq] at h1
    obtain ⟨h2, -, h3, h4, h5⟩ := h1
    have key : at_ = true → t = y := fun e => by
      have := h.2 e
      subst this
      rw [hi] at hx
      cases hx
      rfl
    exact ⟨y, rfl, h2, h3, h4, fun e => by rw [key e], h5.symm, fun e => by rw [key e]⟩

def SdOk (at_ : Bool) (l l' : List PD) : Prop := ∀ (A A' : Nat → Prop) (w : World) (v v' : Value), Sub A w (encDs 31 41 l) l.length v → Sub A' w (encDs 31 41 l') l.length v' → Calls Tryz.prog 30 #[v, v', .bool at_] w (Tells w)

set_option maxHeartbeats 2000000 in
theorem sd_step (at_ : Bool) (l l' : List PD) (hE : EqD at_ l l') (hsz : l.length ≤ 1000000) (HT : ∀ t ∈ l, SaOk t.ts ∧ ∀ L2, EqA at_ t.es L2 → SeOk at_ t.es L2) : SdOk at_ l l' := by
  intro A A' w v v' h h'
  obtain ⟨a0, cap, _, rfl, -, -⟩ := id h
  obtain ⟨b0, bcap, _, rfl, -, -⟩ := id h'
  have S1 := Lib.hid h
  have S2 := Lib.hid h'
  have HT := Lib.hid HT
  have HSZ := Lib.hid hsz
  have HE := Lib.hid hE
  clear h h' hsz hE
  go_enter Tryz.func30, Tryz.ntmps30
  go_wp2_with fail
  go_loopw [7] (fun s7 wr => ∃ i : Nat, s7 = .int .i64 (i : Nat) ∧ i ≤ l.length ∧ Hid (Below w.heap.size w wr)) (fun s7 _ => l.length - (intOf s7).toNat)
  case atStart => exact ⟨0, rfl, Nat.zero_le _, Below.refl _ _⟩
  case round =>
    obtain ⟨i, rfl, hil, hB⟩ := hrel
    by_cases hi2 : i < l.length
    · have hlt : decide ((i : Int) < (l.length : Int)) = true := by simp only [decide_eq_true_eq]; omega
      have hltn : decide (i < l.length) = true := by simp only [decide_eq_true_eq]; exact hi2
      obtain ⟨t, ht⟩ : ∃ t, t = l[i] := ⟨_, rfl⟩
      have hmem : t ∈ l := by rw [ht]; exact List.getElem_mem hi2
      have hget : l[i]? = some t := by rw [ht]; exact List.getElem?_eq_getElem hi2
      clear ht
      obtain ⟨t', hget', ek, en, et, hat, hL⟩ := HE.out.get hget
      have hlen := hL.len
      obtain ⟨g, o, cs, rfl, hg, hcs, hcell⟩ := Sub.at (encD_length 31 41) (S1.out.below hB.out) hget (by omega)
      obtain ⟨g', o', cs', rfl, hg', hcs', hcell'⟩ := Sub.at (encD_length 31 41) (S2.out.below hB.out) hget' (by omega)
      obtain ⟨v3, v4, rfl, h3, h4⟩ := cells_DD hcs
      obtain ⟨u3, u4, rfl, q3, q4⟩ := cells_DD hcs'
      obtain ⟨_, r3, -, -⟩ := h3.unrow
      obtain ⟨a3, c3, rfl⟩ := row_slice r3
      obtain ⟨_, r4, -, -⟩ := h4.unrow
      obtain ⟨a4, c4, rfl⟩ := row_slice r4
      obtain ⟨_, z3, -, -⟩ := q3.unrow
      obtain ⟨b3, e3, rfl⟩ := row_slice z3
      obtain ⟨_, z4, -, -⟩ := q4.unrow
      obtain ⟨b4, e4, rfl⟩ := row_slice z4
      have G3 := Lib.hid (Sub.of_row h3 (by rw [encTs_flat]; exact flat_length (encT_length 31) t.ts))
      have G4 := Lib.hid (Sub.of_row h4 (by rw [encEs_flat]; exact flat_length (encE_length 31 41) t.es))
      have K3 := Lib.hid (Sub.of_row q3 (by rw [encTs_flat]; exact flat_length (encT_length 31) t'.ts))
      have K4 := Lib.hid (Sub.of_row q4 (by rw [encEs_flat]; exact flat_length (encE_length 31 41) t'.es))
      rw [et] at K3
      rw [hlen] at K4
      rw [ek, en, et, hlen] at hcell'
      obtain ⟨H1, H2⟩ := HT.out t hmem
      have H3 := Lib.hid H1
      have H4 := Lib.hid (H2 t'.es hL)
      have HAT := Lib.hid hat
      have d0 := hcell 0 _ rfl
      have d1 := hcell 1 _ rfl
      have d2 := hcell 2 _ rfl
      have d3 := hcell 3 _ rfl
      have d4 := hcell 4 _ rfl
      have f0 := hcell' 0 _ rfl
      have f1 := hcell' 1 _ rfl
      have f2 := hcell' 2 _ rfl
      have f3 := hcell' 3 _ rfl
      have f4 := hcell' 4 _ rfl
      rw [Nat.add_zero] at d0 f0
      have HG := Lib.hid hg
      have HG' := Lib.hid hg'
      have hbig := HSZ.out
      clear hget hget' hcs hcs' hcell hcell' hmem h3 h4 q3 q4 r3 r4 z3 z4 H1 H2 hL hlen hat ek en et
      obtain ⟨aa, haa⟩ : ∃ aa, aa = t'.a := ⟨_, rfl⟩
      rw [← haa] at f1 HAT
      have cS1 : ∀ p : Regrown, Calls Tryz.prog 40 #[.slice a3 t.ts.length c3, .slice b3 t.ts.length e3] (grow (redrawn wr p.d) p.os) fun e w'' => e = .returned (.bool true) ∧ ∃ p : Regrown, w'' = grow (redrawn wr p.d) p.os := by
        intro p
        refine Calls.regrown_of ?_
        exact H3.out _ _ _ _ _ (G3.out.below (below_regrown wr p.d p.os)) (K3.out.below (below_regrown wr p.d p.os))
      have cS2 : ∀ p : Regrown, Calls Tryz.prog 17 #[.slice a4 t.es.length c4, .slice b4 t.es.length e4, .bool at_] (grow (redrawn wr p.d) p.os) fun e w'' => e = .returned (.bool true) ∧ ∃ p : Regrown, w'' = grow (redrawn wr p.d) p.os := by
        intro p
        refine Calls.regrown_of ?_
        exact H4.out _ _ _ _ _ (G4.out.below (below_regrown wr p.d p.os)) (K4.out.below (below_regrown wr p.d p.os))
      clear H3 H4
      cases at_ with
      | true =>
        obtain rfl : t.a = aa := HAT.out rfl
        have s0 : ∀ p : Regrown, (grow (redrawn wr p.d) p.os).cell? ⟨g, o + i * 5, none⟩ = some (.int .i64 (t.k : Nat)) := fun p => ((below_regrown wr p.d p.os).cell (p := ⟨g, o + i * 5, none⟩) HG.out).trans d0
        have y0 : ∀ p : Regrown, (grow (redrawn wr p.d) p.os).cell? ⟨g', o' + i * 5, none⟩ = some (.int .i64 (t.k : Nat)) := fun p => ((below_regrown wr p.d p.os).cell (p := ⟨g', o' + i * 5, none⟩) HG'.out).trans f0
        have s1 : ∀ p : Regrown, (grow (redrawn wr p.d) p.os).cell? ⟨g, o + i * 5 + 1, none⟩ = some (.int .i64 (t.a : Nat)) := fun p => ((below_regrown wr p.d p.os).cell (p := ⟨g, o + i * 5 + 1, none⟩) HG.out).trans d1
        have y1 : ∀ p : Regrown, (grow (redrawn wr p.d) p.os).cell? ⟨g', o' + i * 5 + 1, none⟩ = some (.int .i64 (t.a : Nat)) := fun p => ((below_regrown wr p.d p.os).cell (p := ⟨g', o' + i * 5 + 1, none⟩) HG'.out).trans f1
        have s2 : ∀ p : Regrown, (grow (redrawn wr p.d) p.os).cell? ⟨g, o + i * 5 + 2, none⟩ = some (.string ⟨t.n.toArray⟩) := fun p => ((below_regrown wr p.d p.os).cell (p := ⟨g, o + i * 5 + 2, none⟩) HG.out).trans d2
        have y2 : ∀ p : Regrown, (grow (redrawn wr p.d) p.os).cell? ⟨g', o' + i * 5 + 2, none⟩ = some (.string ⟨t.n.toArray⟩) := fun p => ((below_regrown wr p.d p.os).cell (p := ⟨g', o' + i * 5 + 2, none⟩) HG'.out).trans f2
        have s3 : ∀ p : Regrown, (grow (redrawn wr p.d) p.os).cell? ⟨g, o + i * 5 + 3, none⟩ = some (.slice a3 t.ts.length c3) := fun p => ((below_regrown wr p.d p.os).cell (p := ⟨g, o + i * 5 + 3, none⟩) HG.out).trans d3
        have y3 : ∀ p : Regrown, (grow (redrawn wr p.d) p.os).cell? ⟨g', o' + i * 5 + 3, none⟩ = some (.slice b3 t.ts.length e3) := fun p => ((below_regrown wr p.d p.os).cell (p := ⟨g', o' + i * 5 + 3, none⟩) HG'.out).trans f3
        have s4 : ∀ p : Regrown, (grow (redrawn wr p.d) p.os).cell? ⟨g, o + i * 5 + 4, none⟩ = some (.slice a4 t.es.length c4) := fun p => ((below_regrown wr p.d p.os).cell (p := ⟨g, o + i * 5 + 4, none⟩) HG.out).trans d4
        have y4 : ∀ p : Regrown, (grow (redrawn wr p.d) p.os).cell? ⟨g', o' + i * 5 + 4, none⟩ = some (.slice b4 t.es.length e4) := fun p => ((below_regrown wr p.d p.os).cell (p := ⟨g', o' + i * 5 + 4, none⟩) HG'.out).trans f4
        clear d0 d1 d2 d3 d4 f0 f1 f2 f3 f4
        go_wp2_with fail
        refine wp_region_quiet_below (by kernel_rfl) (by kernel_rfl) ?_
        repeat (go_big_quiet_step (first | exact cS1 _ | exact cS2 _))
        refine wpQuiet_nil ?_
        intro w5 hw5
        have b5 : Below wr.heap.size wr w5 := by
          obtain ⟨p, rfl⟩ := hw5
          exact below_regrown wr p.d p.os
        clear hw5
        go_wp2_with fail
        refine ⟨⟨i + 1, by simp, by omega, Lib.hid (hB.out.trans (b5.mono hB.out.size))⟩, ?_⟩
        simp [intOf]; omega
      | false =>
        have s0 : ∀ p : Regrown, (grow (redrawn wr p.d) p.os).cell? ⟨g, o + i * 5, none⟩ = some (.int .i64 (t.k : Nat)) := fun p => ((below_regrown wr p.d p.os).cell (p := ⟨g, o + i * 5, none⟩) HG.out).trans d0
        have y0 : ∀ p : Regrown, (grow (redrawn wr p.d) p.os).cell? ⟨g', o' + i * 5, none⟩ = some (.int .i64 (t.k : Nat)) := fun p => ((below_regrown wr p.d p.os).cell (p := ⟨g', o' + i * 5, none⟩) HG'.out).trans f0
        have s1 : ∀ p : Regrown, (grow (redrawn wr p.d) p.os).cell? ⟨g, o + i * 5 + 1, none⟩ = some (.int .i64 (t.a : Nat)) := fun p => ((below_regrown wr p.d p.os).cell (p := ⟨g, o + i * 5 + 1, none⟩) HG.out).trans d1
        have y1 : ∀ p : Regrown, (grow (redrawn wr p.d) p.os).cell? ⟨g', o' + i * 5 + 1, none⟩ = some (.int .i64 (aa : Nat)) := fun p => ((below_regrown wr p.d p.os).cell (p := ⟨g', o' + i * 5 + 1, none⟩) HG'.out).trans f1
        have s2 : ∀ p : Regrown, (grow (redrawn wr p.d) p.os).cell? ⟨g, o + i * 5 + 2, none⟩ = some (.string ⟨t.n.toArray⟩) := fun p => ((below_regrown wr p.d p.os).cell (p := ⟨g, o + i * 5 + 2, none⟩) HG.out).trans d2
        have y2 : ∀ p : Regrown, (grow (redrawn wr p.d) p.os).cell? ⟨g', o' + i * 5 + 2, none⟩ = some (.string ⟨t.n.toArray⟩) := fun p => ((below_regrown wr p.d p.os).cell (p := ⟨g', o' + i * 5 + 2, none⟩) HG'.out).trans f2
        have s3 : ∀ p : Regrown, (grow (redrawn wr p.d) p.os).cell? ⟨g, o + i * 5 + 3, none⟩ = some (.slice a3 t.ts.length c3) := fun p => ((below_regrown wr p.d p.os).cell (p := ⟨g, o + i * 5 + 3, none⟩) HG.out).trans d3
        have y3 : ∀ p : Regrown, (grow (redrawn wr p.d) p.os).cell? ⟨g', o' + i * 5 + 3, none⟩ = some (.slice b3 t.ts.length e3) := fun p => ((below_regrown wr p.d p.os).cell (p := ⟨g', o' + i * 5 + 3, none⟩) HG'.out).trans f3
        have s4 : ∀ p : Regrown, (grow (redrawn wr p.d) p.os).cell? ⟨g, o + i * 5 + 4, none⟩ = some (.slice a4 t.es.length c4) := fun p => ((below_regrown wr p.d p.os).cell (p := ⟨g, o + i * 5 + 4, none⟩) HG.out).trans d4
        have y4 : ∀ p : Regrown, (grow (redrawn wr p.d) p.os).cell? ⟨g', o' + i * 5 + 4, none⟩ = some (.slice b4 t.es.length e4) := fun p => ((below_regrown wr p.d p.os).cell (p := ⟨g', o' + i * 5 + 4, none⟩) HG'.out).trans f4
        clear d0 d1 d2 d3 d4 f0 f1 f2 f3 f4
        go_wp2_with fail
        dsimp only [List.append]
        refine wp_region_quiet_below (by kernel_rfl) (by kernel_rfl) ?_
        repeat (go_big_quiet_step (first | exact cS1 _ | exact cS2 _))
        refine wpQuiet_nil ?_
        intro w5 hw5
        have b5 : Below wr.heap.size wr w5 := by
          obtain ⟨p, rfl⟩ := hw5
          exact below_regrown wr p.d p.os
        clear hw5
        go_wp2_with fail
        refine ⟨⟨i + 1, by simp, by omega, Lib.hid (hB.out.trans (b5.mono hB.out.size))⟩, ?_⟩
        simp [intOf]; omega
    · have hlt : decide ((i : Int) < (l.length : Int)) = false := by simp only [decide_eq_false_iff_not]; omega
      have hltn : decide (i < l.length) = false := by simp only [decide_eq_false_iff_not]; exact hi2
      go_wp2_with fail
      go_ret
      exact ⟨rfl, hB.out⟩
theorem sdOk (at_ : Bool) (l l' : List PD) (hE : EqD at_ l l') (h : szDs l ≤ 1000000) : SdOk at_ l l' := by
  refine sd_step at_ l l' hE (by have := szDs_len l; omega) fun t ht => ?_
  obtain ⟨i, hi, rfl⟩ := List.getElem_of_mem ht
  have h3 := szDs_get l i _ (List.getElem?_eq_getElem hi)
  rw [szD] at h3
  exact ⟨saOk _ (by omega), fun L2 hL => seOk at_ _ L2 hL (by omega)⟩
end Go.Proofs.YthpoffklhpbdoaaGreatDoor

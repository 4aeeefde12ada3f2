/-
  The contracts of what prints types: an item of a list, records, unions.
  The contract of what prints a union.
  The contract of what prints a type, by its size.
-/
import Derived.Test.YthpoffklhpbdoaaGreatDoorBsM
import Derived.Test.YthpoffklhpbdoaaGreatDoorExA
namespace Go.Proofs.YthpoffklhpbdoaaGreatDoor
set_option maxRecDepth 100000
open Go.RowKit

def zPT : PT := .mk 0 [] [] []
theorem zPT_is (A : Nat → Prop) (w : World) : IsCs A w (encT 26 zPT) [.int .i64 (0 : Nat), .string ⟨([] : Bs).toArray⟩, .slice none 0 0, .slice none 0 0] := by
  simp only [zPT, encT, encTs, List.map_nil, List.length_nil]
  exact .cons (.num _ _ _) (.cons (.str _ _ _) (.cons (.none _ _ _ (by decide)) (.cons (.none _ _ _ (by decide)) (.nil _ _))))

set_option maxHeartbeats 1000000 in
theorem partT_any (l : List PT) (i : Nat) (A : Nat → Prop) (w : World) (v : Value) (h : IsC A w (.row 26 4 l.length (encTs 26 l)) v) (hi9 : i ≤ 1000000000000000) :
    Calls Tryz.prog 78 #[v, .int .i64 (i : Nat)] w fun e w' => ∃ cs, e = .returned (.agg cs.toArray) ∧ Below w.heap.size w w' ∧ IsCs A w' (encT 26 (l[i]?.getD zPT)) cs := by
  obtain ⟨tt, htt⟩ : ∃ tt, tt = l[i]?.getD zPT := ⟨_, rfl⟩
  rw [← htt]
  have HTT := Lib.hid htt
  clear htt
  have hS := Sub.of_row h (by rw [encTs_flat]; exact flat_length (encT_length 26) l)
  obtain ⟨a0, cap, xs, rfl, -, -⟩ := id hS
  obtain ⟨W1, hW1⟩ : ∃ W1, w.alloc (.cells #[.int .i64 0, .string ⟨#[]⟩, .slice none 0 0, .slice none 0 0] 26) = W1 := ⟨_, rfl⟩
  have hA1 : W1.heap[w.heap.size]? = some (.cells #[.int .i64 0, .string ⟨#[]⟩, .slice none 0 0, .slice none 0 0] 26 (0, 0)) := by rw [← hW1]; exact heap_alloc_new w _
  have hB1 : Below w.heap.size w W1 := by rw [← hW1]; exact (Below.refl _ w).alloc (Nat.le_refl _) _
  have HB1 := Lib.hid hB1
  have HA1 := Lib.hid hA1
  have HW1 := Lib.hid hW1
  have HSZ := Lib.hid (show W1.heap.size = w.heap.size + 1 by rw [← hW1]; simp)
  by_cases hlt : i < l.length
  · have hd1 : decide ((i : Int) < (l.length : Int)) = true := by simp only [decide_eq_true_eq]; omega
    have hd2 : decide (i < l.length) = true := by simp only [decide_eq_true_eq]; exact hlt
    have hget : l[i]? = some l[i] := List.getElem?_eq_getElem hlt
    obtain ⟨t, ht⟩ : ∃ t, t = l[i] := ⟨_, rfl⟩
    rw [← ht] at hget
    have hS2 := hS
    rw [encTs_flat] at hS2
    obtain ⟨g, o, cs, rfl, hg, hcs, hcell⟩ := Sub.at (encT_length 26) hS2 hget (by omega)
    obtain ⟨tk, tn, a2, n2, c2, a3, n3, c3, rfl⟩ := cells_T hcs
    have d0 := (hB1.cell (p := ⟨g, o + i * 4 + 0, none⟩) hg).trans (hcell 0 _ rfl)
    have d1 := (hB1.cell (p := ⟨g, o + i * 4 + 1, none⟩) hg).trans (hcell 1 _ rfl)
    have d2 := (hB1.cell (p := ⟨g, o + i * 4 + 2, none⟩) hg).trans (hcell 2 _ rfl)
    have d3 := (hB1.cell (p := ⟨g, o + i * 4 + 3, none⟩) hg).trans (hcell 3 _ rfl)
    rw [Nat.add_zero] at d0
    have HCS := Lib.hid (hcs.mono (A' := fun b => A b ∧ b < w.heap.size) (fun b hb ha => ⟨ha, hb⟩))
    have HTH := Lib.hid (there_of hA1 rfl)
    have HGET := Lib.hid (show tt = t by rw [HTT.out, hget]; rfl)
    clear hS hS2 hget ht hcs hcell hg h hA1 hB1
    go_enter Tryz.func78, Tryz.ntmps78
    go_upto_region 1 with fail
    clear hW1
    go_wp2_with (first | (refine wpList_store_put rfl 26 (.tmp 4) (.tmp 13) rfl w.heap.size _ rfl rfl HTH.out size39 (all_oneCell_toArray (by simp [Value.oneCell'])) ?_; intro W9 hW9))
    have hA9 : W9.heap[w.heap.size]? = some (.cells #[.int .i64 tk, .string tn, .slice a2 n2 c2, .slice a3 n3 c3] 26 (0, 0)) := by rw [hW9.out]; exact putL_at (vs := [.int .i64 tk, .string tn, .slice a2 n2 c2, .slice a3 n3 c3]) HA1.out rfl
    refine ret39 Tryz.results78 rfl rfl hA9 ⟨[.int .i64 tk, .string tn, .slice a2 n2 c2, .slice a3 n3 c3], rfl, ?_, ?_⟩
    · rw [hW9.out]; exact Below.putL HB1.out (Nat.le_refl _) _
    · rw [HGET.out, hW9.out]
      exact ((HCS.out.below HB1.out).putL _ (fun b hb => Nat.ne_of_lt hb.2) _).mono (fun b _ hb => hb.1)
  · have hd1 : decide ((i : Int) < (l.length : Int)) = false := by simp only [decide_eq_false_iff_not]; omega
    have hd2 : decide (i < l.length) = false := by simp only [decide_eq_false_iff_not]; exact hlt
    have hA2 : (W1.alloc (.cells #[.int .i64 0, .string ⟨#[]⟩, .slice none 0 0, .slice none 0 0] 26)).heap[w.heap.size]? = some (.cells #[.int .i64 0, .string ⟨#[]⟩, .slice none 0 0, .slice none 0 0] 26 (0, 0)) := blk_alloc hA1 _
    have HA2 := Lib.hid hA2
    have HTH := Lib.hid (there_of hA2 rfl)
    have HB2 := Lib.hid (hB1.alloc hB1.size (.cells #[.int .i64 0, .string ⟨#[]⟩, .slice none 0 0, .slice none 0 0] 26))
    have HGET := Lib.hid (show tt = zPT by rw [HTT.out, List.getElem?_eq_none (by omega)]; rfl)
    clear hS h hA1 hB1 hA2
    go_enter Tryz.func78, Tryz.ntmps78
    go_upto_region 1 with fail
    clear hW1
    go_wp2_with (first | (refine wpList_store_put rfl 26 (.tmp 4) (.tmp 14) rfl w.heap.size _ rfl rfl HTH.out size39 (all_oneCell_toArray (by simp [Value.oneCell'])) ?_; intro W9 hW9))
    have hA9 : W9.heap[w.heap.size]? = some (.cells #[.int .i64 0, .string ⟨#[]⟩, .slice none 0 0, .slice none 0 0] 26 (0, 0)) := by rw [hW9.out]; exact putL_at (vs := [.int .i64 0, .string ⟨#[]⟩, .slice none 0 0, .slice none 0 0]) HA2.out rfl
    refine ret39 Tryz.results78 rfl rfl hA9 ⟨[.int .i64 0, .string ⟨#[]⟩, .slice none 0 0, .slice none 0 0], rfl, ?_, ?_⟩
    · rw [hW9.out]; exact Below.putL HB2.out (Nat.le_refl _) _
    · rw [HGET.out]; exact zPT_is A W9

theorem cells_T2 {e : TypeId} {A : Nat → Prop} {w : World} {k : Nat} {n : Bs} {ns : List Bs} {l : List PT} {cs : List Value} (h : IsCs A w (encT e (.mk k n ns l)) cs) : ∃ a2 c2 a3 c3, cs = [.int .i64 k, .string ⟨n.toArray⟩, .slice a2 ns.length c2, .slice a3 l.length c3] ∧ IsC A w (.row 9 1 ns.length (ns.map .str)) (.slice a2 ns.length c2) ∧ IsC A w (.row e 4 l.length (encTs e l)) (.slice a3 l.length c3) := by
  simp only [encT] at h
  obtain ⟨x0, ys, rfl, k0, h⟩ := h.uncons
  obtain ⟨x1, ys, rfl, k1, h⟩ := h.uncons
  obtain ⟨x2, ys, rfl, k2, h⟩ := h.uncons
  obtain ⟨x3, ys, rfl, k3, h⟩ := h.uncons
  simp only [IsCs] at h
  subst h
  simp only [IsC] at k0 k1
  subst k0 k1
  obtain ⟨xs2, r2, -, -⟩ := k2.unrow
  obtain ⟨a2, c2, rfl⟩ := row_slice r2
  obtain ⟨xs3, r3, -, -⟩ := k3.unrow
  obtain ⟨a3, c3, rfl⟩ := row_slice r3
  exact ⟨a2, c2, a3, c3, rfl, k2, k3⟩

/-- What printing a type tells. -/
def Prt (f : Nat) (args : Nat → Array Value) (txt : Bs) (D : World → Prop) : Prop := ∀ (B b : Nat) (bs : Bs) (w : World), Pst B w b bs → D w → bs.length + txt.length ≤ 140737488355328 → Calls Tryz.prog f (args b) w (fun e w' => e = .returned (.tuple #[]) ∧ Fb B b w w' ∧ Pst B w' b (bs ++ txt))
def TyOk (t : PT) : Prop := ∀ (q : Nat), q ≤ 2 → ∀ (A : Nat → Prop) (cs : List Value), Prt 51 (fun b => #[.pointer (some ⟨b, 0, none⟩), .agg cs.toArray, .int .i64 (q : Nat)]) (prT q t) (fun w => IsCs A w (encT 26 t) cs)
theorem prT_z (q : Nat) (h : q ≤ 2) : prT q zPT = [] := by
  rw [zPT, prT_mk]
  simp [markT, lvlT, bodyT]
  omega
theorem map_getD (q : Nat) (hq : q ≤ 2) (l : List PT) (i : Nat) : (l.map (prT q))[i]?.getD [] = prT q (l[i]?.getD zPT) := by
  rw [List.getElem?_map]
  cases l[i]? with
  | none => exact (prT_z q hq).symm
  | some t => rfl
theorem joinL_take {α : Type} (s : List α) (L : List (List α)) (i : Nat) (x : List α) (h : L[i]? = some x) : joinL s (L.take (i + 1)) = joinL s (L.take i) ++ ((if i = 0 then [] else s) ++ x) := by
  rw [List.take_add_one, h]
  by_cases hi : i = 0
  · subst hi; simp [joinL]
  · rw [if_neg hi]
    exact joinL_snoc s _ x (by
      intro e
      have := congrArg List.length e
      have hl := (List.getElem?_eq_some_iff.1 h).1
      rw [List.length_take] at this
      simp only [List.length_nil] at this
      omega)
theorem joinL_take_le {α : Type} (s : List α) (L : List (List α)) : ∀ n i, i + n = L.length → (joinL s (L.take i)).length ≤ (joinL s L).length
  | 0, i, h => by rw [List.take_of_length_le (by omega)]; exact Nat.le_refl _
  | n + 1, i, h => by
    have ih := joinL_take_le s L n (i + 1) (by omega)
    have hi : i < L.length := by omega
    rw [joinL_take s L i _ (List.getElem?_eq_getElem hi)] at ih
    simp only [List.length_append] at ih
    omega
theorem joinL_ge {s : Bs} (hs : 1 ≤ s.length) : ∀ L : List Bs, L.length ≤ (joinL s L).length + 1
  | [] => by simp
  | [x] => by simp
  | x :: y :: r => by
    have := joinL_ge hs (y :: r)
    rw [joinL]
    simp only [List.length_cons, List.length_append] at this ⊢
    omega

theorem strs_flat2 : ∀ ns : List Bs, ns.map Dt.str = ns.flatMap fun s => [Dt.str s]
  | [] => rfl
  | n :: ns => by rw [List.map_cons, strs_flat2 ns, List.flatMap_cons]; rfl

set_option maxHeartbeats 2000000 in
theorem recT_any (k : Nat) (n : Bs) (ns : List Bs) (l : List PT) (HT : ∀ t, (t ∈ l ∨ t = zPT) → TyOk t) (A : Nat → Prop) (cs : List Value) :
    Prt 81 (fun b => #[.pointer (some ⟨b, 0, none⟩), .agg cs.toArray]) (123 :: (joinL [44, 32] (pairL [58, 32] ns (l.map (prT 0))) ++ [125])) (fun w => IsCs A w (encT 26 (.mk k n ns l)) cs) := by
  intro B b bs w hP hC hlen
  obtain ⟨L, hL⟩ : ∃ L, L = pairL [58, 32] ns (l.map (prT 0)) := ⟨_, rfl⟩
  rw [← hL] at hlen ⊢
  have HL := Lib.hid hL
  have HLL := Lib.hid (show L.length = ns.length by rw [hL, pairL_length])
  have hgt : ns.length ≤ 140737488355329 := by
    have h1 := joinL_ge (s := [44, 32]) (by decide) L
    rw [← HLL.out]
    simp only [List.length_cons, List.length_append, List.length_nil] at hlen
    omega
  have HLEN := Lib.hid hlen
  obtain ⟨a2, c2, a3, c3, rfl, k2, k3⟩ := cells_T2 hC
  have K2 := Lib.hid k2
  have K3 := Lib.hid k3
  have HP := Lib.hid hP
  have HT := Lib.hid HT
  obtain ⟨W1, hW1⟩ : ∃ W1, w.alloc (.cells #[.int .i64 (k : Nat), .string ⟨n.toArray⟩, .slice a2 ns.length c2, .slice a3 l.length c3] 26) = W1 := ⟨_, rfl⟩
  have hA1 : W1.heap[w.heap.size]? = some (.cells #[.int .i64 (k : Nat), .string ⟨n.toArray⟩, .slice a2 ns.length c2, .slice a3 l.length c3] 26 (0, 0)) := by rw [← hW1]; exact heap_alloc_new w _
  have hP1 : Pst B W1 b bs := by rw [← hW1]; exact hP.alloc _
  have hF1 : Fb B b w W1 := by rw [← hW1]; exact (Fb.refl B b w).alloc hP.hi _
  have HA1 := Lib.hid hA1
  have HP1 := Lib.hid hP1
  have HF1 := Lib.hid hF1
  have HS1 := Lib.hid (say1 hP1 [123] (by simp only [List.length_cons, List.length_append, List.length_nil] at hlen ⊢; omega))
  clear hC k2 k3 hA1 hP1 hF1 hP hlen hL
  go_enter Tryz.func81, Tryz.ntmps81
  go_upto_region 1 with fail
  clear hW1
  go_wp2_with fail
  refine HS1.out.mono ?_
  rintro e W2 ⟨rfl, hF2, hP2⟩
  have HF2 := Lib.hid (HF1.out.trans hF2)
  have HP2 := Lib.hid hP2
  have hA2 := hF2.2 _ _ HA1.out (fun e => by have := HP.out.lt; have := Option.some.inj e; omega) (fun c fz e => by cases e)
  have HA2 := Lib.hid hA2
  obtain ⟨⟨q0, q1, q2, q3⟩, -⟩ := fou_of (t := 26) hA2
  clear hF2 hP2 hA2 HS1
  go_wp2_with fail
  go_loopw [12] (fun s12 wr => ∃ i : Nat, s12 = .int .i64 (i : Nat) ∧ i ≤ ns.length ∧ Hid (Fb B b w wr) ∧ Hid (Fb B b W2 wr) ∧ Hid (Pst B wr b (bs ++ ([123] ++ joinL [44, 32] (L.take i))))) (fun s12 _ => ns.length - (intOf s12).toNat)
  case atStart => exact ⟨0, rfl, Nat.zero_le _, HF2, Lib.hid (Fb.refl B b W2), Lib.hid (by simpa [joinL] using HP2.out)⟩
  case round =>
    obtain ⟨i, rfl, hil, hF, hG, hPr⟩ := hrel
    by_cases hi2 : i < ns.length
    · have hd1 : decide ((i : Int) < (ns.length : Int)) = true := by simp only [decide_eq_true_eq]; omega
      have hd2 : decide (i < ns.length) = true := by simp only [decide_eq_true_eq]; exact hi2
      have hi3 : i < L.length := by have := HLL.out; omega
      obtain ⟨s, hget⟩ : ∃ s, ns[i]? = some s := ⟨_, List.getElem?_eq_getElem hi2⟩
      obtain ⟨t, ht⟩ : ∃ t, t = l[i]?.getD zPT := ⟨_, rfl⟩
      have hx : L[i]? = some (s ++ ([58, 32] ++ prT 0 t)) := by rw [HL.out, pairL_get _ _ _ _ _ hget, map_getD 0 (by decide), ht]
      have htm : t ∈ l ∨ t = zPT := by
        rw [ht]
        cases hl : l[i]? with
        | none => exact .inr rfl
        | some t => exact .inl (List.mem_of_getElem? hl)
      have HTT := Lib.hid (HT.out t htm)
      obtain ⟨sp, hsp⟩ : ∃ sp : Bs, sp = if i = 0 then [] else [44, 32] := ⟨_, rfl⟩
      have hj := joinL_take [44, 32] L i _ hx
      rw [← hsp] at hj
      have HJ := Lib.hid hj
      have LQ : Hid (bs.length + (([123] ++ joinL [44, 32] (L.take i)).length + (sp.length + (s.length + (2 + (prT 0 t).length)))) ≤ 140737488355328) := by
        have h1 := joinL_take_le [44, 32] L (L.length - (i + 1)) (i + 1) (by omega)
        rw [hj] at h1
        have h2 := HLEN.out
        show _ ≤ _
        simp only [List.length_append, List.length_cons, List.length_nil] at h1 h2 ⊢
        omega
      have HBT : Hid (Calls Tryz.prog 109 #[.pointer (some ⟨b, 0, none⟩), .int .i64 (i : Nat), .string ⟨#[44, 32]⟩] wr fun e w' => e = .returned (.tuple #[]) ∧ Fb B b wr w' ∧ Pst B w' b ((bs ++ ([123] ++ joinL [44, 32] (L.take i))) ++ sp)) := by
        have := between_any hPr.out i [44, 32] (fun h0 => by have := LQ.out; rw [hsp, if_neg h0] at this; simp only [List.length_append, List.length_cons, List.length_nil] at this ⊢; omega)
        rw [← hsp] at this
        exact this
      have hK2 := IsC.fb HP.out hF.out _ _ (by simp [nb, nbs_strs]) K2.out
      have HK3 := Lib.hid (IsC.fb HP.out hF.out _ _ (by simp [nb, nb_Ts]) K3.out)
      have hA := hG.out.2 _ _ HA2.out (fun e => by have := HP.out.lt; have := Option.some.inj e; omega) (fun c fz e => by cases e)
      have HA := Lib.hid hA
      obtain ⟨⟨p0, p1, p2, p3⟩, -⟩ := fou_of (t := 26) hA
      have hS2 := Sub.of_row hK2 (by simp)
      rw [strs_flat2] at hS2
      obtain ⟨g, o, gs, rfl, hg, hcs, hcell⟩ := Sub.at (k := 1) (fun _ => rfl) hS2 hget (by omega)
      obtain ⟨x, ys, rfl, k0, -⟩ := hcs.uncons
      simp only [IsC] at k0
      subst k0
      have d0 := hcell 0 _ rfl
      rw [Nat.add_zero, Nat.mul_one] at d0
      have HT1 := Lib.hid ht
      clear hi3 hx htm hsp hj hPr hA hK2 hS2 hcs hcell hget ht hg
      go_wp2_with fail
      refine HBT.out.mono ?_
      rintro e W3 ⟨rfl, f3, p3⟩
      have F3 := Lib.hid (hF.out.trans f3)
      have G3 := Lib.hid (hG.out.trans f3)
      have P3 := Lib.hid p3
      have HS2 := Lib.hid (say2 p3 s [58, 32] (by have := LQ.out; simp only [List.length_append, List.length_cons, List.length_nil] at this ⊢; omega))
      clear f3 p3 HBT
      go_wp2_with fail
      refine HS2.out.mono ?_
      rintro e W4 ⟨rfl, f4, p4⟩
      have F4 := Lib.hid (F3.out.trans f4)
      have G4 := Lib.hid (G3.out.trans f4)
      have P4 := Lib.hid p4
      have hA4 := G4.out.2 _ _ HA2.out (fun e => by have := HP.out.lt; have := Option.some.inj e; omega) (fun c fz e => by cases e)
      obtain ⟨⟨r0, r1, r2, r3⟩, -⟩ := fou_of (t := 26) hA4
      have HPT := Lib.hid (partT_any l i A W4 _ (IsC.fb HP.out F4.out _ _ (by simp [nb, nb_Ts]) K3.out) (by omega))
      clear f4 p4 HS2 hA4
      rw [← HT1.out] at HPT
      go_wp2_with fail
      refine HPT.out.mono ?_
      rintro e W5 ⟨cs5, rfl, b5, i5⟩
      have P5 := Lib.hid (P4.out.below b5)
      have F5 := Lib.hid (F4.out.then_below b5 P4.out)
      have G5 := Lib.hid (G4.out.then_below b5 P4.out)
      have H51 : Hid (Calls Tryz.prog 51 #[.pointer (some ⟨b, 0, none⟩), .agg cs5.toArray, .int .i64 0] W5 fun e w' => e = .returned (.tuple #[]) ∧ Fb B b W5 w' ∧ Pst B w' b (((((bs ++ ([123] ++ joinL [44, 32] (L.take i))) ++ sp) ++ (s ++ [58, 32]))) ++ prT 0 t)) :=
        HTT.out 0 (by decide) A cs5 B b _ W5 P5.out i5 (by have := LQ.out; simp only [List.length_append, List.length_cons, List.length_nil] at this ⊢; omega)
      clear b5 i5 HPT
      go_wp2_with fail
      refine H51.out.mono ?_
      rintro e W6 ⟨rfl, f6, p6⟩
      have F6 := Lib.hid (F5.out.trans f6)
      have G6 := Lib.hid (G5.out.trans f6)
      have P6 := Lib.hid p6
      clear f6 p6 H51
      go_wp2_with fail
      refine ⟨⟨i + 1, by simp, by omega, F6, G6, Lib.hid ?_⟩, ?_⟩
      · rw [HJ.out]
        have := P6.out
        simpa only [List.append_assoc] using this
      · simp [intOf]; omega
    · have hd1 : decide ((i : Int) < (ns.length : Int)) = false := by simp only [decide_eq_false_iff_not]; omega
      have hd2 : decide (i < ns.length) = false := by simp only [decide_eq_false_iff_not]; exact hi2
      have HE := Lib.hid (show L.take i = L from List.take_of_length_le (by have := HLL.out; omega))
      have HS9 := Lib.hid (say1 hPr.out [125] (by rw [HE.out]; have := HLEN.out; simp only [List.length_append, List.length_cons, List.length_nil] at this ⊢; omega))
      clear hPr
      go_wp2_with fail
      refine HS9.out.mono ?_
      rintro e W9 ⟨rfl, f9, p9⟩
      have F9 := Lib.hid (hF.out.trans f9)
      have P9 := Lib.hid p9
      clear f9 p9 HS9
      go_wp2_with fail
      go_end0
      refine ⟨rfl, F9.out, ?_⟩
      have := P9.out
      rw [HE.out] at this
      simpa only [List.append_assoc, List.cons_append, List.nil_append] using this

end Go.Proofs.YthpoffklhpbdoaaGreatDoor

namespace Go.Proofs.YthpoffklhpbdoaaGreatDoor
set_option maxRecDepth 100000
open Go.RowKit

set_option maxHeartbeats 2000000 in
theorem uniT_any (k : Nat) (n : Bs) (ns : List Bs) (l : List PT) (HT : ∀ t, t ∈ l → TyOk t) (A : Nat → Prop) (cs : List Value) :
    Prt 82 (fun b => #[.pointer (some ⟨b, 0, none⟩), .agg cs.toArray]) (if l.map (prT 1) = [] then [110, 101, 118, 101, 114] else joinL [32, 124, 32] (l.map (prT 1))) (fun w => IsCs A w (encT 26 (.mk k n ns l)) cs) := by
  intro B b bs w hP hC hlen
  obtain ⟨L, hL⟩ : ∃ L, L = l.map (prT 1) := ⟨_, rfl⟩
  rw [← hL] at hlen ⊢
  have HL := Lib.hid hL
  have HLL := Lib.hid (show L.length = l.length by rw [hL, List.length_map])
  obtain ⟨a2, c2, a3, c3, rfl, k2, k3⟩ := cells_T2 hC
  have K3 := Lib.hid k3
  have HP := Lib.hid hP
  have HT := Lib.hid HT
  obtain ⟨W1, hW1⟩ : ∃ W1, w.alloc (.cells #[.int .i64 (k : Nat), .string ⟨n.toArray⟩, .slice a2 ns.length c2, .slice a3 l.length c3] 26) = W1 := ⟨_, rfl⟩
  have hA1 : W1.heap[w.heap.size]? = some (.cells #[.int .i64 (k : Nat), .string ⟨n.toArray⟩, .slice a2 ns.length c2, .slice a3 l.length c3] 26 (0, 0)) := by rw [← hW1]; exact heap_alloc_new w _
  have hP1 : Pst B W1 b bs := by rw [← hW1]; exact hP.alloc _
  have hF1 : Fb B b w W1 := by rw [← hW1]; exact (Fb.refl B b w).alloc hP.hi _
  obtain ⟨⟨q0, q1, q2, q3⟩, -⟩ := fou_of (t := 26) hA1
  have HA1 := Lib.hid hA1
  have HP1 := Lib.hid hP1
  have HF1 := Lib.hid hF1
  by_cases hz : l.length = 0
  · have hLn : L = [] := List.eq_nil_of_length_eq_zero (by have := HLL.out; omega)
    rw [if_pos hLn] at hlen ⊢
    have HS1 := Lib.hid (say1 hP1 [110, 101, 118, 101, 114] hlen)
    have e0 : ((l.length : Int) == 0) = true := by simp [hz]
    have e1 : (l.length == 0) = true := by simp [hz]
    have HZ := Lib.hid hz
    clear hC k2 k3 hA1 hP1 hF1 hP hlen hL hLn hz
    go_enter Tryz.func82, Tryz.ntmps82
    go_upto_region 1 with fail
    clear hW1
    go_wp2_with fail
    refine HS1.out.mono ?_
    rintro e W2 ⟨rfl, f2, p2⟩
    have F2 := Lib.hid (HF1.out.trans f2)
    have P2 := Lib.hid p2
    have hA2 := f2.2 _ _ HA1.out (fun e => by have := HP.out.lt; have := Option.some.inj e; omega) (fun c fz e => by cases e)
    obtain ⟨⟨r0, r1, r2, r3⟩, -⟩ := fou_of (t := 26) hA2
    clear f2 p2 HS1 hA2
    go_wp2_with fail
    go_loopw [16] (fun s16 wr => s16 = .int .i64 0 ∧ Hid (Fb B b w wr) ∧ Hid (Pst B wr b (bs ++ [110, 101, 118, 101, 114]))) (fun _ _ => 0)
    case atStart => exact ⟨rfl, F2, P2⟩
    case round =>
      obtain ⟨rfl, hF, hPr⟩ := hrel
      have hd1 : decide ((0 : Int) < (l.length : Int)) = false := by simp only [decide_eq_false_iff_not]; have := HZ.out; omega
      have hd2 : decide (0 < l.length) = false := by simp only [decide_eq_false_iff_not]; have := HZ.out; omega
      go_wp2_with fail
      go_end0
      exact ⟨rfl, hF.out, hPr.out⟩
  · have hLn : L ≠ [] := fun e => hz (by rw [← HLL.out, e]; rfl)
    rw [if_neg hLn] at hlen ⊢
    have HLEN := Lib.hid hlen
    have hgt : l.length ≤ 140737488355329 := by
      have h1 := joinL_ge (s := [32, 124, 32]) (by decide) L
      rw [← HLL.out]
      omega
    have e0 : ((l.length : Int) == 0) = false := by simp only [beq_eq_false_iff_ne, ne_eq]; omega
    have e1 : (l.length == 0) = false := by simp only [beq_eq_false_iff_ne, ne_eq]; omega
    clear hC k2 k3 hA1 hP1 hF1 hP hlen hL hLn
    go_enter Tryz.func82, Tryz.ntmps82
    go_upto_region 1 with fail
    clear hW1
    go_wp2_with fail
    go_loopw [16] (fun s16 wr => ∃ i : Nat, s16 = .int .i64 (i : Nat) ∧ i ≤ l.length ∧ Hid (Fb B b w wr) ∧ Hid (Pst B wr b (bs ++ joinL [32, 124, 32] (L.take i)))) (fun s16 _ => l.length - (intOf s16).toNat)
    case atStart => exact ⟨0, rfl, Nat.zero_le _, HF1, Lib.hid (by simpa [joinL] using HP1.out)⟩
    case round =>
      obtain ⟨i, rfl, hil, hF, hPr⟩ := hrel
      by_cases hi2 : i < l.length
      · have hd1 : decide ((i : Int) < (l.length : Int)) = true := by simp only [decide_eq_true_eq]; omega
        have hd2 : decide (i < l.length) = true := by simp only [decide_eq_true_eq]; exact hi2
        have hi3 : i < L.length := by have := HLL.out; omega
        obtain ⟨t, ht⟩ : ∃ t, l[i]? = some t := ⟨_, List.getElem?_eq_getElem hi2⟩
        have hx : L[i]? = some (prT 1 t) := by rw [HL.out, List.getElem?_map, ht]; rfl
        have HTT := Lib.hid (HT.out t (List.mem_of_getElem? ht))
        obtain ⟨sp, hsp⟩ : ∃ sp : Bs, sp = if i = 0 then [] else [32, 124, 32] := ⟨_, rfl⟩
        have hj := joinL_take [32, 124, 32] L i _ hx
        rw [← hsp] at hj
        have HJ := Lib.hid hj
        have LQ : Hid (bs.length + ((joinL [32, 124, 32] (L.take i)).length + (sp.length + (prT 1 t).length)) ≤ 140737488355328) := by
          have h1 := joinL_take_le [32, 124, 32] L (L.length - (i + 1)) (i + 1) (by omega)
          rw [hj] at h1
          have h2 := HLEN.out
          show _ ≤ _
          simp only [List.length_append] at h1 h2 ⊢
          omega
        have hS3 := Sub.of_row (IsC.fb HP.out hF.out _ _ (by simp [nb, nb_Ts]) K3.out) (by rw [encTs_flat]; exact flat_length (encT_length 26) l)
        rw [encTs_flat] at hS3
        obtain ⟨g, o, gs, rfl, hg, hcs, hcell⟩ := Sub.at (encT_length 26) hS3 ht (by omega)
        obtain ⟨tk, tn, x2, m2, y2, x3, m3, y3, rfl⟩ := cells_T hcs
        have d0 := hcell 0 _ rfl
        have d1 := hcell 1 _ rfl
        have d2 := hcell 2 _ rfl
        have d3 := hcell 3 _ rfl
        rw [Nat.add_zero] at d0
        obtain ⟨V1, hV1⟩ : ∃ V1, wr.alloc (.cells #[.int .i64 0, .string ⟨#[]⟩, .slice none 0 0, .slice none 0 0] 26) = V1 := ⟨_, rfl⟩
        have hAV : V1.heap[wr.heap.size]? = some (.cells #[.int .i64 0, .string ⟨#[]⟩, .slice none 0 0, .slice none 0 0] 26 (0, 0)) := by rw [← hV1]; exact heap_alloc_new wr _
        have HAV := Lib.hid hAV
        have HBV := Lib.hid (show Below wr.heap.size wr V1 by rw [← hV1]; exact (Below.refl _ wr).alloc (Nat.le_refl _) _)
        have HTH := Lib.hid (there_of hAV rfl)
        have HCS := Lib.hid hcs
        have HPR := Lib.hid hPr.out
        have HBT : Hid (∀ W bs', Pst B W b bs' → bs'.length + sp.length ≤ 140737488355328 → Calls Tryz.prog 109 #[.pointer (some ⟨b, 0, none⟩), .int .i64 (i : Nat), .string ⟨#[32, 124, 32]⟩] W fun e w' => e = .returned (.tuple #[]) ∧ Fb B b W w' ∧ Pst B w' b (bs' ++ sp)) := by
          intro W bs' hW hl
          have := between_any hW i [32, 124, 32] (fun h0 => by rw [hsp, if_neg h0] at hl; exact hl)
          rw [← hsp] at this
          exact this
        clear hi3 hx hsp hj hPr hS3 hcs hcell ht hg hAV
        go_upto_region 6 with (first | (refine wpList_store_put rfl 26 (.tmp 5) (.tmp 20) rfl wr.heap.size _ rfl rfl HTH.out size39 (all_oneCell_toArray (by simp [Value.oneCell'])) ?_; intro W9 hW9))
        have hB9 : Below wr.heap.size wr W9 := by rw [hW9.out]; exact Below.putL HBV.out (Nat.le_refl _) _
        have hA9 : W9.heap[wr.heap.size]? = some (.cells #[.int .i64 tk, .string tn, .slice x2 m2 y2, .slice x3 m3 y3] 26 (0, 0)) := by rw [hW9.out]; exact putL_at (vs := [.int .i64 tk, .string tn, .slice x2 m2 y2, .slice x3 m3 y3]) HAV.out rfl
        have HA9 := Lib.hid hA9
        have P9 := Lib.hid (HPR.out.below hB9)
        have F9 := Lib.hid (hF.out.then_below hB9 HPR.out)
        have I9 := Lib.hid (HCS.out.below hB9)
        have HB := Lib.hid (HBT.out W9 _ P9.out (by have := LQ.out; simp only [List.length_append] at this ⊢; omega))
        clear hB9 hA9 HBT d0 d1 d2 d3
        go_wp2_with fail
        refine HB.out.mono ?_
        rintro e W10 ⟨rfl, f10, p10⟩
        have hA10 := f10.2 _ _ HA9.out (fun e => by have := HPR.out.lt; have := Option.some.inj e; omega) (fun c fz e => by cases e)
        obtain ⟨⟨r0, r1, r2, r3⟩, -⟩ := fou_of (t := 26) hA10
        have P10 := Lib.hid p10
        have F10 := Lib.hid (F9.out.trans f10)
        have H51 : Hid (Calls Tryz.prog 51 #[.pointer (some ⟨b, 0, none⟩), .agg #[.int .i64 tk, .string tn, .slice x2 m2 y2, .slice x3 m3 y3], .int .i64 1] W10 fun e w' => e = .returned (.tuple #[]) ∧ Fb B b W10 w' ∧ Pst B w' b (((bs ++ joinL [32, 124, 32] (L.take i)) ++ sp) ++ prT 1 t)) :=
          HTT.out 1 (by decide) _ _ B b _ W10 p10 (IsCs.fb P9.out f10 _ _ (nb_T t) I9.out) (by have := LQ.out; simp only [List.length_append] at this ⊢; omega)
        clear f10 p10 hA10 HB
        go_wp2_with fail
        refine H51.out.mono ?_
        rintro e W11 ⟨rfl, f11, p11⟩
        have F11 := Lib.hid (F10.out.trans f11)
        have P11 := Lib.hid p11
        clear f11 p11 H51
        go_wp2_with fail
        refine ⟨⟨i + 1, by simp, by omega, F11, Lib.hid ?_⟩, ?_⟩
        · rw [HJ.out]
          have := P11.out
          simpa only [List.append_assoc] using this
        · simp [intOf]; omega
      · have hd1 : decide ((i : Int) < (l.length : Int)) = false := by simp only [decide_eq_false_iff_not]; omega
        have hd2 : decide (i < l.length) = false := by simp only [decide_eq_false_iff_not]; exact hi2
        have HE := Lib.hid (show L.take i = L from List.take_of_length_le (by have := HLL.out; omega))
        go_wp2_with fail
        go_end0
        refine ⟨rfl, hF.out, ?_⟩
        have := hPr.out
        rw [HE.out] at this
        exact this

end Go.Proofs.YthpoffklhpbdoaaGreatDoor

namespace Go.Proofs.YthpoffklhpbdoaaGreatDoor
set_option maxRecDepth 100000
open Go.RowKit

theorem headD_get (q : Nat) (hq : q ≤ 2) (l : List PT) : (l.map (prT q)).headD [] = prT q (l[0]?.getD zPT) := by
  cases l with
  | nil => exact (prT_z q hq).symm
  | cons t l => rfl
theorem tailD_get (q : Nat) (hq : q ≤ 2) (l : List PT) : (l.map (prT q)).tail.headD [] = prT q (l[1]?.getD zPT) := by
  cases l with
  | nil => exact (prT_z q hq).symm
  | cons t l => exact headD_get q hq l
theorem get_or (l : List PT) (i : Nat) : l[i]?.getD zPT ∈ l ∨ l[i]?.getD zPT = zPT := by
  cases hl : l[i]? with
  | none => exact .inr rfl
  | some t => exact .inl (List.mem_of_getElem? hl)

set_option maxHeartbeats 4000000 in
theorem ty_mark (k : Nat) (n : Bs) (ns : List Bs) (l : List PT) (HT : k = 5 ∨ k = 6 ∨ k = 7 → ∀ t, (t ∈ l ∨ t = zPT) → TyOk t) (q : Nat) (hm : lvlT k < q) (A : Nat → Prop) (cs : List Value) :
    Prt 51 (fun b => #[.pointer (some ⟨b, 0, none⟩), .agg cs.toArray, .int .i64 (q : Nat)]) (40 :: (bodyT k n ns (l.map (prT 0)) (l.map (prT 1)) (l.map (prT 2)) ++ [41])) (fun w => IsCs A w (encT 26 (.mk k n ns l)) cs) := by
  intro B b bs w hP hC hlen
  obtain ⟨body, hbody⟩ : ∃ body, body = bodyT k n ns (l.map (prT 0)) (l.map (prT 1)) (l.map (prT 2)) := ⟨_, rfl⟩
  rw [← hbody] at hlen ⊢
  obtain ⟨a2, c2, a3, c3, rfl, k2, k3⟩ := cells_T2 hC
  have HBODY := Lib.hid hbody
  have HC := Lib.hid hC
  have K3 := Lib.hid k3
  have HP := Lib.hid hP
  have HTT := Lib.hid HT
  have HLEN := Lib.hid hlen
  obtain ⟨W1, hW1⟩ : ∃ W1, w.alloc (.cells #[.int .i64 (k : Nat), .string ⟨n.toArray⟩, .slice a2 ns.length c2, .slice a3 l.length c3] 26) = W1 := ⟨_, rfl⟩
  have hA1 : W1.heap[w.heap.size]? = some (.cells #[.int .i64 (k : Nat), .string ⟨n.toArray⟩, .slice a2 ns.length c2, .slice a3 l.length c3] 26 (0, 0)) := by rw [← hW1]; exact heap_alloc_new w _
  have hP1 : Pst B W1 b bs := by rw [← hW1]; exact hP.alloc _
  have hF1 : Fb B b w W1 := by rw [← hW1]; exact (Fb.refl B b w).alloc hP.hi _
  obtain ⟨⟨q0, q1, q2, q3⟩, -⟩ := fou_of (t := 26) hA1
  have HA1 := Lib.hid hA1
  have HP1 := Lib.hid hP1
  have HF1 := Lib.hid hF1
  have HNB : Hid (∀ W : World, b < W.heap.size → ∀ e : some w.heap.size = some b, False) := by
    intro W _ e
    have := HP.out.lt
    have := Option.some.inj e
    omega
  have HLV := Lib.hid (level_any k ⟨n.toArray⟩ a2 a3 ns.length c2 l.length c3 W1)
  have m1 : decide ((lvlT k : Int) < (q : Int)) = true := by simp only [decide_eq_true_eq]; omega
  have m2 : decide (lvlT k < q) = true := by simp only [decide_eq_true_eq]; omega
  obtain ⟨lv, hlv⟩ : ∃ lv, lv = lvlT k := ⟨_, rfl⟩
  rw [← hlv] at HLV m1 m2
  clear hC k2 k3 hA1 hP1 hF1 hP hlen hbody hm hlv HT
  go_enter_defers Tryz.func51, Tryz.ntmps51
  go_upto_region 1 with fail
  clear hW1
  go_wp2_with fail
  refine HLV.out.mono ?_
  rintro e W2 ⟨rfl, b2⟩
  have P2 := Lib.hid (HP1.out.below b2)
  have F2 := Lib.hid (HF1.out.then_below b2 HP1.out)
  have hA2 := (Fb.of_below HP1.out.hi b2 : Fb B b W1 W2).2 _ _ HA1.out (fun e => HNB.out W1 HP1.out.lt e) (fun c fz e => by cases e)
  have HA2 := Lib.hid hA2
  have HS2 := Lib.hid (say1 P2.out [40] (by have := HLEN.out; simp only [List.length_cons, List.length_append, List.length_nil] at this ⊢; omega))
  clear b2 HLV q0 q1 q2 q3 hA2
  go_wp2_with fail
  refine HS2.out.mono ?_
  rintro e W3 ⟨rfl, f3, p3⟩
  have P3 := Lib.hid p3
  have F3 := Lib.hid (F2.out.trans f3)
  have HA3 := Lib.hid (f3.2 _ _ HA2.out (fun e => HNB.out W2 P2.out.lt e) (fun c fz e => by cases e))
  clear f3 p3 HS2
  go_upto_region 4 with fail
  obtain ⟨V, hV⟩ : ∃ V, W3.alloc (.cells #[.string ⟨#[41]⟩] 9) = V := ⟨_, rfl⟩
  rw [hV]
  have HPC : Hid (Pcsat V W3.heap.size [[41]]) := by rw [← hV]; exact pcs_new W3 [[41]]
  obtain ⟨b0, hb0⟩ : ∃ b0, b0 = bs ++ [40] := ⟨_, rfl⟩
  have PV : Hid (Pst B V b b0) := by rw [← hV, hb0]; exact P3.out.alloc _
  have FV : Hid (Fb B b w V) := by rw [← hV]; exact F3.out.alloc HP.out.hi _
  have hAV : V.heap[w.heap.size]? = some (.cells #[.int .i64 (k : Nat), .string ⟨n.toArray⟩, .slice a2 ns.length c2, .slice a3 l.length c3] 26 (0, 0)) := by rw [← hV]; exact blk_alloc HA3.out _
  obtain ⟨gd, hgd⟩ : ∃ gd, gd = W3.heap.size := ⟨_, rfl⟩
  rw [← hgd] at HPC ⊢
  have LB : Hid (b0.length + body.length + 1 ≤ 140737488355328) := by have := HLEN.out; rw [hb0]; show _ ≤ _; simp only [List.length_cons, List.length_append, List.length_nil] at this ⊢; omega
  have HB0 := Lib.hid hb0
  clear hV hgd hb0
  obtain ⟨⟨r0, r1, r2, r3⟩, -⟩ := fou_of (t := 26) hAV
  have HAV := Lib.hid hAV
  have HKV := Lib.hid (IsC.fb HP.out FV.out _ _ (by simp [nb, nb_Ts]) K3.out)
  have HCV := Lib.hid (IsCs.fb HP.out FV.out _ _ (nb_T _) HC.out)
  clear hAV
  by_cases h1 : k = 1
  · subst h1
    have hb : body = [105, 110, 116] := HBODY.out
    have HS := Lib.hid (say1 PV.out [105, 110, 116] (by have := LB.out; rw [hb] at this; omega))
    rw [← hb] at HS
    have HBB := Lib.hid hb
    clear hb
    go_wp2_with fail
    first | rw [← HBB.out] | skip
    refine HS.out.mono ?_
    rintro e X ⟨rfl, fx, px⟩
    have PX := Lib.hid px
    have GX := Lib.hid fx
    clear fx px HS
    go_wp2_with fail
    refine leaves_cons (f := 77) (args := #[.pointer (some ⟨b, 0, none⟩), .slice (some ⟨gd, 0, none⟩) 1 1]) (by simp) (by simp [go_sem]) ?_
    refine (say_def PX.out [[41]] gd 1 (HPC.out.fb (HPC.out.ne PV.out) GX.out) (by have := LB.out; simp only [List.length_append, List.length_cons, List.length_nil, List.flatten_cons, List.flatten_nil] at this ⊢; omega) (by simp)).mono ?_
    rintro e u w9 ⟨rfl, rfl, f9, p9⟩
    refine ⟨.tuple #[], results_none Tryz.results51 _ _ _, rfl, (FV.out.trans GX.out).trans f9, ?_⟩
    rw [HB0.out] at p9
    simpa using p9
  by_cases h2 : k = 2
  · subst h2
    have hb : body = [98, 111, 111, 108] := HBODY.out
    have HS := Lib.hid (say1 PV.out [98, 111, 111, 108] (by have := LB.out; rw [hb] at this; omega))
    rw [← hb] at HS
    have HBB := Lib.hid hb
    clear hb
    go_wp2_with fail
    first | rw [← HBB.out] | skip
    refine HS.out.mono ?_
    rintro e X ⟨rfl, fx, px⟩
    have PX := Lib.hid px
    have GX := Lib.hid fx
    clear fx px HS
    go_wp2_with fail
    refine leaves_cons (f := 77) (args := #[.pointer (some ⟨b, 0, none⟩), .slice (some ⟨gd, 0, none⟩) 1 1]) (by simp) (by simp [go_sem]) ?_
    refine (say_def PX.out [[41]] gd 1 (HPC.out.fb (HPC.out.ne PV.out) GX.out) (by have := LB.out; simp only [List.length_append, List.length_cons, List.length_nil, List.flatten_cons, List.flatten_nil] at this ⊢; omega) (by simp)).mono ?_
    rintro e u w9 ⟨rfl, rfl, f9, p9⟩
    refine ⟨.tuple #[], results_none Tryz.results51 _ _ _, rfl, (FV.out.trans GX.out).trans f9, ?_⟩
    rw [HB0.out] at p9
    simpa using p9
  by_cases h3 : k = 3
  · subst h3
    have hb : body = [116, 101, 120, 116] := HBODY.out
    have HS := Lib.hid (say1 PV.out [116, 101, 120, 116] (by have := LB.out; rw [hb] at this; omega))
    rw [← hb] at HS
    have HBB := Lib.hid hb
    clear hb
    go_wp2_with fail
    first | rw [← HBB.out] | skip
    refine HS.out.mono ?_
    rintro e X ⟨rfl, fx, px⟩
    have PX := Lib.hid px
    have GX := Lib.hid fx
    clear fx px HS
    go_wp2_with fail
    refine leaves_cons (f := 77) (args := #[.pointer (some ⟨b, 0, none⟩), .slice (some ⟨gd, 0, none⟩) 1 1]) (by simp) (by simp [go_sem]) ?_
    refine (say_def PX.out [[41]] gd 1 (HPC.out.fb (HPC.out.ne PV.out) GX.out) (by have := LB.out; simp only [List.length_append, List.length_cons, List.length_nil, List.flatten_cons, List.flatten_nil] at this ⊢; omega) (by simp)).mono ?_
    rintro e u w9 ⟨rfl, rfl, f9, p9⟩
    refine ⟨.tuple #[], results_none Tryz.results51 _ _ _, rfl, (FV.out.trans GX.out).trans f9, ?_⟩
    rw [HB0.out] at p9
    simpa using p9
  by_cases h4 : k = 4
  · subst h4
    have hb : body = [63] := HBODY.out
    have HS := Lib.hid (say1 PV.out [63] (by have := LB.out; rw [hb] at this; omega))
    rw [← hb] at HS
    have HBB := Lib.hid hb
    clear hb
    go_wp2_with fail
    first | rw [← HBB.out] | skip
    refine HS.out.mono ?_
    rintro e X ⟨rfl, fx, px⟩
    have PX := Lib.hid px
    have GX := Lib.hid fx
    clear fx px HS
    go_wp2_with fail
    refine leaves_cons (f := 77) (args := #[.pointer (some ⟨b, 0, none⟩), .slice (some ⟨gd, 0, none⟩) 1 1]) (by simp) (by simp [go_sem]) ?_
    refine (say_def PX.out [[41]] gd 1 (HPC.out.fb (HPC.out.ne PV.out) GX.out) (by have := LB.out; simp only [List.length_append, List.length_cons, List.length_nil, List.flatten_cons, List.flatten_nil] at this ⊢; omega) (by simp)).mono ?_
    rintro e u w9 ⟨rfl, rfl, f9, p9⟩
    refine ⟨.tuple #[], results_none Tryz.results51 _ _ _, rfl, (FV.out.trans GX.out).trans f9, ?_⟩
    rw [HB0.out] at p9
    simpa using p9
  by_cases h8 : k = 8
  · subst h8
    have hb : body = n := HBODY.out
    have HS := Lib.hid (say1 PV.out n (by have := LB.out; rw [hb] at this; omega))
    rw [← hb] at HS
    have HBB := Lib.hid hb
    clear hb
    go_wp2_with fail
    first | rw [← HBB.out] | skip
    refine HS.out.mono ?_
    rintro e X ⟨rfl, fx, px⟩
    have PX := Lib.hid px
    have GX := Lib.hid fx
    clear fx px HS
    go_wp2_with fail
    refine leaves_cons (f := 77) (args := #[.pointer (some ⟨b, 0, none⟩), .slice (some ⟨gd, 0, none⟩) 1 1]) (by simp) (by simp [go_sem]) ?_
    refine (say_def PX.out [[41]] gd 1 (HPC.out.fb (HPC.out.ne PV.out) GX.out) (by have := LB.out; simp only [List.length_append, List.length_cons, List.length_nil, List.flatten_cons, List.flatten_nil] at this ⊢; omega) (by simp)).mono ?_
    rintro e u w9 ⟨rfl, rfl, f9, p9⟩
    refine ⟨.tuple #[], results_none Tryz.results51 _ _ _, rfl, (FV.out.trans GX.out).trans f9, ?_⟩
    rw [HB0.out] at p9
    simpa using p9
  by_cases h5 : k = 5
  · subst h5
    have HS : Hid (Calls Tryz.prog 81 #[.pointer (some ⟨b, 0, none⟩), .agg #[.int .i64 ((5 : Nat) : Int), .string ⟨n.toArray⟩, .slice a2 ns.length c2, .slice a3 l.length c3]] V (fun e w' => e = .returned (.tuple #[]) ∧ Fb B b V w' ∧ Pst B w' b (b0 ++ body))) := by
      have hb := HBODY.out
      rw [hb]
      exact recT_any 5 n ns l (HTT.out (by omega)) A _ B b b0 V PV.out HCV.out (by have := LB.out; rw [hb] at this; exact Nat.le_of_add_right_le this)
    go_wp2_with fail
    refine HS.out.mono ?_
    rintro e X ⟨rfl, fx, px⟩
    have PX := Lib.hid px
    have GX := Lib.hid fx
    clear fx px HS
    go_wp2_with fail
    refine leaves_cons (f := 77) (args := #[.pointer (some ⟨b, 0, none⟩), .slice (some ⟨gd, 0, none⟩) 1 1]) (by simp) (by simp [go_sem]) ?_
    refine (say_def PX.out [[41]] gd 1 (HPC.out.fb (HPC.out.ne PV.out) GX.out) (by have := LB.out; simp only [List.length_append, List.length_cons, List.length_nil, List.flatten_cons, List.flatten_nil] at this ⊢; omega) (by simp)).mono ?_
    rintro e u w9 ⟨rfl, rfl, f9, p9⟩
    refine ⟨.tuple #[], results_none Tryz.results51 _ _ _, rfl, (FV.out.trans GX.out).trans f9, ?_⟩
    rw [HB0.out] at p9
    simpa using p9
  by_cases h6 : k = 6
  · subst h6
    obtain ⟨t0, ht0⟩ : ∃ t0, t0 = l[0]?.getD zPT := ⟨_, rfl⟩
    obtain ⟨t1, ht1⟩ : ∃ t1, t1 = l[1]?.getD zPT := ⟨_, rfl⟩
    have hb : body = prT 2 t0 ++ ([32, 45, 62, 32] ++ prT 1 t1) := by
      rw [ht0, ht1, ← headD_get 2 (by decide), ← tailD_get 1 (by decide)]; exact HBODY.out
    have T0 := Lib.hid (HTT.out (by omega) t0 (by rw [ht0]; exact get_or l 0))
    have T1 := Lib.hid (HTT.out (by omega) t1 (by rw [ht1]; exact get_or l 1))
    have LB6 : Hid (b0.length + ((prT 2 t0).length + (4 + (prT 1 t1).length)) ≤ 140737488355328) := by have := LB.out; rw [hb] at this; show _ ≤ _; simp only [List.length_append, List.length_cons, List.length_nil] at this ⊢; omega
    have HBB := Lib.hid hb
    have HQ := Lib.hid (partT_any l 0 A V _ HKV.out (by decide))
    rw [← ht0] at HQ
    have HT1 := Lib.hid ht1
    clear hb ht0 ht1
    go_wp2_with fail
    refine HQ.out.mono ?_
    rintro e V1 ⟨cs1, rfl, b1, i1⟩
    have PV1 := Lib.hid (PV.out.below b1)
    have G1 := Lib.hid (Fb.of_below PV.out.hi b1 : Fb B b V V1)
    have H51 : Hid (Calls Tryz.prog 51 #[.pointer (some ⟨b, 0, none⟩), .agg cs1.toArray, .int .i64 2] V1 fun e w' => e = .returned (.tuple #[]) ∧ Fb B b V1 w' ∧ Pst B w' b (b0 ++ prT 2 t0)) :=
      T0.out 2 (by decide) A cs1 B b _ V1 PV1.out i1 (by have := LB6.out; omega)
    clear b1 i1 HQ
    go_wp2_with fail
    refine H51.out.mono ?_
    rintro e V2 ⟨rfl, f2, p2⟩
    have PV2 := Lib.hid p2
    have G2 := Lib.hid (G1.out.trans f2)
    have HS := Lib.hid (say1 p2 [32, 45, 62, 32] (by have := LB6.out; simp only [List.length_append, List.length_cons, List.length_nil] at this ⊢; omega))
    clear f2 p2 H51
    go_wp2_with fail
    refine HS.out.mono ?_
    rintro e V3 ⟨rfl, f3, p3⟩
    have PV3 := Lib.hid p3
    have G3 := Lib.hid (G2.out.trans f3)
    have HA3 := G3.out.2 _ _ HAV.out (fun e => HNB.out V PV.out.lt e) (fun c fz e => by cases e)
    obtain ⟨⟨x0, x1, x2, x3⟩, -⟩ := fou_of (t := 26) HA3
    have HQ := Lib.hid (partT_any l 1 A V3 _ (IsC.fb PV.out G3.out _ _ (by simp [nb, nb_Ts]) HKV.out) (by decide))
    rw [← HT1.out] at HQ
    clear f3 p3 HS HA3
    go_wp2_with fail
    refine HQ.out.mono ?_
    rintro e V4 ⟨cs4, rfl, b4, i4⟩
    have PV4 := Lib.hid (PV3.out.below b4)
    have G4 := Lib.hid (G3.out.then_below b4 PV3.out)
    have H51 : Hid (Calls Tryz.prog 51 #[.pointer (some ⟨b, 0, none⟩), .agg cs4.toArray, .int .i64 1] V4 fun e w' => e = .returned (.tuple #[]) ∧ Fb B b V4 w' ∧ Pst B w' b (((b0 ++ prT 2 t0) ++ [32, 45, 62, 32]) ++ prT 1 t1)) :=
      T1.out 1 (by decide) A cs4 B b _ V4 PV4.out i4 (by have := LB6.out; simp only [List.length_append, List.length_cons, List.length_nil] at this ⊢; omega)
    clear b4 i4 HQ
    go_wp2_with fail
    refine H51.out.mono ?_
    rintro e X ⟨rfl, fx, px⟩
    have PX : Hid (Pst B X b (b0 ++ body)) := by rw [HBB.out]; exact Lib.hid (by simpa only [List.append_assoc] using px)
    have GX := Lib.hid (G4.out.trans fx)
    clear fx px H51
    go_wp2_with fail
    refine leaves_cons (f := 77) (args := #[.pointer (some ⟨b, 0, none⟩), .slice (some ⟨gd, 0, none⟩) 1 1]) (by simp) (by simp [go_sem]) ?_
    refine (say_def PX.out [[41]] gd 1 (HPC.out.fb (HPC.out.ne PV.out) GX.out) (by have := LB.out; simp only [List.length_append, List.length_cons, List.length_nil, List.flatten_cons, List.flatten_nil] at this ⊢; omega) (by simp)).mono ?_
    rintro e u w9 ⟨rfl, rfl, f9, p9⟩
    refine ⟨.tuple #[], results_none Tryz.results51 _ _ _, rfl, (FV.out.trans GX.out).trans f9, ?_⟩
    rw [HB0.out] at p9
    simpa using p9
  by_cases h7 : k = 7
  · subst h7
    have HS : Hid (Calls Tryz.prog 82 #[.pointer (some ⟨b, 0, none⟩), .agg #[.int .i64 ((7 : Nat) : Int), .string ⟨n.toArray⟩, .slice a2 ns.length c2, .slice a3 l.length c3]] V (fun e w' => e = .returned (.tuple #[]) ∧ Fb B b V w' ∧ Pst B w' b (b0 ++ body))) := by
      have hb := HBODY.out
      rw [hb]
      exact uniT_any 7 n ns l (fun t ht => HTT.out (by omega) t (.inl ht)) A _ B b b0 V PV.out HCV.out (by have := LB.out; rw [hb] at this; exact Nat.le_of_add_right_le this)
    go_wp2_with fail
    refine HS.out.mono ?_
    rintro e X ⟨rfl, fx, px⟩
    have PX := Lib.hid px
    have GX := Lib.hid fx
    clear fx px HS
    go_wp2_with fail
    refine leaves_cons (f := 77) (args := #[.pointer (some ⟨b, 0, none⟩), .slice (some ⟨gd, 0, none⟩) 1 1]) (by simp) (by simp [go_sem]) ?_
    refine (say_def PX.out [[41]] gd 1 (HPC.out.fb (HPC.out.ne PV.out) GX.out) (by have := LB.out; simp only [List.length_append, List.length_cons, List.length_nil, List.flatten_cons, List.flatten_nil] at this ⊢; omega) (by simp)).mono ?_
    rintro e u w9 ⟨rfl, rfl, f9, p9⟩
    refine ⟨.tuple #[], results_none Tryz.results51 _ _ _, rfl, (FV.out.trans GX.out).trans f9, ?_⟩
    rw [HB0.out] at p9
    simpa using p9
  · have hb : body = [] := by have := HBODY.out; rw [this]; unfold bodyT; simp only [h1, h2, h3, h4, h8, h5, h6, h7, if_false]
    have e1 : ((k : Int) == 1) = false := by simp only [beq_eq_false_iff_ne, ne_eq]; omega
    have e2 : ((k : Int) == 2) = false := by simp only [beq_eq_false_iff_ne, ne_eq]; omega
    have e3 : ((k : Int) == 3) = false := by simp only [beq_eq_false_iff_ne, ne_eq]; omega
    have e4 : ((k : Int) == 4) = false := by simp only [beq_eq_false_iff_ne, ne_eq]; omega
    have e8 : ((k : Int) == 8) = false := by simp only [beq_eq_false_iff_ne, ne_eq]; omega
    have e5 : ((k : Int) == 5) = false := by simp only [beq_eq_false_iff_ne, ne_eq]; omega
    have e6 : ((k : Int) == 6) = false := by simp only [beq_eq_false_iff_ne, ne_eq]; omega
    have e7 : ((k : Int) == 7) = false := by simp only [beq_eq_false_iff_ne, ne_eq]; omega
    have PX : Hid (Pst B V b (b0 ++ body)) := by rw [hb, List.append_nil]; exact PV.out
    have GX := Lib.hid (Fb.refl B b V)
    clear hb
    go_wp2_with fail
    refine leaves_cons (f := 77) (args := #[.pointer (some ⟨b, 0, none⟩), .slice (some ⟨gd, 0, none⟩) 1 1]) (by simp) (by simp [go_sem]) ?_
    refine (say_def PX.out [[41]] gd 1 (HPC.out.fb (HPC.out.ne PV.out) GX.out) (by have := LB.out; simp only [List.length_append, List.length_cons, List.length_nil, List.flatten_cons, List.flatten_nil] at this ⊢; omega) (by simp)).mono ?_
    rintro e u w9 ⟨rfl, rfl, f9, p9⟩
    refine ⟨.tuple #[], results_none Tryz.results51 _ _ _, rfl, (FV.out.trans GX.out).trans f9, ?_⟩
    rw [HB0.out] at p9
    simpa using p9

set_option maxHeartbeats 4000000 in
theorem ty_plain (k : Nat) (n : Bs) (ns : List Bs) (l : List PT) (HT : k = 5 ∨ k = 6 ∨ k = 7 → ∀ t, (t ∈ l ∨ t = zPT) → TyOk t) (q : Nat) (hm : ¬ lvlT k < q) (A : Nat → Prop) (cs : List Value) :
    Prt 51 (fun b => #[.pointer (some ⟨b, 0, none⟩), .agg cs.toArray, .int .i64 (q : Nat)]) (bodyT k n ns (l.map (prT 0)) (l.map (prT 1)) (l.map (prT 2))) (fun w => IsCs A w (encT 26 (.mk k n ns l)) cs) := by
  intro B b bs w hP hC hlen
  obtain ⟨body, hbody⟩ : ∃ body, body = bodyT k n ns (l.map (prT 0)) (l.map (prT 1)) (l.map (prT 2)) := ⟨_, rfl⟩
  rw [← hbody] at hlen ⊢
  obtain ⟨a2, c2, a3, c3, rfl, k2, k3⟩ := cells_T2 hC
  have HBODY := Lib.hid hbody
  have HC := Lib.hid hC
  have K3 := Lib.hid k3
  have HP := Lib.hid hP
  have HTT := Lib.hid HT
  have HLEN := Lib.hid hlen
  obtain ⟨W1, hW1⟩ : ∃ W1, w.alloc (.cells #[.int .i64 (k : Nat), .string ⟨n.toArray⟩, .slice a2 ns.length c2, .slice a3 l.length c3] 26) = W1 := ⟨_, rfl⟩
  have hA1 : W1.heap[w.heap.size]? = some (.cells #[.int .i64 (k : Nat), .string ⟨n.toArray⟩, .slice a2 ns.length c2, .slice a3 l.length c3] 26 (0, 0)) := by rw [← hW1]; exact heap_alloc_new w _
  have hP1 : Pst B W1 b bs := by rw [← hW1]; exact hP.alloc _
  have hF1 : Fb B b w W1 := by rw [← hW1]; exact (Fb.refl B b w).alloc hP.hi _
  obtain ⟨⟨q0, q1, q2, q3⟩, -⟩ := fou_of (t := 26) hA1
  have HA1 := Lib.hid hA1
  have HP1 := Lib.hid hP1
  have HF1 := Lib.hid hF1
  have HNB : Hid (∀ W : World, b < W.heap.size → ∀ e : some w.heap.size = some b, False) := by
    intro W _ e
    have := HP.out.lt
    have := Option.some.inj e
    omega
  have HLV := Lib.hid (level_any k ⟨n.toArray⟩ a2 a3 ns.length c2 l.length c3 W1)
  have m1 : decide ((lvlT k : Int) < (q : Int)) = false := by simp only [decide_eq_false_iff_not]; omega
  have m2 : decide (lvlT k < q) = false := by simp only [decide_eq_false_iff_not]; omega
  obtain ⟨lv, hlv⟩ : ∃ lv, lv = lvlT k := ⟨_, rfl⟩
  rw [← hlv] at HLV m1 m2
  clear hC k2 k3 hA1 hP1 hF1 hP hlen hbody hm hlv HT
  go_enter_defers Tryz.func51, Tryz.ntmps51
  go_upto_region 1 with fail
  clear hW1
  go_wp2_with fail
  refine HLV.out.mono ?_
  rintro e W2 ⟨rfl, b2⟩
  have P2 := Lib.hid (HP1.out.below b2)
  have F2 := Lib.hid (HF1.out.then_below b2 HP1.out)
  have hA2 := (Fb.of_below HP1.out.hi b2 : Fb B b W1 W2).2 _ _ HA1.out (fun e => HNB.out W1 HP1.out.lt e) (fun c fz e => by cases e)
  have HA2 := Lib.hid hA2
  clear b2 HLV q0 q1 q2 q3
  go_upto_region 4 with fail
  obtain ⟨V, hV⟩ : ∃ V, V = W2 := ⟨_, rfl⟩
  rw [← hV]
  obtain ⟨b0, hb0⟩ : ∃ b0, b0 = bs := ⟨_, rfl⟩
  have PV : Hid (Pst B V b b0) := by rw [hV, hb0]; exact P2.out
  have FV : Hid (Fb B b w V) := by rw [hV]; exact F2.out
  have hAV : V.heap[w.heap.size]? = some (.cells #[.int .i64 (k : Nat), .string ⟨n.toArray⟩, .slice a2 ns.length c2, .slice a3 l.length c3] 26 (0, 0)) := by rw [hV]; exact HA2.out
  have LB : Hid (b0.length + body.length + 0 ≤ 140737488355328) := by have := HLEN.out; rw [hb0]; exact this
  have HB0 := Lib.hid hb0
  clear hV hb0 hA2
  obtain ⟨⟨r0, r1, r2, r3⟩, -⟩ := fou_of (t := 26) hAV
  have HAV := Lib.hid hAV
  have HKV := Lib.hid (IsC.fb HP.out FV.out _ _ (by simp [nb, nb_Ts]) K3.out)
  have HCV := Lib.hid (IsCs.fb HP.out FV.out _ _ (nb_T _) HC.out)
  clear hAV
  by_cases h1 : k = 1
  · subst h1
    have hb : body = [105, 110, 116] := HBODY.out
    have HS := Lib.hid (say1 PV.out [105, 110, 116] (by have := LB.out; rw [hb] at this; omega))
    rw [← hb] at HS
    have HBB := Lib.hid hb
    clear hb
    go_wp2_with fail
    first | rw [← HBB.out] | skip
    refine HS.out.mono ?_
    rintro e X ⟨rfl, fx, px⟩
    have PX := Lib.hid px
    have GX := Lib.hid fx
    clear fx px HS
    go_wp2_with fail
    refine ⟨.tuple #[], results_none Tryz.results51 _ _ _, rfl, FV.out.trans GX.out, ?_⟩
    have := PX.out
    rw [HB0.out] at this
    exact this
  by_cases h2 : k = 2
  · subst h2
    have hb : body = [98, 111, 111, 108] := HBODY.out
    have HS := Lib.hid (say1 PV.out [98, 111, 111, 108] (by have := LB.out; rw [hb] at this; omega))
    rw [← hb] at HS
    have HBB := Lib.hid hb
    clear hb
    go_wp2_with fail
    first | rw [← HBB.out] | skip
    refine HS.out.mono ?_
    rintro e X ⟨rfl, fx, px⟩
    have PX := Lib.hid px
    have GX := Lib.hid fx
    clear fx px HS
    go_wp2_with fail
    refine ⟨.tuple #[], results_none Tryz.results51 _ _ _, rfl, FV.out.trans GX.out, ?_⟩
    have := PX.out
    rw [HB0.out] at this
    exact this
  by_cases h3 : k = 3
  · subst h3
    have hb : body = [116, 101, 120, 116] := HBODY.out
    have HS := Lib.hid (say1 PV.out [116, 101, 120, 116] (by have := LB.out; rw [hb] at this; omega))
    rw [← hb] at HS
    have HBB := Lib.hid hb
    clear hb
    go_wp2_with fail
    first | rw [← HBB.out] | skip
    refine HS.out.mono ?_
    rintro e X ⟨rfl, fx, px⟩
    have PX := Lib.hid px
    have GX := Lib.hid fx
    clear fx px HS
    go_wp2_with fail
    refine ⟨.tuple #[], results_none Tryz.results51 _ _ _, rfl, FV.out.trans GX.out, ?_⟩
    have := PX.out
    rw [HB0.out] at this
    exact this
  by_cases h4 : k = 4
  · subst h4
    have hb : body = [63] := HBODY.out
    have HS := Lib.hid (say1 PV.out [63] (by have := LB.out; rw [hb] at this; omega))
    rw [← hb] at HS
    have HBB := Lib.hid hb
    clear hb
    go_wp2_with fail
    first | rw [← HBB.out] | skip
    refine HS.out.mono ?_
    rintro e X ⟨rfl, fx, px⟩
    have PX := Lib.hid px
    have GX := Lib.hid fx
    clear fx px HS
    go_wp2_with fail
    refine ⟨.tuple #[], results_none Tryz.results51 _ _ _, rfl, FV.out.trans GX.out, ?_⟩
    have := PX.out
    rw [HB0.out] at this
    exact this
  by_cases h8 : k = 8
  · subst h8
    have hb : body = n := HBODY.out
    have HS := Lib.hid (say1 PV.out n (by have := LB.out; rw [hb] at this; omega))
    rw [← hb] at HS
    have HBB := Lib.hid hb
    clear hb
    go_wp2_with fail
    first | rw [← HBB.out] | skip
    refine HS.out.mono ?_
    rintro e X ⟨rfl, fx, px⟩
    have PX := Lib.hid px
    have GX := Lib.hid fx
    clear fx px HS
    go_wp2_with fail
    refine ⟨.tuple #[], results_none Tryz.results51 _ _ _, rfl, FV.out.trans GX.out, ?_⟩
    have := PX.out
    rw [HB0.out] at this
    exact this
  by_cases h5 : k = 5
  · subst h5
    have HS : Hid (Calls Tryz.prog 81 #[.pointer (some ⟨b, 0, none⟩), .agg #[.int .i64 ((5 : Nat) : Int), .string ⟨n.toArray⟩, .slice a2 ns.length c2, .slice a3 l.length c3]] V (fun e w' => e = .returned (.tuple #[]) ∧ Fb B b V w' ∧ Pst B w' b (b0 ++ body))) := by
      have hb := HBODY.out
      rw [hb]
      exact recT_any 5 n ns l (HTT.out (by omega)) A _ B b b0 V PV.out HCV.out (by have := LB.out; rw [hb] at this; exact Nat.le_of_add_right_le this)
    go_wp2_with fail
    refine HS.out.mono ?_
    rintro e X ⟨rfl, fx, px⟩
    have PX := Lib.hid px
    have GX := Lib.hid fx
    clear fx px HS
    go_wp2_with fail
    refine ⟨.tuple #[], results_none Tryz.results51 _ _ _, rfl, FV.out.trans GX.out, ?_⟩
    have := PX.out
    rw [HB0.out] at this
    exact this
  by_cases h6 : k = 6
  · subst h6
    obtain ⟨t0, ht0⟩ : ∃ t0, t0 = l[0]?.getD zPT := ⟨_, rfl⟩
    obtain ⟨t1, ht1⟩ : ∃ t1, t1 = l[1]?.getD zPT := ⟨_, rfl⟩
    have hb : body = prT 2 t0 ++ ([32, 45, 62, 32] ++ prT 1 t1) := by
      rw [ht0, ht1, ← headD_get 2 (by decide), ← tailD_get 1 (by decide)]; exact HBODY.out
    have T0 := Lib.hid (HTT.out (by omega) t0 (by rw [ht0]; exact get_or l 0))
    have T1 := Lib.hid (HTT.out (by omega) t1 (by rw [ht1]; exact get_or l 1))
    have LB6 : Hid (b0.length + ((prT 2 t0).length + (4 + (prT 1 t1).length)) ≤ 140737488355328) := by have := LB.out; rw [hb] at this; show _ ≤ _; simp only [List.length_append, List.length_cons, List.length_nil] at this ⊢; omega
    have HBB := Lib.hid hb
    have HQ := Lib.hid (partT_any l 0 A V _ HKV.out (by decide))
    rw [← ht0] at HQ
    have HT1 := Lib.hid ht1
    clear hb ht0 ht1
    go_wp2_with fail
    refine HQ.out.mono ?_
    rintro e V1 ⟨cs1, rfl, b1, i1⟩
    have PV1 := Lib.hid (PV.out.below b1)
    have G1 := Lib.hid (Fb.of_below PV.out.hi b1 : Fb B b V V1)
    have H51 : Hid (Calls Tryz.prog 51 #[.pointer (some ⟨b, 0, none⟩), .agg cs1.toArray, .int .i64 2] V1 fun e w' => e = .returned (.tuple #[]) ∧ Fb B b V1 w' ∧ Pst B w' b (b0 ++ prT 2 t0)) :=
      T0.out 2 (by decide) A cs1 B b _ V1 PV1.out i1 (by have := LB6.out; omega)
    clear b1 i1 HQ
    go_wp2_with fail
    refine H51.out.mono ?_
    rintro e V2 ⟨rfl, f2, p2⟩
    have PV2 := Lib.hid p2
    have G2 := Lib.hid (G1.out.trans f2)
    have HS := Lib.hid (say1 p2 [32, 45, 62, 32] (by have := LB6.out; simp only [List.length_append, List.length_cons, List.length_nil] at this ⊢; omega))
    clear f2 p2 H51
    go_wp2_with fail
    refine HS.out.mono ?_
    rintro e V3 ⟨rfl, f3, p3⟩
    have PV3 := Lib.hid p3
    have G3 := Lib.hid (G2.out.trans f3)
    have HA3 := G3.out.2 _ _ HAV.out (fun e => HNB.out V PV.out.lt e) (fun c fz e => by cases e)
    obtain ⟨⟨x0, x1, x2, x3⟩, -⟩ := fou_of (t := 26) HA3
    have HQ := Lib.hid (partT_any l 1 A V3 _ (IsC.fb PV.out G3.out _ _ (by simp [nb, nb_Ts]) HKV.out) (by decide))
    rw [← HT1.out] at HQ
    clear f3 p3 HS HA3
    go_wp2_with fail
    refine HQ.out.mono ?_
    rintro e V4 ⟨cs4, rfl, b4, i4⟩
    have PV4 := Lib.hid (PV3.out.below b4)
    have G4 := Lib.hid (G3.out.then_below b4 PV3.out)
    have H51 : Hid (Calls Tryz.prog 51 #[.pointer (some ⟨b, 0, none⟩), .agg cs4.toArray, .int .i64 1] V4 fun e w' => e = .returned (.tuple #[]) ∧ Fb B b V4 w' ∧ Pst B w' b (((b0 ++ prT 2 t0) ++ [32, 45, 62, 32]) ++ prT 1 t1)) :=
      T1.out 1 (by decide) A cs4 B b _ V4 PV4.out i4 (by have := LB6.out; simp only [List.length_append, List.length_cons, List.length_nil] at this ⊢; omega)
    clear b4 i4 HQ
    go_wp2_with fail
    refine H51.out.mono ?_
    rintro e X ⟨rfl, fx, px⟩
    have PX : Hid (Pst B X b (b0 ++ body)) := by rw [HBB.out]; exact Lib.hid (by simpa only [List.append_assoc] using px)
    have GX := Lib.hid (G4.out.trans fx)
    clear fx px H51
    go_wp2_with fail
    refine ⟨.tuple #[], results_none Tryz.results51 _ _ _, rfl, FV.out.trans GX.out, ?_⟩
    have := PX.out
    rw [HB0.out] at this
    exact this
  by_cases h7 : k = 7
  · subst h7
    have HS : Hid (Calls Tryz.prog 82 #[.pointer (some ⟨b, 0, none⟩), .agg #[.int .i64 ((7 : Nat) : Int), .string ⟨n.toArray⟩, .slice a2 ns.length c2, .slice a3 l.length c3]] V (fun e w' => e = .returned (.tuple #[]) ∧ Fb B b V w' ∧ Pst B w' b (b0 ++ body))) := by
      have hb := HBODY.out
      rw [hb]
      exact uniT_any 7 n ns l (fun t ht => HTT.out (by omega) t (.inl ht)) A _ B b b0 V PV.out HCV.out (by have := LB.out; rw [hb] at this; exact Nat.le_of_add_right_le this)
    go_wp2_with fail
    refine HS.out.mono ?_
    rintro e X ⟨rfl, fx, px⟩
    have PX := Lib.hid px
    have GX := Lib.hid fx
    clear fx px HS
    go_wp2_with fail
    refine ⟨.tuple #[], results_none Tryz.results51 _ _ _, rfl, FV.out.trans GX.out, ?_⟩
    have := PX.out
    rw [HB0.out] at this
    exact this
  · have hb : body = [] := by have := HBODY.out; rw [this]; unfold bodyT; simp only [h1, h2, h3, h4, h8, h5, h6, h7, if_false]
    have e1 : ((k : Int) == 1) = false := by simp only [beq_eq_false_iff_ne, ne_eq]; omega
    have e2 : ((k : Int) == 2) = false := by simp only [beq_eq_false_iff_ne, ne_eq]; omega
    have e3 : ((k : Int) == 3) = false := by simp only [beq_eq_false_iff_ne, ne_eq]; omega
    have e4 : ((k : Int) == 4) = false := by simp only [beq_eq_false_iff_ne, ne_eq]; omega
    have e8 : ((k : Int) == 8) = false := by simp only [beq_eq_false_iff_ne, ne_eq]; omega
    have e5 : ((k : Int) == 5) = false := by simp only [beq_eq_false_iff_ne, ne_eq]; omega
    have e6 : ((k : Int) == 6) = false := by simp only [beq_eq_false_iff_ne, ne_eq]; omega
    have e7 : ((k : Int) == 7) = false := by simp only [beq_eq_false_iff_ne, ne_eq]; omega
    have PX : Hid (Pst B V b (b0 ++ body)) := by rw [hb, List.append_nil]; exact PV.out
    have GX := Lib.hid (Fb.refl B b V)
    clear hb
    go_wp2_with fail
    refine ⟨.tuple #[], results_none Tryz.results51 _ _ _, rfl, FV.out.trans GX.out, ?_⟩
    have := PX.out
    rw [HB0.out] at this
    exact this

theorem ty_step (k : Nat) (n : Bs) (ns : List Bs) (l : List PT) (HT : k = 5 ∨ k = 6 ∨ k = 7 → ∀ t, (t ∈ l ∨ t = zPT) → TyOk t) : TyOk (.mk k n ns l) := by
  intro q hq A cs
  rw [prT_mk]
  by_cases hm : lvlT k < q
  · rw [markT, if_pos hm]; exact ty_mark k n ns l HT q hm A cs
  · rw [markT, if_neg hm]; exact ty_plain k n ns l HT q hm A cs
theorem ty_zero : TyOk zPT := ty_step 0 [] [] [] (by omega)
theorem memT_lt {l : List PT} {t : PT} (h : t ∈ l) : SizeOf.sizeOf t < SizeOf.sizeOf l := List.sizeOf_lt_of_mem h
theorem ty_any : ∀ t : PT, TyOk t
  | .mk k n ns l => ty_step k n ns l fun _ t ht => by
    rcases ht with ht | rfl
    · have := memT_lt ht
      exact ty_any t
    · exact ty_zero
termination_by t => SizeOf.sizeOf t
decreasing_by simp_wf; omega

end Go.Proofs.YthpoffklhpbdoaaGreatDoor

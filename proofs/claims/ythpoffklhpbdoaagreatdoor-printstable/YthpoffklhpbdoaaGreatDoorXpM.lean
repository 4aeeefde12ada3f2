/-
  The contract of what prints a record.
  The contract of what prints an expression, but for chains.
  Chains: fields taken and calls made in a row, as a list of links and what they are of. No walk.
  The contract of the iterator that goes along a slice of expressions from its end.
-/
import Derived.Test.YthpoffklhpbdoaaGreatDoorPex
import Derived.Test.YthpoffklhpbdoaaGreatDoorLxM
namespace Go.Proofs.YthpoffklhpbdoaaGreatDoor
variable {S Z : Nat}
set_option maxRecDepth 100000
open Go.RowKit

theorem prE_z2 (q : Nat) (h : q = 0 ∨ q = 2) : prE q zPE = [] := by
  rw [zPE, prE_mk]
  rcases h with rfl | rfl <;> simp [markE, lvlE, bodyE]
theorem map_getE (q : Nat) (hq : q = 0 ∨ q = 2) (l : List PE) (i : Nat) : (l.map (prE q))[i]?.getD [] = prE q (l[i]?.getD zPE) := by
  rw [List.getElem?_map]
  cases l[i]? with
  | none => exact (prE_z2 q hq).symm
  | some t => rfl

set_option maxHeartbeats 2000000 in
theorem recEp_any (k a : Nat) (n : Bs) (m : Nat) (ns : List Bs) (l : List PE) (ts : List PT) (HT : ∀ t, (t ∈ l ∨ t = zPE) → (prE 0 t).length < Z → ExOk S t) (hZ : List.length (123 :: (joinL [44, 32] (pairL [32, 61, 32] ns (l.map (prE 0))) ++ [125]) : Bs) ≤ Z) (A : Nat → Prop) (cs : List Value) :
    PrtE S 86 (fun b => #[.pointer (some ⟨b, 0, none⟩), .agg cs.toArray]) (123 :: (joinL [44, 32] (pairL [32, 61, 32] ns (l.map (prE 0))) ++ [125])) (fun B w => IsCs A w (encE 26 36 (.mk k a n m ns l ts)) cs ∧ Tab B w) := by
  intro B b bs w hP hD hlen
  obtain ⟨hC, hTab⟩ := hD
  have HTB := Lib.hid hTab
  obtain ⟨L, hL⟩ : ∃ L, L = pairL [32, 61, 32] ns (l.map (prE 0)) := ⟨_, rfl⟩
  rw [← hL] at hlen hZ ⊢
  have HZ := Lib.hid hZ
  have HL := Lib.hid hL
  have HLL := Lib.hid (show L.length = ns.length by rw [hL, pairL_length])
  have hgt : ns.length ≤ 140737488355329 := by
    have h1 := joinL_ge (s := [44, 32]) (by decide) L
    rw [← HLL.out]
    simp only [List.length_cons, List.length_append, List.length_nil] at hlen
    omega
  have HLEN := Lib.hid hlen
  obtain ⟨a2, c2, a3, c3, a6, c6, rfl, k2, k3, -⟩ := cells_E2 hC
  have K2 := Lib.hid k2
  have K3 := Lib.hid k3
  have HP := Lib.hid hP
  have HT := Lib.hid HT
  obtain ⟨W1, hW1⟩ : ∃ W1, w.alloc (.cells #[.int .i64 (k : Nat), .int .i64 (a : Nat), .string ⟨n.toArray⟩, .int .i64 (m : Nat), .slice a2 ns.length c2, .slice a3 l.length c3, .slice a6 ts.length c6] 36) = W1 := ⟨_, rfl⟩
  have hA1 : W1.heap[w.heap.size]? = some (.cells #[.int .i64 (k : Nat), .int .i64 (a : Nat), .string ⟨n.toArray⟩, .int .i64 (m : Nat), .slice a2 ns.length c2, .slice a3 l.length c3, .slice a6 ts.length c6] 36 (0, 0)) := by rw [← hW1]; exact heap_alloc_new w _
  have hP1 : Pst B W1 b bs := by rw [← hW1]; exact hP.alloc _
  have hF1 : Fb B b w W1 := by rw [← hW1]; exact (Fb.refl B b w).alloc hP.hi _
  have HA1 := Lib.hid hA1
  have HP1 := Lib.hid hP1
  have HF1 := Lib.hid hF1
  have HS1 := Lib.hid (say1 hP1 [123] (by simp only [List.length_cons, List.length_append, List.length_nil] at hlen ⊢; omega))
  clear hC hTab k2 k3 hA1 hP1 hF1 hP hlen hL hZ
  go_enter Tryz.func86, Tryz.ntmps86
  go_upto_region 1 with fail
  clear hW1
  go_wp2_with fail
  refine HS1.out.mono ?_
  rintro e W2 ⟨rfl, hF2, hP2⟩
  have HF2 := Lib.hid (HF1.out.trans hF2)
  have HP2 := Lib.hid hP2
  have hA2 := hF2.2 _ _ HA1.out (fun e => by have := HP.out.lt; have := Option.some.inj e; omega) (fun c fz e => by cases e)
  have HA2 := Lib.hid hA2
  obtain ⟨⟨q0, q1, q2, q3, q4, q5, q6⟩, -⟩ := sev_of (t := 36) hA2
  clear hF2 hP2 hA2 HS1
  go_wp2_with fail
  go_loopw [12] (fun s12 wr => ∃ i : Nat, s12 = .int .i64 (i : Nat) ∧ i ≤ ns.length ∧ Hid (Fb B b w wr) ∧ Hid (Fb B b W2 wr) ∧ Hid (Pst B wr b (bs ++ ([123] ++ joinL [44, 32] (L.take i))))) (fun s12 _ => ns.length - (intOf s12).toNat)
  case atStart => exact ⟨0, rfl, Nat.zero_le _, HF2, Lib.hid (Fb.refl B b W2), Lib.hid (by simpa [joinL] using HP2.out)⟩
  case round =>
    obtain ⟨i, rfl, hil, hF, hG, hPr⟩ := hrel
    by_cases hi2 : i < ns.length
    · have hd1 : decide ((i : Int) < (ns.length : Int)) = true := by simp only [decide_eq_true_eq]; omega
      have hd2 : decide (i < ns.length) = true := by simp only [decide_eq_true_eq]; exact hi2
      have hi3 : i < L.length := by have := HLL.out; omega
      obtain ⟨s, hget⟩ : ∃ s, ns[i]? = some s := ⟨_, List.getElem?_eq_getElem hi2⟩
      obtain ⟨t, ht⟩ : ∃ t, t = l[i]?.getD zPE := ⟨_, rfl⟩
      have hx : L[i]? = some (s ++ ([32, 61, 32] ++ prE 0 t)) := by rw [HL.out, pairL_get _ _ _ _ _ hget, map_getE 0 (.inl rfl), ht]
      have htm : t ∈ l ∨ t = zPE := by
        rw [ht]
        cases hl : l[i]? with
        | none => exact .inr rfl
        | some t => exact .inl (List.mem_of_getElem? hl)
      obtain ⟨sp, hsp⟩ : ∃ sp : Bs, sp = if i = 0 then [] else [44, 32] := ⟨_, rfl⟩
      have hj := joinL_take [44, 32] L i _ hx
      rw [← hsp] at hj
      have HJ := Lib.hid hj
      have LQ : Hid (bs.length + (([123] ++ joinL [44, 32] (L.take i)).length + (sp.length + (s.length + (3 + (prE 0 t).length)))) + S ≤ 100000000000000) := by
        have h1 := joinL_take_le [44, 32] L (L.length - (i + 1)) (i + 1) (by omega)
        rw [hj] at h1
        have h2 := HLEN.out
        show _ ≤ _
        simp only [List.length_append, List.length_cons, List.length_nil] at h1 h2 ⊢
        omega
      have HTT := Lib.hid (HT.out t htm (by
        have h1 := joinL_take_le [44, 32] L (L.length - (i + 1)) (i + 1) (by omega)
        rw [hj] at h1
        have h2 := HZ.out
        simp only [List.length_append, List.length_cons, List.length_nil] at h1 h2 ⊢
        omega))
      have HBT : Hid (Calls Tryz.prog 109 #[.pointer (some ⟨b, 0, none⟩), .int .i64 (i : Nat), .string ⟨#[44, 32]⟩] wr fun e w' => e = .returned (.tuple #[]) ∧ Fb B b wr w' ∧ Pst B w' b ((bs ++ ([123] ++ joinL [44, 32] (L.take i))) ++ sp)) := by
        have := between_any hPr.out i [44, 32] (fun h0 => by have := LQ.out; rw [hsp, if_neg h0] at this; simp only [List.length_append, List.length_cons, List.length_nil] at this ⊢; omega)
        rw [← hsp] at this
        exact this
      have hK2 := IsC.fb HP.out hF.out _ _ (by simp [nb, nbs_strs]) K2.out
      have HK3 := Lib.hid (IsC.fb HP.out hF.out _ _ (by simp [nb, nb_Es]) K3.out)
      have hA := hG.out.2 _ _ HA2.out (fun e => by have := HP.out.lt; have := Option.some.inj e; omega) (fun c fz e => by cases e)
      have HA := Lib.hid hA
      obtain ⟨⟨p0, p1, p2, p3, p4, p5, p6⟩, -⟩ := sev_of (t := 36) hA
      have hS2 := Sub.of_row hK2 (by simp)
      rw [strs_flat2] at hS2
      obtain ⟨g, o, gs, rfl, hg, hcs, hcell⟩ := Sub.at (k := 1) (fun _ => rfl) hS2 hget (by omega)
      obtain ⟨x, ys, rfl, k0, -⟩ := hcs.uncons
      simp only [IsC] at k0
      subst k0
      have d0 := hcell 0 _ rfl
      rw [Nat.add_zero, Nat.mul_one] at d0
      have HT1 := Lib.hid ht
      clear hi3 hx htm hsp hj hPr hA hK2 hS2 hcs hcell hget ht hg
      go_wp2_with fail
      refine HBT.out.mono ?_
      rintro e W3 ⟨rfl, f3, p3⟩
      have F3 := Lib.hid (hF.out.trans f3)
      have G3 := Lib.hid (hG.out.trans f3)
      have P3 := Lib.hid p3
      have HS2 := Lib.hid (say2 p3 s [32, 61, 32] (by have := LQ.out; simp only [List.length_append, List.length_cons, List.length_nil] at this ⊢; omega))
      clear f3 p3 HBT
      go_wp2_with fail
      refine HS2.out.mono ?_
      rintro e W4 ⟨rfl, f4, p4⟩
      have F4 := Lib.hid (F3.out.trans f4)
      have G4 := Lib.hid (G3.out.trans f4)
      have P4 := Lib.hid p4
      have hA4 := G4.out.2 _ _ HA2.out (fun e => by have := HP.out.lt; have := Option.some.inj e; omega) (fun c fz e => by cases e)
      obtain ⟨⟨r0, r1, r2, r3, r4, r5, r6⟩, -⟩ := sev_of (t := 36) hA4
      have HPT := Lib.hid (partE_any l i A W4 _ (IsC.fb HP.out F4.out _ _ (by simp [nb, nb_Es]) K3.out) (by omega))
      clear f4 p4 HS2 hA4
      rw [← HT1.out] at HPT
      go_wp2_with fail
      refine HPT.out.mono ?_
      rintro e W5 ⟨cs5, rfl, b5, i5⟩
      have P5 := Lib.hid (P4.out.below b5)
      have F5 := Lib.hid (F4.out.then_below b5 P4.out)
      have G5 := Lib.hid (G4.out.then_below b5 P4.out)
      have H52 : Hid (Calls Tryz.prog 52 #[.pointer (some ⟨b, 0, none⟩), .agg cs5.toArray, .int .i64 0] W5 fun e w' => e = .returned (.tuple #[]) ∧ Fb B b W5 w' ∧ Pst B w' b (((((bs ++ ([123] ++ joinL [44, 32] (L.take i))) ++ sp) ++ (s ++ [32, 61, 32]))) ++ prE 0 t)) :=
        HTT.out 0 (.inl rfl) A cs5 B b _ W5 P5.out ⟨i5, HTB.out.fb F5.out⟩ (by have := LQ.out; simp only [List.length_append, List.length_cons, List.length_nil] at this ⊢; omega)
      clear b5 i5 HPT
      go_wp2_with fail
      refine H52.out.mono ?_
      rintro e W6 ⟨rfl, f6, p6⟩
      have F6 := Lib.hid (F5.out.trans f6)
      have G6 := Lib.hid (G5.out.trans f6)
      have P6 := Lib.hid p6
      clear f6 p6 H52
      go_wp2_with fail
      refine ⟨⟨i + 1, by simp, by omega, F6, G6, Lib.hid ?_⟩, ?_⟩
      · rw [HJ.out]
        have := P6.out
        simpa only [List.append_assoc] using this
      · simp [intOf]; omega
    · have hd1 : decide ((i : Int) < (ns.length : Int)) = false := by simp only [decide_eq_false_iff_not]; omega
      have hd2 : decide (i < ns.length) = false := by simp only [decide_eq_false_iff_not]; exact hi2
      have HE := Lib.hid (show L.take i = L from List.take_of_length_le (by have := HLL.out; omega))
      have HS9 := Lib.hid (say1 hPr.out [125] (by rw [HE.out]; have := HLEN.out; simp only [List.length_append, List.length_cons, List.length_nil] at this ⊢; omega))
      clear hPr
      go_wp2_with fail
      refine HS9.out.mono ?_
      rintro e W9 ⟨rfl, f9, p9⟩
      have F9 := Lib.hid (hF.out.trans f9)
      have P9 := Lib.hid p9
      clear f9 p9 HS9
      go_wp2_with fail
      go_end0
      refine ⟨rfl, F9.out, ?_⟩
      have := P9.out
      rw [HE.out] at this
      simpa only [List.append_assoc, List.cons_append, List.nil_append] using this

end Go.Proofs.YthpoffklhpbdoaaGreatDoor

namespace Go.Proofs.YthpoffklhpbdoaaGreatDoor
variable {S L : Nat}
theorem le_mid {a b c d m : Nat} (h : a + b + c + d ≤ m) : a + b + d ≤ m := by omega
set_option maxRecDepth 100000
open Go.RowKit

theorem headE0 (q : Nat) (hq : q = 0 ∨ q = 2) (l : List PE) : (l.map (prE q)).headD [] = prE q (l[0]?.getD zPE) := by
  cases l with
  | nil => exact (prE_z2 q hq).symm
  | cons t l => rfl
theorem headE1 (q : Nat) (hq : q = 0 ∨ q = 2) (l : List PE) : (l.map (prE q)).tail.headD [] = prE q (l[1]?.getD zPE) := by
  cases l with
  | nil => exact (prE_z2 q hq).symm
  | cons t l => exact headE0 q hq l
theorem headE2 (q : Nat) (hq : q = 0 ∨ q = 2) (l : List PE) : (l.map (prE q)).tail.tail.headD [] = prE q (l[2]?.getD zPE) := by
  cases l with
  | nil => exact (prE_z2 q hq).symm
  | cons t l => exact headE1 q hq l

set_option maxHeartbeats 4000000 in
theorem ex_mark (k a : Nat) (n : Bs) (m : Nat) (ns : List Bs) (l : List PE) (ts : List PT) (h1 : k = 1 → m ≤ 9223372036854775807) (HE : ∀ x, (x ∈ l ∨ x = zPE) → (prE 0 x).length < L → ExOk S x) (hL : (bodyE k n m ns (l.map (prE 0)) (l.map (prE 2)) (ts.map (prT 0))).length ≤ L) (HCH : k = 6 ∨ k = 7 → ∀ (A : Nat → Prop) (cs : List Value), PrtE S 87 (fun b => #[.pointer (some ⟨b, 0, none⟩), .agg cs.toArray]) (prE 2 (.mk k a n m ns l ts)) (fun B w => IsCs A w (encE 26 36 (.mk k a n m ns l ts)) cs ∧ Tab B w)) (q : Nat) (hm : lvlE k < q) (A : Nat → Prop) (cs : List Value) :
    PrtE S 52 (fun b => #[.pointer (some ⟨b, 0, none⟩), .agg cs.toArray, .int .i64 (q : Nat)]) (40 :: (bodyE k n m ns (l.map (prE 0)) (l.map (prE 2)) (ts.map (prT 0)) ++ [41])) (fun B w => IsCs A w (encE 26 36 (.mk k a n m ns l ts)) cs ∧ Tab B w) := by
  intro B b bs w hP hD hlen
  obtain ⟨hC, hTab⟩ := hD
  have HTB := Lib.hid hTab
  obtain ⟨body, hbody⟩ : ∃ body, body = bodyE k n m ns (l.map (prE 0)) (l.map (prE 2)) (ts.map (prT 0)) := ⟨_, rfl⟩
  rw [← hbody] at hlen hL ⊢
  have HBL := Lib.hid hL
  obtain ⟨a4, c4, a5, c5, a6, c6, rfl, -, -, -⟩ := cells_E2 hC
  have HBODY := Lib.hid hbody
  have HC := Lib.hid hC
  have HP := Lib.hid hP
  have HTT := Lib.hid HE
  have H1 := Lib.hid h1
  have HC7 := Lib.hid HCH
  have HLEN := Lib.hid hlen
  obtain ⟨W1, hW1⟩ : ∃ W1, w.alloc (.cells #[.int .i64 (k : Nat), .int .i64 (a : Nat), .string ⟨n.toArray⟩, .int .i64 (m : Nat), .slice a4 ns.length c4, .slice a5 l.length c5, .slice a6 ts.length c6] 36) = W1 := ⟨_, rfl⟩
  have hA1 : W1.heap[w.heap.size]? = some (.cells #[.int .i64 (k : Nat), .int .i64 (a : Nat), .string ⟨n.toArray⟩, .int .i64 (m : Nat), .slice a4 ns.length c4, .slice a5 l.length c5, .slice a6 ts.length c6] 36 (0, 0)) := by rw [← hW1]; exact heap_alloc_new w _
  have hP1 : Pst B W1 b bs := by rw [← hW1]; exact hP.alloc _
  have hF1 : Fb B b w W1 := by rw [← hW1]; exact (Fb.refl B b w).alloc hP.hi _
  obtain ⟨⟨q0, q1, q2, q3, q4, q5, q6⟩, -⟩ := sev_of (t := 36) hA1
  have HA1 := Lib.hid hA1
  have HP1 := Lib.hid hP1
  have HF1 := Lib.hid hF1
  have HNB : Hid (∀ W : World, b < W.heap.size → ∀ e : some w.heap.size = some b, False) := by
    intro W _ e
    have := HP.out.lt
    have := Option.some.inj e
    omega
  have HLV := Lib.hid (levelE_any k (a : Nat) ⟨n.toArray⟩ (m : Nat) a4 a5 a6 ns.length c4 l.length c5 ts.length c6 W1)
  have m1 : decide ((lvlE k : Int) < (q : Int)) = true := by simp only [decide_eq_true_eq]; omega
  have m2 : decide (lvlE k < q) = true := by simp only [decide_eq_true_eq]; omega
  obtain ⟨lv, hlv⟩ : ∃ lv, lv = lvlE k := ⟨_, rfl⟩
  rw [← hlv] at HLV m1 m2
  clear hC hTab hA1 hP1 hF1 hP hlen hbody hm hlv HE h1 HCH hL
  go_enter_defers Tryz.func52, Tryz.ntmps52
  go_upto_region 1 with fail
  clear hW1
  go_wp2_with fail
  refine HLV.out.mono ?_
  rintro e W2 ⟨rfl, b2⟩
  have P2 := Lib.hid (HP1.out.below b2)
  have F2 := Lib.hid (HF1.out.then_below b2 HP1.out)
  have hA2 := (Fb.of_below HP1.out.hi b2 : Fb B b W1 W2).2 _ _ HA1.out (fun e => HNB.out W1 HP1.out.lt e) (fun c fz e => by cases e)
  have HA2 := Lib.hid hA2
  have HS2 := Lib.hid (say1 P2.out [40] (by have := HLEN.out; simp only [List.length_cons, List.length_append, List.length_nil] at this ⊢; omega))
  clear b2 HLV q0 q1 q2 q3 q4 q5 q6 hA2
  go_wp2_with fail
  refine HS2.out.mono ?_
  rintro e W3 ⟨rfl, f3, p3⟩
  have P3 := Lib.hid p3
  have F3 := Lib.hid (F2.out.trans f3)
  have HA3 := Lib.hid (f3.2 _ _ HA2.out (fun e => HNB.out W2 P2.out.lt e) (fun c fz e => by cases e))
  clear f3 p3 HS2
  go_upto_region 4 with fail
  obtain ⟨V, hV⟩ : ∃ V, W3.alloc (.cells #[.string ⟨#[41]⟩] 9) = V := ⟨_, rfl⟩
  rw [hV]
  have HPC : Hid (Pcsat V W3.heap.size [[41]]) := by rw [← hV]; exact pcs_new W3 [[41]]
  obtain ⟨b0, hb0⟩ : ∃ b0, b0 = bs ++ [40] := ⟨_, rfl⟩
  have PV : Hid (Pst B V b b0) := by rw [← hV, hb0]; exact P3.out.alloc _
  have FV : Hid (Fb B b w V) := by rw [← hV]; exact F3.out.alloc HP.out.hi _
  have hAV : V.heap[w.heap.size]? = some (.cells #[.int .i64 (k : Nat), .int .i64 (a : Nat), .string ⟨n.toArray⟩, .int .i64 (m : Nat), .slice a4 ns.length c4, .slice a5 l.length c5, .slice a6 ts.length c6] 36 (0, 0)) := by rw [← hV]; exact blk_alloc HA3.out _
  obtain ⟨gd, hgd⟩ : ∃ gd, gd = W3.heap.size := ⟨_, rfl⟩
  rw [← hgd] at HPC ⊢
  have LB : Hid (b0.length + body.length + 1 + S ≤ 100000000000000) := by have := HLEN.out; rw [hb0]; show _ ≤ _; simp only [List.length_cons, List.length_append, List.length_nil] at this ⊢; omega
  have HB0 := Lib.hid hb0
  clear hV hgd hb0
  obtain ⟨⟨r0, r1, r2, r3, r4, r5, r6⟩, -⟩ := sev_of (t := 36) hAV
  have HAV := Lib.hid hAV
  have HCV := Lib.hid (IsCs.fb HP.out FV.out _ _ (nb_E _) HC.out)
  clear hAV
  by_cases h1 : k = 1
  · subst h1
    have hb : body = dig m := HBODY.out
    have HQ := Lib.hid (formatInt_any m (H1.out rfl) V (HTB.out.fb FV.out))
    rw [← hb] at HQ
    go_wp2_with fail
    refine HQ.out.mono ?_
    rintro e V1 ⟨rfl, b1⟩
    have PV1 := Lib.hid (PV.out.below b1)
    have G1 := Lib.hid (Fb.of_below PV.out.hi b1 : Fb B b V V1)
    have HS := Lib.hid (say1 PV1.out body (by have := LB.out; omega))
    clear b1 HQ hb
    go_wp2_with fail
    refine HS.out.mono ?_
    rintro e X ⟨rfl, fx, px⟩
    have PX := Lib.hid px
    have GX := Lib.hid (G1.out.trans fx)
    clear fx px HS
    go_wp2_with fail
    refine leaves_cons (f := 77) (args := #[.pointer (some ⟨b, 0, none⟩), .slice (some ⟨gd, 0, none⟩) 1 1]) (by simp) (by simp [go_sem]) ?_
    refine (say_def PX.out [[41]] gd 1 (HPC.out.fb (HPC.out.ne PV.out) GX.out) (by have := LB.out; simp only [List.length_append, List.length_cons, List.length_nil, List.flatten_cons, List.flatten_nil] at this ⊢; omega) (by simp)).mono ?_
    rintro e u w9 ⟨rfl, rfl, f9, p9⟩
    refine ⟨.tuple #[], results_none Tryz.results52 _ _ _, rfl, (FV.out.trans GX.out).trans f9, ?_⟩
    rw [HB0.out] at p9
    simpa using p9
  by_cases h2 : k = 2
  · subst h2
    have hb : body = [34] ++ (n ++ [34]) := HBODY.out
    have HS := Lib.hid (say3 PV.out [34] n [34] (by have := LB.out; rw [hb] at this; omega))
    rw [← hb] at HS
    clear hb
    go_wp2_with fail
    refine HS.out.mono ?_
    rintro e X ⟨rfl, fx, px⟩
    have PX := Lib.hid px
    have GX := Lib.hid fx
    clear fx px HS
    go_wp2_with fail
    refine leaves_cons (f := 77) (args := #[.pointer (some ⟨b, 0, none⟩), .slice (some ⟨gd, 0, none⟩) 1 1]) (by simp) (by simp [go_sem]) ?_
    refine (say_def PX.out [[41]] gd 1 (HPC.out.fb (HPC.out.ne PV.out) GX.out) (by have := LB.out; simp only [List.length_append, List.length_cons, List.length_nil, List.flatten_cons, List.flatten_nil] at this ⊢; omega) (by simp)).mono ?_
    rintro e u w9 ⟨rfl, rfl, f9, p9⟩
    refine ⟨.tuple #[], results_none Tryz.results52 _ _ _, rfl, (FV.out.trans GX.out).trans f9, ?_⟩
    rw [HB0.out] at p9
    simpa using p9
  by_cases h3 : k = 3
  · subst h3
    obtain ⟨tv, htv⟩ : ∃ tv : Bool, tv = ((m : Int) == 1) := ⟨_, rfl⟩
    have hb : body = if tv then [116, 114, 117, 101] else [102, 97, 108, 115, 101] := by
      have h := HBODY.out
      rw [h, htv]
      by_cases hm1 : m = 1
      · subst hm1; rfl
      · have e1 : ((m : Int) == 1) = false := by simp only [beq_eq_false_iff_ne, ne_eq]; omega
        rw [e1]
        simp [bodyE, hm1]
    have HQ := Lib.hid (formatBool_any tv V)
    rw [← hb] at HQ
    have etv := htv.symm
    have HS := Lib.hid (say1 PV.out body (by have := LB.out; omega))
    clear hb htv
    go_wp2_with fail
    first | rw [etv] | skip
    refine HQ.out.mono ?_
    rintro e V1 ⟨rfl, rfl⟩
    clear etv
    go_wp2_with fail
    refine HS.out.mono ?_
    rintro e X ⟨rfl, fx, px⟩
    have PX := Lib.hid px
    have GX := Lib.hid fx
    clear fx px HS
    go_wp2_with fail
    refine leaves_cons (f := 77) (args := #[.pointer (some ⟨b, 0, none⟩), .slice (some ⟨gd, 0, none⟩) 1 1]) (by simp) (by simp [go_sem]) ?_
    refine (say_def PX.out [[41]] gd 1 (HPC.out.fb (HPC.out.ne PV.out) GX.out) (by have := LB.out; simp only [List.length_append, List.length_cons, List.length_nil, List.flatten_cons, List.flatten_nil] at this ⊢; omega) (by simp)).mono ?_
    rintro e u w9 ⟨rfl, rfl, f9, p9⟩
    refine ⟨.tuple #[], results_none Tryz.results52 _ _ _, rfl, (FV.out.trans GX.out).trans f9, ?_⟩
    rw [HB0.out] at p9
    simpa using p9
  by_cases h4 : k = 4
  · subst h4
    have hb : body = n := HBODY.out
    have HS := Lib.hid (say1 PV.out n (by have := LB.out; rw [hb] at this; omega))
    rw [← hb] at HS
    have HBB := Lib.hid hb
    clear hb
    go_wp2_with fail
    first | rw [← HBB.out] | skip
    refine HS.out.mono ?_
    rintro e X ⟨rfl, fx, px⟩
    have PX := Lib.hid px
    have GX := Lib.hid fx
    clear fx px HS
    go_wp2_with fail
    refine leaves_cons (f := 77) (args := #[.pointer (some ⟨b, 0, none⟩), .slice (some ⟨gd, 0, none⟩) 1 1]) (by simp) (by simp [go_sem]) ?_
    refine (say_def PX.out [[41]] gd 1 (HPC.out.fb (HPC.out.ne PV.out) GX.out) (by have := LB.out; simp only [List.length_append, List.length_cons, List.length_nil, List.flatten_cons, List.flatten_nil] at this ⊢; omega) (by simp)).mono ?_
    rintro e u w9 ⟨rfl, rfl, f9, p9⟩
    refine ⟨.tuple #[], results_none Tryz.results52 _ _ _, rfl, (FV.out.trans GX.out).trans f9, ?_⟩
    rw [HB0.out] at p9
    simpa using p9
  by_cases h5 : k = 5
  · subst h5
    have HS : Hid (Calls Tryz.prog 86 #[.pointer (some ⟨b, 0, none⟩), .agg #[.int .i64 ((5 : Nat) : Int), .int .i64 (a : Nat), .string ⟨n.toArray⟩, .int .i64 (m : Nat), .slice a4 ns.length c4, .slice a5 l.length c5, .slice a6 ts.length c6]] V (fun e w' => e = .returned (.tuple #[]) ∧ Fb B b V w' ∧ Pst B w' b (b0 ++ body))) := by
      have hb : body = 123 :: (joinL [44, 32] (pairL [32, 61, 32] ns (l.map (prE 0))) ++ [125]) := HBODY.out
      rw [hb]
      exact recEp_any 5 a n m ns l ts HTT.out (by have := HBL.out; rw [hb] at this; exact this) A _ B b b0 V PV.out ⟨HCV.out, HTB.out.fb FV.out⟩ (by have := LB.out; rw [hb] at this; exact le_mid this)
    go_wp2_with fail
    refine HS.out.mono ?_
    rintro e X ⟨rfl, fx, px⟩
    have PX := Lib.hid px
    have GX := Lib.hid fx
    clear fx px HS
    go_wp2_with fail
    refine leaves_cons (f := 77) (args := #[.pointer (some ⟨b, 0, none⟩), .slice (some ⟨gd, 0, none⟩) 1 1]) (by simp) (by simp [go_sem]) ?_
    refine (say_def PX.out [[41]] gd 1 (HPC.out.fb (HPC.out.ne PV.out) GX.out) (by have := LB.out; simp only [List.length_append, List.length_cons, List.length_nil, List.flatten_cons, List.flatten_nil] at this ⊢; omega) (by simp)).mono ?_
    rintro e u w9 ⟨rfl, rfl, f9, p9⟩
    refine ⟨.tuple #[], results_none Tryz.results52 _ _ _, rfl, (FV.out.trans GX.out).trans f9, ?_⟩
    rw [HB0.out] at p9
    simpa using p9
  by_cases h6 : k = 6
  · subst h6
    have HS : Hid (Calls Tryz.prog 87 #[.pointer (some ⟨b, 0, none⟩), .agg #[.int .i64 ((6 : Nat) : Int), .int .i64 (a : Nat), .string ⟨n.toArray⟩, .int .i64 (m : Nat), .slice a4 ns.length c4, .slice a5 l.length c5, .slice a6 ts.length c6]] V (fun e w' => e = .returned (.tuple #[]) ∧ Fb B b V w' ∧ Pst B w' b (b0 ++ body))) := by
      have hb : body = prE 2 (.mk 6 a n m ns l ts) := by rw [HBODY.out, prE_mk]; rfl
      rw [hb]
      exact HC7.out (.inl rfl) A _ B b b0 V PV.out ⟨HCV.out, HTB.out.fb FV.out⟩ (by have := LB.out; rw [hb] at this; exact le_mid this)
    go_wp2_with fail
    refine HS.out.mono ?_
    rintro e X ⟨rfl, fx, px⟩
    have PX := Lib.hid px
    have GX := Lib.hid fx
    clear fx px HS
    go_wp2_with fail
    refine leaves_cons (f := 77) (args := #[.pointer (some ⟨b, 0, none⟩), .slice (some ⟨gd, 0, none⟩) 1 1]) (by simp) (by simp [go_sem]) ?_
    refine (say_def PX.out [[41]] gd 1 (HPC.out.fb (HPC.out.ne PV.out) GX.out) (by have := LB.out; simp only [List.length_append, List.length_cons, List.length_nil, List.flatten_cons, List.flatten_nil] at this ⊢; omega) (by simp)).mono ?_
    rintro e u w9 ⟨rfl, rfl, f9, p9⟩
    refine ⟨.tuple #[], results_none Tryz.results52 _ _ _, rfl, (FV.out.trans GX.out).trans f9, ?_⟩
    rw [HB0.out] at p9
    simpa using p9
  by_cases h7 : k = 7
  · subst h7
    have HS : Hid (Calls Tryz.prog 87 #[.pointer (some ⟨b, 0, none⟩), .agg #[.int .i64 ((7 : Nat) : Int), .int .i64 (a : Nat), .string ⟨n.toArray⟩, .int .i64 (m : Nat), .slice a4 ns.length c4, .slice a5 l.length c5, .slice a6 ts.length c6]] V (fun e w' => e = .returned (.tuple #[]) ∧ Fb B b V w' ∧ Pst B w' b (b0 ++ body))) := by
      have hb : body = prE 2 (.mk 7 a n m ns l ts) := by rw [HBODY.out, prE_mk]; rfl
      rw [hb]
      exact HC7.out (.inr rfl) A _ B b b0 V PV.out ⟨HCV.out, HTB.out.fb FV.out⟩ (by have := LB.out; rw [hb] at this; exact le_mid this)
    go_wp2_with fail
    refine HS.out.mono ?_
    rintro e X ⟨rfl, fx, px⟩
    have PX := Lib.hid px
    have GX := Lib.hid fx
    clear fx px HS
    go_wp2_with fail
    refine leaves_cons (f := 77) (args := #[.pointer (some ⟨b, 0, none⟩), .slice (some ⟨gd, 0, none⟩) 1 1]) (by simp) (by simp [go_sem]) ?_
    refine (say_def PX.out [[41]] gd 1 (HPC.out.fb (HPC.out.ne PV.out) GX.out) (by have := LB.out; simp only [List.length_append, List.length_cons, List.length_nil, List.flatten_cons, List.flatten_nil] at this ⊢; omega) (by simp)).mono ?_
    rintro e u w9 ⟨rfl, rfl, f9, p9⟩
    refine ⟨.tuple #[], results_none Tryz.results52 _ _ _, rfl, (FV.out.trans GX.out).trans f9, ?_⟩
    rw [HB0.out] at p9
    simpa using p9
  by_cases h8 : k = 8
  · subst h8
    have HS : Hid (Calls Tryz.prog 88 #[.pointer (some ⟨b, 0, none⟩), .agg #[.int .i64 ((8 : Nat) : Int), .int .i64 (a : Nat), .string ⟨n.toArray⟩, .int .i64 (m : Nat), .slice a4 ns.length c4, .slice a5 l.length c5, .slice a6 ts.length c6]] V (fun e w' => e = .returned (.tuple #[]) ∧ Fb B b V w' ∧ Pst B w' b (b0 ++ body))) := by
      have hb : body = ([102, 117, 110, 32, 40] ++ (n ++ [32, 58, 32])) ++ (prT 0 (ts[0]?.getD zPT) ++ ([41, 32] ++ (prE 0 (l[0]?.getD zPE)))) := by
        rw [HBODY.out, ← headD_get 0 (by decide), ← headE0 0 (.inl rfl)]; simp [bodyE]
      rw [hb]
      exact funp_any 8 a n m ns l ts HTT.out (by have := HBL.out; rw [hb] at this; exact this) A _ B b b0 V PV.out ⟨HCV.out, HTB.out.fb FV.out⟩ (by have := LB.out; rw [hb] at this; exact le_mid this)
    go_wp2_with fail
    refine HS.out.mono ?_
    rintro e X ⟨rfl, fx, px⟩
    have PX := Lib.hid px
    have GX := Lib.hid fx
    clear fx px HS
    go_wp2_with fail
    refine leaves_cons (f := 77) (args := #[.pointer (some ⟨b, 0, none⟩), .slice (some ⟨gd, 0, none⟩) 1 1]) (by simp) (by simp [go_sem]) ?_
    refine (say_def PX.out [[41]] gd 1 (HPC.out.fb (HPC.out.ne PV.out) GX.out) (by have := LB.out; simp only [List.length_append, List.length_cons, List.length_nil, List.flatten_cons, List.flatten_nil] at this ⊢; omega) (by simp)).mono ?_
    rintro e u w9 ⟨rfl, rfl, f9, p9⟩
    refine ⟨.tuple #[], results_none Tryz.results52 _ _ _, rfl, (FV.out.trans GX.out).trans f9, ?_⟩
    rw [HB0.out] at p9
    simpa using p9
  by_cases h9 : k = 9
  · subst h9
    have HS : Hid (Calls Tryz.prog 89 #[.pointer (some ⟨b, 0, none⟩), .agg #[.int .i64 ((9 : Nat) : Int), .int .i64 (a : Nat), .string ⟨n.toArray⟩, .int .i64 (m : Nat), .slice a4 ns.length c4, .slice a5 l.length c5, .slice a6 ts.length c6]] V (fun e w' => e = .returned (.tuple #[]) ∧ Fb B b V w' ∧ Pst B w' b (b0 ++ body))) := by
      have hb : body = ([108, 101, 116, 32] ++ (n ++ [32, 61, 32])) ++ (prE 0 (l[0]?.getD zPE) ++ ([32, 105, 110, 32] ++ (prE 0 (l[1]?.getD zPE)))) := by
        rw [HBODY.out, ← headE0 0 (.inl rfl), ← headE1 0 (.inl rfl)]; simp [bodyE]
      rw [hb]
      exact letp_any 9 a n m ns l ts HTT.out (by have := HBL.out; rw [hb] at this; exact this) A _ B b b0 V PV.out ⟨HCV.out, HTB.out.fb FV.out⟩ (by have := LB.out; rw [hb] at this; exact le_mid this)
    go_wp2_with fail
    refine HS.out.mono ?_
    rintro e X ⟨rfl, fx, px⟩
    have PX := Lib.hid px
    have GX := Lib.hid fx
    clear fx px HS
    go_wp2_with fail
    refine leaves_cons (f := 77) (args := #[.pointer (some ⟨b, 0, none⟩), .slice (some ⟨gd, 0, none⟩) 1 1]) (by simp) (by simp [go_sem]) ?_
    refine (say_def PX.out [[41]] gd 1 (HPC.out.fb (HPC.out.ne PV.out) GX.out) (by have := LB.out; simp only [List.length_append, List.length_cons, List.length_nil, List.flatten_cons, List.flatten_nil] at this ⊢; omega) (by simp)).mono ?_
    rintro e u w9 ⟨rfl, rfl, f9, p9⟩
    refine ⟨.tuple #[], results_none Tryz.results52 _ _ _, rfl, (FV.out.trans GX.out).trans f9, ?_⟩
    rw [HB0.out] at p9
    simpa using p9
  by_cases h10 : k = 10
  · subst h10
    have HS : Hid (Calls Tryz.prog 90 #[.pointer (some ⟨b, 0, none⟩), .agg #[.int .i64 ((10 : Nat) : Int), .int .i64 (a : Nat), .string ⟨n.toArray⟩, .int .i64 (m : Nat), .slice a4 ns.length c4, .slice a5 l.length c5, .slice a6 ts.length c6]] V (fun e w' => e = .returned (.tuple #[]) ∧ Fb B b V w' ∧ Pst B w' b (b0 ++ body))) := by
      have hb : body = [105, 102, 32] ++ (prE 0 (l[0]?.getD zPE) ++ ([32, 116, 104, 101, 110, 32] ++ (prE 0 (l[1]?.getD zPE) ++ ([32, 101, 108, 115, 101, 32] ++ (prE 0 (l[2]?.getD zPE)))))) := by
        rw [HBODY.out, ← headE0 0 (.inl rfl), ← headE1 0 (.inl rfl), ← headE2 0 (.inl rfl)]; simp [bodyE]
      rw [hb]
      exact ifp_any 10 a n m ns l ts HTT.out (by have := HBL.out; rw [hb] at this; exact this) A _ B b b0 V PV.out ⟨HCV.out, HTB.out.fb FV.out⟩ (by have := LB.out; rw [hb] at this; exact le_mid this)
    go_wp2_with fail
    refine HS.out.mono ?_
    rintro e X ⟨rfl, fx, px⟩
    have PX := Lib.hid px
    have GX := Lib.hid fx
    clear fx px HS
    go_wp2_with fail
    refine leaves_cons (f := 77) (args := #[.pointer (some ⟨b, 0, none⟩), .slice (some ⟨gd, 0, none⟩) 1 1]) (by simp) (by simp [go_sem]) ?_
    refine (say_def PX.out [[41]] gd 1 (HPC.out.fb (HPC.out.ne PV.out) GX.out) (by have := LB.out; simp only [List.length_append, List.length_cons, List.length_nil, List.flatten_cons, List.flatten_nil] at this ⊢; omega) (by simp)).mono ?_
    rintro e u w9 ⟨rfl, rfl, f9, p9⟩
    refine ⟨.tuple #[], results_none Tryz.results52 _ _ _, rfl, (FV.out.trans GX.out).trans f9, ?_⟩
    rw [HB0.out] at p9
    simpa using p9
  by_cases h11 : k = 11
  · subst h11
    have HS : Hid (Calls Tryz.prog 91 #[.pointer (some ⟨b, 0, none⟩), .agg #[.int .i64 ((11 : Nat) : Int), .int .i64 (a : Nat), .string ⟨n.toArray⟩, .int .i64 (m : Nat), .slice a4 ns.length c4, .slice a5 l.length c5, .slice a6 ts.length c6]] V (fun e w' => e = .returned (.tuple #[]) ∧ Fb B b V w' ∧ Pst B w' b (b0 ++ body))) := by
      have hb : body = [40] ++ (prE 0 (l[0]?.getD zPE) ++ ([32, 58, 32] ++ (prT 0 (ts[0]?.getD zPT) ++ ([41])))) := by
        rw [HBODY.out, ← headD_get 0 (by decide), ← headE0 0 (.inl rfl)]; simp [bodyE]
      rw [hb]
      exact as_any 11 a n m ns l ts HTT.out (by have := HBL.out; rw [hb] at this; exact this) A _ B b b0 V PV.out ⟨HCV.out, HTB.out.fb FV.out⟩ (by have := LB.out; rw [hb] at this; exact le_mid this)
    go_wp2_with fail
    refine HS.out.mono ?_
    rintro e X ⟨rfl, fx, px⟩
    have PX := Lib.hid px
    have GX := Lib.hid fx
    clear fx px HS
    go_wp2_with fail
    refine leaves_cons (f := 77) (args := #[.pointer (some ⟨b, 0, none⟩), .slice (some ⟨gd, 0, none⟩) 1 1]) (by simp) (by simp [go_sem]) ?_
    refine (say_def PX.out [[41]] gd 1 (HPC.out.fb (HPC.out.ne PV.out) GX.out) (by have := LB.out; simp only [List.length_append, List.length_cons, List.length_nil, List.flatten_cons, List.flatten_nil] at this ⊢; omega) (by simp)).mono ?_
    rintro e u w9 ⟨rfl, rfl, f9, p9⟩
    refine ⟨.tuple #[], results_none Tryz.results52 _ _ _, rfl, (FV.out.trans GX.out).trans f9, ?_⟩
    rw [HB0.out] at p9
    simpa using p9
  · have hb : body = [] := by have := HBODY.out; rw [this]; unfold bodyE; simp only [h1, h2, h3, h4, h5, h6, h7, h8, h9, h10, h11, if_false]
    have e1 : ((k : Int) == 1) = false := by simp only [beq_eq_false_iff_ne, ne_eq]; omega
    have e2 : ((k : Int) == 2) = false := by simp only [beq_eq_false_iff_ne, ne_eq]; omega
    have e3 : ((k : Int) == 3) = false := by simp only [beq_eq_false_iff_ne, ne_eq]; omega
    have e4 : ((k : Int) == 4) = false := by simp only [beq_eq_false_iff_ne, ne_eq]; omega
    have e5 : ((k : Int) == 5) = false := by simp only [beq_eq_false_iff_ne, ne_eq]; omega
    have e6 : ((k : Int) == 6) = false := by simp only [beq_eq_false_iff_ne, ne_eq]; omega
    have e7 : ((k : Int) == 7) = false := by simp only [beq_eq_false_iff_ne, ne_eq]; omega
    have e8 : ((k : Int) == 8) = false := by simp only [beq_eq_false_iff_ne, ne_eq]; omega
    have e9 : ((k : Int) == 9) = false := by simp only [beq_eq_false_iff_ne, ne_eq]; omega
    have e10 : ((k : Int) == 10) = false := by simp only [beq_eq_false_iff_ne, ne_eq]; omega
    have e11 : ((k : Int) == 11) = false := by simp only [beq_eq_false_iff_ne, ne_eq]; omega
    have PX : Hid (Pst B V b (b0 ++ body)) := by rw [hb, List.append_nil]; exact PV.out
    have GX := Lib.hid (Fb.refl B b V)
    clear hb
    go_wp2_with fail
    refine leaves_cons (f := 77) (args := #[.pointer (some ⟨b, 0, none⟩), .slice (some ⟨gd, 0, none⟩) 1 1]) (by simp) (by simp [go_sem]) ?_
    refine (say_def PX.out [[41]] gd 1 (HPC.out.fb (HPC.out.ne PV.out) GX.out) (by have := LB.out; simp only [List.length_append, List.length_cons, List.length_nil, List.flatten_cons, List.flatten_nil] at this ⊢; omega) (by simp)).mono ?_
    rintro e u w9 ⟨rfl, rfl, f9, p9⟩
    refine ⟨.tuple #[], results_none Tryz.results52 _ _ _, rfl, (FV.out.trans GX.out).trans f9, ?_⟩
    rw [HB0.out] at p9
    simpa using p9

set_option maxHeartbeats 4000000 in
theorem ex_plain (k a : Nat) (n : Bs) (m : Nat) (ns : List Bs) (l : List PE) (ts : List PT) (h1 : k = 1 → m ≤ 9223372036854775807) (HE : ∀ x, (x ∈ l ∨ x = zPE) → (prE 0 x).length < L → ExOk S x) (hL : (bodyE k n m ns (l.map (prE 0)) (l.map (prE 2)) (ts.map (prT 0))).length ≤ L) (HCH : k = 6 ∨ k = 7 → ∀ (A : Nat → Prop) (cs : List Value), PrtE S 87 (fun b => #[.pointer (some ⟨b, 0, none⟩), .agg cs.toArray]) (prE 2 (.mk k a n m ns l ts)) (fun B w => IsCs A w (encE 26 36 (.mk k a n m ns l ts)) cs ∧ Tab B w)) (q : Nat) (hm : ¬ lvlE k < q) (A : Nat → Prop) (cs : List Value) :
    PrtE S 52 (fun b => #[.pointer (some ⟨b, 0, none⟩), .agg cs.toArray, .int .i64 (q : Nat)]) (bodyE k n m ns (l.map (prE 0)) (l.map (prE 2)) (ts.map (prT 0))) (fun B w => IsCs A w (encE 26 36 (.mk k a n m ns l ts)) cs ∧ Tab B w) := by
  intro B b bs w hP hD hlen
  obtain ⟨hC, hTab⟩ := hD
  have HTB := Lib.hid hTab
  obtain ⟨body, hbody⟩ : ∃ body, body = bodyE k n m ns (l.map (prE 0)) (l.map (prE 2)) (ts.map (prT 0)) := ⟨_, rfl⟩
  rw [← hbody] at hlen hL ⊢
  have HBL := Lib.hid hL
  obtain ⟨a4, c4, a5, c5, a6, c6, rfl, -, -, -⟩ := cells_E2 hC
  have HBODY := Lib.hid hbody
  have HC := Lib.hid hC
  have HP := Lib.hid hP
  have HTT := Lib.hid HE
  have H1 := Lib.hid h1
  have HC7 := Lib.hid HCH
  have HLEN := Lib.hid hlen
  obtain ⟨W1, hW1⟩ : ∃ W1, w.alloc (.cells #[.int .i64 (k : Nat), .int .i64 (a : Nat), .string ⟨n.toArray⟩, .int .i64 (m : Nat), .slice a4 ns.length c4, .slice a5 l.length c5, .slice a6 ts.length c6] 36) = W1 := ⟨_, rfl⟩
  have hA1 : W1.heap[w.heap.size]? = some (.cells #[.int .i64 (k : Nat), .int .i64 (a : Nat), .string ⟨n.toArray⟩, .int .i64 (m : Nat), .slice a4 ns.length c4, .slice a5 l.length c5, .slice a6 ts.length c6] 36 (0, 0)) := by rw [← hW1]; exact heap_alloc_new w _
  have hP1 : Pst B W1 b bs := by rw [← hW1]; exact hP.alloc _
  have hF1 : Fb B b w W1 := by rw [← hW1]; exact (Fb.refl B b w).alloc hP.hi _
  obtain ⟨⟨q0, q1, q2, q3, q4, q5, q6⟩, -⟩ := sev_of (t := 36) hA1
  have HA1 := Lib.hid hA1
  have HP1 := Lib.hid hP1
  have HF1 := Lib.hid hF1
  have HNB : Hid (∀ W : World, b < W.heap.size → ∀ e : some w.heap.size = some b, False) := by
    intro W _ e
    have := HP.out.lt
    have := Option.some.inj e
    omega
  have HLV := Lib.hid (levelE_any k (a : Nat) ⟨n.toArray⟩ (m : Nat) a4 a5 a6 ns.length c4 l.length c5 ts.length c6 W1)
  have m1 : decide ((lvlE k : Int) < (q : Int)) = false := by simp only [decide_eq_false_iff_not]; omega
  have m2 : decide (lvlE k < q) = false := by simp only [decide_eq_false_iff_not]; omega
  obtain ⟨lv, hlv⟩ : ∃ lv, lv = lvlE k := ⟨_, rfl⟩
  rw [← hlv] at HLV m1 m2
  clear hC hTab hA1 hP1 hF1 hP hlen hbody hm hlv HE h1 HCH hL
  go_enter_defers Tryz.func52, Tryz.ntmps52
  go_upto_region 1 with fail
  clear hW1
  go_wp2_with fail
  refine HLV.out.mono ?_
  rintro e W2 ⟨rfl, b2⟩
  have P2 := Lib.hid (HP1.out.below b2)
  have F2 := Lib.hid (HF1.out.then_below b2 HP1.out)
  have hA2 := (Fb.of_below HP1.out.hi b2 : Fb B b W1 W2).2 _ _ HA1.out (fun e => HNB.out W1 HP1.out.lt e) (fun c fz e => by cases e)
  have HA2 := Lib.hid hA2
  clear b2 HLV q0 q1 q2 q3 q4 q5 q6
  go_upto_region 4 with fail
  obtain ⟨V, hV⟩ : ∃ V, V = W2 := ⟨_, rfl⟩
  rw [← hV]
  obtain ⟨b0, hb0⟩ : ∃ b0, b0 = bs := ⟨_, rfl⟩
  have PV : Hid (Pst B V b b0) := by rw [hV, hb0]; exact P2.out
  have FV : Hid (Fb B b w V) := by rw [hV]; exact F2.out
  have hAV : V.heap[w.heap.size]? = some (.cells #[.int .i64 (k : Nat), .int .i64 (a : Nat), .string ⟨n.toArray⟩, .int .i64 (m : Nat), .slice a4 ns.length c4, .slice a5 l.length c5, .slice a6 ts.length c6] 36 (0, 0)) := by rw [hV]; exact HA2.out
  have LB : Hid (b0.length + body.length + 0 + S ≤ 100000000000000) := by have := HLEN.out; rw [hb0]; exact this
  have HB0 := Lib.hid hb0
  clear hV hb0 hA2
  obtain ⟨⟨r0, r1, r2, r3, r4, r5, r6⟩, -⟩ := sev_of (t := 36) hAV
  have HAV := Lib.hid hAV
  have HCV := Lib.hid (IsCs.fb HP.out FV.out _ _ (nb_E _) HC.out)
  clear hAV
  by_cases h1 : k = 1
  · subst h1
    have hb : body = dig m := HBODY.out
    have HQ := Lib.hid (formatInt_any m (H1.out rfl) V (HTB.out.fb FV.out))
    rw [← hb] at HQ
    go_wp2_with fail
    refine HQ.out.mono ?_
    rintro e V1 ⟨rfl, b1⟩
    have PV1 := Lib.hid (PV.out.below b1)
    have G1 := Lib.hid (Fb.of_below PV.out.hi b1 : Fb B b V V1)
    have HS := Lib.hid (say1 PV1.out body (by have := LB.out; omega))
    clear b1 HQ hb
    go_wp2_with fail
    refine HS.out.mono ?_
    rintro e X ⟨rfl, fx, px⟩
    have PX := Lib.hid px
    have GX := Lib.hid (G1.out.trans fx)
    clear fx px HS
    go_wp2_with fail
    refine ⟨.tuple #[], results_none Tryz.results52 _ _ _, rfl, FV.out.trans GX.out, ?_⟩
    have := PX.out
    rw [HB0.out] at this
    exact this
  by_cases h2 : k = 2
  · subst h2
    have hb : body = [34] ++ (n ++ [34]) := HBODY.out
    have HS := Lib.hid (say3 PV.out [34] n [34] (by have := LB.out; rw [hb] at this; omega))
    rw [← hb] at HS
    clear hb
    go_wp2_with fail
    refine HS.out.mono ?_
    rintro e X ⟨rfl, fx, px⟩
    have PX := Lib.hid px
    have GX := Lib.hid fx
    clear fx px HS
    go_wp2_with fail
    refine ⟨.tuple #[], results_none Tryz.results52 _ _ _, rfl, FV.out.trans GX.out, ?_⟩
    have := PX.out
    rw [HB0.out] at this
    exact this
  by_cases h3 : k = 3
  · subst h3
    obtain ⟨tv, htv⟩ : ∃ tv : Bool, tv = ((m : Int) == 1) := ⟨_, rfl⟩
    have hb : body = if tv then [116, 114, 117, 101] else [102, 97, 108, 115, 101] := by
      have h := HBODY.out
      rw [h, htv]
      by_cases hm1 : m = 1
      · subst hm1; rfl
      · have e1 : ((m : Int) == 1) = false := by simp only [beq_eq_false_iff_ne, ne_eq]; omega
        rw [e1]
        simp [bodyE, hm1]
    have HQ := Lib.hid (formatBool_any tv V)
    rw [← hb] at HQ
    have etv := htv.symm
    have HS := Lib.hid (say1 PV.out body (by have := LB.out; omega))
    clear hb htv
    go_wp2_with fail
    first | rw [etv] | skip
    refine HQ.out.mono ?_
    rintro e V1 ⟨rfl, rfl⟩
    clear etv
    go_wp2_with fail
    refine HS.out.mono ?_
    rintro e X ⟨rfl, fx, px⟩
    have PX := Lib.hid px
    have GX := Lib.hid fx
    clear fx px HS
    go_wp2_with fail
    refine ⟨.tuple #[], results_none Tryz.results52 _ _ _, rfl, FV.out.trans GX.out, ?_⟩
    have := PX.out
    rw [HB0.out] at this
    exact this
  by_cases h4 : k = 4
  · subst h4
    have hb : body = n := HBODY.out
    have HS := Lib.hid (say1 PV.out n (by have := LB.out; rw [hb] at this; omega))
    rw [← hb] at HS
    have HBB := Lib.hid hb
    clear hb
    go_wp2_with fail
    first | rw [← HBB.out] | skip
    refine HS.out.mono ?_
    rintro e X ⟨rfl, fx, px⟩
    have PX := Lib.hid px
    have GX := Lib.hid fx
    clear fx px HS
    go_wp2_with fail
    refine ⟨.tuple #[], results_none Tryz.results52 _ _ _, rfl, FV.out.trans GX.out, ?_⟩
    have := PX.out
    rw [HB0.out] at this
    exact this
  by_cases h5 : k = 5
  · subst h5
    have HS : Hid (Calls Tryz.prog 86 #[.pointer (some ⟨b, 0, none⟩), .agg #[.int .i64 ((5 : Nat) : Int), .int .i64 (a : Nat), .string ⟨n.toArray⟩, .int .i64 (m : Nat), .slice a4 ns.length c4, .slice a5 l.length c5, .slice a6 ts.length c6]] V (fun e w' => e = .returned (.tuple #[]) ∧ Fb B b V w' ∧ Pst B w' b (b0 ++ body))) := by
      have hb : body = 123 :: (joinL [44, 32] (pairL [32, 61, 32] ns (l.map (prE 0))) ++ [125]) := HBODY.out
      rw [hb]
      exact recEp_any 5 a n m ns l ts HTT.out (by have := HBL.out; rw [hb] at this; exact this) A _ B b b0 V PV.out ⟨HCV.out, HTB.out.fb FV.out⟩ (by have := LB.out; rw [hb] at this; exact le_mid this)
    go_wp2_with fail
    refine HS.out.mono ?_
    rintro e X ⟨rfl, fx, px⟩
    have PX := Lib.hid px
    have GX := Lib.hid fx
    clear fx px HS
    go_wp2_with fail
    refine ⟨.tuple #[], results_none Tryz.results52 _ _ _, rfl, FV.out.trans GX.out, ?_⟩
    have := PX.out
    rw [HB0.out] at this
    exact this
  by_cases h6 : k = 6
  · subst h6
    have HS : Hid (Calls Tryz.prog 87 #[.pointer (some ⟨b, 0, none⟩), .agg #[.int .i64 ((6 : Nat) : Int), .int .i64 (a : Nat), .string ⟨n.toArray⟩, .int .i64 (m : Nat), .slice a4 ns.length c4, .slice a5 l.length c5, .slice a6 ts.length c6]] V (fun e w' => e = .returned (.tuple #[]) ∧ Fb B b V w' ∧ Pst B w' b (b0 ++ body))) := by
      have hb : body = prE 2 (.mk 6 a n m ns l ts) := by rw [HBODY.out, prE_mk]; rfl
      rw [hb]
      exact HC7.out (.inl rfl) A _ B b b0 V PV.out ⟨HCV.out, HTB.out.fb FV.out⟩ (by have := LB.out; rw [hb] at this; exact le_mid this)
    go_wp2_with fail
    refine HS.out.mono ?_
    rintro e X ⟨rfl, fx, px⟩
    have PX := Lib.hid px
    have GX := Lib.hid fx
    clear fx px HS
    go_wp2_with fail
    refine ⟨.tuple #[], results_none Tryz.results52 _ _ _, rfl, FV.out.trans GX.out, ?_⟩
    have := PX.out
    rw [HB0.out] at this
    exact this
  by_cases h7 : k = 7
  · subst h7
    have HS : Hid (Calls Tryz.prog 87 #[.pointer (some ⟨b, 0, none⟩), .agg #[.int .i64 ((7 : Nat) : Int), .int .i64 (a : Nat), .string ⟨n.toArray⟩, .int .i64 (m : Nat), .slice a4 ns.length c4, .slice a5 l.length c5, .slice a6 ts.length c6]] V (fun e w' => e = .returned (.tuple #[]) ∧ Fb B b V w' ∧ Pst B w' b (b0 ++ body))) := by
      have hb : body = prE 2 (.mk 7 a n m ns l ts) := by rw [HBODY.out, prE_mk]; rfl
      rw [hb]
      exact HC7.out (.inr rfl) A _ B b b0 V PV.out ⟨HCV.out, HTB.out.fb FV.out⟩ (by have := LB.out; rw [hb] at this; exact le_mid this)
    go_wp2_with fail
    refine HS.out.mono ?_
    rintro e X ⟨rfl, fx, px⟩
    have PX := Lib.hid px
    have GX := Lib.hid fx
    clear fx px HS
    go_wp2_with fail
    refine ⟨.tuple #[], results_none Tryz.results52 _ _ _, rfl, FV.out.trans GX.out, ?_⟩
    have := PX.out
    rw [HB0.out] at this
    exact this
  by_cases h8 : k = 8
  · subst h8
    have HS : Hid (Calls Tryz.prog 88 #[.pointer (some ⟨b, 0, none⟩), .agg #[.int .i64 ((8 : Nat) : Int), .int .i64 (a : Nat), .string ⟨n.toArray⟩, .int .i64 (m : Nat), .slice a4 ns.length c4, .slice a5 l.length c5, .slice a6 ts.length c6]] V (fun e w' => e = .returned (.tuple #[]) ∧ Fb B b V w' ∧ Pst B w' b (b0 ++ body))) := by
      have hb : body = ([102, 117, 110, 32, 40] ++ (n ++ [32, 58, 32])) ++ (prT 0 (ts[0]?.getD zPT) ++ ([41, 32] ++ (prE 0 (l[0]?.getD zPE)))) := by
        rw [HBODY.out, ← headD_get 0 (by decide), ← headE0 0 (.inl rfl)]; simp [bodyE]
      rw [hb]
      exact funp_any 8 a n m ns l ts HTT.out (by have := HBL.out; rw [hb] at this; exact this) A _ B b b0 V PV.out ⟨HCV.out, HTB.out.fb FV.out⟩ (by have := LB.out; rw [hb] at this; exact le_mid this)
    go_wp2_with fail
    refine HS.out.mono ?_
    rintro e X ⟨rfl, fx, px⟩
    have PX := Lib.hid px
    have GX := Lib.hid fx
    clear fx px HS
    go_wp2_with fail
    refine ⟨.tuple #[], results_none Tryz.results52 _ _ _, rfl, FV.out.trans GX.out, ?_⟩
    have := PX.out
    rw [HB0.out] at this
    exact this
  by_cases h9 : k = 9
  · subst h9
    have HS : Hid (Calls Tryz.prog 89 #[.pointer (some ⟨b, 0, none⟩), .agg #[.int .i64 ((9 : Nat) : Int), .int .i64 (a : Nat), .string ⟨n.toArray⟩, .int .i64 (m : Nat), .slice a4 ns.length c4, .slice a5 l.length c5, .slice a6 ts.length c6]] V (fun e w' => e = .returned (.tuple #[]) ∧ Fb B b V w' ∧ Pst B w' b (b0 ++ body))) := by
      have hb : body = ([108, 101, 116, 32] ++ (n ++ [32, 61, 32])) ++ (prE 0 (l[0]?.getD zPE) ++ ([32, 105, 110, 32] ++ (prE 0 (l[1]?.getD zPE)))) := by
        rw [HBODY.out, ← headE0 0 (.inl rfl), ← headE1 0 (.inl rfl)]; simp [bodyE]
      rw [hb]
      exact letp_any 9 a n m ns l ts HTT.out (by have := HBL.out; rw [hb] at this; exact this) A _ B b b0 V PV.out ⟨HCV.out, HTB.out.fb FV.out⟩ (by have := LB.out; rw [hb] at this; exact le_mid this)
    go_wp2_with fail
    refine HS.out.mono ?_
    rintro e X ⟨rfl, fx, px⟩
    have PX := Lib.hid px
    have GX := Lib.hid fx
    clear fx px HS
    go_wp2_with fail
    refine ⟨.tuple #[], results_none Tryz.results52 _ _ _, rfl, FV.out.trans GX.out, ?_⟩
    have := PX.out
    rw [HB0.out] at this
    exact this
  by_cases h10 : k = 10
  · subst h10
    have HS : Hid (Calls Tryz.prog 90 #[.pointer (some ⟨b, 0, none⟩), .agg #[.int .i64 ((10 : Nat) : Int), .int .i64 (a : Nat), .string ⟨n.toArray⟩, .int .i64 (m : Nat), .slice a4 ns.length c4, .slice a5 l.length c5, .slice a6 ts.length c6]] V (fun e w' => e = .returned (.tuple #[]) ∧ Fb B b V w' ∧ Pst B w' b (b0 ++ body))) := by
      have hb : body = [105, 102, 32] ++ (prE 0 (l[0]?.getD zPE) ++ ([32, 116, 104, 101, 110, 32] ++ (prE 0 (l[1]?.getD zPE) ++ ([32, 101, 108, 115, 101, 32] ++ (prE 0 (l[2]?.getD zPE)))))) := by
        rw [HBODY.out, ← headE0 0 (.inl rfl), ← headE1 0 (.inl rfl), ← headE2 0 (.inl rfl)]; simp [bodyE]
      rw [hb]
      exact ifp_any 10 a n m ns l ts HTT.out (by have := HBL.out; rw [hb] at this; exact this) A _ B b b0 V PV.out ⟨HCV.out, HTB.out.fb FV.out⟩ (by have := LB.out; rw [hb] at this; exact le_mid this)
    go_wp2_with fail
    refine HS.out.mono ?_
    rintro e X ⟨rfl, fx, px⟩
    have PX := Lib.hid px
    have GX := Lib.hid fx
    clear fx px HS
    go_wp2_with fail
    refine ⟨.tuple #[], results_none Tryz.results52 _ _ _, rfl, FV.out.trans GX.out, ?_⟩
    have := PX.out
    rw [HB0.out] at this
    exact this
  by_cases h11 : k = 11
  · subst h11
    have HS : Hid (Calls Tryz.prog 91 #[.pointer (some ⟨b, 0, none⟩), .agg #[.int .i64 ((11 : Nat) : Int), .int .i64 (a : Nat), .string ⟨n.toArray⟩, .int .i64 (m : Nat), .slice a4 ns.length c4, .slice a5 l.length c5, .slice a6 ts.length c6]] V (fun e w' => e = .returned (.tuple #[]) ∧ Fb B b V w' ∧ Pst B w' b (b0 ++ body))) := by
      have hb : body = [40] ++ (prE 0 (l[0]?.getD zPE) ++ ([32, 58, 32] ++ (prT 0 (ts[0]?.getD zPT) ++ ([41])))) := by
        rw [HBODY.out, ← headD_get 0 (by decide), ← headE0 0 (.inl rfl)]; simp [bodyE]
      rw [hb]
      exact as_any 11 a n m ns l ts HTT.out (by have := HBL.out; rw [hb] at this; exact this) A _ B b b0 V PV.out ⟨HCV.out, HTB.out.fb FV.out⟩ (by have := LB.out; rw [hb] at this; exact le_mid this)
    go_wp2_with fail
    refine HS.out.mono ?_
    rintro e X ⟨rfl, fx, px⟩
    have PX := Lib.hid px
    have GX := Lib.hid fx
    clear fx px HS
    go_wp2_with fail
    refine ⟨.tuple #[], results_none Tryz.results52 _ _ _, rfl, FV.out.trans GX.out, ?_⟩
    have := PX.out
    rw [HB0.out] at this
    exact this
  · have hb : body = [] := by have := HBODY.out; rw [this]; unfold bodyE; simp only [h1, h2, h3, h4, h5, h6, h7, h8, h9, h10, h11, if_false]
    have e1 : ((k : Int) == 1) = false := by simp only [beq_eq_false_iff_ne, ne_eq]; omega
    have e2 : ((k : Int) == 2) = false := by simp only [beq_eq_false_iff_ne, ne_eq]; omega
    have e3 : ((k : Int) == 3) = false := by simp only [beq_eq_false_iff_ne, ne_eq]; omega
    have e4 : ((k : Int) == 4) = false := by simp only [beq_eq_false_iff_ne, ne_eq]; omega
    have e5 : ((k : Int) == 5) = false := by simp only [beq_eq_false_iff_ne, ne_eq]; omega
    have e6 : ((k : Int) == 6) = false := by simp only [beq_eq_false_iff_ne, ne_eq]; omega
    have e7 : ((k : Int) == 7) = false := by simp only [beq_eq_false_iff_ne, ne_eq]; omega
    have e8 : ((k : Int) == 8) = false := by simp only [beq_eq_false_iff_ne, ne_eq]; omega
    have e9 : ((k : Int) == 9) = false := by simp only [beq_eq_false_iff_ne, ne_eq]; omega
    have e10 : ((k : Int) == 10) = false := by simp only [beq_eq_false_iff_ne, ne_eq]; omega
    have e11 : ((k : Int) == 11) = false := by simp only [beq_eq_false_iff_ne, ne_eq]; omega
    have PX : Hid (Pst B V b (b0 ++ body)) := by rw [hb, List.append_nil]; exact PV.out
    have GX := Lib.hid (Fb.refl B b V)
    clear hb
    go_wp2_with fail
    refine ⟨.tuple #[], results_none Tryz.results52 _ _ _, rfl, FV.out.trans GX.out, ?_⟩
    have := PX.out
    rw [HB0.out] at this
    exact this

theorem ex_step (k a : Nat) (n : Bs) (m : Nat) (ns : List Bs) (l : List PE) (ts : List PT) (h1 : k = 1 → m ≤ 9223372036854775807) (HE : ∀ x, (x ∈ l ∨ x = zPE) → (prE 0 x).length < (prE 0 (.mk k a n m ns l ts)).length → ExOk S x) (HCH : k = 6 ∨ k = 7 → ∀ (A : Nat → Prop) (cs : List Value), PrtE S 87 (fun b => #[.pointer (some ⟨b, 0, none⟩), .agg cs.toArray]) (prE 2 (.mk k a n m ns l ts)) (fun B w => IsCs A w (encE 26 36 (.mk k a n m ns l ts)) cs ∧ Tab B w)) : ExOk S (.mk k a n m ns l ts) := by
  have hL : (bodyE k n m ns (l.map (prE 0)) (l.map (prE 2)) (ts.map (prT 0))).length ≤ (prE 0 (.mk k a n m ns l ts)).length := by
    rw [prE_mk, markE, if_neg (Nat.not_lt_zero _)]; exact Nat.le_refl _
  intro q _ A cs
  rw [prE_mk]
  by_cases hm : lvlE k < q
  · rw [markE, if_pos hm]; exact ex_mark k a n m ns l ts h1 HE hL HCH q hm A cs
  · rw [markE, if_neg hm]; exact ex_plain k a n m ns l ts h1 HE hL HCH q hm A cs

end Go.Proofs.YthpoffklhpbdoaaGreatDoor

namespace Go.Proofs.YthpoffklhpbdoaaGreatDoor
set_option maxRecDepth 100000
open Go.RowKit

def PE.parts : PE → List PE | .mk _ _ _ _ _ l _ => l
def PE.kind : PE → Nat | .mk k _ _ _ _ _ _ => k
/-- A link's own text. -/
def lnk : PE → Bs
  | .mk k _ n _ _ l _ => if k = 6 then 46 :: n else 40 :: (prE 0 (l[1]?.getD zPE) ++ [41])
/-- All links, the outermost first, and what they are of. -/
inductive Chn : PE → List PE → PE → Prop
  | base {x : PE} (h : ¬ (x.kind = 6 ∨ x.kind = 7)) : Chn x [] x
  | link {x : PE} {ls : List PE} {b : PE} (h : x.kind = 6 ∨ x.kind = 7) (hr : Chn (x.parts[0]?.getD zPE) ls b) : Chn x (x :: ls) b
theorem zPE_kind : ¬ (zPE.kind = 6 ∨ zPE.kind = 7) := by decide
theorem chn_ex : ∀ x : PE, ∃ ls b, Chn x ls b
  | .mk k a n m ns l ts => by
    by_cases h : k = 6 ∨ k = 7
    · cases l with
      | nil => exact ⟨_, _, .link h (.base zPE_kind)⟩
      | cons t r =>
        obtain ⟨ls, b, hc⟩ := chn_ex t
        exact ⟨_, _, .link h hc⟩
    · exact ⟨_, _, .base h⟩
termination_by x => SizeOf.sizeOf x
decreasing_by simp_wf; omega
theorem chn_text {x : PE} {ls : List PE} {b : PE} (h : Chn x ls b) : prE 2 x = prE 2 b ++ ls.reverse.flatMap lnk := by
  induction h with
  | base h => simp
  | @link x ls b h hr ih =>
    obtain ⟨k, a, n, m, ns, l, ts⟩ := x
    have e0 : (l.map (prE 2)).headD [] = prE 2 (l[0]?.getD zPE) := headE0 2 (.inr rfl) l
    have e1 : (l.map (prE 0)).tail.headD [] = prE 0 (l[1]?.getD zPE) := headE1 0 (.inl rfl) l
    have ih : prE 2 (l[0]?.getD zPE) = prE 2 b ++ ls.reverse.flatMap lnk := ih
    rw [List.reverse_cons, List.flatMap_append, ← List.append_assoc, ← ih, prE_mk]
    rcases h with h | h
    · have h : k = 6 := h
      subst h
      show (l.map (prE 2)).headD [] ++ 46 :: n = _
      rw [e0]; simp [lnk]
    · have h : k = 7 := h
      subst h
      show (l.map (prE 2)).headD [] ++ 40 :: ((l.map (prE 0)).tail.headD [] ++ [41]) = _
      rw [e0, e1]; simp [lnk]
theorem lnk_pos (x : PE) : 1 ≤ (lnk x).length := by
  obtain ⟨k, a, n, m, ns, l, ts⟩ := x
  rw [lnk]; split <;> simp
theorem lnks_ge : ∀ ls : List PE, ls.length ≤ (ls.flatMap lnk).length
  | [] => by simp
  | x :: ls => by
    have := lnks_ge ls
    have := lnk_pos x
    simp only [List.length_cons, List.flatMap_cons, List.length_append]; omega
theorem rev_len (ls : List PE) : (ls.reverse.flatMap lnk).length = (ls.flatMap lnk).length := by
  induction ls with
  | nil => rfl
  | cons x ls ih => simp only [List.reverse_cons, List.flatMap_append, List.flatMap_cons, List.flatMap_nil, List.length_append, List.length_nil] at ih ⊢; omega
/-- The kinds of links; what is below is smaller. -/
theorem chn_kinds {x : PE} {ls : List PE} {b : PE} (h : Chn x ls b) : ∀ y ∈ ls, y.kind = 6 ∨ y.kind = 7 := by
  induction h with
  | base h => simp
  | @link x ls b h hr ih =>
    intro y hy
    rcases List.mem_cons.1 hy with rfl | hy
    · exact h
    · exact ih y hy
/-- Numbers that an int64 holds, all the way down. -/
inductive NE : PE → Prop
  | mk {k a : Nat} {n : Bs} {m : Nat} {ns : List Bs} {l : List PE} {ts : List PT} (h1 : k = 1 → m ≤ 9223372036854775807) (h2 : ∀ x ∈ l, NE x) : NE (.mk k a n m ns l ts)
theorem ne_zero : NE zPE := .mk (by decide) (by simp)
theorem NE.part {x : PE} (h : NE x) (i : Nat) : NE (x.parts[i]?.getD zPE) := by
  cases h with
  | @mk k a n m ns l ts h1 h2 =>
    show NE (l[i]?.getD zPE)
    cases hl : l[i]? with
    | none => exact ne_zero
    | some t => exact h2 t (List.mem_of_getElem? hl)
theorem part_lt {x : PE} (i : Nat) (hz : x.parts[i]?.getD zPE ≠ zPE) : SizeOf.sizeOf (x.parts[i]?.getD zPE) < SizeOf.sizeOf x := by
  obtain ⟨k, a, n, m, ns, l, ts⟩ := x
  have hl : (PE.mk k a n m ns l ts).parts = l := rfl
  rw [hl] at hz ⊢
  cases h : l[i]? with
  | none => rw [h] at hz; exact absurd rfl hz
  | some t =>
    have := List.sizeOf_lt_of_mem (List.mem_of_getElem? h)
    show SizeOf.sizeOf t < SizeOf.sizeOf (PE.mk k a n m ns l ts)
    simp only [PE.mk.sizeOf_spec]
    omega
/-- All that a chain calls on. -/
theorem chn_all {Q : PE → Prop} {x : PE} {ls : List PE} {b : PE} (h : Chn x ls b) (hz : Q zPE) (hx : NE x) : (∀ y, SizeOf.sizeOf y < SizeOf.sizeOf x → NE y → Q y) → (x.kind = 6 ∨ x.kind = 7) → Q b ∧ ∀ y ∈ ls, ∀ i : Nat, Q (y.parts[i]?.getD zPE) := by
  induction h with
  | base h => intro _ hk; exact absurd hk h
  | @link x ls b h hr ih =>
    intro hs _
    have hp : ∀ i : Nat, Q (x.parts[i]?.getD zPE) := fun i => by
      by_cases e : x.parts[i]?.getD zPE = zPE
      · rw [e]; exact hz
      · exact hs _ (part_lt i e) (hx.part i)
    by_cases hk : (x.parts[0]?.getD zPE).kind = 6 ∨ (x.parts[0]?.getD zPE).kind = 7
    · have hne : x.parts[0]?.getD zPE ≠ zPE := by intro e; rw [e] at hk; exact zPE_kind hk
      obtain ⟨h1, h2⟩ := ih (hx.part 0) (fun y hy hn => hs y (Nat.lt_trans hy (part_lt 0 hne)) hn) hk
      refine ⟨h1, fun y hy i => ?_⟩
      rcases List.mem_cons.1 hy with rfl | hy
      · exact hp i
      · exact h2 y hy i
    · cases hr with
      | base _ =>
        refine ⟨hp 0, fun y hy i => ?_⟩
        rcases List.mem_cons.1 hy with rfl | hy
        · exact hp i
        · cases hy
      | link h' _ => exact absurd h' hk

end Go.Proofs.YthpoffklhpbdoaaGreatDoor

namespace Go.Proofs.YthpoffklhpbdoaaGreatDoor
set_option maxRecDepth 100000
open Go.RowKit Go.Shelf
attribute [local go_sem] Oper.semAt_some

/-- What a round may turn: no slice's box, no expression. -/
structure Kb (W W' : World) : Prop where
  size : W.heap.size ≤ W'.heap.size
  own : ∀ (k : Nat) (c : Array Value) (t : TypeId) (fz : Nat × Nat), t = 34 ∨ t = 36 → W.heap[k]? = some (.cells c t fz) → W'.heap[k]? = some (.cells c t fz)
theorem Kb.refl (W : World) : Kb W W := ⟨Nat.le_refl _, fun _ _ _ _ _ h => h⟩
theorem Kb.trans {A B C : World} (h : Kb A B) (k : Kb B C) : Kb A C := ⟨Nat.le_trans h.size k.size, fun i c t fz ht hi => k.own i c t fz ht (h.own i c t fz ht hi)⟩
theorem Kb.of_below {W W' : World} (h : Below W.heap.size W W') : Kb W W' :=
  ⟨h.size, fun k _ _ _ _ hk => (h.block k (Array.getElem?_eq_some_iff.1 hk).1).trans hk⟩
theorem Kb.put (W : World) (l : Nat) (o o' : Obj) (h : W.heap[l]? = some o) (hc : o.isCells = false) : Kb W (W.putObj l o') := by
  refine ⟨by simp [World.putObj], fun k c t fz _ hk => ?_⟩
  have hne : k ≠ l := by
    rintro rfl
    rw [h] at hk
    cases hk
    simp [Obj.isCells] at hc
  exact (World.putObj_heap_other hne).trans hk
theorem Kb.row {W W' : World} (h : Kb W W') {base size n : Nat} {v : Value} {xs : List Value} (hr : W.ownsRow base 36 size v n xs) : W'.ownsRow base 36 size v n xs := by
  refine ⟨hr.1, ?_⟩
  rcases hr.2 with hn' | ⟨g, cap, cur, rfl, hb, hgg, rest⟩
  · exact .inl hn'
  · exact .inr ⟨g, cap, cur, rfl, hb, h.own g _ _ _ (.inr rfl) hgg, rest⟩

/-- The cells of an element. -/
def elC (ys : List Value) (i : Nat) : List Value := (ys.drop (i * 7)).take 7
def elV (ys : List Value) (i : Nat) : Array Value := #[.int .i64 (i : Nat), .agg (elC ys i).toArray]
/-- The sequence: from the last to the first. -/
def bkSeq (N : Nat) : List (Fin N) := (List.finRange N).reverse
theorem bkSeq_len (N : Nat) : (bkSeq N).length = N := by simp [bkSeq]
theorem bkSeq_at (N m : Nat) (h : m < N) : (bkSeq N)[N - (m + 1)]? = some ⟨m, h⟩ := by
  unfold bkSeq
  rw [List.getElem?_reverse (by simp; omega)]
  simp only [List.length_finRange]
  rw [show N - 1 - (N - (m + 1)) = m by omega]
  simp [h]
theorem list7 {l : List Value} (h : l.length = 7) : ∃ y0 y1 y2 y3 y4 y5 y6, l = [y0, y1, y2, y3, y4, y5, y6] := by
  match l, h with
  | [y0, y1, y2, y3, y4, y5, y6], _ => exact ⟨y0, y1, y2, y3, y4, y5, y6, rfl⟩
theorem el_at {ys : List Value} {N m : Nat} (hy : ys.length = N * 7) (h : m < N) : (elC ys m).length = 7 ∧ ∀ j, j < 7 → (elC ys m)[j]? = ys[m * 7 + j]? := by
  unfold elC
  refine ⟨by simp; omega, fun j hj => ?_⟩
  rw [List.getElem?_take, if_pos hj, List.getElem?_drop]

set_option maxHeartbeats 4000000 in
theorem back1_in (n : Nat) (hn : 1 ≤ n) (l Bx base g cap N : Nat) (ys : List Value) (hmax : N ≤ 1000000000)
    (J Jx : List (Fin N) → World → Prop)
    (hY : ∀ pre (x : Fin N) W, J pre W → pre.length < N → YieldAt Fence.wide (n - 1) Tryz.prog l (elV ys x.1) W fun e W' =>
      (e = .returned (.bool true) ∧ J (pre ++ [x]) W' ∧ Kb W W') ∨ (e = .returned (.bool false) ∧ Jx (pre ++ [x]) W'))
    (W : World) (hBx : W.heap[Bx]? = some (.cells #[.slice (some ⟨g, 0, none⟩) N cap] 34 (0, 0))) (hrow : W.ownsRow base 36 7 (.slice (some ⟨g, 0, none⟩) N cap) N ys) (h0 : J [] W) :
    CallsIn Fence.wide n Tryz.prog 128 #[.func (.yield l) #[] #[], .pointer (some ⟨Bx, 0, none⟩)] W fun e W' => (∃ v, e = .returned v) ∧
      ((∃ zs, zs = bkSeq N ∧ J zs W') ∨ (∃ pre, pre <+: bkSeq N ∧ Jx pre W')) := by
  have hcb := (cell_of_block hBx).1
  have HB := Lib.hid hBx
  have HR := Lib.hid hrow
  have HLY := Lib.hid hrow.1
  clear hBx hrow
  refine callsIn_of_wp Tryz.func128 rfl trivial ?_ rfl
  simp only [Tryz.ntmps128, List.size_toArray, List.length_cons, List.length_nil, Nat.reduceAdd, Nat.reduceSub, Array.replicate_succ, Array.replicate_zero, List.push_toArray, List.append_toArray, List.nil_append, List.cons_append]
  gi_wp2_with fail
  gi_loopw [3] (fun s3 wr => ∃ (m : Nat), s3 = .int .i64 ((m : Int) - 1) ∧ m ≤ N ∧ J ((bkSeq N).take (N - m)) wr ∧ Kb W wr) (fun s3 _ => (intOf s3 + 1).toNat)
  case atStart => exact ⟨N, rfl, Nat.le_refl _, by simpa using h0, Kb.refl _⟩
  case round =>
    obtain ⟨m, rfl, hm, hJm, hK⟩ := hrel
    have hcb := (cell_of_block (hK.own Bx _ _ _ (.inl rfl) HB.out)).1
    cases m with
    | zero =>
      have e : (((0 : Nat) : Int) - 1) = -1 := rfl
      rw [e]
      rw [Nat.sub_zero, List.take_of_length_le (by rw [bkSeq_len]; exact Nat.le_refl _)] at hJm
      gi_wp2_with fail
      go_end0
      exact ⟨⟨_, rfl⟩, .inl ⟨_, rfl, hJm⟩⟩
    | succ m =>
      have e : (((m + 1 : Nat) : Int) - 1) = (m : Int) := by omega
      rw [e]
      have hmN : m < N := by omega
      have htk : (bkSeq N).take (N - m) = (bkSeq N).take (N - (m + 1)) ++ [⟨m, hmN⟩] := by
        have h1 := bkSeq_at N m hmN
        rw [show N - m = (N - (m + 1)) + 1 by omega, List.take_add_one, h1]
        rfl
      obtain ⟨h7, hel⟩ := el_at HLY.out hmN
      obtain ⟨fn, tmps, assign, body, hy, hRR⟩ := hY _ ⟨m, hmN⟩ _ hJm (by rw [List.length_take, bkSeq_len]; omega)
      unfold elV at hy
      obtain ⟨y0, y1, y2, y3, y4, y5, y6, he⟩ := list7 h7
      simp only [he] at hel hy
      have hrow := hK.row HR.out
      have hc : ∀ j v, j < 7 → [y0, y1, y2, y3, y4, y5, y6][j]? = some v → wr.cell? ⟨g, m * 7 + j, none⟩ = some v := by
        intro j v hj hv
        rw [World.ownsRow.cellAt hrow _ (by omega), ← hel j hj]
        exact hv
      have c0 := hc 0 y0 (by decide) rfl
      have c1 := hc 1 y1 (by decide) rfl
      have c2 := hc 2 y2 (by decide) rfl
      have c3 := hc 3 y3 (by decide) rfl
      have c4 := hc 4 y4 (by decide) rfl
      have c5 := hc 5 y5 (by decide) rfl
      have c6 := hc 6 y6 (by decide) rfl
      rw [Nat.add_zero] at c0
      have HRR := Lib.hid hRR
      have HTK := Lib.hid htk
      have HK := Lib.hid hK
      have hlt : (m : Int) < (N : Int) := by omega
      clear hc hel h7 hrow htk hRR hK hJm he
      gi_wp2_with fail
      refine HRR.out.mono ?_
      rintro e W3 (⟨rfl, hJ3, hk3⟩ | ⟨rfl, hJx3⟩)
      · gi_wp2_with fail
        go_roundw
        case rel => exact ⟨m, rfl, by omega, by rw [HTK.out]; exact hJ3, HK.out.trans hk3⟩
        case measure => simp [intOf]
      · gi_wp2
        refine bodyPost_ret (results_none rfl _ _ _) rfl ?_
        exact ⟨⟨_, rfl⟩, .inr ⟨_, by rw [← HTK.out]; exact List.take_prefix _ _, hJx3⟩⟩

theorem back_in (n : Nat) (a0 : Option Addr) (k c : Nat) (w : World) :
    CallsIn Fence.wide n Tryz.prog 112 #[.slice a0 k c] w fun e w' => e = .returned (.func (.func 128) #[] #[.pointer (some ⟨w.heap.size, 0, none⟩)]) ∧ w' = w.alloc (.cells #[.slice a0 k c] 34) := by
  refine callsIn_of_wp Tryz.func112 rfl trivial ?_ rfl
  simp only [Tryz.ntmps112, List.size_toArray, List.length_cons, List.length_nil, Nat.reduceAdd, Nat.reduceSub, Array.replicate_succ, Array.replicate_zero, List.push_toArray, List.append_toArray, List.nil_append, List.cons_append]
  gi_wp2
  go_ret
  exact ⟨rfl, rfl⟩

theorem back_stops (n : Nat) (hn : 1 ≤ n) (Bx base g cap N : Nat) (ys : List Value) (hmax : N ≤ 1000000000) (w : World) (hBx : w.heap[Bx]? = some (.cells #[.slice (some ⟨g, 0, none⟩) N cap] 34 (0, 0))) (hrow : w.ownsRow base 36 7 (.slice (some ⟨g, 0, none⟩) N cap) N ys) :
    SeqStopsK Fence.wide n Tryz.prog 128 #[.pointer (some ⟨Bx, 0, none⟩)] (fun x : Fin N => elV ys x.1) Kb (fun zs => zs = bkSeq N) (fun pre => pre <+: bkSeq N) N w :=
  fun l J Jx W hW _ _ hY h0 =>
  back1_in n hn l Bx base g cap N ys hmax J Jx hY W ((hW.block _ (Array.getElem?_eq_some_iff.1 hBx).1).trans hBx) (row_below hrow hW) h0
/-- The data of one element lie in its cells. -/
theorem el_data {A : Nat → Prop} {w : World} : ∀ {l : List PE} {ys : List Value}, IsCs A w (encEs 26 36 l) ys → ∀ {i : Nat} {t : PE}, l[i]? = some t → IsCs A w (encE 26 36 t) (elC ys i)
  | [], ys, h, i, t, hi => by simp at hi
  | x :: r, ys, h, i, t, hi => by
    rw [encEs] at h
    obtain ⟨a, b, rfl, h1, h2⟩ := IsCs.split _ _ _ h
    have hl := IsCs.length _ _ h1
    rw [encE_length] at hl
    cases i with
    | zero =>
      obtain rfl : x = t := by simpa using hi
      unfold elC
      rw [Nat.zero_mul, List.drop_zero, ← hl, List.take_left]
      exact h1
    | succ i =>
      have h3 := el_data h2 (i := i) (t := t) (by simpa using hi)
      unfold elC at h3 ⊢
      rw [show (i + 1) * 7 = a.length + i * 7 by omega, List.drop_append, List.drop_eq_nil_of_le (Nat.le_add_right _ _), Nat.add_sub_cancel_left, List.nil_append]
      exact h3
end Go.Proofs.YthpoffklhpbdoaaGreatDoor

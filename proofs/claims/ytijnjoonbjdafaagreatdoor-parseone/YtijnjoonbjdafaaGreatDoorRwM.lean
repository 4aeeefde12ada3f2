/-
  ParseOne: the law's walk.
  ParseOne returns true for every input: the row, and the card. No condition beside the form's own.
-/
import Derived.Test.YtijnjoonbjdafaaGreatDoorReK
import Derived.Test.YtijnjoonbjdafaaGreatDoorWhM
import Derived.Test.YtijnjoonbjdafaaGreatDoorAlv
import Derived.Test.YtijnjoonbjdafaaGreatDoorSxM
import Derived.Deep.RegionHeld3
import Derived.Test.YtijnjoonbjdafaaGreatDoorCards
import Derived.Test.YtijnjoonbjdafaaGreatDoorTie
import Derived.SevenTiedAt
import Derived.LaidMore
import Derived.WalkKit
import Derived.ProofKit
import Derived.OpenShut
import Derived.ShutString
namespace Go.Proofs.YtijnjoonbjdafaaGreatDoor
set_option maxRecDepth 20000
open Go.RowKit Go.Shelf
theorem bareTe {e : TypeId} (he : stT e = false) (A : Nat → Prop) (w : World) : IsCs A w (encT e qT0) [.int .i64 0, .string ⟨#[]⟩, .slice none 0 0, .slice none 0 0] := by
  simp only [qT0, encT, encTs, List.map_nil, List.length_nil]
  exact .cons (.num _ _ 0) (.cons (.str _ _ []) (.cons (.none _ _ _ (by decide)) (.cons (.none _ _ _ he) (.nil _ _))))
theorem bareEe {e f : TypeId} (he : stT e = false) (hf : stT f = false) (A : Nat → Prop) (w : World) : IsCs A w (encE e f qE0) [.int .i64 0, .int .i64 0, .string ⟨#[]⟩, .int .i64 0, .slice none 0 0, .slice none 0 0, .slice none 0 0] := by
  simp only [qE0, encE, encEs, encTs, List.map_nil, List.length_nil]
  exact .cons (.num _ _ 0) (.cons (.num _ _ 0) (.cons (.str _ _ []) (.cons (.num _ _ 0) (.cons (.none _ _ _ (by decide)) (.cons (.none _ _ _ hf) (.cons (.none _ _ _ he) (.nil _ _)))))))
theorem optT {e : TypeId} (he : stT e = false) {A : Nat → Prop} {w : World} {o : Option PT} {x : Ending} {k : Nat} {n : Bs} {ns : List Bs} {l : List PT} (ht : o.getD qT0 = .mk k n ns l) (h : OptV (fun x cs => IsCs A w (encT e x) cs) #[.int .i64 0, .string ⟨#[]⟩, .slice none 0 0, .slice none 0 0] o x) :
    ∃ a2 c2 a3 c3, x = .returned (.tuple #[.agg #[.int .i64 (k : Nat), .string ⟨n.toArray⟩, .slice a2 ns.length c2, .slice a3 l.length c3], .bool o.isSome]) ∧ IsCs A w (encT e (.mk k n ns l)) [.int .i64 (k : Nat), .string ⟨n.toArray⟩, .slice a2 ns.length c2, .slice a3 l.length c3] := by
  cases o with
  | none =>
    cases ht
    exact ⟨none, 0, none, 0, h, bareTe he A w⟩
  | some t =>
    obtain ⟨cs, h1, h2⟩ := h
    have ht : t = .mk k n ns l := ht
    subst ht
    obtain ⟨v2, v3, rfl, k2, k3⟩ := cells_TTq h2
    obtain ⟨_, r2, -, -⟩ := k2.unrow
    obtain ⟨a2, c2, rfl⟩ := row_slice r2
    obtain ⟨_, r3, -, -⟩ := k3.unrow
    obtain ⟨a3, c3, rfl⟩ := row_slice r3
    exact ⟨a2, c2, a3, c3, h1, h2⟩
theorem optE {e f : TypeId} (he : stT e = false) (hf : stT f = false) {A : Nat → Prop} {w : World} {o : Option PE} {x : Ending} {ek ea : Nat} {en : Bs} {em : Nat} {ens : List Bs} {el : List PE} {ets : List PT} (ht : o.getD qE0 = .mk ek ea en em ens el ets) (h : OptV (fun x cs => IsCs A w (encE e f x) cs) #[.int .i64 0, .int .i64 0, .string ⟨#[]⟩, .int .i64 0, .slice none 0 0, .slice none 0 0, .slice none 0 0] o x) :
    ∃ a4 c4 a5 c5 a6 c6, x = .returned (.tuple #[.agg #[.int .i64 (ek : Nat), .int .i64 (ea : Nat), .string ⟨en.toArray⟩, .int .i64 (em : Nat), .slice a4 ens.length c4, .slice a5 el.length c5, .slice a6 ets.length c6], .bool o.isSome]) ∧ IsCs A w (encE e f (.mk ek ea en em ens el ets)) [.int .i64 (ek : Nat), .int .i64 (ea : Nat), .string ⟨en.toArray⟩, .int .i64 (em : Nat), .slice a4 ens.length c4, .slice a5 el.length c5, .slice a6 ets.length c6] := by
  cases o with
  | none =>
    cases ht
    exact ⟨none, 0, none, 0, none, 0, h, bareEe he hf A w⟩
  | some t =>
    obtain ⟨cs, h1, h2⟩ := h
    have ht : t = .mk ek ea en em ens el ets := ht
    subst ht
    obtain ⟨a4, c4, a5, c5, a6, c6, hcs, -, -, -⟩ := cells_EEq h2
    subst hcs
    exact ⟨a4, c4, a5, c5, a6, c6, h1, h2⟩
theorem whole_sz {α : Type} {m : α → Nat} {f : List Tk → R α} {ts : List Tk} {told : List Dn} {x : α} (hf : Sb ts.length m (f ts)) (h : wholeO (readW f ts) told = some x) : m x ≤ ts.length := by
  unfold wholeO readW at h
  cases hh : f ts with
  | bad y r d => rw [hh, R.bind_bad] at h; cases h
  | ok y r d =>
    rw [hh, R.bind_ok] at h
    have h1 := hf y r d hh
    by_cases hk : (hd r).k = 6
    · rw [if_pos hk] at h
      simp only [R.tell_ok] at h
      split at h
      · cases h; omega
      · cases h
    · rw [if_neg hk] at h
      cases h
set_option maxHeartbeats 8000000 in
theorem one_walk (s : ByteArray) (w : World) : Calls Tryz.prog 3 #[.string s] w (Tells w) := by
  have HA := Lib.hid (alive_any w)
  have HLN := Lib.hid (show (toks s.data.toList).length ≤ s.size + 1 by rw [Lib.size_eq]; exact toks_len _)
  by_cases hsz : 3000 < s.size
  · have hd1 : decide ((3000 : Int) < (s.size : Int)) = true := by simp only [decide_eq_true_eq]; omega
    have hd2 : decide (3000 < s.size) = true := by simp only [decide_eq_true_eq]; omega
    clear hsz
    go_enter Tryz.func3, Tryz.ntmps3
    go_wp2_with fail
    refine HA.out.mono ?_
    rintro e w1 ⟨rfl, b1⟩
    go_wp2_with fail
    go_ret
    exact ⟨rfl, b1⟩
  have hd1 : decide ((3000 : Int) < (s.size : Int)) = false := by simp only [decide_eq_false_iff_not]; omega
  have hd2 : decide (3000 < s.size) = false := by simp only [decide_eq_false_iff_not]; omega
  have h5 : s.size ≤ 100000 := by omega
  have HC1 := Lib.hid (type_any s h5)
  have HC2 := Lib.hid (typeOf_any s h5)
  have HC3 := Lib.hid (exprs_any s h5)
  have HC4 := Lib.hid (exprOf_any s h5)
  obtain ⟨oT, hoT⟩ : ∃ o, o = wholeO (readW (typ 64) (toks s.data.toList)) (dns s.data.toList) := ⟨_, rfl⟩
  obtain ⟨oE, hoE⟩ : ∃ o, o = wholeO (readW (exp 64) (toks s.data.toList)) (dns s.data.toList) := ⟨_, rfl⟩
  rw [← hoT] at HC1 HC2
  rw [← hoE] at HC3 HC4
  have hzT : szT (oT.getD qT0) ≤ 1000000 := by
    cases h : oT with
    | none => decide
    | some x =>
      have := whole_sz ((lvT_sb 64).1 _) (hoT.symm.trans h)
      have := HLN.out
      show szT x ≤ _
      omega
  have hzE : szE (oE.getD qE0) ≤ 999999 := by
    cases h : oE with
    | none => decide
    | some x =>
      have := whole_sz (exp_sb 64 _) (hoE.symm.trans h)
      have := HLN.out
      show szE x ≤ _
      omega
  obtain ⟨T, hT⟩ : ∃ T, oT.getD qT0 = T := ⟨_, rfl⟩
  obtain ⟨E, hE⟩ : ∃ E, oE.getD qE0 = E := ⟨_, rfl⟩
  rw [hT] at hzT
  rw [hE] at hzE
  obtain ⟨k, n, ns, l⟩ := T
  obtain ⟨ek, ea, en, em, ens, el, ets⟩ := E
  have HTO := Lib.hid (toOk _ hzT)
  have HSM := Lib.hid (smOk _ hzT)
  have hz1 : szEs [PE.mk ek ea en em ens el ets] ≤ 1000000 := by simp only [szEs]; omega
  have HEX := Lib.hid (esOk _ hz1)
  have HSE := Lib.hid (seOk true _ _ ⟨rfl, fun _ => rfl⟩ hz1)
  obtain ⟨bT, hbT⟩ : ∃ b, b = oT.isSome := ⟨_, rfl⟩
  obtain ⟨bE, hbE⟩ : ∃ b, b = oE.isSome := ⟨_, rfl⟩
  have HT := Lib.hid hT
  have HE := Lib.hid hE
  have HBT := Lib.hid hbT
  have HBE := Lib.hid hbE
  clear hsz h5 hoT hoE hzT hzE hz1 hT hE hbT hbE
  go_enter Tryz.func3, Tryz.ntmps3
  go_wp2_with fail
  refine HA.out.mono ?_
  rintro e w1 ⟨rfl, b1⟩
  have B1 := Lib.hid b1
  clear b1
  go_wp2_with fail
  refine (HC1.out w1).mono ?_
  rintro e w2 ⟨b, hv⟩
  obtain ⟨pa2, pc2, pa3, pc3, rfl, i⟩ := optT (by decide) HT.out hv
  rw [← HBT.out]
  obtain ⟨W3, hW⟩ : ∃ W, w2.alloc (.cells #[.int .i64 (k : Nat), .string ⟨n.toArray⟩, .slice pa2 ns.length pc2, .slice pa3 l.length pc3] 26) = W := ⟨_, rfl⟩
  have bn : Below w2.heap.size w2 W3 := by rw [← hW]; exact (Below.refl _ _).alloc (Nat.le_refl _) _
  have bb := b.trans (bn.mono b.size)
  have B3 := Lib.hid (B1.out.trans (bb.mono B1.out.size))
  have X0a := Lib.hid (show Fou W3 w2.heap.size 26 (.int .i64 (k : Nat)) (.string ⟨n.toArray⟩) (.slice pa2 ns.length pc2) (.slice pa3 l.length pc3) by rw [← hW]; exact heap_alloc_new w2 _)
  have I0a := Lib.hid ((i.mono (A' := fun _ => True) (fun _ _ _ => trivial)).below bn)
  have HW3 := Lib.hid hW
  clear b hv i bn bb hW
  go_upto_region 6 with fail
  rw [HW3.out]
  go_wp2_with fail
  refine (HC2.out W3).mono ?_
  rintro e w4 ⟨b, hv⟩
  obtain ⟨qa2, qc2, qa3, qc3, rfl, i⟩ := optT (by decide) HT.out hv
  rw [← HBT.out]
  obtain ⟨W5, hW⟩ : ∃ W, w4.alloc (.cells #[.int .i64 (k : Nat), .string ⟨n.toArray⟩, .slice qa2 ns.length qc2, .slice qa3 l.length qc3] 31) = W := ⟨_, rfl⟩
  have bn : Below w4.heap.size w4 W5 := by rw [← hW]; exact (Below.refl _ _).alloc (Nat.le_refl _) _
  have bb := b.trans (bn.mono b.size)
  have B5 := Lib.hid (B3.out.trans (bb.mono B3.out.size))
  have X1a := Lib.hid (show Fou W5 w4.heap.size 31 (.int .i64 (k : Nat)) (.string ⟨n.toArray⟩) (.slice qa2 ns.length qc2) (.slice qa3 l.length qc3) by rw [← hW]; exact heap_alloc_new w4 _)
  have I1a := Lib.hid ((i.mono (A' := fun _ => True) (fun _ _ _ => trivial)).below bn)
  have X04 := Lib.hid (show Fou W5 w2.heap.size 26 (.int .i64 (k : Nat)) (.string ⟨n.toArray⟩) (.slice pa2 ns.length pc2) (.slice pa3 l.length pc3) from (bb.block _ (Array.getElem?_eq_some_iff.1 X0a.out).1).trans X0a.out)
  have I04 := Lib.hid (I0a.out.below bb)
  have HW5 := Lib.hid hW
  clear b hv i bn bb hW
  go_upto_region 7 with fail
  rw [HW5.out]
  go_wp2_with fail
  refine (HC3.out W5).mono ?_
  rintro e w6 ⟨b, hv⟩
  obtain ⟨ra4, rc4, ra5, rc5, ra6, rc6, rfl, i⟩ := optE (by decide) (by decide) HE.out hv
  rw [← HBE.out]
  obtain ⟨W7, hW⟩ : ∃ W, w6.alloc (.cells #[.int .i64 (ek : Nat), .int .i64 (ea : Nat), .string ⟨en.toArray⟩, .int .i64 (em : Nat), .slice ra4 ens.length rc4, .slice ra5 el.length rc5, .slice ra6 ets.length rc6] 36) = W := ⟨_, rfl⟩
  have bn : Below w6.heap.size w6 W7 := by rw [← hW]; exact (Below.refl _ _).alloc (Nat.le_refl _) _
  have bb := b.trans (bn.mono b.size)
  have B7 := Lib.hid (B5.out.trans (bb.mono B5.out.size))
  have X2a := Lib.hid (show Sev W7 w6.heap.size 36 (.int .i64 (ek : Nat)) (.int .i64 (ea : Nat)) (.string ⟨en.toArray⟩) (.int .i64 (em : Nat)) (.slice ra4 ens.length rc4) (.slice ra5 el.length rc5) (.slice ra6 ets.length rc6) by rw [← hW]; exact heap_alloc_new w6 _)
  have I2a := Lib.hid ((i.mono (A' := fun _ => True) (fun _ _ _ => trivial)).below bn)
  have X06 := Lib.hid (show Fou W7 w2.heap.size 26 (.int .i64 (k : Nat)) (.string ⟨n.toArray⟩) (.slice pa2 ns.length pc2) (.slice pa3 l.length pc3) from (bb.block _ (Array.getElem?_eq_some_iff.1 X04.out).1).trans X04.out)
  have I06 := Lib.hid (I04.out.below bb)
  have X16 := Lib.hid (show Fou W7 w4.heap.size 31 (.int .i64 (k : Nat)) (.string ⟨n.toArray⟩) (.slice qa2 ns.length qc2) (.slice qa3 l.length qc3) from (bb.block _ (Array.getElem?_eq_some_iff.1 X1a.out).1).trans X1a.out)
  have I16 := Lib.hid (I1a.out.below bb)
  have HW7 := Lib.hid hW
  clear b hv i bn bb hW
  go_upto_region 8 with fail
  rw [HW7.out]
  go_wp2_with fail
  refine (HC4.out W7).mono ?_
  rintro e w8 ⟨b, hv⟩
  obtain ⟨ua4, uc4, ua5, uc5, ua6, uc6, rfl, i⟩ := optE (by decide) (by decide) HE.out hv
  rw [← HBE.out]
  obtain ⟨W9, hW⟩ : ∃ W, w8.alloc (.cells #[.int .i64 (ek : Nat), .int .i64 (ea : Nat), .string ⟨en.toArray⟩, .int .i64 (em : Nat), .slice ua4 ens.length uc4, .slice ua5 el.length uc5, .slice ua6 ets.length uc6] 41) = W := ⟨_, rfl⟩
  have bn : Below w8.heap.size w8 W9 := by rw [← hW]; exact (Below.refl _ _).alloc (Nat.le_refl _) _
  have bb := b.trans (bn.mono b.size)
  have B9 := Lib.hid (B7.out.trans (bb.mono B7.out.size))
  have X3a := Lib.hid (show Sev W9 w8.heap.size 41 (.int .i64 (ek : Nat)) (.int .i64 (ea : Nat)) (.string ⟨en.toArray⟩) (.int .i64 (em : Nat)) (.slice ua4 ens.length uc4) (.slice ua5 el.length uc5) (.slice ua6 ets.length uc6) by rw [← hW]; exact heap_alloc_new w8 _)
  have I3a := Lib.hid ((i.mono (A' := fun _ => True) (fun _ _ _ => trivial)).below bn)
  have X08 := Lib.hid (show Fou W9 w2.heap.size 26 (.int .i64 (k : Nat)) (.string ⟨n.toArray⟩) (.slice pa2 ns.length pc2) (.slice pa3 l.length pc3) from (bb.block _ (Array.getElem?_eq_some_iff.1 X06.out).1).trans X06.out)
  have I08 := Lib.hid (I06.out.below bb)
  have X18 := Lib.hid (show Fou W9 w4.heap.size 31 (.int .i64 (k : Nat)) (.string ⟨n.toArray⟩) (.slice qa2 ns.length qc2) (.slice qa3 l.length qc3) from (bb.block _ (Array.getElem?_eq_some_iff.1 X16.out).1).trans X16.out)
  have I18 := Lib.hid (I16.out.below bb)
  have X28 := Lib.hid (show Sev W9 w6.heap.size 36 (.int .i64 (ek : Nat)) (.int .i64 (ea : Nat)) (.string ⟨en.toArray⟩) (.int .i64 (em : Nat)) (.slice ra4 ens.length rc4) (.slice ra5 el.length rc5) (.slice ra6 ets.length rc6) from (bb.block _ (Array.getElem?_eq_some_iff.1 X2a.out).1).trans X2a.out)
  have I28 := Lib.hid (I2a.out.below bb)
  have HW9 := Lib.hid hW
  clear b hv i bn bb hW
  go_upto_region 9 with fail
  rw [HW9.out]
  have HK1 := Lib.hid (show ∀ W', Below W9.heap.size W9 W' → Calls Tryz.prog 15 #[.agg #[.int .i64 (k : Nat), .string ⟨n.toArray⟩, .slice pa2 ns.length pc2, .slice pa3 l.length pc3]] W' fun e w' => (∃ a2 c2 a3 c3, e = .returned (.agg #[.int .i64 (k : Nat), .string ⟨n.toArray⟩, .slice a2 ns.length c2, .slice a3 l.length c3]) ∧ IsCs (fun _ => True) w' (encT 31 (.mk k n ns l)) [.int .i64 (k : Nat), .string ⟨n.toArray⟩, .slice a2 ns.length c2, .slice a3 l.length c3]) ∧ Below W9.heap.size W9 w' by
    intro W' hW
    refine (HTO.out (fun _ => True) W' _ (I08.out.below hW)).mono ?_
    rintro e w' ⟨us, rfl, b, i⟩
    obtain ⟨v2, v3, rfl, k2, k3⟩ := cells_TTq i
    obtain ⟨_, r2, -, -⟩ := k2.unrow
    obtain ⟨a2, c2, rfl⟩ := row_slice r2
    obtain ⟨_, r3, -, -⟩ := k3.unrow
    obtain ⟨a3, c3, rfl⟩ := row_slice r3
    exact ⟨⟨a2, c2, a3, c3, rfl, i.mono (fun _ _ _ => trivial)⟩, hW.trans (b.mono hW.size)⟩)
  have HK2 := Lib.hid (show ∀ W' a2 c2 a3 c3, Below W9.heap.size W9 W' → IsCs (fun _ => True) W' (encT 31 (.mk k n ns l)) [.int .i64 (k : Nat), .string ⟨n.toArray⟩, .slice a2 ns.length c2, .slice a3 l.length c3] → Calls Tryz.prog 14 #[.agg #[.int .i64 (k : Nat), .string ⟨n.toArray⟩, .slice a2 ns.length c2, .slice a3 l.length c3], .agg #[.int .i64 (k : Nat), .string ⟨n.toArray⟩, .slice qa2 ns.length qc2, .slice qa3 l.length qc3]] W' fun e w' => e = .returned (.bool true) ∧ Below W9.heap.size W9 w' by
    intro W' a2 c2 a3 c3 hW hi
    refine (HSM.out (fun _ => True) (fun _ => True) W' _ _ hi (I18.out.below hW)).mono ?_
    rintro e w' ⟨rfl, b⟩
    exact ⟨rfl, hW.trans (b.mono hW.size)⟩)
  have HK3 := Lib.hid (show ∀ W' g, Below W9.heap.size W9 W' → W'.heap[g]? = some (.cells #[.int .i64 (ek : Nat), .int .i64 (ea : Nat), .string ⟨en.toArray⟩, .int .i64 (em : Nat), .slice ra4 ens.length rc4, .slice ra5 el.length rc5, .slice ra6 ets.length rc6] 36 (0, 0)) → Calls Tryz.prog 17 #[.slice (some ⟨g, 0, none⟩) 1 1] W' fun e w' => (∃ a c, e = .returned (.slice a 1 c) ∧ IsC (fun _ => True) w' (.row 41 7 1 (encEs 31 41 [(.mk ek ea en em ens el ets)])) (.slice a 1 c)) ∧ Below W'.heap.size W' w' ∧ Below W9.heap.size W9 w' by
    intro W' g hW hg
    have hd := I28.out.below hW
    have hd' : IsCs (fun _ => True) W' (encEs 26 36 [(.mk ek ea en em ens el ets)]) [.int .i64 (ek : Nat), .int .i64 (ea : Nat), .string ⟨en.toArray⟩, .int .i64 (em : Nat), .slice ra4 ens.length rc4, .slice ra5 el.length rc5, .slice ra6 ets.length rc6] := by rw [encEs, encEs, List.append_nil]; exact hd
    have rt : IsC (fun _ => True) W' (.row 36 7 1 (encEs 26 36 [(.mk ek ea en em ens el ets)])) (.slice (some ⟨g, 0, none⟩) 1 1) :=
      IsC.row (base := 0) (xs := [.int .i64 (ek : Nat), .int .i64 (ea : Nat), .string ⟨en.toArray⟩, .int .i64 (em : Nat), .slice ra4 ens.length rc4, .slice ra5 el.length rc5, .slice ra6 ets.length rc6]) (by decide) ⟨rfl, .inr ⟨g, 1, #[.int .i64 (ek : Nat), .int .i64 (ea : Nat), .string ⟨en.toArray⟩, .int .i64 (em : Nat), .slice ra4 ens.length rc4, .slice ra5 el.length rc5, .slice ra6 ets.length rc6], rfl, Nat.zero_le _, hg, Nat.le_refl _, by decide, rfl, rfl⟩⟩ (fun b hb => trivial) hd'
    refine (HEX.out (fun _ => True) W' _ (Sub.of_row rt (by rw [← hd'.length]; rfl))).mono ?_
    rintro e w' ⟨u, rfl, b, i⟩
    obtain ⟨_, r2, -, -⟩ := i.unrow
    obtain ⟨a2, c2, rfl⟩ := row_slice r2
    exact ⟨⟨a2, c2, rfl, i.mono (fun _ _ _ => trivial)⟩, b, hW.trans (b.mono hW.size)⟩)
  have HK4 := Lib.hid (show ∀ W' a c g, Below W9.heap.size W9 W' → IsC (fun _ => True) W' (.row 41 7 1 (encEs 31 41 [(.mk ek ea en em ens el ets)])) (.slice a 1 c) → W'.heap[g]? = some (.cells #[.int .i64 (ek : Nat), .int .i64 (ea : Nat), .string ⟨en.toArray⟩, .int .i64 (em : Nat), .slice ua4 ens.length uc4, .slice ua5 el.length uc5, .slice ua6 ets.length uc6] 41 (0, 0)) → Calls Tryz.prog 16 #[.slice a 1 c, .slice (some ⟨g, 0, none⟩) 1 1, .bool true] W' fun e w' => e = .returned (.bool true) ∧ Below W9.heap.size W9 w' by
    intro W' a c g hW hi hg
    have hd := I3a.out.below hW
    have hd' : IsCs (fun _ => True) W' (encEs 31 41 [(.mk ek ea en em ens el ets)]) [.int .i64 (ek : Nat), .int .i64 (ea : Nat), .string ⟨en.toArray⟩, .int .i64 (em : Nat), .slice ua4 ens.length uc4, .slice ua5 el.length uc5, .slice ua6 ets.length uc6] := by rw [encEs, encEs, List.append_nil]; exact hd
    have rt : IsC (fun _ => True) W' (.row 41 7 1 (encEs 31 41 [(.mk ek ea en em ens el ets)])) (.slice (some ⟨g, 0, none⟩) 1 1) :=
      IsC.row (base := 0) (xs := [.int .i64 (ek : Nat), .int .i64 (ea : Nat), .string ⟨en.toArray⟩, .int .i64 (em : Nat), .slice ua4 ens.length uc4, .slice ua5 el.length uc5, .slice ua6 ets.length uc6]) (by decide) ⟨rfl, .inr ⟨g, 1, #[.int .i64 (ek : Nat), .int .i64 (ea : Nat), .string ⟨en.toArray⟩, .int .i64 (em : Nat), .slice ua4 ens.length uc4, .slice ua5 el.length uc5, .slice ua6 ets.length uc6], rfl, Nat.zero_le _, hg, Nat.le_refl _, by decide, rfl, rfl⟩⟩ (fun b hb => trivial) hd'
    refine (HSE.out (fun _ => True) (fun _ => True) W' _ _ (Sub.of_row hi (by rw [← hd'.length]; rfl)) (Sub.of_row rt (by rw [← hd'.length]; rfl))).mono ?_
    rintro e w' ⟨rfl, b⟩
    exact ⟨rfl, hW.trans (b.mono hW.size)⟩)
  have HX0 := Lib.hid (show ∀ W', Below W9.heap.size W9 W' → Fou W' w2.heap.size 26 (.int .i64 (k : Nat)) (.string ⟨n.toArray⟩) (.slice pa2 ns.length pc2) (.slice pa3 l.length pc3) from fun W' hW => (hW.block _ (Array.getElem?_eq_some_iff.1 X08.out).1).trans X08.out)
  obtain ⟨⟨s00, s01, s02, s03⟩, -⟩ := fou_of (t := 26) X08.out
  have hl0 : w2.heap.size < W9.heap.size := (Array.getElem?_eq_some_iff.1 X08.out).1
  have HX1 := Lib.hid (show ∀ W', Below W9.heap.size W9 W' → Fou W' w4.heap.size 31 (.int .i64 (k : Nat)) (.string ⟨n.toArray⟩) (.slice qa2 ns.length qc2) (.slice qa3 l.length qc3) from fun W' hW => (hW.block _ (Array.getElem?_eq_some_iff.1 X18.out).1).trans X18.out)
  obtain ⟨⟨s10, s11, s12, s13⟩, -⟩ := fou_of (t := 31) X18.out
  have hl1 : w4.heap.size < W9.heap.size := (Array.getElem?_eq_some_iff.1 X18.out).1
  have HX2 := Lib.hid (show ∀ W', Below W9.heap.size W9 W' → Sev W' w6.heap.size 36 (.int .i64 (ek : Nat)) (.int .i64 (ea : Nat)) (.string ⟨en.toArray⟩) (.int .i64 (em : Nat)) (.slice ra4 ens.length rc4) (.slice ra5 el.length rc5) (.slice ra6 ets.length rc6) from fun W' hW => (hW.block _ (Array.getElem?_eq_some_iff.1 X28.out).1).trans X28.out)
  obtain ⟨⟨s20, s21, s22, s23, s24, s25, s26⟩, -⟩ := sev_of (t := 36) X28.out
  have hl2 : w6.heap.size < W9.heap.size := (Array.getElem?_eq_some_iff.1 X28.out).1
  have HX3 := Lib.hid (show ∀ W', Below W9.heap.size W9 W' → Sev W' w8.heap.size 41 (.int .i64 (ek : Nat)) (.int .i64 (ea : Nat)) (.string ⟨en.toArray⟩) (.int .i64 (em : Nat)) (.slice ua4 ens.length uc4) (.slice ua5 el.length uc5) (.slice ua6 ets.length uc6) from fun W' hW => (hW.block _ (Array.getElem?_eq_some_iff.1 X3a.out).1).trans X3a.out)
  obtain ⟨⟨s30, s31, s32, s33, s34, s35, s36⟩, -⟩ := sev_of (t := 41) X3a.out
  have hl3 : w8.heap.size < W9.heap.size := (Array.getElem?_eq_some_iff.1 X3a.out).1
  go_region_held3 (fun w' => w'.cell? ⟨w2.heap.size, 0, none⟩ = some (.int .i64 (k : Nat)) ∧ w'.cell? ⟨w2.heap.size, 1, none⟩ = some (.string ⟨n.toArray⟩) ∧ w'.cell? ⟨w2.heap.size, 2, none⟩ = some (.slice pa2 ns.length pc2) ∧ w'.cell? ⟨w2.heap.size, 3, none⟩ = some (.slice pa3 l.length pc3) ∧ w'.cell? ⟨w4.heap.size, 0, none⟩ = some (.int .i64 (k : Nat)) ∧ w'.cell? ⟨w4.heap.size, 1, none⟩ = some (.string ⟨n.toArray⟩) ∧ w'.cell? ⟨w4.heap.size, 2, none⟩ = some (.slice qa2 ns.length qc2) ∧ w'.cell? ⟨w4.heap.size, 3, none⟩ = some (.slice qa3 l.length qc3) ∧ w'.cell? ⟨w6.heap.size, 0, none⟩ = some (.int .i64 (ek : Nat)) ∧ w'.cell? ⟨w6.heap.size, 1, none⟩ = some (.int .i64 (ea : Nat)) ∧ w'.cell? ⟨w6.heap.size, 2, none⟩ = some (.string ⟨en.toArray⟩) ∧ w'.cell? ⟨w6.heap.size, 3, none⟩ = some (.int .i64 (em : Nat)) ∧ w'.cell? ⟨w6.heap.size, 4, none⟩ = some (.slice ra4 ens.length rc4) ∧ w'.cell? ⟨w6.heap.size, 5, none⟩ = some (.slice ra5 el.length rc5) ∧ w'.cell? ⟨w6.heap.size, 6, none⟩ = some (.slice ra6 ets.length rc6) ∧ w'.cell? ⟨w8.heap.size, 0, none⟩ = some (.int .i64 (ek : Nat)) ∧ w'.cell? ⟨w8.heap.size, 1, none⟩ = some (.int .i64 (ea : Nat)) ∧ w'.cell? ⟨w8.heap.size, 2, none⟩ = some (.string ⟨en.toArray⟩) ∧ w'.cell? ⟨w8.heap.size, 3, none⟩ = some (.int .i64 (em : Nat)) ∧ w'.cell? ⟨w8.heap.size, 4, none⟩ = some (.slice ua4 ens.length uc4) ∧ w'.cell? ⟨w8.heap.size, 5, none⟩ = some (.slice ua5 el.length uc5) ∧ w'.cell? ⟨w8.heap.size, 6, none⟩ = some (.slice ua6 ets.length uc6)) (simp [*, World.cell?_alloc_lt]) (first | (go_at_call 15; refine (HK1.out _ ?_).mono ?_; (first | exact Below.refl _ _ | exact (Below.refl _ W9).drew); rintro e w11 ⟨⟨va2, vc2, va3, vc3, rfl, i11⟩, b11⟩; obtain ⟨⟨d00, d01, d02, d03⟩, -⟩ := fou_of (t := 26) (HX0.out _ b11); (have dl0 : w2.heap.size < w11.heap.size := Nat.lt_of_lt_of_le hl0 b11.size); (have dm0 : w2.heap.size < w11.heap.size + 1 := Nat.lt_succ_of_lt dl0); obtain ⟨⟨d10, d11, d12, d13⟩, -⟩ := fou_of (t := 31) (HX1.out _ b11); (have dl1 : w4.heap.size < w11.heap.size := Nat.lt_of_lt_of_le hl1 b11.size); (have dm1 : w4.heap.size < w11.heap.size + 1 := Nat.lt_succ_of_lt dl1); obtain ⟨⟨d20, d21, d22, d23, d24, d25, d26⟩, -⟩ := sev_of (t := 36) (HX2.out _ b11); (have dl2 : w6.heap.size < w11.heap.size := Nat.lt_of_lt_of_le hl2 b11.size); (have dm2 : w6.heap.size < w11.heap.size + 1 := Nat.lt_succ_of_lt dl2); obtain ⟨⟨d30, d31, d32, d33, d34, d35, d36⟩, -⟩ := sev_of (t := 41) (HX3.out _ b11); (have dl3 : w8.heap.size < w11.heap.size := Nat.lt_of_lt_of_le hl3 b11.size); (have dm3 : w8.heap.size < w11.heap.size + 1 := Nat.lt_succ_of_lt dl3); (have I11 := Lib.hid i11); (have B11 := Lib.hid b11); clear i11 b11) | (go_at_call 14; refine (HK2.out _ _ _ _ _ ?_ ?_).mono ?_; exact B11.out; exact I11.out; rintro e w12 ⟨rfl, b12⟩; obtain ⟨⟨f00, f01, f02, f03⟩, -⟩ := fou_of (t := 26) (HX0.out _ b12); (have fl0 : w2.heap.size < w12.heap.size := Nat.lt_of_lt_of_le hl0 b12.size); (have fm0 : w2.heap.size < w12.heap.size + 1 := Nat.lt_succ_of_lt fl0); obtain ⟨⟨f10, f11, f12, f13⟩, -⟩ := fou_of (t := 31) (HX1.out _ b12); (have fl1 : w4.heap.size < w12.heap.size := Nat.lt_of_lt_of_le hl1 b12.size); (have fm1 : w4.heap.size < w12.heap.size + 1 := Nat.lt_succ_of_lt fl1); obtain ⟨⟨f20, f21, f22, f23, f24, f25, f26⟩, -⟩ := sev_of (t := 36) (HX2.out _ b12); (have fl2 : w6.heap.size < w12.heap.size := Nat.lt_of_lt_of_le hl2 b12.size); (have fm2 : w6.heap.size < w12.heap.size + 1 := Nat.lt_succ_of_lt fl2); obtain ⟨⟨f30, f31, f32, f33, f34, f35, f36⟩, -⟩ := sev_of (t := 41) (HX3.out _ b12); (have fl3 : w8.heap.size < w12.heap.size := Nat.lt_of_lt_of_le hl3 b12.size); (have fm3 : w8.heap.size < w12.heap.size + 1 := Nat.lt_succ_of_lt fl3); (have B12 := Lib.hid b12); clear b12) | (go_at_call 17; refine (HK3.out _ _ ?_ ?_).mono ?_; (first | exact B12.out.alloc B12.out.size _ | exact (B12.out.alloc B12.out.size _).alloc (B12.out.alloc B12.out.size _).size _); (first | exact heap_alloc_new _ _ | exact blk_alloc (heap_alloc_new w12 _) _ | (have h := heap_alloc_new (w12.alloc (.cells #[.int .i64 (ek : Nat), .int .i64 (ea : Nat), .string ⟨en.toArray⟩, .int .i64 (em : Nat), .slice ua4 ens.length uc4, .slice ua5 el.length uc5, .slice ua6 ets.length uc6] 41)) (.cells #[.int .i64 (ek : Nat), .int .i64 (ea : Nat), .string ⟨en.toArray⟩, .int .i64 (em : Nat), .slice ra4 ens.length rc4, .slice ra5 el.length rc5, .slice ra6 ets.length rc6] 36); rw [World.size_alloc] at h; exact h)); rintro e w13 ⟨⟨xa, xc, rfl, i13⟩, d13, b13⟩; obtain ⟨⟨g00, g01, g02, g03⟩, -⟩ := fou_of (t := 26) (HX0.out _ b13); (have gl0 : w2.heap.size < w13.heap.size := Nat.lt_of_lt_of_le hl0 b13.size); (have gm0 : w2.heap.size < w13.heap.size + 1 := Nat.lt_succ_of_lt gl0); obtain ⟨⟨g10, g11, g12, g13⟩, -⟩ := fou_of (t := 31) (HX1.out _ b13); (have gl1 : w4.heap.size < w13.heap.size := Nat.lt_of_lt_of_le hl1 b13.size); (have gm1 : w4.heap.size < w13.heap.size + 1 := Nat.lt_succ_of_lt gl1); obtain ⟨⟨g20, g21, g22, g23, g24, g25, g26⟩, -⟩ := sev_of (t := 36) (HX2.out _ b13); (have gl2 : w6.heap.size < w13.heap.size := Nat.lt_of_lt_of_le hl2 b13.size); (have gm2 : w6.heap.size < w13.heap.size + 1 := Nat.lt_succ_of_lt gl2); obtain ⟨⟨g30, g31, g32, g33, g34, g35, g36⟩, -⟩ := sev_of (t := 41) (HX3.out _ b13); (have gl3 : w8.heap.size < w13.heap.size := Nat.lt_of_lt_of_le hl3 b13.size); (have gm3 : w8.heap.size < w13.heap.size + 1 := Nat.lt_succ_of_lt gl3); (have I13 := Lib.hid i13); (have B13 := Lib.hid b13); (have D13 := Lib.hid d13); clear i13 b13 d13) | (go_at_call 16; refine (HK4.out _ _ _ _ ?_ ?_ ?_).mono ?_; (first | exact B13.out | exact B13.out.alloc B13.out.size _); (first | exact I13.out | exact I13.out.bel ((Below.refl _ _).alloc (Nat.le_refl _) _)); (first | exact heap_alloc_new _ _ | exact (D13.out.block _ (by first | (simp; done) | (simp; omega))).trans (blk_alloc (heap_alloc_new w12 _) _) | (refine (D13.out.block _ (by first | (simp; done) | (simp; omega))).trans ?_; have h := heap_alloc_new (w12.alloc (.cells #[.int .i64 (ek : Nat), .int .i64 (ea : Nat), .string ⟨en.toArray⟩, .int .i64 (em : Nat), .slice ra4 ens.length rc4, .slice ra5 el.length rc5, .slice ra6 ets.length rc6] 36)) (.cells #[.int .i64 (ek : Nat), .int .i64 (ea : Nat), .string ⟨en.toArray⟩, .int .i64 (em : Nat), .slice ua4 ens.length uc4, .slice ua5 el.length uc5, .slice ua6 ets.length uc6] 41); rw [World.size_alloc] at h; exact h)); rintro e w14 ⟨rfl, b14⟩; obtain ⟨⟨t00, t01, t02, t03⟩, -⟩ := fou_of (t := 26) (HX0.out _ b14); (have tl0 : w2.heap.size < w14.heap.size := Nat.lt_of_lt_of_le hl0 b14.size); (have tm0 : w2.heap.size < w14.heap.size + 1 := Nat.lt_succ_of_lt tl0); obtain ⟨⟨t10, t11, t12, t13⟩, -⟩ := fou_of (t := 31) (HX1.out _ b14); (have tl1 : w4.heap.size < w14.heap.size := Nat.lt_of_lt_of_le hl1 b14.size); (have tm1 : w4.heap.size < w14.heap.size + 1 := Nat.lt_succ_of_lt tl1); obtain ⟨⟨t20, t21, t22, t23, t24, t25, t26⟩, -⟩ := sev_of (t := 36) (HX2.out _ b14); (have tl2 : w6.heap.size < w14.heap.size := Nat.lt_of_lt_of_le hl2 b14.size); (have tm2 : w6.heap.size < w14.heap.size + 1 := Nat.lt_succ_of_lt tl2); obtain ⟨⟨t30, t31, t32, t33, t34, t35, t36⟩, -⟩ := sev_of (t := 41) (HX3.out _ b14); (have tl3 : w8.heap.size < w14.heap.size := Nat.lt_of_lt_of_le hl3 b14.size); (have tm3 : w8.heap.size < w14.heap.size + 1 := Nat.lt_succ_of_lt tl3); (have B14 := Lib.hid b14); clear b14))
  all_goals
    rename_i hKK hS
    clear hS
    refine hKK _ _ (wp_ret ?_)
    change bodyPost Tryz.prog _ (Tells w) Exit.ret _ _
    go_ret
    exact ⟨rfl, B9.out.trans (B14.out.mono B9.out.size)⟩
end Go.Proofs.YtijnjoonbjdafaaGreatDoor
namespace Go.Proofs.YtijnjoonbjdafaaGreatDoor
open Go.ChangeShapes Go.WideShapes Go.ChangeAt Go.RowKit
open Go.ChangeMaps (open_string shut_string)
theorem own_knob : ownKnob Tryz.prog.godebug = none := by kernel_rfl
set_option maxRecDepth 100000 in
theorem door_met (os : Os) (args : Array Value) : laidMetH Tryz.prog Rows.parseOneRow.laid ((World.doorLaid Tryz.prog 62 os).forCall (fun _ _ => 0) ⟨#[], args, []⟩).memory :=
  laidMetH_of_parts3 (fuel := 8) (laidMet_of_run' 8 (by kernel_rfl) (by kernel_rfl)) (by kernel_rfl) (by kernel_rfl)
set_option maxRecDepth 100000 in
theorem parseOne_lifted (os : Os) (started : os.Started) (H : Type) (enc : TypeId × Value → H) :
    ReturnsInHanded {} Tryz.checked os 3 .any (fun w args => (Rows.parseOneSpec.pre enc Tryz.prog Tryz.f3 [] false w args ∧ laidMetH Tryz.prog Rows.parseOneRow.laid w) ∧ sizedMet enc Tryz.prog Tryz.f3 (OpenSpec.ofChange Rows.parseOneSpec) false w args)
      (Rows.parseOneSpec.post enc Tryz.prog Tryz.f3 false true false false) := by
  refine returnsInHanded_of_change_and (C := Tryz.checked) (X := fun w _ => laidMetH Tryz.prog Rows.parseOneRow.laid w) (fun _ _ _ hh h => h.of_heap hh) own_knob started (by kernel_rfl) Tryz.func3
    (ChangeSpec.witness_shaped (enc := enc) (C := Tryz.checked) (os := os) (X := fun w _ => laidMetH Tryz.prog Rows.parseOneRow.laid w) false (World.doorLaid Tryz.prog 62 os) #[.string ⟨#[]⟩] 8 rfl (World.shaped_of_RefB (by kernel_rfl) (by kernel_rfl)) (by kernel_rfl) (by kernel_rfl) (by kernel_rfl) (door_met os _)) ?_
  intro W base args ds gs before hval0 hW _ _ _ _
  have hval : ∀ (j : Nat) t v, Tryz.f3.params[j]? = some t → args[j]? = some v → Value.okWide Tryz.prog W .any base t v := hval0
  have hW' := hW
  obtain ⟨p, q, hA0, hV, rfl, hfz, hnd⟩ := hW
  have hA : DataW.TrodAll enc Tryz.prog W 0 (fun _ => true) true Tryz.f3.params.toList args.toList ds p := hA0
  rw [Tryz.params3] at hA hval
  obtain ⟨v0, vs0, d0, ds0, p0, q0, hargs, rfl, rfl, h0, r0⟩ := trodAll_cons hA
  obtain ⟨rfl, rfl, rfl⟩ := trodAll_nil r0
  obtain rfl : args = #[v0] := by cases args; simp_all
  obtain ⟨rfl, rfl⟩ := trodVars_none hV
  obtain ⟨a0, rfl, rfl, rfl, w0⟩ := open_string Tryz.underlying9 (hval 0 9 v0 rfl rfl) h0
  clear hA0 hval0
  simp only [List.append_nil] at hW'
  refine (one_walk a0 W).mono fun e W' ⟨he, bel⟩ => ?_
  subst he
  exact ⟨_, rfl, _, _, _, [], _, [], hW', trodAll_mk1 (shut_bool Tryz.underlying4 _), (trodAll_cons_mk (shut_string Tryz.underlying9 w0) trodAll_mk0), rfl, bel.frame _, fun h => by cases h⟩
theorem parseOne_over : Rows.parseOneRow.holds Tryz.pinned (OpenSpec.ofChange Rows.parseOneSpec) :=
  OpenClaim.holds_of_wide 3 Tryz.f3 rfl rfl rfl rfl rfl rfl rfl ⟨rfl, rfl, rfl, rfl, rfl⟩ rfl rfl rfl rfl rfl (by kernel_rfl) Tryz.func3 (by kernel_rfl)
    (of_decide_eq_true (by kernel_rfl)) (by unfold Func.isWrapper; first | (rw [if_pos (by decide +kernel)]; kernel_rfl) | (rw [if_neg (by decide +kernel)]; exact ⟨rfl, rfl⟩))
    (fun os started H enc _ => parseOne_lifted os started H enc)
theorem parseOne_said : Rows.ParseOneSaid := parseOne_over
theorem parseOne_card : Rows.ParseOneCardSaid :=
  Claim7.holds_tied_plain_at .later [] [.data, .data, .data, .sentinel, .sentinel] true (true, "fdd8c0b5adef6158281b51e6b647c9c41b08859366cd205010f617463d3ad39d") true
    parseOne_said (fun _ h => by cases h) (by kernel_rfl) (fun _ h => by cases h) parseOne_row_tie rfl ⟨rfl, rfl⟩ (by kernel_rfl) rfl
    (fun f fn hf hfn => by
      obtain rfl : f = 3 := Option.some.inj ((show Tryz.prog.funcNamed "cupel/cupellaw05.ParseOne" = some 3 by kernel_rfl).symm.trans hf) |>.symm
      obtain rfl : fn = Tryz.f3 := (Option.some.inj (Tryz.func3.symm.trans hfn)).symm
      exact ⟨by kernel_rfl, fun j t ht => by
        rw [Tryz.params3] at ht
        have h5 : t = 9 ∨ t = 5 := by
          rcases j with _ | j
          · left; simpa using ht.symm
          · simp at ht
        rcases h5 with rfl | rfl
        · exact (show Tryz.prog.wantsStandIn 9 = false by kernel_rfl)
        · exact (show Tryz.prog.wantsStandIn 5 = false by kernel_rfl)⟩)
    (by kernel_rfl)
#print axioms parseOne_card
end Go.Proofs.YtijnjoonbjdafaaGreatDoor

/-
  The contracts of pieces of package lex and of the iterator that it hands back: what stands between the gaps of a source, in order.
-/
import Derived.Test.YthpoffklhpbdoaaGreatDoorPieceAt
namespace Go.Proofs.YthpoffklhpbdoaaGreatDoor
set_option maxRecDepth 20000
open Go.RowKit Go.Shelf
attribute [local go_sem] Oper.semAt_some

/-- What a round may turn: nothing below n₀, no piece, no text's box. -/
structure Kc (n₀ : Nat) (W W' : World) : Prop where
  below : Below n₀ W W'
  own : ∀ (k : Nat) (c : Array Value) (t : TypeId) (fz : Nat × Nat), t = 149 ∨ t = 9 → W.heap[k]? = some (.cells c t fz) → W'.heap[k]? = some (.cells c t fz)

theorem Kc.refl (n₀ : Nat) (W : World) : Kc n₀ W W := ⟨Below.refl _ _, fun _ _ _ _ _ h => h⟩
theorem Kc.trans {n₀ : Nat} {A B C : World} (h : Kc n₀ A B) (k : Kc n₀ B C) : Kc n₀ A C := ⟨h.below.trans k.below, fun i c t fz ht hi => k.own i c t fz ht (h.own i c t fz ht hi)⟩
theorem Kc.put {n₀ : Nat} {w : World} (hn : n₀ ≤ w.heap.size) (W : World) (l : Nat) (o o' : Obj) (hl : w.heap.size ≤ l) (h : W.heap[l]? = some o) (hc : o.isCells = false) (hw : o.isWalk = false) : Kc n₀ W (W.putObj l o') := by
  refine ⟨belowK_b hn W l o o' hl h hc hw, fun k c t fz _ hk => ?_⟩
  have hne : k ≠ l := by
    rintro rfl
    rw [h] at hk
    cases hk
    simp [Obj.isCells] at hc
  exact (World.putObj_heap_other hne).trans hk
theorem Kc.of_below {n₀ : Nat} {W W' : World} (h : Below W.heap.size W W') (hn : n₀ ≤ W.heap.size) : Kc n₀ W W' :=
  ⟨h.mono hn, fun k _ _ _ _ hk => (h.block k (Array.getElem?_eq_some_iff.1 hk).1).trans hk⟩
theorem Kc.alloc {n₀ : Nat} {w W : World} (h : Kc n₀ w W) (hn : n₀ ≤ W.heap.size) (o : Obj) : Kc n₀ w (W.alloc o) :=
  h.trans (Kc.of_below ((Below.refl _ _).alloc (Nat.le_refl _) _) hn)
theorem grown_of_below {W W' : World} (h : Below W.heap.size W W') : W.grownBy W' none := ⟨h.os, h.tape, h.output, h.size, fun k hk _ => h.block k hk⟩

/-- A piece whose text can be one. -/
abbrev PK : Type := { x : Pc // x.s.t.length ≤ 281474976710656 }

theorem lift_pcs : ∀ (l : List Pc), (∀ x ∈ l, x.s.t.length ≤ 281474976710656) → ∃ lα : List PK, lα.map Subtype.val = l
  | [], _ => ⟨[], rfl⟩
  | x :: r, h => by
    obtain ⟨lα, e⟩ := lift_pcs r (fun k hk => h k (by simp [hk]))
    exact ⟨⟨x, h x (by simp)⟩ :: lα, by simp [e]⟩

theorem stepOf_t (l : Bs) (hl : l ≠ []) : (stepOf l).t.length ≤ l.length := by
  cases l with
  | nil => exact absurd rfl hl
  | cons c r =>
    simp only [stepOf]
    split
    · simp
    split
    · simp
    split
    · simp only [List.length_take]; omega
    split
    · split
      · simp
      · simp only [List.length_take]; omega
    split
    · split
      · simp only [List.length_take, List.length_cons]; omega
      · simp
    split
    · rename_i h
      cases r with
      | nil => simp at h
      | cons x r => simp
    split <;> simp

theorem pcs_t : ∀ (N : Nat) (a : Nat) (l : Bs), l.length ≤ N → ∀ x ∈ pcs a l, x.s.t.length ≤ l.length
  | 0, a, l, h, x, hx => by
    have : l = [] := List.eq_nil_of_length_eq_zero (by omega)
    subst this
    rw [pcs_nil] at hx
    cases hx
  | N + 1, a, l, h, x, hx => by
    by_cases hl : l = []
    · subst hl
      rw [pcs_nil] at hx
      cases hx
    · rw [pcs_cons a l hl] at hx
      have hn := stepOf_n l hl
      rcases List.mem_cons.1 hx with rfl | hx
      · exact stepOf_t l hl
      · have := pcs_t N _ _ (by rw [List.length_drop]; omega) x hx
        rw [List.length_drop] at this
        omega

set_option maxRecDepth 100000 in
set_option maxHeartbeats 4000000 in
theorem pieces1_in (n : Nat) (hn : 1 ≤ n) (l Bs n₀ : Nat) (s : ByteArray) (hs : s.size ≤ 281474976710656) (xα : List PK) (hα : xα.map Subtype.val = pieces 0 s.data.toList)
    (J Jx : List PK → World → Prop) (B0 : Nat) (hJ : AbidesFrom B0 J)
    (hY : ∀ pre x W, J pre W → pre.length < xα.length → YieldAt Fence.wide (n - 1) Tryz.prog l #[pcV x.1] W fun e W' =>
      (e = .returned (.bool true) ∧ J (pre ++ [x]) W' ∧ Kc n₀ W W') ∨ (e = .returned (.bool false) ∧ Jx (pre ++ [x]) W'))
    (W : World) (hBs : W.heap[Bs]? = some (.cells #[.string s] 9 (0, 0))) (hW : n₀ ≤ W.heap.size) (h0 : J [] W) :
    CallsIn Fence.wide n Tryz.prog 119 #[.func (.yield l) #[] #[], .pointer (some ⟨Bs, 0, none⟩)] W fun e W' => (∃ v, e = .returned v) ∧
      ((∃ ys, ys = xα ∧ J ys W') ∨ (∃ pre, pre <+: xα ∧ Jx pre W')) := by
  have hcb := (cell_of_block hBs).1
  have HB := Lib.hid hBs
  clear hBs
  have hf25 : Fence.wide.fn 120 := trivial
  have hf26 : Fence.wide.fn 121 := trivial
  refine callsIn_of_wp Tryz.func119 rfl trivial ?_ rfl
  simp only [Tryz.ntmps119, List.size_toArray, List.length_cons, List.length_nil, Nat.reduceAdd, Nat.reduceSub, Array.replicate_succ, Array.replicate_zero, List.push_toArray, List.append_toArray, List.nil_append, List.cons_append]
  gi_wp2_with (gi_at_call 120; refine (callsIn_wide.2 (gapEnd_any s 0 (Nat.zero_le _) hs _)).mono ?_; rintro e w1 ⟨i0, rfl, hg0, he0, hb0⟩)
  have hJ0 : J [] w1 := hJ _ _ _ none h0 (grown_of_below hb0) (by simp)
  have hK0 : Kc n₀ W w1 := Kc.of_below hb0 hW
  have hp0 : xα.map Subtype.val = pieces i0 (s.data.toList.drop i0) := by rw [hα]; simpa using hg0.2.2
  have hi0 := hg0.2.1
  have HP0 := Lib.hid hp0
  have HE0 := Lib.hid he0
  clear hp0 he0 hg0 hb0 hcb
  gi_loopw [3] (fun s3 wr => ∃ (j i : Nat), s3 = .int .i64 (i : Int) ∧ i ≤ s.size ∧ j ≤ xα.length ∧ (xα.drop j).map Subtype.val = pieces i (s.data.toList.drop i) ∧ (∀ h : i < s.size, isBlank s[i] = false ∧ s[i] ≠ 35) ∧ J (xα.take j) wr ∧ Kc n₀ W wr) (fun s3 _ => s.size - (intOf s3).toNat)
  case atStart => exact ⟨0, i0, rfl, hi0, Nat.zero_le _, HP0.out, HE0.out, by simpa using hJ0, hK0⟩
  case round =>
    clear hJ0 hK0 hi0 HP0 HE0
    obtain ⟨j, i, rfl, hi, hj, hp, he, hJj, hK⟩ := hrel
    have hcb := (cell_of_block (hK.own Bs _ _ _ (.inr rfl) HB.out)).1
    have hwr : n₀ ≤ wr.heap.size := Nat.le_trans hW hK.below.size
    by_cases hlt : i < s.size
    · have hd : decide ((i : Int) < (s.size : Int)) = true := by simp; omega
      have hne : s.data.toList.drop i ≠ [] := by rw [drop_data hlt]; simp
      have hst := stepOf_n _ hne
      rw [pieces_piece i _ hne (by rw [drop_data hlt]; exact stepOf_piece _ _ (he hlt).1 (he hlt).2), List.drop_drop] at hp
      obtain ⟨y, hy1, hy2, hp'⟩ : ∃ y : PK, xα[j]? = some y ∧ y.1 = ⟨i, stepOf (s.data.toList.drop i)⟩ ∧ (xα.drop (j + 1)).map Subtype.val = pieces (i + (stepOf (s.data.toList.drop i)).n) (s.data.toList.drop (i + (stepOf (s.data.toList.drop i)).n)) := by
        cases hdr : xα.drop j with
        | nil => rw [hdr] at hp; simp at hp
        | cons y r =>
          rw [hdr] at hp
          simp only [List.map_cons, List.cons.injEq] at hp
          refine ⟨y, ?_, hp.1, ?_⟩
          · have : (xα.drop j)[0]? = some y := by rw [hdr]; rfl
            simpa using this
          · have : xα.drop (j + 1) = r := by rw [← List.tail_drop, hdr]; rfl
            rw [this]; exact hp.2
      have hjl : j < xα.length := (List.getElem?_eq_some_iff.1 hy1).1
      have htk : xα.take (j + 1) = xα.take j ++ [y] := by
        obtain ⟨h1, rfl⟩ := List.getElem?_eq_some_iff.1 hy1
        exact List.take_succ_eq_append_getElem h1
      have hpa := pieceAt_any s i hlt hs (he hlt).1 (he hlt).2 wr
      rw [List.length_drop, ← Lib.size_eq] at hst
      rw [← hy2] at hpa
      have hat : y.1.at_ = i := by rw [hy2]
      have hen : y.1.s.n = (stepOf (s.data.toList.drop i)).n := by rw [hy2]
      rw [← hen] at hp' hst
      obtain ⟨y, hyl⟩ := y
      obtain ⟨ya, sn, sk, st, sd⟩ := y
      simp only at hat hp' hst hpa
      subst hat
      have HPA := Lib.hid hpa
      have HP := Lib.hid hp'
      have HTK := Lib.hid htk
      obtain ⟨m, hm⟩ : ∃ m, m = ya + sn := ⟨_, rfl⟩
      have hmi : ya < m := by omega
      have hms : m ≤ s.size := by omega
      rw [← hm] at HP
      have HM := Lib.hid hm
      clear hpa hp' htk hy1 hy2 hen hp hne he hm
      gi_wp2_with fail
      refine (callsIn_wide.2 HPA.out).mono ?_
      rintro e w2 ⟨rfl, hb2⟩
      have hJ1 : J (xα.take j) (w2.alloc (.cells #[.int .i64 sk, .int .i64 ya, .string ⟨st.toArray⟩, .int .i64 (m : Int), .int .i64 sd] 149)) := hJ _ _ _ none (hJ _ _ _ none hJj (grown_of_below hb2) (by simp)) (World.grownBy_alloc _ _ none) (by simp)
      obtain ⟨fn, tmps, assign, body, hy, hR⟩ := hY _ ⟨⟨ya, sn, sk, st, sd⟩, hyl⟩ _ hJ1 (by rw [List.length_take]; omega)
      simp only [pcV, pieceV, ← HM.out] at hy hR ⊢
      have HR := Lib.hid hR
      have hw2 : n₀ ≤ w2.heap.size := Nat.le_trans hwr hb2.size
      have HK1 := Lib.hid (hK.trans (Kc.of_below hb2 hwr))
      have hcb2 := (cell_of_block (HK1.out.own Bs _ _ _ (.inr rfl) HB.out)).1
      clear hR hJ1 hK hb2 hJj hcb
      gi_wp2_with fail
      refine HR.out.mono ?_
      rintro e W3 (⟨rfl, hJ3, hk3⟩ | ⟨rfl, hJx3⟩)
      · have hp3 := hk3.own w2.heap.size _ _ _ (.inl rfl) (heap_alloc_new w2 (.cells #[.int .i64 sk, .int .i64 ya, .string ⟨st.toArray⟩, .int .i64 (m : Int), .int .i64 sd] 149))
        have u3 : W3.cell? ⟨w2.heap.size, 3, none⟩ = some (.int .i64 (m : Int)) := by simp [World.cell?, hp3]
        have HK3 := Lib.hid ((HK1.out.alloc hw2 (.cells #[.int .i64 sk, .int .i64 ya, .string ⟨st.toArray⟩, .int .i64 (m : Int), .int .i64 sd] 149)).trans hk3)
        have hcb3 := (cell_of_block (HK3.out.own Bs _ _ _ (.inr rfl) HB.out)).1
        have HGE := Lib.hid (gapEnd_any s m hms hs W3)
        clear hp3 hk3 hcb2
        gi_wp2_with fail
        refine (callsIn_wide.2 HGE.out).mono ?_
        rintro e W4 ⟨i2, rfl, hg2, he2, hb4⟩
        have HG2 := Lib.hid hg2
        have HE2 := Lib.hid he2
        have hmi2 := hg2.1
        have hi2 := hg2.2.1
        clear hg2 he2
        gi_wp2_with fail
        go_roundw
        case rel => exact ⟨j + 1, i2, rfl, hi2, by omega, by rw [HP.out]; exact HG2.out.2.2, HE2.out, by rw [HTK.out]; exact hJ _ _ _ none hJ3 (grown_of_below hb4) (by simp), HK3.out.trans (Kc.of_below hb4 (Nat.le_trans hW HK3.out.below.size))⟩
        case measure => simp [intOf]; omega
      · gi_wp2
        refine bodyPost_ret (results_none rfl _ _ _) rfl ?_
        exact ⟨⟨_, rfl⟩, .inr ⟨_, by rw [← HTK.out]; exact List.take_prefix _ _, hJx3⟩⟩
    · have hd : decide ((i : Int) < (s.size : Int)) = false := by simp; omega
      have hnil : xα.drop j = [] := by
        rw [List.drop_of_length_le (i := i) (l := s.data.toList) (by rw [← Lib.size_eq]; omega), pieces_nil] at hp
        simpa using hp
      have htk : xα.take j = xα := List.take_of_length_le (by simpa using hnil)
      rw [htk] at hJj
      clear hp hnil htk
      gi_wp2_with fail
      go_end0
      exact ⟨⟨_, rfl⟩, .inl ⟨_, rfl, hJj⟩⟩

theorem pieces_in (n : Nat) (s : ByteArray) (w : World) :
    CallsIn Fence.wide n Tryz.prog 105 #[.string s] w fun e w' => e = .returned (.func (.func 119) #[] #[.pointer (some ⟨w.heap.size, 0, none⟩)]) ∧ w' = w.alloc (.cells #[.string s] 9) := by
  refine callsIn_of_wp Tryz.func105 rfl trivial ?_ rfl
  simp only [Tryz.ntmps105, List.size_toArray, List.length_cons, List.length_nil, Nat.reduceAdd, Nat.reduceSub, Array.replicate_succ, Array.replicate_zero, List.push_toArray, List.append_toArray, List.nil_append, List.cons_append]
  gi_wp2
  go_ret
  exact ⟨rfl, rfl⟩

theorem pieces_stops (n : Nat) (hn : 1 ≤ n) (Bs n₀ : Nat) (s : ByteArray) (hs : s.size ≤ 281474976710656) (xα : List PK) (hα : xα.map Subtype.val = pieces 0 s.data.toList) (w : World) (hB : w.heap[Bs]? = some (.cells #[.string s] 9 (0, 0))) (hn₀ : n₀ ≤ w.heap.size) :
    SeqStopsK Fence.wide n Tryz.prog 119 #[.pointer (some ⟨Bs, 0, none⟩)] (fun x : PK => #[pcV x.1]) (Kc n₀) (fun ys => ys = xα) (fun pre => pre <+: xα) xα.length w :=
  fun l J Jx W hW hJ _ hY h0 =>
  pieces1_in n hn l Bs n₀ s hs xα hα J Jx _ hJ hY W ((hW.block _ (Array.getElem?_eq_some_iff.1 hB).1).trans hB) (Nat.le_trans hn₀ hW.size) h0

end Go.Proofs.YthpoffklhpbdoaaGreatDoor

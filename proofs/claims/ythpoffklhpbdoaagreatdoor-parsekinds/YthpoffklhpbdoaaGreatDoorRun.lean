/-
  The contracts of run, its iterator and runEnd of package lex: the place behind a run of bytes.
-/
import Derived.Test.YthpoffklhpbdoaaGreatDoorLeaf
import Derived.RangeFuncNested
import Derived.RangeFuncBound
import Derived.RangeFuncCalls
import Derived.RangeFuncLeaves
import Derived.RangeFuncFrom
import Derived.RangeFuncBox
import Derived.Shelf.Abstract
import Derived.Shelf.AbstractIn
import Derived.Shelf.RegionOpen
import Derived.OwnWalkIn
import Derived.TacticsInMore
import Derived.LoopNIn
import Derived.LoopIn
namespace Go.Proofs.YthpoffklhpbdoaaGreatDoor
set_option maxRecDepth 20000
open Go.RowKit Go.Shelf
attribute [local go_sem] Oper.semAt_some

/-- What a round may turn: nothing below n₀, and none of the three boxes. -/
structure Kr (n₀ Bs : Nat) (W W' : World) : Prop where
  below : Below n₀ W W'
  box : ∀ i, Bs ≤ i → i < Bs + 3 → W'.heap[i]? = W.heap[i]?

theorem Kr.refl (n₀ Bs : Nat) (W : World) : Kr n₀ Bs W W := ⟨Below.refl _ _, fun _ _ _ => rfl⟩
theorem Kr.trans {n₀ Bs : Nat} {A B C : World} (h : Kr n₀ Bs A B) (k : Kr n₀ Bs B C) : Kr n₀ Bs A C := ⟨h.below.trans k.below, fun i h1 h2 => (k.box i h1 h2).trans (h.box i h1 h2)⟩
theorem Kr.put {n₀ Bs : Nat} {w : World} (hn : n₀ ≤ w.heap.size) (hb : Bs + 3 ≤ w.heap.size) (W : World) (l : Nat) (o o' : Obj) (hl : w.heap.size ≤ l) (h : W.heap[l]? = some o) (hc : o.isCells = false) (hw : o.isWalk = false) : Kr n₀ Bs W (W.putObj l o') :=
  ⟨belowK_b hn W l o o' hl h hc hw, fun i _ h2 => World.putObj_heap_other (by omega)⟩
theorem Kr.drew (n₀ Bs : Nat) (W : World) : Kr n₀ Bs W W.drew := ⟨(Below.refl _ _).drew, fun _ _ _ => rfl⟩
theorem grown_drew (W : World) (row : Option Nat) : W.grownBy W.drew row := ⟨rfl, rfl, rfl, Nat.le_refl _, fun _ _ _ => rfl⟩

theorem grown_drewN (W : World) (n : Nat) (row : Option Nat) : W.grownBy (W.drewN n) row := ⟨rfl, rfl, rfl, Nat.le_refl _, fun _ _ _ => rfl⟩

theorem cell_of_block {W : World} {b : Nat} {v : Value} {t : TypeId} (h : W.heap[b]? = some (.cells #[v] t (0, 0))) : W.cell? ⟨b, 0, none⟩ = some v ∧ W.frozen? ⟨b, 0, none⟩ = false :=
  ⟨by simp [World.cell?, h], by simp [World.frozen?, h]⟩

theorem block_kept {W W' : World} {row : Option Nat} {b : Nat} {c : Array Value} {t : TypeId} {fz : Nat × Nat} (h : W.heap[b]? = some (.cells c t fz)) (hg : W.grownBy W' row) (hrow : ∀ r, row = some r → ∃ o : Obj, W.heap[r]? = some o ∧ o.isCells = false) : W'.heap[b]? = some (.cells c t fz) := by
  refine (hg.block b (Array.getElem?_eq_some_iff.1 h).1 ?_).trans h
  intro e
  obtain ⟨o, ho, hc⟩ := hrow b e.symm
  rw [h] at ho
  cases ho
  simp [Obj.isCells] at hc

/-- So many places from one on. -/
def idx (a j : Nat) : List Int := (List.range j).map (fun i => ((a + i : Nat) : Int))
theorem idx_succ (a j : Nat) : idx a (j + 1) = idx a j ++ [((a + j : Nat) : Int)] := by simp [idx, List.range_succ]
theorem idx_length (a j : Nat) : (idx a j).length = j := by simp [idx]
theorem idx_take (a : Nat) {j m : Nat} (h : j ≤ m) : idx a j <+: idx a m := by
  refine ⟨((List.range (m - j)).map (fun i => j + i)).map (fun i => ((a + i : Nat) : Int)), ?_⟩
  rw [idx, idx, ← List.map_append, ← List.range_add, Nat.add_sub_cancel' h]

/-- The boxes of run. -/
structure Boxes (Bs : Nat) (s : ByteArray) (a : Nat) (kf : Nat) (W : World) : Prop where
  src : W.heap[Bs]? = some (.cells #[.string s] 9 (0, 0))
  at_ : W.heap[Bs + 1]? = some (.cells #[.int .i64 a] 3 (0, 0))
  such : W.heap[Bs + 2]? = some (.cells #[.func (.func kf) #[] #[]] 188 (0, 0))

theorem Boxes.kept {n₀ Bs : Nat} {s : ByteArray} {a kf : Nat} {W W' : World} (h : Boxes Bs s a kf W) (k : Kr n₀ Bs W W') : Boxes Bs s a kf W' :=
  ⟨(k.box Bs (by omega) (by omega)).trans h.src, (k.box (Bs + 1) (by omega) (by omega)).trans h.at_, (k.box (Bs + 2) (by omega) (by omega)).trans h.such⟩

set_option maxRecDepth 100000 in
set_option maxHeartbeats 4000000 in
theorem run1_in (n : Nat) (hn : 1 ≤ n) (l Bs n₀ a : Nat) (s : ByteArray) (kf : Nat) (p : UInt8 → Bool) (heg : ∀ args w, (callFunc kf args).run Tryz.prog w = .ok (.enter kf args) w)
    (hkf : ∀ (c : UInt8) (w : World), Calls Tryz.prog kf #[.int .u8 (c.toNat : Int)] w fun e w' => e = .returned (.bool (p c)) ∧ w = w') (ha : a ≤ s.size) (hs : s.size ≤ 281474976710656)
    (J Jx : List Int → World → Prop) (B0 : Nat) (hJ : AbidesFrom B0 J)
    (hY : ∀ pre x W, J pre W → pre.length < spanLen p (s.data.toList.drop a) → YieldAt Fence.wide (n - 1) Tryz.prog l #[.int .i64 x] W fun e W' =>
      (e = .returned (.bool true) ∧ J (pre ++ [x]) W' ∧ Kr n₀ Bs W W') ∨ (e = .returned (.bool false) ∧ Jx (pre ++ [x]) W'))
    (W : World) (hB : Boxes Bs s a kf W) (h0 : J [] W) :
    CallsIn Fence.wide n Tryz.prog 185 #[.func (.yield l) #[] #[], .pointer (some ⟨Bs + 1, 0, none⟩), .pointer (some ⟨Bs, 0, none⟩), .pointer (some ⟨Bs + 2, 0, none⟩)] W fun e W' => (∃ v, e = .returned v) ∧
      ((∃ ys, ys = idx a (spanLen p (s.data.toList.drop a)) ∧ J ys W') ∨ (∃ pre, pre <+: idx a (spanLen p (s.data.toList.drop a)) ∧ Jx pre W')) := by
  have hm : Tryz.prog.follows .mixedOrders = true := by kernel_rfl
  obtain ⟨m, hmm⟩ : ∃ m, m = spanLen p (s.data.toList.drop a) := ⟨_, rfl⟩
  rw [← hmm] at hY ⊢
  have hall := spanLen_all p (s.data.toList.drop a)
  have hend := spanLen_end p (s.data.toList.drop a)
  have hle := spanLen_le p (s.data.toList.drop a)
  rw [← hmm] at hall hend hle
  rw [List.length_drop, ← Lib.size_eq] at hle
  have HA := Lib.hid hall
  have HE := Lib.hid hend
  clear hall hend hmm
  have ca := (cell_of_block hB.at_).1
  have hfk : Fence.wide.fn kf := trivial
  refine callsIn_of_wp Tryz.func185 rfl trivial ?_ rfl
  simp only [Tryz.ntmps185, List.size_toArray, List.length_cons, List.length_nil, Nat.reduceAdd, Nat.reduceSub, Array.replicate_succ, Array.replicate_zero, List.push_toArray, List.append_toArray, List.nil_append, List.cons_append]
  gi_wp2
  gi_loopw [5] (fun s5 wr => ∃ i : Nat, s5 = .int .i64 (i : Int) ∧ a ≤ i ∧ i ≤ a + m ∧ J (idx a (i - a)) wr ∧ Kr n₀ Bs W wr) (fun s5 _ => a + m - (intOf s5).toNat)
  case atStart => exact ⟨a, rfl, Nat.le_refl _, by omega, by rw [Nat.sub_self]; exact h0, Kr.refl _ _ _⟩
  case round =>
    obtain ⟨i, rfl, hai, him, hJj, hK⟩ := hrel
    have hBw := hB.kept hK
    obtain ⟨cs, fs⟩ := cell_of_block hBw.src
    obtain ⟨cf, ff⟩ := cell_of_block hBw.such
    have HK := Lib.hid hK
    clear hK hBw fs ff ca
    by_cases hlt : i < s.size
    · have hge : decide ((i : Int) < (s.size : Int)) = true := by simp; omega
      have hget : (s.data.toList.drop a)[i - a]? = some s[i] := by
        rw [List.getElem?_drop, Nat.add_sub_cancel' hai, List.getElem?_eq_getElem (by rw [← Lib.size_eq]; exact hlt)]
        rfl
      cases hp : p s[i] with
      | true =>
        have hlm : i - a < m := by
          rcases Nat.lt_or_ge (i - a) m with h | h
          · exact h
          · have : i - a = m := by omega
            rw [this] at hget
            have := HE.out _ hget
            rw [hp] at this
            cases this
        have HP := Lib.hid hp
        obtain ⟨fn, tmps, assign, body, hy, hR⟩ := hY _ (i : Int) wr.drew (hJ _ _ _ none hJj (grown_drew _ _) (by simp)) (by rw [idx_length]; omega)
        have hR' := hR.mono (R' := fun e W' => ∃ b, e = .returned (.bool b) ∧ ((b = true ∧ J (idx a (i - a) ++ [(i : Int)]) W' ∧ Kr n₀ Bs wr.drew W') ∨ (b = false ∧ Jx (idx a (i - a) ++ [(i : Int)]) W'))) (by
          rintro e W' (⟨rfl, h1, h2⟩ | ⟨rfl, h1⟩)
          · exact ⟨true, rfl, .inl ⟨rfl, h1, h2⟩⟩
          · exact ⟨false, rfl, .inr ⟨rfl, h1⟩⟩)
        have HR := Lib.hid hR'
        have hix : idx a (i - a) ++ [(i : Int)] = idx a (i - a + 1) := by rw [idx_succ, Nat.add_sub_cancel' hai]
        have HIX := Lib.hid hix
        clear hR hp hget hR' hix
        gi_wp2
        gi_region_with_o (first | (gi_at_fn kf; refine (callsIn_wide.2 (hkf _ _)).mono ?_; rintro e w' ⟨rfl, rfl⟩; rw [HP.out]) | (refine HR.out.mono ?_; rintro e W3 ⟨b, rfl, h3⟩; have H3 := Lib.hid h3; clear h3))
        all_goals
          rcases H3.out with ⟨rfl, hJ3, hK3⟩ | ⟨rfl, hJx3⟩
          · gi_wp2
            go_roundw
            case rel => exact ⟨i + 1, by simp, by omega, by omega, by rw [show i + 1 - a = i - a + 1 by omega, ← HIX.out]; exact hJ3, (HK.out.trans (Kr.drew _ _ _)).trans hK3⟩
            case measure => simp [intOf]; omega
          · gi_wp2
            go_end0
            exact ⟨⟨_, rfl⟩, .inr ⟨_, by rw [HIX.out]; exact idx_take a (by omega), hJx3⟩⟩
      | false =>
        have hlm : i - a = m := by
          rcases Nat.lt_or_ge (i - a) m with h | h
          · obtain ⟨c, h1, h2⟩ := HA.out _ h
            rw [hget] at h1
            cases h1
            rw [hp] at h2
            cases h2
          · omega
        have HP := Lib.hid hp
        clear hp hget
        gi_wp2
        refine wpIn_wide.2 ?_
        go_quiet (first | (go_at_fn kf; refine Calls.quiet_of_same (v := .bool false) ((hkf _ _).mono fun e w' h => ⟨by rw [h.1, HP.out], h.2.symm⟩)))
        gi_wp2
        go_end0
        exact ⟨⟨_, rfl⟩, .inl ⟨_, by rw [← hlm], hJ _ _ _ none hJj (grown_drewN _ _ _) (by simp)⟩⟩
    · have hge : decide ((i : Int) < (s.size : Int)) = false := by simp; omega
      gi_wp2
      refine wpIn_wide.2 ?_
      go_quiet (fail)
      gi_wp2
      go_end0
      exact ⟨⟨_, rfl⟩, .inl ⟨_, by rw [show m = i - a by omega], hJ _ _ _ none hJj (grown_drewN _ _ _) (by simp)⟩⟩

/-- What runEnd's round may turn, and what it keeps. -/
theorem run_stops (n : Nat) (hn : 1 ≤ n) (Bs n₀ a : Nat) (s : ByteArray) (kf : Nat) (p : UInt8 → Bool) (heg : ∀ args w, (callFunc kf args).run Tryz.prog w = .ok (.enter kf args) w)
    (hkf : ∀ (c : UInt8) (w : World), Calls Tryz.prog kf #[.int .u8 (c.toNat : Int)] w fun e w' => e = .returned (.bool (p c)) ∧ w = w') (ha : a ≤ s.size) (hs : s.size ≤ 281474976710656)
    (w : World) (hB : Boxes Bs s a kf w) :
    SeqStopsK Fence.wide n Tryz.prog 185 #[.pointer (some ⟨Bs + 1, 0, none⟩), .pointer (some ⟨Bs, 0, none⟩), .pointer (some ⟨Bs + 2, 0, none⟩)] (fun x : Int => #[.int .i64 x]) (Kr n₀ Bs) (fun ys => ys = idx a (spanLen p (s.data.toList.drop a))) (fun pre => pre <+: idx a (spanLen p (s.data.toList.drop a))) (spanLen p (s.data.toList.drop a)) w :=
  fun l J Jx W hW hJ _ hY h0 => by
  have lt0 := (Array.getElem?_eq_some_iff.1 hB.src).1
  have lt1 := (Array.getElem?_eq_some_iff.1 hB.at_).1
  have lt2 := (Array.getElem?_eq_some_iff.1 hB.such).1
  exact run1_in n hn l Bs n₀ a s kf p heg hkf ha hs J Jx _ hJ hY W ⟨(hW.block _ lt0).trans hB.src, (hW.block _ lt1).trans hB.at_, (hW.block _ lt2).trans hB.such⟩ h0

theorem run_box (n : Nat) (s : ByteArray) (a : Int) (kf : Nat) (w : World) :
    CallsIn Fence.wide n Tryz.prog 162 #[.string s, .int .i64 a, .func (.func kf) #[] #[]] w fun e w' => e = .returned (.func (.func 185) #[] #[.pointer (some ⟨w.heap.size + 1, 0, none⟩), .pointer (some ⟨w.heap.size, 0, none⟩), .pointer (some ⟨w.heap.size + 2, 0, none⟩)]) ∧
      w' = ((w.alloc (.cells #[.string s] 9)).alloc (.cells #[.int .i64 a] 3)).alloc (.cells #[.func (.func kf) #[] #[]] 188) := by
  refine callsIn_of_wp Tryz.func162 rfl trivial ?_ rfl
  simp only [Tryz.ntmps162, List.size_toArray, List.length_cons, List.length_nil, Nat.reduceAdd, Nat.reduceSub, Array.replicate_succ, Array.replicate_zero, List.push_toArray, List.append_toArray, List.nil_append, List.cons_append]
  gi_wp2
  go_ret
  exact ⟨rfl, rfl⟩

/-- The place behind the last of some. -/
def endOf (a : Nat) (l : List Int) : Int := match l.getLast? with | none => a | some x => wrap64 (x + 1)
theorem endOf_nil (a : Nat) : endOf a [] = a := rfl
theorem endOf_snoc (a : Nat) (l : List Int) (x : Int) : endOf a (l ++ [x]) = wrap64 (x + 1) := by simp [endOf]
theorem endOf_idx (a m : Nat) (h : a + m ≤ 281474976710656) : endOf a (idx a m) = ((a + m : Nat) : Int) := by
  cases m with
  | zero => simp [idx, endOf]
  | succ m =>
    rw [idx_succ, endOf_snoc]
    rw [show ((a + m : Nat) : Int) + 1 = ((a + (m + 1) : Nat) : Int) by omega]
    exact IntWalk.wrap64_in _ (by omega)

set_option maxRecDepth 100000 in
set_option maxHeartbeats 4000000 in
theorem runEnd_any (s : ByteArray) (a : Nat) (kf : Nat) (p : UInt8 → Bool) (heg : ∀ args w, (callFunc kf args).run Tryz.prog w = .ok (.enter kf args) w)
    (hkf : ∀ (c : UInt8) (w : World), Calls Tryz.prog kf #[.int .u8 (c.toNat : Int)] w fun e w' => e = .returned (.bool (p c)) ∧ w = w') (ha : a ≤ s.size) (hs : s.size ≤ 281474976710656) (w : World) :
    Calls Tryz.prog 139 #[.string s, .int .i64 a, .func (.func kf) #[] #[]] w fun e w' => e = .returned (.int .i64 ((a + spanLen p (s.data.toList.drop a) : Nat) : Int)) ∧ Below w.heap.size w w' := by
  rw [← callsIn_wide (n := 5)]
  have hff : Fence.wide.fn 162 := trivial
  have hle := spanLen_le p (s.data.toList.drop a)
  rw [List.length_drop, ← Lib.size_eq] at hle
  refine callsIn_of_wp_marks Tryz.func139 rfl trivial ?_ rfl
  simp only [Tryz.ntmps139, List.size_toArray, List.length_cons, List.length_nil, Nat.reduceAdd, Nat.reduceSub, Array.replicate_succ, Array.replicate_zero, List.push_toArray, List.append_toArray, List.nil_append, List.cons_append]
  gi_wp2_with (gi_at_call 162; refine (run_box _ _ _ _ _).mono ?_; rintro e w' ⟨rfl, rfl⟩)
  obtain ⟨W0, hW0⟩ : ∃ W0, (((w.alloc (.cells #[.int .i64 a] 3)).alloc (.cells #[.string s] 9)).alloc (.cells #[.int .i64 a] 3)).alloc (.cells #[.func (.func kf) #[] #[]] 188) = W0 := ⟨_, rfl⟩
  have hs0 : W0.heap.size = w.heap.size + 4 := by rw [← hW0]; simp
  have hE0 : W0.heap[w.heap.size]? = some (.cells #[.int .i64 a] 3 (0, 0)) := by
    rw [← hW0]; exact (((Below.heap_alloc _ _ _ (by simp; omega)).trans (Below.heap_alloc _ _ _ (by simp; omega))).trans (Below.heap_alloc _ _ _ (by simp))).trans (World.alloc_heap_new w _)
  have hBx : Boxes (w.heap.size + 1) s a kf W0 := by
    refine ⟨?_, ?_, ?_⟩
    · rw [← hW0]; refine ((Below.heap_alloc _ _ _ (by simp)).trans (Below.heap_alloc _ _ _ (by simp))).trans ?_
      have := World.alloc_heap_new (w.alloc (.cells #[.int .i64 a] 3)) (.cells #[.string s] 9); rwa [World.size_alloc] at this
    · rw [← hW0]; refine (Below.heap_alloc _ _ _ (by simp)).trans ?_
      have := World.alloc_heap_new ((w.alloc (.cells #[.int .i64 a] 3)).alloc (.cells #[.string s] 9)) (.cells #[.int .i64 a] 3); rwa [World.size_alloc, World.size_alloc] at this
    · rw [← hW0]
      have := World.alloc_heap_new (((w.alloc (.cells #[.int .i64 a] 3)).alloc (.cells #[.string s] 9)).alloc (.cells #[.int .i64 a] 3)) (.cells #[.func (.func kf) #[] #[]] 188); rwa [World.size_alloc, World.size_alloc, World.size_alloc] at this
  have hBW : Below w.heap.size w W0 := by rw [← hW0]; exact ((((Below.refl _ w).alloc (Nat.le_refl _) _).alloc (by simp) _).alloc (by simp; omega) _).alloc (by simp; omega) _
  rw [hW0]
  clear hW0
  refine wpIn_rangeFunc_ownF rfl (by omega) (gf := 185) (lb := #[.pointer (some ⟨w.heap.size + 1 + 1, 0, none⟩), .pointer (some ⟨w.heap.size + 1, 0, none⟩), .pointer (some ⟨w.heap.size + 1 + 2, 0, none⟩)]) rfl trivial (enters_of Tryz.func185 (by kernel_rfl) rfl)
    (run_stops 4 (by omega) (w.heap.size + 1) w.heap.size a s kf p heg hkf ha hs W0 hBx) (fun h k => Kr.trans h k) (fun W l o o' h1 h2 h3 h4 => Kr.put (w := W0) (by omega) (by omega) W l o o' h1 h2 h3 h4) (Below.refl _ _) (fun _ => rfl)
    (fun pre W => W.heap[w.heap.size]? = some (.cells #[.int .i64 (endOf a pre)] 3 (0, 0)) ∧ Below w.heap.size w W)
    (fun _ _ _ => False)
    (OwnFrom.and (Own.from (I := fun pre W => W.heap[w.heap.size]? = some (.cells #[.int .i64 (endOf a pre)] 3 (0, 0))) (fun s A B row hs hg hr => block_kept hs hg hr) _) (ownFrom_below (Nat.le_refl _) (by omega)))
    (fun _ _ _ _ _ hs _ _ => hs)
    ⟨hE0, hBW⟩
    (fun x => { tmps := #[.string s, .int .i64 a, .func (.func kf) #[] #[], undef, undef, undef, .int .i64 0, .pointer (some ⟨w.heap.size, 0, none⟩), .int .i64 x, .int .i64 a, .string s, .int .i64 a, .func (.func kf) #[] #[], .func (.func 185) #[] #[.pointer (some ⟨w.heap.size + 1 + 1, 0, none⟩), .pointer (some ⟨w.heap.size + 1, 0, none⟩), .pointer (some ⟨w.heap.size + 1 + 2, 0, none⟩)], .int .i64 x, undef, undef, undef], defers := [] }) ?assign ?body ?done ?stop
  case assign =>
    intro l x W K hK
    gi_wp2
    exact hK
  case body =>
    rintro l pre x W ⟨hE, hB⟩ _
    obtain ⟨hc, hf⟩ := cell_of_block hE
    gi_wp2
    refine ⟨KeepsOthers.setCell _ _ _, ⟨(Below.refl w.heap.size W).setCell (p := ⟨w.heap.size, 0, none⟩) (Nat.le_refl _) _, fun i h1 _ => Below.heap_setCell W ⟨w.heap.size, 0, none⟩ _ i (by simp; omega)⟩, ?_, hB.setCell (p := ⟨w.heap.size, 0, none⟩) (Nat.le_refl _) _⟩
    rw [endOf_snoc]
    exact one_setCell hE
  case done =>
    rintro D ys W hD rfl ⟨hE, hB⟩ hK
    obtain ⟨hc, hf⟩ := cell_of_block hE
    rw [endOf_idx a _ (by omega)] at hc
    gi_wp2
    refine ⟨by simp, .inl ⟨_, _, rfl, run_takeDeferred hK, ?_⟩⟩
    exact ⟨_, results_tmp rfl _ _ _, rfl, hB.trans (belowK_b (w := w) (Nat.le_refl _) W D _ _ (by omega) hK rfl rfl)⟩
  case stop =>
    rintro D c pre W _ _ h _
    exact h.elim

end Go.Proofs.YthpoffklhpbdoaaGreatDoor

/-
  LruTwo: using a key again takes it to the front alone; two lists don't hang on each other. No condition.
-/
import Derived.Test.YthnmnohhhakjbaaAlive
import Derived.Test.YthnmnohhhakjbaaBIs
import Derived.Test.YthnmnohhhakjbaaIn
namespace Go.Proofs.Ythnmnohhhakjbaa
open Go.ChangeShapes Go.WideShapes Go.ChangeAt Go.RowKit Go.Maps

/-- Two lists apart, whose memory lies from block lo on and below T. -/
def Pair (lo T : Nat) (w : World) (bx bY : Nat) (ks ls : List Int) (N : Nat) : Prop :=
  ∃ lx ly : B.Lst, lx.b = bx ∧ ly.b = bY ∧ lx.At w ks N ∧ ly.At w ls N ∧ (∀ i, lx.foot i → ¬ ly.foot i) ∧ (∀ i, lx.foot i ∨ ly.foot i → lo ≤ i ∧ i < T)

theorem Pair.swap {lo T : Nat} {w : World} {bx bY : Nat} {ks ls : List Int} {N : Nat} (h : Pair lo T w bx bY ks ls N) : Pair lo T w bY bx ls ks N := by
  obtain ⟨lx, ly, h1, h2, h3, h4, h5, h6⟩ := h
  exact ⟨ly, lx, h2, h1, h4, h3, fun i hi hj => h5 i hj hi, fun i hi => h6 i hi.symm⟩
theorem Pair.raise {lo T T' : Nat} {w : World} {bx bY : Nat} {ks ls : List Int} {N : Nat} (h : Pair lo T w bx bY ks ls N) (hT : T ≤ T') : Pair lo T' w bx bY ks ls N := by
  obtain ⟨lx, ly, h1, h2, h3, h4, h5, h6⟩ := h
  exact ⟨lx, ly, h1, h2, h3, h4, h5, fun i hi => ⟨(h6 i hi).1, Nat.lt_of_lt_of_le (h6 i hi).2 hT⟩⟩
theorem Pair.tight {lo T : Nat} {w : World} {bx bY : Nat} {ks ls : List Int} {N : Nat} (h : Pair lo T w bx bY ks ls N) : Pair lo w.heap.size w bx bY ks ls N := by
  obtain ⟨lx, ly, h1, h2, h3, h4, h5, h6⟩ := h
  exact ⟨lx, ly, h1, h2, h3, h4, h5, fun i hi => ⟨(h6 i hi).1, hi.elim (h3.lt i) (h4.lt i)⟩⟩
theorem Pair.below {lo T : Nat} {w w' : World} {bx bY : Nat} {ks ls : List Int} {N : Nat} (h : Pair lo T w bx bY ks ls N) (hb : Below w.heap.size w w') : Pair lo T w' bx bY ks ls N := by
  obtain ⟨lx, ly, h1, h2, h3, h4, h5, h6⟩ := h
  exact ⟨lx, ly, h1, h2, h3.kept (KeptBut.of_below hb (fun _ => False)) (fun _ _ e => e), h4.kept (KeptBut.of_below hb (fun _ => False)) (fun _ _ e => e), h5, h6⟩
theorem Pair.mono {lo T : Nat} {w : World} {bx bY : Nat} {ks ls : List Int} {N N' : Nat} (h : Pair lo T w bx bY ks ls N) (hN : N ≤ N') : Pair lo T w bx bY ks ls N' := by
  obtain ⟨lx, ly, h1, h2, h3, h4, h5, h6⟩ := h
  exact ⟨lx, ly, h1, h2, h3.mono hN, h4.mono hN, h5, h6⟩
theorem Pair.fst {lo T : Nat} {w : World} {bx bY : Nat} {ks ls : List Int} {N : Nat} (h : Pair lo T w bx bY ks ls N) : B.IsL lo bx w ks N := by
  obtain ⟨lx, ly, h1, h2, h3, h4, h5, h6⟩ := h
  exact ⟨lx, h1, h3, fun i hi => (h6 i (.inl hi)).1⟩

theorem use_pair (lo T bx bY : Nat) (ks ls : List Int) (N : Nat) (k : Int) (w : World) (h : Pair lo T w bx bY ks ls N) (hB : lo ≤ w.heap.size) (hk : B.kok k) (hN : N < 900) :
    Calls Try.prog 32 #[.pointer (some ⟨bx, 0, none⟩), .int .u8 k] w fun e w' => e = .returned (.tuple #[]) ∧ Pair lo w'.heap.size w' bx bY (k :: ks.erase k) ls (N + 1) ∧ KeptBut (fun i => lo ≤ i ∧ i < T) w w' := by
  obtain ⟨lx, ly, rfl, h2, h3, h4, h5, h6⟩ := h
  refine (B.use_any lx w ks N k h3 hk hN).mono ?_
  rintro e w' ⟨rfl, lx', e1, e2, e3, e4⟩
  refine ⟨rfl, ⟨lx', ly, e1, h2, e2, (h4.kept e3 (fun i hi hj => h5 i hj hi)).mono (by omega), ?_, ?_⟩, e3.mono (fun i hi => h6 i (.inl hi))⟩
  · intro i hi hj
    rcases e4 i hi with e | e
    · exact h5 i e hj
    · have := h4.lt i hj
      omega
  · rintro i (hi | hi)
    · refine ⟨?_, e2.lt i hi⟩
      rcases e4 i hi with e | e
      · exact (h6 i (.inl e)).1
      · omega
    · exact ⟨(h6 i (.inr hi)).1, Nat.lt_of_lt_of_le (h4.lt i hi) e3.size⟩

theorem new_pair (w : World) (w1 : World) (hw1 : w1 = w.alloc (.cells #[.map none, .slice none 0 0, .int .i64 0] 84)) : Pair w.heap.size (w.heap.size + 2) (w1.alloc (.cells #[.map none, .slice none 0 0, .int .i64 0] 84)) w.heap.size w1.heap.size [] [] 0 := by
  subst hw1
  refine ⟨⟨w.heap.size, none⟩, ⟨_, none⟩, rfl, rfl, ?_, B.At_new _ 0, ?_, ?_⟩
  · exact (B.At_new w 0).kept (KeptBut.alloc (fun _ => False) _ _) (fun _ _ e => e)
  · intro i hi hj
    have e1 := B.Lst.foot_none.1 hi
    have e2 := B.Lst.foot_none.1 hj
    simp at e2
    omega
  · rintro i (hi | hi)
    · have e1 := B.Lst.foot_none.1 hi; omega
    · have e1 := B.Lst.foot_none.1 hi
      simp at e1
      omega

/-- What comes of uses, one behind the other. -/
def uses : List Int → List Int → List Int
  | ks, [] => ks
  | ks, z :: r => uses (z :: ks.erase z) r
theorem uses_snoc : ∀ (l : List Int) (ks : List Int) (z : Int), uses ks (l ++ [z]) = z :: (uses ks l).erase z
  | [], ks, z => rfl
  | x :: r, ks, z => by simp [uses, uses_snoc r]

set_option maxRecDepth 20000 in
set_option maxHeartbeats 4000000 in
theorem two_walk (a : Option Addr) (zs : List Int) (cap : Nat) (k : Int) (k0 : 0 ≤ k) (k1 : k ≤ 255) (w : World) (hzs : Ints .u8 w w.heap.size a zs) :
    Calls Try.prog 7 #[.slice a zs.length cap, .int .u8 k] w fun e w' => e = .returned (.bool true) ∧ Below w.heap.size w w' := by
  have hlen := hzs.len
  by_cases hbig : 60 < zs.length
  · go_enter Try.func7, Try.ntmps7
    go_wp2_with fail
    refine (alive_any _).mono ?_
    rintro e w1 ⟨rfl, b1⟩
    go_wp2_with fail
    go_ret
    exact ⟨rfl, b1⟩
  · have hbig' : zs.length ≤ 60 := by omega
    have hd : decide (60 < (zs.length : Int)) = false := by simp; omega
    clear hbig hlen
    go_enter Try.func7, Try.ntmps7
    go_wp2_with fail
    refine (alive_any _).mono ?_
    rintro e w1 ⟨rfl, b1⟩
    go_wp2_with fail
    refine (B.new_any _).mono ?_
    rintro e w2 ⟨rfl, hw2'⟩
    have HW2 := Lib.hid hw2'
    clear hw2'
    go_wp2_with fail
    refine (B.new_any _).mono ?_
    rintro e w3 ⟨rfl, hw3⟩
    have hw2 := HW2.out
    clear HW2
    have hp3 : Pair w1.heap.size (w1.heap.size + 2) w3 w1.heap.size w2.heap.size [] [] 0 := by rw [hw3]; exact new_pair w1 w2 hw2
    have hs2 : w2.heap.size = w1.heap.size + 1 := by rw [hw2]; simp
    have b3 : Below w1.heap.size w1 w3 := by
      rw [hw3]
      refine Below.alloc ?_ (by omega) _
      rw [hw2]
      exact (Below.refl _ _).alloc (Nat.le_refl _) _
    clear hw2 hw3 hd
    have HB1 := Lib.hid b1
    have HS2 := Lib.hid hs2
    clear hs2
    go_wp2_with fail
    go_loopw [7] (fun s7 wr => ∃ (j T : Nat), s7 = .int .i64 (j : Nat) ∧ j ≤ zs.length ∧ Pair w1.heap.size T wr w1.heap.size w2.heap.size (uses [] (zs.take j)) (uses [] (zs.take j)) (2 * j) ∧ Below w1.heap.size w1 wr) (fun s7 _ => zs.length - (intOf s7).toNat)
    case atStart => exact ⟨0, _, rfl, Nat.zero_le _, hp3, b3⟩
    case round =>
      clear hp3 b3
      obtain ⟨j, T, rfl, hj, hP, hB⟩ := hrel
      by_cases hlt : j < zs.length
      · obtain ⟨z, hz⟩ : ∃ z, zs[j]? = some z := ⟨_, List.getElem?_eq_getElem hlt⟩
        obtain ⟨b, off, rfl, hbl, hc⟩ := hzs.cell j z hz
        have hwz := bounds_u8 (hzs.wf j z hz)
        have hbl1 : b < w1.heap.size := Nat.lt_of_lt_of_le hbl HB1.out.size
        have hc1 := (HB1.out.cell (p := ⟨b, off + j, none⟩) hbl).trans hc
        have hcr := (hB.cell (p := ⟨b, off + j, none⟩) hbl1).trans hc1
        have hlt' : (j : Int) < (zs.length : Int) := by omega
        have HTK : Hid (zs.take (j + 1) = zs.take j ++ [z]) := B.take_snoc hz
        clear hz
        go_wp2_with fail
        refine (use_pair _ _ _ _ _ _ _ z _ hP hB.size hwz (by omega)).mono ?_
        rintro e w5 ⟨rfl, hP5, hk5⟩
        have hB5 := hB.trans (hk5.below hB.size (fun i hi => hi.1))
        have hcr5 := (hB5.cell (p := ⟨b, off + j, none⟩) hbl1).trans hc1
        clear hcr
        go_wp2_with fail
        refine (use_pair _ _ _ _ _ _ _ z _ hP5.swap hB5.size hwz (by omega)).mono ?_
        rintro e w6 ⟨rfl, hP6, hk6⟩
        have hB6 := hB5.trans (hk6.below hB5.size (fun i hi => hi.1))
        have HP6 := Lib.hid hP6.swap
        clear hcr5 hP6 hP5 hP hk5 hk6 hB5
        go_wp2
        go_roundw
        case rel => exact ⟨j + 1, _, by simp, by omega, by rw [HTK.out, uses_snoc]; exact HP6.out.mono (by omega), hB6⟩
        case measure => simp [intOf]; omega
      · have hlt' : decide ((j : Int) < (zs.length : Int)) = false := by simp; omega
        obtain ⟨ks, hks⟩ : ∃ ks, ks = uses [] (zs.take j) := ⟨_, rfl⟩
        rw [← hks] at hP
        have hj2 : 2 * j ≤ 120 := by omega
        have hnd := hP.fst.nodup
        have hkl : ks.length ≤ 120 := by have := hP.fst.le; omega
        clear hks hzs
        go_wp2_with fail
        refine (B.keys_l _ _ _ _ _ hP.fst (by omega)).mono ?_
        rintro e w4 ⟨v, rfl, hrow, _, hb4⟩
        obtain ⟨a1, c1, rfl, hr1, hg1⟩ := reads_from hrow
        have hP4 := hP.tight.below hb4
        have hB4 : Below w1.heap.size w1 w4 := hB.trans (hb4.mono hB.size)
        clear hrow hP
        go_wp2_with fail
        refine (use_pair _ _ _ _ _ _ _ k _ hP4 hB4.size ⟨k0, k1⟩ (by omega)).mono ?_
        rintro e w5 ⟨rfl, hP5, hk5⟩
        have hr5 := hr1.kept hk5 (fun g e h => by have := hg1 g e; omega)
        have hB5 := hB4.trans (hk5.below hB4.size (fun i hi => hi.1))
        clear hP4 hk5 hr1 hg1
        obtain ⟨nl, hnl⟩ : ∃ nl, nl = (k :: ks.erase k).length := ⟨_, rfl⟩
        go_wp2_with fail
        refine (B.keys_l _ _ _ _ _ hP5.fst (by omega)).mono ?_
        rintro e w6 ⟨v, rfl, hrow, _, hb6⟩
        rw [← hnl] at hrow
        obtain ⟨a2, c2, rfl, hr2, _⟩ := reads_from hrow
        have hP6 := hP5.below hb6
        have hr6 := hr5.below hb6
        have hB6 : Below w1.heap.size w1 w6 := hB5.trans (hb6.mono hB5.size)
        clear hrow hP5 hr5
        obtain ⟨g2, rfl, hg2, hcell2⟩ := hr2.row (by simp)
        have e0 := hcell2 0 (.int .u8 k) rfl
        have hnl0 : ¬ (nl : Int) = 0 := by rw [hnl]; simp; omega
        have hnl1 : ((nl : Int) == 0) = false := by simpa using hnl0
        have hnl2 : (0 : Int) < (nl : Int) := by omega
        have HNL := Lib.hid hnl
        have hlf := B.len_l _ _ _ _ _ hP6.fst
        rw [← hnl] at hlf
        have HLF := Lib.hid hlf
        have HP6 := Lib.hid hP6
        have HR6 := Lib.hid hr6
        have HR2 := Lib.hid hcell2
        clear hP6 hr6 hcell2 hlf hr2 hnl hb4 hb6 hB hB4 hB5
        go_wp2_with fail
        refine HLF.out.mono ?_
        rintro e w7 ⟨rfl, rfl⟩
        clear HLF
        go_wp2_with fail
        go_loopw [10, 11] (fun s10 s11 wr => ∃ (i q : Nat), s10 = .int .i64 ((q : Int) + 1) ∧ s11 = .int .i64 (i : Nat) ∧ i ≤ ks.length ∧ q = ((ks.take i).filter (fun x => decide (x ≠ k))).length ∧ Below w6.heap.size w6 wr) (fun _ s11 _ => ks.length - (intOf s11).toNat)
        case atStart => exact ⟨0, 0, by simp, rfl, Nat.zero_le _, by simp, Below.refl _ _⟩
        case round =>
          obtain ⟨i, q, rfl, rfl, hi, hq, hB7⟩ := hrel
          clear e0
          have hqi : q ≤ i := by
            rw [hq]
            refine Nat.le_trans (List.length_filter_le _ _) ?_
            rw [List.length_take]; omega
          have hef : ks.erase k = ks.filter (fun x => decide (x ≠ k)) := by
            rw [hnd.erase_eq_filter]
            congr 1
            funext x
            by_cases h : x = k <;> simp [h]
          by_cases hil : i < ks.length
          · obtain ⟨z, hz⟩ : ∃ z, ks[i]? = some z := ⟨_, List.getElem?_eq_getElem hil⟩
            obtain ⟨g1, rfl, hg1, hcell1⟩ := (HR6.out.below hB7).row (by simp; omega)
            have d1 := hcell1 i (.int .u8 z) (by simp [hz])
            have hil' : (i : Int) < (ks.length : Int) := by omega
            have hst := filter_step (fun x => decide (x ≠ k)) hz
            have HST := Lib.hid hst
            have HQ := Lib.hid hq
            clear hcell1 hst hq
            by_cases hzk : z = k
            · subst hzk
              go_wp2
              go_roundw
              case rel => exact ⟨i + 1, q, rfl, by simp, by omega, by rw [HST.out, ← HQ.out]; simp, hB7⟩
              case measure => simp [intOf]; omega
            · have hzk1 : (z == k) = false := by simpa using hzk
              have hfg := filter_get (fun x => decide (x ≠ k)) hz (by simp [hzk])
              rw [← HQ.out, ← hef] at hfg
              have hql : q < (ks.erase k).length := (List.getElem?_eq_some_iff.1 hfg).1
              have d2 := (hB7.cell (p := ⟨g2, q + 1, none⟩) hg2).trans (HR2.out (q + 1) (.int .u8 z) (by simp [hfg]))
              have hqn : (q : Int) + 1 < (nl : Int) := by rw [HNL.out]; simp; omega
              have hqd : decide ((nl : Int) ≤ (q : Int) + 1) = false := by simp; omega
              have t1 : ((q : Int) + 1).toNat = q + 1 := by omega
              clear hfg hz
              go_wp2
              go_quiet (fail)
              go_wp2
              go_roundw
              case rel => exact ⟨i + 1, q + 1, by simp, by simp, by omega, by rw [HST.out, ← HQ.out]; simp [hzk], below_drawn hB7 _⟩
              case measure => simp [intOf]; omega
          · have hil' : decide ((i : Int) < (ks.length : Int)) = false := by simp; omega
            have hik : i = ks.length := by omega
            have hqn : (q : Int) + 1 = (nl : Int) := by
              rw [HNL.out, hq, hik, List.take_length, ← hef]; simp
            have hP7 := HP6.out.below hB7
            have hr7 := HR6.out.below hB7
            have hB7' := hB6.trans (hB7.mono hB6.size)
            clear hq hef hik HP6 HR6 HR2 HNL hB7 hB6
            go_wp2_with fail
            refine (B.keys_l _ _ _ _ _ hP7.swap.fst (by omega)).mono ?_
            rintro e w8 ⟨v, rfl, hrow, _, hb8⟩
            obtain ⟨a3, c3, rfl, hr3, _⟩ := reads_from hrow
            have hr8 := hr7.below hb8
            have HR3 := Lib.hid hr3
            have HR8 := Lib.hid hr8
            have HB8 : Hid (Below w1.heap.size w1 w8) := hB7'.trans (hb8.mono hB7'.size)
            clear hrow hr3 hr8 hr7 hP7 hb8 hB7'
            go_wp2_with fail
            go_loopw [13] (fun s13 wr => ∃ (i : Nat), s13 = .int .i64 (i : Nat) ∧ i ≤ ks.length ∧ Below w8.heap.size w8 wr) (fun s13 _ => ks.length - (intOf s13).toNat)
            case atStart => exact ⟨0, rfl, Nat.zero_le _, Below.refl _ _⟩
            case round =>
              obtain ⟨t, rfl, ht, hB9⟩ := hrel
              by_cases htl : t < ks.length
              · obtain ⟨z, hz⟩ : ∃ z, ks[t]? = some z := ⟨_, List.getElem?_eq_getElem htl⟩
                obtain ⟨g1, rfl, hg1, hcell1⟩ := (HR8.out.below hB9).row (by simp; omega)
                obtain ⟨g3, rfl, hg3, hcell3⟩ := (HR3.out.below hB9).row (by simp; omega)
                have d1 := hcell1 t (.int .u8 z) (by simp [hz])
                have d3 := hcell3 t (.int .u8 z) (by simp [hz])
                have htl' : (t : Int) < (ks.length : Int) := by omega
                clear hcell1 hcell3 hz
                go_wp2
                go_quiet (fail)
                go_wp2
                go_roundw
                case rel => exact ⟨t + 1, by simp, by omega, below_drawn hB9 _⟩
                case measure => simp [intOf]; omega
              · have htl' : decide ((t : Int) < (ks.length : Int)) = false := by simp; omega
                go_wp2
                go_ret
                exact ⟨by simp, HB1.out.trans ((HB8.out.trans (hB9.mono HB8.out.size)).mono HB1.out.size)⟩

theorem laidOut : laidOutB Try.prog = true := by kernel_rfl
theorem cells5 : Try.prog.cellsOf 5 = 1 := by kernel_rfl
theorem own2 : ownKnob Try.prog.godebug = none := by kernel_rfl

set_option maxRecDepth 100000 in
theorem two_lifted (os : Os) (started : os.Started) (H : Type) (enc : TypeId × Value → H) :
    ReturnsInHanded {} Try.checked os 7 .any (Rows.lruTwoSpec.pre6 enc Try.prog Try.f7 Rows.lruTwoRow.domain false) (Rows.lruTwoSpec.post enc Try.prog Try.f7 false true false false) := by
  refine returnsInHanded_of_change (C := Try.checked) own2 started (by kernel_rfl) Try.func7
    (ChangeSpec.witness6 (enc := enc) (C := Try.checked) false ⟨#[], #[.slice none 0 0, .int .u8 0], []⟩ 8 (by kernel_rfl) (by kernel_rfl) (by kernel_rfl) (by kernel_rfl)) ?_
  intro W base args ds gs before hval0 hW _ _
  have hval : ∀ (j : Nat) t v, Try.f7.params[j]? = some t → args[j]? = some v → Value.okWide Try.prog W .any base t v := hval0
  have hW' := hW
  obtain ⟨p, q, hA0, hV, rfl, _, _⟩ := hW
  have hA : DataW.TrodAll enc Try.prog W 0 (fun _ => true) true Try.f7.params.toList args.toList ds p := hA0
  rw [Try.params7] at hA hval
  obtain ⟨v0, vs0, d0, ds0, p0, q0, hargs, rfl, rfl, h0, r0⟩ := trodAll_cons hA
  obtain ⟨v1, vs1, d1, ds1, p1, q1, rfl, rfl, rfl, h1, r1⟩ := trodAll_cons r0
  obtain ⟨rfl, rfl, rfl⟩ := trodAll_nil r1
  obtain rfl : args = #[v0, v1] := by cases args; simp_all
  obtain ⟨rfl, rfl⟩ := trodVars_none hV
  obtain ⟨a0, len, cap, rfl⟩ := okWide_slice Try.underlying48 (hval 0 48 v0 rfl rfl)
  obtain ⟨a1, rfl, rfl, rfl, w1⟩ := open_int Try.underlying5 (hval 1 5 v1 rfl rfl) h1
  clear hA0 hval0
  simp only [List.append_nil] at hW'
  have hlt : ∀ x ∈ p0, x.block < W.heap.size := fun x hx => by simpa using hW'.lt x hx
  obtain ⟨zs, rfl, hzs⟩ := ints_of Try.underlying48 Try.underlying5 cells5 h0 hlt
  have n1 := bounds_u8 w1
  refine (two_walk a0 zs cap a1 n1.1 n1.2 W hzs).mono fun e W' ⟨he, bel⟩ => ?_
  subst he
  exact ⟨_, rfl, _, _, _, [], _, [], hW', trodAll_mk1 (shut_bool Try.underlying4 _), (trodAll_cons_mk (Below.trod laidOut (by kernel_rfl) (of_decide_eq_true (by kernel_rfl)) h0 bel hlt) (trodAll_cons_mk (shut_int Try.underlying5 w1) trodAll_mk0)), rfl, bel.frame _, fun h => by cases h⟩

theorem lruTwo_holds : Rows.LruTwoSaid :=
  OpenClaim.holds_of_wide 7 Try.f7 rfl rfl rfl rfl rfl rfl rfl ⟨rfl, rfl, rfl, rfl, rfl⟩ rfl rfl rfl rfl rfl (by kernel_rfl) Try.func7 (by kernel_rfl)
    (of_decide_eq_true (by kernel_rfl)) (by unfold Func.isWrapper; first | (rw [if_pos (by decide +kernel)]; kernel_rfl) | (rw [if_neg (by decide +kernel)]; exact ⟨rfl, rfl⟩))
    (fun os started H enc _ => two_lifted os started H enc)

#print axioms lruTwo_holds

end Go.Proofs.Ythnmnohhhakjbaa

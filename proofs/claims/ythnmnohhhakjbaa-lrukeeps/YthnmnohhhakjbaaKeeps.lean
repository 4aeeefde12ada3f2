/-
  LruKeeps: dropping the last one that isn't kept, again and again, leaves just those that are kept, in order. No condition.
-/
import Derived.Test.YthnmnohhhakjbaaAlive
import Derived.Test.YthnmnohhhakjbaaClo
import Derived.Deep.RegionHeld3
import Derived.Deep.RegionWith
import Derived.Deep.RegionLaw
import Derived.Deep.DeepCutAuto
namespace Go.Proofs.Ythnmnohhhakjbaa
open Go.ChangeShapes Go.WideShapes Go.ChangeAt Go.RowKit Go.Maps

/-- A list, and a slice of another block. -/
def Beside (lo b : Nat) (w : World) (ks : List Int) (N : Nat) (a : Option Addr) (xs : List Value) : Prop :=
  ∃ l : B.Lst, l.b = b ∧ l.At w ks N ∧ (∀ i, l.foot i → lo ≤ i) ∧ Reads w a xs ∧ ∀ g, a = some ⟨g, 0, none⟩ → g < w.heap.size ∧ ¬ l.foot g

theorem Beside.isL {lo b : Nat} {w : World} {ks : List Int} {N : Nat} {a : Option Addr} {xs : List Value} (h : Beside lo b w ks N a xs) : B.IsL lo b w ks N := by
  obtain ⟨l, h1, h2, h3, _⟩ := h
  exact ⟨l, h1, h2, h3⟩
theorem Beside.reads {lo b : Nat} {w : World} {ks : List Int} {N : Nat} {a : Option Addr} {xs : List Value} (h : Beside lo b w ks N a xs) : Reads w a xs := by
  obtain ⟨l, _, _, _, h4, _⟩ := h
  exact h4
theorem Beside.below {lo b : Nat} {w w' : World} {ks : List Int} {N : Nat} {a : Option Addr} {xs : List Value} (h : Beside lo b w ks N a xs) (hb : Below w.heap.size w w') : Beside lo b w' ks N a xs := by
  obtain ⟨l, h1, h2, h3, h4, h5⟩ := h
  exact ⟨l, h1, h2.kept (KeptBut.of_below hb (fun _ => False)) (fun _ _ e => e), h3, h4.below hb, fun g e => ⟨Nat.lt_of_lt_of_le (h5 g e).1 hb.size, (h5 g e).2⟩⟩
theorem drop_beside (lo b : Nat) (ks : List Int) (N : Nat) (a : Option Addr) (xs : List Value) (k : Int) (w : World) (h : Beside lo b w ks N a xs) (hB : lo ≤ w.heap.size) (hk : B.kok k) :
    Calls Try.prog 36 #[.pointer (some ⟨b, 0, none⟩), .int .u8 k] w fun e w' => e = .returned (.bool (decide (k ∈ ks))) ∧ Beside lo b w' (ks.erase k) N a xs ∧ Below lo w w' := by
  obtain ⟨l, rfl, h2, h3, h4, h5⟩ := h
  refine (B.drop_any l w ks N k h2 hk).mono ?_
  rintro e w' ⟨rfl, l', e1, e2, e3, e4⟩
  refine ⟨rfl, ⟨l', e1, e2, fun i hi => ?_, h4.kept e3 (fun g e => (h5 g e).2), fun g e => ⟨Nat.lt_of_lt_of_le (h5 g e).1 e3.size, fun hg => ?_⟩⟩, e3.below hB h3⟩
  · rcases e4 i hi with e | e
    · exact h3 i e
    · omega
  · rcases e4 g hg with e' | e'
    · exact (h5 g e).2 e'
    · have := (h5 g e).1
      omega
theorem beside_keys {lo b : Nat} {w w' : World} {ks : List Int} {N : Nat} {v : Value} (h : B.IsL lo b w ks N) (hrow : w'.ownsRow w.heap.size 5 1 v ks.length (ks.map (Value.int .u8))) (hb : Below w.heap.size w w') :
    ∃ a c, v = .slice a ks.length c ∧ Beside lo b w' ks N a (ks.map (Value.int .u8)) := by
  obtain ⟨l, h1, h2, h3⟩ := h
  obtain ⟨a, c, rfl, hr, hg⟩ := reads_from hrow
  refine ⟨a, c, rfl, l, h1, h2.kept (KeptBut.of_below hb (fun _ => False)) (fun _ _ e => e), h3, hr, fun g e => ⟨?_, fun hf => ?_⟩⟩
  · subst e
    exact (hrow.lt g rfl).2
  · have := hg g e
    have := h2.lt g hf
    omega

theorem isL_heap {lo b : Nat} {w w' : World} {ks : List Int} {N : Nat} (h : B.IsL lo b w ks N) (e : w'.heap = w.heap) : B.IsL lo b w' ks N := by
  obtain ⟨l, h1, h2, h3⟩ := h
  obtain ⟨b', rest⟩ := l
  refine ⟨⟨b', rest⟩, h1, ?_, h3⟩
  cases rest with
  | none => exact ⟨by rw [e]; exact h2.1, h2.2⟩
  | some r =>
    obtain ⟨m, g, cap⟩ := r
    obtain ⟨P, sp, M, ix, fr, hc, ⟨D, c, k1, ⟨es, clock, hb, k2⟩, k3⟩, hi, hpl, hok⟩ := h2
    exact ⟨P, sp, M, ix, fr, hc.alike e, ⟨D, c, k1, ⟨es, clock, by rw [e]; exact hb, k2⟩, k3⟩, hi, hpl, hok⟩

theorem few : ∀ (n : Nat) (l : List Int), l.Nodup → (∀ x ∈ l, 0 ≤ x ∧ x < n) → l.length ≤ n
  | 0, l, _, h => by
    cases l with
    | nil => simp
    | cons x r => have := h x (by simp); omega
  | n + 1, l, hn, h => by
    have := few n (l.erase (n : Int)) (hn.erase _) (fun x hx => by
      have h1 := h x (List.mem_of_mem_erase hx)
      have h2 : x ≠ n := by rintro rfl; exact hn.not_mem_erase hx
      omega)
    have hle : l.length ≤ (l.erase (n : Int)).length + 1 := by
      by_cases hm : (n : Int) ∈ l
      · rw [List.length_erase_of_mem hm]; omega
      · rw [List.erase_of_not_mem hm]; omega
    omega

theorem filter_erase (p : Int → Bool) {k : Int} (hk : p k = false) : ∀ l : List Int, (l.erase k).filter p = l.filter p
  | [] => rfl
  | x :: r => by
    by_cases e : x = k
    · subst e
      simp [hk]
    · have e2 : (x == k) = false := by simpa using e
      rw [List.erase_cons, e2]
      simp only [Bool.false_eq_true, if_false, List.filter_cons, filter_erase p hk r]

theorem filter_all {p : Int → Bool} {l : List Int} (h : ∀ x ∈ l, p x = true) : l.filter p = l := List.filter_eq_self.2 h

theorem prefix_get {l m : List Int} (h : l <+: m.reverse) {j : Nat} (hj : j < l.length) : ∃ z, l[j]? = some z ∧ m[m.length - 1 - j]? = some z ∧ j < m.length := by
  obtain ⟨t, ht⟩ := h
  have hlen : l.length ≤ m.length := by have := congrArg List.length ht; simp at this; omega
  obtain ⟨z, hz⟩ : ∃ z, l[j]? = some z := ⟨_, List.getElem?_eq_getElem hj⟩
  refine ⟨z, hz, ?_, by omega⟩
  have : m.reverse[j]? = some z := by rw [← ht, List.getElem?_append_left hj]; exact hz
  rwa [List.getElem?_reverse (by omega)] at this

set_option maxRecDepth 20000 in
set_option maxHeartbeats 4000000 in
theorem keeps_walk (a : Option Addr) (zs : List Int) (cap : Nat) (bits : Int) (q0 : 0 ≤ bits) (q1 : bits ≤ 65535) (w : World) (hzs : Ints .u8 w w.heap.size a zs) :
    Calls Try.prog 6 #[.slice a zs.length cap, .int .u16 bits] w fun e w' => e = .returned (.bool true) ∧ Below w.heap.size w w' := by
  have hlen := hzs.len
  obtain ⟨w0, hw0⟩ : ∃ w0, w0 = w.alloc (.cells #[.int .u16 bits] 49) := ⟨_, rfl⟩
  have hb0 : w0.heap[w.heap.size]? = some (.cells #[.int .u16 bits] 49 (0, 0)) := by rw [hw0]; exact heap_alloc_new w _
  have hB0 : Below w.heap.size w w0 := by rw [hw0]; exact (Below.refl _ _).alloc (Nat.le_refl _) _
  have HW0 := Lib.hid hw0
  have HB0 := Lib.hid hB0
  have HBB := Lib.hid hb0
  clear hw0 hB0 hb0
  by_cases hbig : 60 < zs.length
  · go_enter Try.func6, Try.ntmps6
    go_wp2_with fail
    rw [← HW0.out]
    refine (alive_any _).mono ?_
    rintro e w1 ⟨rfl, b1⟩
    have HB1 := Lib.hid b1
    clear b1
    go_wp2_with fail
    go_ret
    exact ⟨rfl, HB0.out.trans (HB1.out.mono HB0.out.size)⟩
  · have hbig' : zs.length ≤ 60 := by omega
    have hd : decide (60 < (zs.length : Int)) = false := by simp; omega
    clear hbig hlen
    go_enter Try.func6, Try.ntmps6
    go_wp2_with fail
    rw [← HW0.out]
    refine (alive_any _).mono ?_
    rintro e w1 ⟨rfl, b1⟩
    have HB1 : Hid (Below w.heap.size w w1) := HB0.out.trans (b1.mono HB0.out.size)
    have HBB1 : Hid (w1.heap[w.heap.size]? = some (.cells #[.int .u16 bits] 49 (0, 0))) := (b1.block _ (Array.getElem?_eq_some_iff.1 HBB.out).1).trans HBB.out
    have hbw1 : w.heap.size < w1.heap.size := (Array.getElem?_eq_some_iff.1 HBB1.out).1
    clear b1 HBB HB0 HW0
    go_wp2_with fail
    refine (B.new_l _).mono ?_
    rintro e w2 ⟨rfl, x2, b2⟩
    clear hd
    go_wp2_with fail
    go_loopw [6] (fun s6 wr => ∃ (j : Nat) (ks : List Int), s6 = .int .i64 (j : Nat) ∧ j ≤ zs.length ∧ B.IsL w1.heap.size w1.heap.size wr ks j ∧ (∀ x ∈ ks, 0 ≤ x ∧ x < 16) ∧ Below w1.heap.size w1 wr) (fun s6 _ => zs.length - (intOf s6).toNat)
    case atStart => exact ⟨0, [], rfl, Nat.zero_le _, x2, by simp, b2⟩
    case round =>
      clear x2 b2
      obtain ⟨j, ks, rfl, hj, hx, hks, hB⟩ := hrel
      by_cases hlt : j < zs.length
      · obtain ⟨z, hz⟩ : ∃ z, zs[j]? = some z := ⟨_, List.getElem?_eq_getElem hlt⟩
        obtain ⟨b, off, rfl, hbl, hc⟩ := hzs.cell j z hz
        have hwz := bounds_u8 (hzs.wf j z hz)
        have hbl1 : b < w1.heap.size := Nat.lt_of_lt_of_le hbl HB1.out.size
        have hcr := (hB.cell (p := ⟨b, off + j, none⟩) hbl1).trans ((HB1.out.cell (p := ⟨b, off + j, none⟩) hbl).trans hc)
        have hlt' : (j : Int) < (zs.length : Int) := by omega
        clear hz hc
        go_wp2_with fail
        refine (B.use_l _ _ _ _ (z % 16) _ hx hB.size ⟨by omega, by omega⟩ (by omega)).mono ?_
        rintro e w5 ⟨rfl, hx5, hb5⟩
        have HX5 := Lib.hid hx5
        have HKS : Hid (∀ x ∈ (z % 16) :: ks.erase (z % 16), 0 ≤ x ∧ x < 16) := by
          intro x hx
          simp only [List.mem_cons] at hx
          rcases hx with rfl | hx
          · omega
          · exact hks x (List.mem_of_mem_erase hx)
        clear hx5 hx hks
        go_wp2
        go_roundw
        case rel => exact ⟨j + 1, _, by simp, by omega, HX5.out, HKS.out, hB.trans hb5⟩
        case measure => simp [intOf]; omega
      · have hlt' : decide ((j : Int) < (zs.length : Int)) = false := by simp; omega
        have hn0 := hx.nodup
        have hl0 := few 16 ks hn0 hks
        have hx0 := hx.mono (N' := 60) (by omega)
        clear hx
        go_wp2_with fail
        refine (B.keys_l _ _ _ _ _ hx0 (by omega)).mono ?_
        rintro e w4 ⟨v, rfl, hrow, _, hb4⟩
        obtain ⟨a1, c1, rfl, hbe⟩ := beside_keys hx0 hrow hb4
        have hB4 : Below w1.heap.size w1 w4 := hB.trans (hb4.mono hB.size)
        clear hrow hx0 hb4 hB
        obtain ⟨ks0, rfl⟩ : ∃ ks0, ks0 = ks := ⟨_, rfl⟩
        have hks0 : ∀ x ∈ ks0, 0 ≤ x ∧ x ≤ 255 := fun x hx => by have := hks x hx; omega
        have HKS0 := Lib.hid hks0
        clear hks hks0
        go_wp2_with fail
        go_loopw [8] (fun s8 wr => ∃ (i : Nat) (ls : List Int), s8 = .int .i64 (i : Nat) ∧ ls.length + i = ks0.length ∧ ls.filter (bit bits) = ks0.filter (bit bits) ∧ Beside w1.heap.size w1.heap.size wr ls 60 a1 (ks0.map (Value.int .u8)) ∧ Below w1.heap.size w1 wr) (fun s8 _ => 20 - (intOf s8).toNat)
        case atStart => exact ⟨0, ks0, rfl, rfl, rfl, hbe, hB4⟩
        case round =>
          clear hbe hB4
          obtain ⟨i, ls, rfl, hil, hfil, hbe, hB⟩ := hrel
          obtain ⟨wo, rfl⟩ : ∃ wo, wo = wr := ⟨_, rfl⟩
          have hi20 : (i : Int) < 20 := by omega
          go_upto_region 15 with fail
          obtain ⟨wx, hwx⟩ : ∃ wx, wx = (wo.alloc (.cells #[] 5)).alloc (.cells #[.slice (some ⟨wo.heap.size, 0, none⟩) 0 0] 48) := ⟨_, rfl⟩
          rw [← hwx]
          have hbx : Below wo.heap.size wo wx := by rw [hwx]; exact ((Below.refl _ _).alloc (Nat.le_refl _) _).alloc (by simp) _
          have hsx : wx.heap.size = wo.heap.size + 2 := by rw [hwx]; simp
          have hnote : Noted (wo.heap.size + 1) w.heap.size wo.heap.size wx.heap.size bits [] wx := by
            refine ⟨.slice (some ⟨wo.heap.size, 0, none⟩) 0 0, ?_, ?_, ?_, by omega, ?_⟩
            · rw [hwx]
              have := World.alloc_heap_new (wo.alloc (.cells #[] 5)) (.cells #[.slice (some ⟨wo.heap.size, 0, none⟩) 0 0] 48)
              rwa [World.size_alloc] at this
            · exact (hbx.block _ (Nat.lt_of_lt_of_le hbw1 hB.size)).trans ((hB.block _ hbw1).trans HBB1.out)
            · rw [hwx]
              exact (World.ownsRow_lit wo #[] 0 (Nat.le_refl _) (by unfold maxLen; omega) rfl).alloc _
            · intro g hg
              simp only [Value.ownBlock, Option.some.injEq] at hg
              omega
          have hll : ls.length ≤ 16 := by omega
          have hmf : ∀ (fn : Fn) (first cap : Array Value) (w : World), (Instr.makeFunc fn first cap).run Try.prog w = .ok (.func fn first cap) w := fun _ _ _ _ => rfl
          have hlb := B.lastbut_any 35 (enters_of Try.func35 (by kernel_rfl) rfl) #[.pointer (some ⟨wo.heap.size + 1, 0, none⟩), .pointer (some ⟨w.heap.size, 0, none⟩)] (some ⟨w1.heap.size, 0, none⟩) ls wo.heap.size wx hbx.size ((hbe.isL.seen (by omega)).below hbx) hbe.isL.ok (bit bits)
            (Noted (wo.heap.size + 1) w.heap.size wo.heap.size wx.heap.size bits) (Noted.own _ _ _ _ _) (Noted.set _ _ _ _ _ (by omega) (by have := hB.size; omega)) hnote
            (fun pre x W hx hJ hpl hW => clo_any x bits hx.1 hx.2 q0 q1 (wo.heap.size + 1) w.heap.size wo.heap.size wx.heap.size wo.heap.size pre W hJ (by omega) (by omega) (by omega) (Nat.le_refl _) hW (by omega))
          have HLB := Lib.hid hlb
          have HSX := Lib.hid hsx
          clear hlb hwx hnote hsx
          go_wp2_with fail
          refine HLB.out.mono ?_
          rintro e w5 ⟨asked, r, ok, rfl, htold, hnoted, hb5⟩
          have hbo5 : Below wo.heap.size wo w5 := hbx.trans hb5
          have hbe5 := hbe.below hbo5
          have hB5 := hB.trans (hbo5.mono hB.size)
          clear HLB hbx hb5 hbe
          have hasl : asked <+: ls.reverse := by
            rcases htold with ⟨_, pre, _, hp, _⟩ | ⟨_, _, rfl, _⟩
            · exact hp
            · exact List.prefix_rfl
          have HT := Lib.hid htold
          clear htold
          go_wp2_with fail
          refine (B.keys_l _ _ _ _ _ hbe5.isL (by omega)).mono ?_
          rintro e w6 ⟨v, rfl, hrow, _, hb6⟩
          obtain ⟨a4, c4, rfl, hr4⟩ := reads_of hrow
          obtain ⟨v, hA5, hbb5, hrow5, _, _⟩ := hnoted
          have hAl : wo.heap.size + 1 < w5.heap.size := (Array.getElem?_eq_some_iff.1 hA5).1
          have hA6 := (hb6.block _ hAl).trans hA5
          have hrow6 := ownsRow_kept hrow5 (KeptBut.of_below hb6 (fun _ => False)) (fun _ _ e => e)
          obtain ⟨a3, c3, rfl, hr3⟩ := reads_of hrow6
          have hbe6 := hbe5.below hb6
          have hB6 := hB5.trans (hb6.mono hB5.size)
          have hbb6 := (hb6.block _ (Array.getElem?_eq_some_iff.1 hbb5).1).trans hbb5
          have HA6 := Lib.hid hA6
          have HBB6 := Lib.hid hbb6
          have HBE := Lib.hid hbe6
          have HR3 := Lib.hid hr3
          have HR4 := Lib.hid hr4
          clear hrow hA5 hbb5 hrow5 hA6 hbb6 hbe6 hr3 hr4 hbe5 hb6 hB5 hbo5 hrow6 hB
          have cA := (B.cell_of_block HA6.out).1
          go_wp2_with fail
          go_loopw [13] (fun s13 wr => ∃ (t : Nat), s13 = .int .i64 (t : Nat) ∧ t ≤ asked.length ∧ Below w6.heap.size w6 wr) (fun s13 _ => asked.length - (intOf s13).toNat)
          case atStart => exact ⟨0, rfl, Nat.zero_le _, Below.refl _ _⟩
          case round =>
            obtain ⟨t, rfl, ht, hB7⟩ := hrel
            clear cA
            have hA7 := (hB7.block _ (Array.getElem?_eq_some_iff.1 HA6.out).1).trans HA6.out
            have cA := (B.cell_of_block hA7).1
            clear hA7
            have hal : asked.length ≤ 16 := by have := hasl.length_le; simp at this; omega
            by_cases htl : t < asked.length
            · obtain ⟨z, hz1, hz2, hz3⟩ := prefix_get hasl htl
              obtain ⟨g3, rfl, _, hcell3⟩ := (HR3.out.below hB7).row (by simp; omega)
              obtain ⟨g4, rfl, _, hcell4⟩ := (HR4.out.below hB7).row (by simp; omega)
              have d3 := hcell3 t (.int .u8 z) (by simp [hz1])
              have d4 := hcell4 (ls.length - 1 - t) (.int .u8 z) (by simp [hz2])
              have htl' : (t : Int) < (asked.length : Int) := by omega
              have i1 : (ls.length : Int) - 1 - (t : Int) < (ls.length : Int) := by omega
              have i2 : 0 ≤ (ls.length : Int) - 1 - (t : Int) := by omega
              have t1 : ((ls.length : Int) - 1 - (t : Int)).toNat = ls.length - 1 - t := by omega
              clear hcell3 hcell4 hz1 hz2
              go_wp2
              go_quiet (fail)
              go_wp2
              go_roundw
              case rel => exact ⟨t + 1, by simp, by omega, below_drawn hB7 _⟩
              case measure => simp [intOf]; omega
            · have htl' : decide ((t : Int) < (asked.length : Int)) = false := by simp; omega
              obtain ⟨w7, rfl⟩ : ∃ w7, w7 = wr := ⟨_, rfl⟩
              have hbe7 := HBE.out.below hB7
              have hbb7 := (hB7.block _ (Array.getElem?_eq_some_iff.1 HBB6.out).1).trans HBB6.out
              have hB07 := hB6.trans (hB7.mono hB6.size)
              have cb := (B.cell_of_block hbb7).1
              have HBB7 := Lib.hid hbb7
              clear HBE HBB6 HA6 HR3 HR4 hB7 hB6 hbb7
              rcases HT.out with ⟨rfl, pre, hpre, _, _, hdr⟩ | ⟨rfl, rfl, hae, hall⟩
              · have hrm : r ∈ ls := by
                  have : r ∈ ls.reverse := hasl.subset (by rw [hpre]; simp)
                  simpa using this
                have hrk : B.kok r := hbe7.isL.ok r hrm
                obtain ⟨rk0, rk1⟩ := hrk
                have hdr' : ((bits / 2 ^ min r.toNat 16).tmod 2 == 1) = false := hdr
                have HFE : Hid ((ls.erase r).filter (bit bits) = ks0.filter (bit bits)) := by rw [← hfil]; exact filter_erase _ hdr ls
                have HLE : Hid ((ls.erase r).length + (i + 1) = ks0.length) := by
                  show (ls.erase r).length + (i + 1) = ks0.length
                  rw [List.length_erase_of_mem hrm]
                  have := List.length_pos_of_mem hrm
                  omega
                clear hdr HT hpre hasl
                go_wp2_with fail
                refine (drop_beside _ _ _ _ _ _ r _ hbe7 hB07.size ⟨rk0, rk1⟩).mono ?_
                rintro e w8 ⟨rfl, hbe8, hb8⟩
                rw [decide_eq_true hrm]
                have HBE8 := Lib.hid hbe8
                clear hbe8 hbe7
                go_wp2
                go_roundw
                case rel => exact ⟨i + 1, ls.erase r, by simp, HLE.out, HFE.out, HBE8.out, hB07.trans hb8⟩
                case measure => simp [intOf]; omega
              · have hfl : ls = ks0.filter (bit bits) := by rw [← hfil, filter_all hall]
                have HFL := Lib.hid hfl
                clear HT hasl hall hfil hal hae hfl
                go_wp2_with fail
                go_loopw [14, 15] (fun s14 s15 wr => ∃ (m q : Nat), s14 = .int .i64 (q : Nat) ∧ s15 = .int .i64 (m : Nat) ∧ m ≤ ks0.length ∧ q = ((ks0.take m).filter (bit bits)).length ∧ Below w7.heap.size w7 wr) (fun _ s15 _ => ks0.length - (intOf s15).toNat)
                case atStart => exact ⟨0, 0, rfl, rfl, Nat.zero_le _, rfl, Below.refl _ _⟩
                case round =>
                  obtain ⟨m, q, rfl, rfl, hm, hq, hB9⟩ := hrel
                  clear cb
                  have cb := (B.cell_of_block ((hB9.block _ (Array.getElem?_eq_some_iff.1 HBB7.out).1).trans HBB7.out)).1
                  have hbe9 := hbe7.below hB9
                  by_cases hml : m < ks0.length
                  · obtain ⟨z, hz⟩ : ∃ z, ks0[m]? = some z := ⟨_, List.getElem?_eq_getElem hml⟩
                    obtain ⟨g1, rfl, hg1, hcell1⟩ := hbe9.reads.row (by simp; omega)
                    have d1 := hcell1 m (.int .u8 z) (by simp [hz])
                    obtain ⟨z0, z1⟩ := HKS0.out z (List.mem_of_getElem? hz)
                    have hml' : (m : Int) < (ks0.length : Int) := by omega
                    have hst := filter_step (bit bits) hz
                    have HST := Lib.hid hst
                    have HQ := Lib.hid hq
                    clear hcell1 hst hq
                    by_cases hbz : bit bits z = true
                    · have hbz' : ((bits / 2 ^ min z.toNat 16).tmod 2 == 1) = true := hbz
                      have hfg := filter_get (bit bits) hz hbz
                      rw [← HQ.out, ← HFL.out] at hfg
                      clear hz
                      go_wp2
                      go_quiet (fail)
                      obtain ⟨wd, hwd⟩ : ∃ wd, wd = wr.drewN nq := ⟨_, rfl⟩
                      rw [← hwd]
                      have hBd : Below w7.heap.size w7 wd := by rw [hwd]; exact below_drawn hB9 _
                      have d1d : wd.cell? ⟨g1, m, none⟩ = some (.int .u8 z) := by rw [hwd]; exact d1
                      have hg1d : g1 < wd.heap.size := by rw [hwd]; exact hg1
                      have hld := (hbe7.below hBd).isL
                      have HLD := Lib.hid hld
                      have hql : q < ls.length := (List.getElem?_eq_some_iff.1 hfg).1
                      have hqd : decide ((ls.length : Int) ≤ (q : Int)) = false := by simp; omega
                      have hqd2 : (q : Int) < (ls.length : Int) := by omega
                      have hqd3 : decide (ls.length ≤ q) = false := by simp; omega
                      have HFG := Lib.hid hfg
                      clear hwd hld hbe9 d1 hB9 cb hg1 hfg
                      go_upto_region 30 with fail
                      go_cut [111] (fun s111 wx => s111 = .bool false ∧ Below wd.heap.size wd wx)
                      case first =>
                        go_region_law (first
                            | (go_simp; go_at_call 37; refine (B.len_l w1.heap.size w1.heap.size ls 60 _ (by exact isL_heap HLD.out rfl)).mono ?_; rintro e w3 ⟨rfl, rfl⟩)
                            | (go_simp; go_at_call 33; refine (B.keys_l w1.heap.size w1.heap.size ls 60 _ (by exact isL_heap HLD.out rfl) (by omega)).mono ?_; rintro e w3 ⟨v, rfl, hrow3, _, hb3'⟩; (have hb3 : Below wd.heap.size wd w3 := ⟨hb3'.os, hb3'.tape, hb3'.output, hb3'.size, hb3'.block⟩); obtain ⟨a5, c5, rfl, hr5⟩ := reads_of hrow3; obtain ⟨g5, rfl, _, hcell5⟩ := hr5.row (by simp; omega); (have s5 := hcell5 q (.int .u8 z) (by simp [HFG.out])); (have s1 := (hb3.cell (p := ⟨g1, m, none⟩) hg1d).trans d1d); clear hrow3 hb3' hr5 hcell5))
                        all_goals go_wp2_with fail
                        all_goals go_meet
                        all_goals exact ⟨rfl, hb3⟩
                      case rest =>
                        obtain ⟨rfl, hbx⟩ := hcut
                        have HB9 : Hid (Below w7.heap.size w7 wc) := hBd.trans (hbx.mono hBd.size)
                        clear hbx hBd d1d
                        go_wp2
                        go_roundw
                        case rel => exact ⟨m + 1, q + 1, by simp, by simp, by omega, by rw [HST.out, ← HQ.out]; simp [hbz], HB9.out⟩
                        case measure => simp [intOf]; omega
                    · have hbz' : ((bits / 2 ^ min z.toNat 16).tmod 2 == 1) = false := by simpa [bit] using hbz
                      clear hz
                      go_wp2
                      go_quiet (fail)
                      go_wp2
                      go_roundw
                      case rel => exact ⟨m + 1, q, rfl, by simp, by omega, by rw [HST.out, ← HQ.out]; simp [hbz], below_drawn hB9 _⟩
                      case measure => simp [intOf]; omega
                  · have hml' : decide ((m : Int) < (ks0.length : Int)) = false := by simp; omega
                    have hqe : q = ls.length := by
                      have hme : m = ks0.length := by omega
                      rw [hq, hme, List.take_length, ← HFL.out]
                    clear hq
                    go_wp2_with fail
                    refine (B.len_l _ _ _ _ _ hbe9.isL).mono ?_
                    rintro e w10 ⟨rfl, rfl⟩
                    have HB9 : Hid (Below w1.heap.size w1 wr) := hB07.trans (hB9.mono hB07.size)
                    clear hbe9 hbe7 hB9 hB07
                    go_wp2
                    go_ret
                    exact ⟨by simp, HB1.out.trans (HB9.out.mono HB1.out.size)⟩

theorem laidOutK : laidOutB Try.prog = true := by kernel_rfl
theorem cells5K : Try.prog.cellsOf 5 = 1 := by kernel_rfl
theorem ownK : ownKnob Try.prog.godebug = none := by kernel_rfl

set_option maxRecDepth 100000 in
theorem keeps_lifted (os : Os) (started : os.Started) (H : Type) (enc : TypeId × Value → H) :
    ReturnsInHanded {} Try.checked os 6 .any (Rows.lruKeepsSpec.pre6 enc Try.prog Try.f6 Rows.lruKeepsRow.domain false) (Rows.lruKeepsSpec.post enc Try.prog Try.f6 false true false false) := by
  refine returnsInHanded_of_change (C := Try.checked) ownK started (by kernel_rfl) Try.func6
    (ChangeSpec.witness6 (enc := enc) (C := Try.checked) false ⟨#[], #[.slice none 0 0, .int .u16 0], []⟩ 8 (by kernel_rfl) (by kernel_rfl) (by kernel_rfl) (by kernel_rfl)) ?_
  intro W base args ds gs before hval0 hW _ _
  have hval : ∀ (j : Nat) t v, Try.f6.params[j]? = some t → args[j]? = some v → Value.okWide Try.prog W .any base t v := hval0
  have hW' := hW
  obtain ⟨p, q, hA0, hV, rfl, _, _⟩ := hW
  have hA : DataW.TrodAll enc Try.prog W 0 (fun _ => true) true Try.f6.params.toList args.toList ds p := hA0
  rw [Try.params6] at hA hval
  obtain ⟨v0, vs0, d0, ds0, p0, q0, hargs, rfl, rfl, h0, r0⟩ := trodAll_cons hA
  obtain ⟨v1, vs1, d1, ds1, p1, q1, rfl, rfl, rfl, h1, r1⟩ := trodAll_cons r0
  obtain ⟨rfl, rfl, rfl⟩ := trodAll_nil r1
  obtain rfl : args = #[v0, v1] := by cases args; simp_all
  obtain ⟨rfl, rfl⟩ := trodVars_none hV
  obtain ⟨a0, len, cap, rfl⟩ := okWide_slice Try.underlying48 (hval 0 48 v0 rfl rfl)
  obtain ⟨a1, rfl, rfl, rfl, w1⟩ := open_int Try.underlying49 (hval 1 49 v1 rfl rfl) h1
  clear hA0 hval0
  simp only [List.append_nil] at hW'
  have hlt : ∀ x ∈ p0, x.block < W.heap.size := fun x hx => by simpa using hW'.lt x hx
  obtain ⟨zs, rfl, hzs⟩ := ints_of Try.underlying48 Try.underlying5 cells5K h0 hlt
  have n1 := bounds_u16 w1
  refine (keeps_walk a0 zs cap a1 n1.1 n1.2 W hzs).mono fun e W' ⟨he, bel⟩ => ?_
  subst he
  exact ⟨_, rfl, _, _, _, [], _, [], hW', trodAll_mk1 (shut_bool Try.underlying4 _), (trodAll_cons_mk (Below.trod laidOutK (by kernel_rfl) (of_decide_eq_true (by kernel_rfl)) h0 bel hlt) (trodAll_cons_mk (shut_int Try.underlying49 w1) trodAll_mk0)), rfl, bel.frame _, fun h => by cases h⟩

theorem lruKeeps_holds : Rows.LruKeepsSaid :=
  OpenClaim.holds_of_wide 6 Try.f6 rfl rfl rfl rfl rfl rfl rfl ⟨rfl, rfl, rfl, rfl, rfl⟩ rfl rfl rfl rfl rfl (by kernel_rfl) Try.func6 (by kernel_rfl)
    (of_decide_eq_true (by kernel_rfl)) (by unfold Func.isWrapper; first | (rw [if_pos (by decide +kernel)]; kernel_rfl) | (rw [if_neg (by decide +kernel)]; exact ⟨rfl, rfl⟩))
    (fun os started H enc _ => keeps_lifted os started H enc)

#print axioms lruKeeps_holds

end Go.Proofs.Ythnmnohhhakjbaa

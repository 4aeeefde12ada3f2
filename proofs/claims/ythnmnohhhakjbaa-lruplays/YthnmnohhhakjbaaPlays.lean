/-
  LruPlays: a list behind any uses and drops, held against the document's own. No condition.
-/
import Derived.Test.YthnmnohhhakjbaaAlive
import Derived.Test.YthnmnohhhakjbaaRef
import Derived.Deep.RegionHeld3
import Derived.Deep.RegionWith
import Derived.Deep.DeepCutAuto
namespace Go.Proofs.Ythnmnohhhakjbaa
open Go.ChangeShapes Go.WideShapes Go.ChangeAt Go.RowKit Go.Maps

/-- A list, and a slice of another block that holds the same keys. -/
def Along (lo b : Nat) (w : World) (ks : List Int) (N : Nat) (a : Option Addr) : Prop :=
  ∃ l : I.Lst, l.b = b ∧ l.At w ks N ∧ (∀ i, l.foot i → lo ≤ i) ∧ Reads w a (ks.map (Value.int .i64)) ∧ ∀ g, a = some ⟨g, 0, none⟩ → g < w.heap.size ∧ ¬ l.foot g

theorem Along.isL {lo b : Nat} {w : World} {ks : List Int} {N : Nat} {a : Option Addr} (h : Along lo b w ks N a) : I.IsL lo b w ks N := by
  obtain ⟨l, h1, h2, h3, _⟩ := h
  exact ⟨l, h1, h2, h3⟩
theorem Along.ri {lo b : Nat} {w : World} {ks : List Int} {N : Nat} {a : Option Addr} (h : Along lo b w ks N a) : RI w a ks := by
  obtain ⟨l, _, _, _, h4, _⟩ := h
  exact RI.of_reads h4
theorem Along.reads {lo b : Nat} {w : World} {ks : List Int} {N : Nat} {a : Option Addr} (h : Along lo b w ks N a) : Reads w a (ks.map (Value.int .i64)) := by
  obtain ⟨l, _, _, _, h4, _⟩ := h
  exact h4
theorem Along.below {lo b : Nat} {w w' : World} {ks : List Int} {N : Nat} {a : Option Addr} (h : Along lo b w ks N a) (hb : Below w.heap.size w w') : Along lo b w' ks N a := by
  obtain ⟨l, h1, h2, h3, h4, h5⟩ := h
  exact ⟨l, h1, h2.kept (KeptBut.of_below hb (fun _ => False)) (fun _ _ e => e), h3, h4.below hb, fun g e => ⟨Nat.lt_of_lt_of_le (h5 g e).1 hb.size, (h5 g e).2⟩⟩

theorem Along.mono {lo b : Nat} {w : World} {ks : List Int} {N N' : Nat} {a : Option Addr} (h : Along lo b w ks N a) (hN : N ≤ N') : Along lo b w ks N' a := by
  obtain ⟨l, h1, h2, h3, h4, h5⟩ := h
  exact ⟨l, h1, h2.mono hN, h3, h4, h5⟩

/-- The list has turned, and the slice is still as it was. -/
def Ahead (lo b : Nat) (w : World) (ks ms : List Int) (N : Nat) (a : Option Addr) : Prop :=
  ∃ l : I.Lst, l.b = b ∧ l.At w ks N ∧ (∀ i, l.foot i → lo ≤ i) ∧ RI w a ms

theorem Ahead.isL {lo b : Nat} {w : World} {ks ms : List Int} {N : Nat} {a : Option Addr} (h : Ahead lo b w ks ms N a) : I.IsL lo b w ks N := by
  obtain ⟨l, h1, h2, h3, _⟩ := h
  exact ⟨l, h1, h2, h3⟩
theorem Ahead.ri {lo b : Nat} {w : World} {ks ms : List Int} {N : Nat} {a : Option Addr} (h : Ahead lo b w ks ms N a) : RI w a ms := by
  obtain ⟨l, _, _, _, h4⟩ := h
  exact h4
theorem Ahead.below {lo b : Nat} {w w' : World} {ks ms : List Int} {N : Nat} {a : Option Addr} (h : Ahead lo b w ks ms N a) (hb : Below w.heap.size w w') : Ahead lo b w' ks ms N a := by
  obtain ⟨l, h1, h2, h3, h4⟩ := h
  exact ⟨l, h1, h2.kept (KeptBut.of_below hb (fun _ => False)) (fun _ _ e => e), h3, h4.below hb⟩

theorem use_along (lo b : Nat) (ks : List Int) (N : Nat) (a : Option Addr) (k : Int) (w : World) (h : Along lo b w ks N a) (hB : lo ≤ w.heap.size) (hk : I.kok k) (hN : N < 900) :
    Calls Try.prog 10 #[.pointer (some ⟨b, 0, none⟩), .int .i64 k] w fun e w' => e = .returned (.tuple #[]) ∧ Ahead lo b w' (k :: ks.erase k) ks (N + 1) a ∧ Below lo w w' := by
  obtain ⟨l, rfl, h2, h3, h4, h5⟩ := h
  refine (I.use_any l w ks N k h2 hk hN).mono ?_
  rintro e w' ⟨rfl, l', e1, e2, e3, e4⟩
  refine ⟨rfl, ⟨l', e1, e2, fun i hi => ?_, RI.of_reads (h4.kept e3 (fun g e => (h5 g e).2))⟩, e3.below hB h3⟩
  rcases e4 i hi with e | e
  · exact h3 i e
  · omega
theorem drop_along (lo b : Nat) (ks : List Int) (N : Nat) (a : Option Addr) (k : Int) (w : World) (h : Along lo b w ks N a) (hB : lo ≤ w.heap.size) (hk : I.kok k) :
    Calls Try.prog 12 #[.pointer (some ⟨b, 0, none⟩), .int .i64 k] w fun e w' => e = .returned (.bool (decide (k ∈ ks))) ∧ Ahead lo b w' (ks.erase k) ks N a ∧ Below lo w w' := by
  obtain ⟨l, rfl, h2, h3, h4, h5⟩ := h
  refine (I.drop_any l w ks N k h2 hk).mono ?_
  rintro e w' ⟨rfl, l', e1, e2, e3, e4⟩
  refine ⟨rfl, ⟨l', e1, e2, fun i hi => ?_, RI.of_reads (h4.kept e3 (fun g e => (h5 g e).2))⟩, e3.below hB h3⟩
  rcases e4 i hi with e | e
  · exact h3 i e
  · omega

/-- A new slice that holds the list's keys. -/
theorem along_row {lo b : Nat} {w w' : World} {ks ls : List Int} {N : Nat} {v : Value} (h : I.IsL lo b w ks N) (hrow : w'.ownsRow w.heap.size 3 1 v ls.length (ls.map (Value.int .i64))) (hb : Below w.heap.size w w') (he : ls = ks) :
    ∃ a c, v = .slice a ks.length c ∧ Along lo b w' ks N a := by
  subst he
  obtain ⟨l, h1, h2, h3⟩ := h
  obtain ⟨a, c, rfl, hr, hg⟩ := reads_from hrow
  refine ⟨a, c, rfl, l, h1, h2.kept (KeptBut.of_below hb (fun _ => False)) (fun _ _ e => e), h3, hr, fun g e => ⟨?_, fun hf => ?_⟩⟩
  · subst e
    exact (hrow.lt g rfl).2
  · have := hg g e
    have := h2.lt g hf
    omega

theorem erase_not {ks : List Int} (h : ks.Nodup) (k : Int) : ks.filter (not k) = ks.erase k := by
  rw [h.erase_eq_filter]
  congr 1
  funext x
  by_cases e : x = k <;> simp [not, e]

set_option maxHeartbeats 2000000 in
theorem same_any (a1 a2 : Option Addr) (zs : List Int) (c1 c2 : Nat) (w : World) (h1 : RI w a1 zs) (h2 : RI w a2 zs) (hl : zs.length ≤ 300) :
    Calls Try.prog 15 #[.slice a1 zs.length c1, .slice a2 zs.length c2] w fun e w' => e = .returned (.bool true) ∧ Below w.heap.size w w' := by
  have HR1 := Lib.hid h1
  have HR2 := Lib.hid h2
  clear h1 h2
  go_enter Try.func15, Try.ntmps15
  go_wp2_with fail
  go_loopw [5] (fun s5 wr => ∃ (i : Nat), s5 = .int .i64 (i : Nat) ∧ i ≤ zs.length ∧ Below w.heap.size w wr) (fun s5 _ => zs.length - (intOf s5).toNat)
  case atStart => exact ⟨0, rfl, Nat.zero_le _, Below.refl _ _⟩
  case round =>
    obtain ⟨i, rfl, hi, hB⟩ := hrel
    by_cases hil : i < zs.length
    · obtain ⟨z, hz⟩ : ∃ z, zs[i]? = some z := ⟨_, List.getElem?_eq_getElem hil⟩
      obtain ⟨b1, o1, rfl, hb1, hc1⟩ := HR1.out i z hz
      obtain ⟨b2, o2, rfl, hb2, hc2⟩ := HR2.out i z hz
      have d1 := (hB.cell (p := ⟨b1, o1 + i, none⟩) hb1).trans hc1
      have d2 := (hB.cell (p := ⟨b2, o2 + i, none⟩) hb2).trans hc2
      have hil' : (i : Int) < (zs.length : Int) := by omega
      clear hz hc1 hc2
      go_wp2
      go_quiet (fail)
      go_wp2
      go_roundw
      case rel => exact ⟨i + 1, by simp, by omega, below_drawn hB _⟩
      case measure => simp [intOf]; omega
    · have hil' : decide ((i : Int) < (zs.length : Int)) = false := by simp; omega
      go_wp2
      go_ret
      exact ⟨rfl, hB⟩

theorem Drawn.below {w w' : World} (h : Drawn w w') (n : Nat) : Below n w w' := ⟨h.os, h.tape, h.output, by rw [h.heap]; exact Nat.le_refl _, fun i _ => by rw [h.heap]⟩
theorem lt_of_cell {w : World} {a : Addr} {v : Value} (h : w.cell? a = some v) : a.block < w.heap.size := by
  unfold World.cell? at h
  rcases hb : w.heap[a.block]? with _ | o
  · rw [hb] at h
    simp at h
  · exact (Array.getElem?_eq_some_iff.1 hb).1

theorem told_first {ks : List Int} {dec : Int → Bool} {asked : List Int} {r : Int} {ok : Bool} (h : I.Told ks dec asked r ok) {t : Nat} {z : Int} (hz : ks[t]? = some z) (hall : ∀ v y, t < v → ks[v]? = some y → dec y = true) (hd : dec z = false) : ok = true ∧ r = z := by
  have ht : t < ks.length := (List.getElem?_eq_some_iff.1 hz).1
  rcases h with ⟨rfl, pre, rfl, hp, hpre, hr⟩ | ⟨_, _, _, hk⟩
  · refine ⟨rfl, ?_⟩
    obtain ⟨rest, hrest⟩ := hp
    have hlen : pre.length + 1 ≤ ks.length := by have := congrArg List.length hrest; simp at this; omega
    have e1 : ks[ks.length - 1 - pre.length]? = some r := by
      have : ks.reverse[pre.length]? = some r := by rw [← hrest]; simp
      rwa [List.getElem?_reverse (by omega)] at this
    rcases Nat.lt_trichotomy (ks.length - 1 - pre.length) t with h1 | h1 | h1
    · have e2 : ks.reverse[ks.length - 1 - t]? = some z := by
        rw [List.getElem?_reverse (by omega)]
        rw [show ks.length - 1 - (ks.length - 1 - t) = t by omega]
        exact hz
      have e3 : pre[ks.length - 1 - t]? = some z := by
        rw [← hrest, List.append_assoc, List.getElem?_append_left (by omega)] at e2
        exact e2
      have := hpre z (List.mem_of_getElem? e3)
      rw [hd] at this
      cases this
    · rw [h1, hz] at e1
      exact (Option.some.inj e1).symm
    · have := hall _ r h1 e1
      rw [hr] at this
      cases this
  · have := hk z (List.mem_of_getElem? hz)
    rw [hd] at this
    cases this

theorem told_none {ks : List Int} {dec : Int → Bool} {asked : List Int} {r : Int} {ok : Bool} (h : I.Told ks dec asked r ok) (hall : ∀ y ∈ ks, dec y = true) : ok = false ∧ r = 0 := by
  rcases h with ⟨rfl, pre, rfl, hp, hpre, hr⟩ | ⟨h1, h2, _, _⟩
  · obtain ⟨rest, hrest⟩ := hp
    have : r ∈ ks := by
      have : r ∈ ks.reverse := by rw [← hrest]; simp
      simpa using this
    have := hall r this
    rw [hr] at this
    cases this
  · exact ⟨h1, h2⟩

/-- The kept numbers, where the function that LruPlays hands over finds them. -/
def Kept (kb s : Nat) (ak : Option Addr) (ck : Nat) (kp : List Int) (W : World) : Prop :=
  W.heap[kb]? = some (.cells #[.slice ak kp.length ck] 22 (0, 0)) ∧ ∀ (i : Nat) (z : Int), kp[i]? = some z → ∃ b off, ak = some ⟨b, off, none⟩ ∧ b < s ∧ W.cell? ⟨b, off + i, none⟩ = some (.int .i64 z)

theorem Kept.own {β : Type} (kb s : Nat) (ak : Option Addr) (ck : Nat) (kp : List Int) : Own (fun (_ : β) W => Kept kb s ak ck kp W) := by
  intro _ W W' row h hg hr
  refine ⟨I.block_kept h.1 hg hr, fun i z hz => ?_⟩
  obtain ⟨b, off, h1, h2, h3⟩ := h.2 i z hz
  exact ⟨b, off, h1, h2, cell_kept h3 hg hr⟩
theorem Kept.set {kb s : Nat} {ak : Option Addr} {ck : Nat} {kp : List Int} (hk : kb < s) : ∀ W i u, (i = s + 1 ∨ i = s + 2) → Kept kb s ak ck kp W → Kept kb s ak ck kp (W.setCell ⟨i, 0, none⟩ u) := by
  intro W i u hi h
  refine ⟨?_, fun j z hz => ?_⟩
  · rw [heap_setCell_other W ⟨i, 0, none⟩ kb u (by show kb ≠ i; omega)]; exact h.1
  · obtain ⟨b, off, h1, h2, h3⟩ := h.2 j z hz
    exact ⟨b, off, h1, h2, by rw [I.cell_other W u (by intro e; have e2 := congrArg Addr.block e; simp only at e2; omega)]; exact h3⟩
theorem Kept.below {kb s : Nat} {ak : Option Addr} {ck : Nat} {kp : List Int} {W W' : World} (h : Kept kb s ak ck kp W) (hs : s ≤ W.heap.size) (hb : Below W.heap.size W W') : Kept kb s ak ck kp W' := by
  refine ⟨(hb.block kb (Array.getElem?_eq_some_iff.1 h.1).1).trans h.1, fun j z hz => ?_⟩
  obtain ⟨b, off, h1, h2, h3⟩ := h.2 j z hz
  exact ⟨b, off, h1, h2, (hb.cell (p := ⟨b, off + j, none⟩) (Nat.lt_of_lt_of_le h2 hs)).trans h3⟩
theorem Kept.ri {kb s : Nat} {ak : Option Addr} {ck : Nat} {kp : List Int} {W : World} (h : Kept kb s ak ck kp W) (hs : s ≤ W.heap.size) : RI W ak kp := by
  intro j z hz
  obtain ⟨b, off, h1, h2, h3⟩ := h.2 j z hz
  exact ⟨b, off, h1, Nat.lt_of_lt_of_le h2 hs, h3⟩

set_option maxHeartbeats 1000000 in
theorem playClo_any (x : Int) (kb s : Nat) (ak : Option Addr) (ck : Nat) (kp : List Int) (W : World) (h : Kept kb s ak ck kp W) (hs : s ≤ W.heap.size) (hl : kp.length ≤ 300) :
    Calls Try.prog 21 #[.int .i64 x, .pointer (some ⟨kb, 0, none⟩)] W fun e W' => e = .returned (.bool (decide (x ∈ kp))) ∧ Below W.heap.size W W' := by
  have cb := (I.cell_of_block h.1).1
  have hh := refHas_any ak kp ck x W (h.ri hs) hl
  have HH := Lib.hid hh
  clear hh h
  go_enter Try.func21, Try.ntmps21
  go_wp2_with fail
  refine HH.out.mono ?_
  rintro e w1 ⟨rfl, hb⟩
  go_wp2
  go_ret
  exact ⟨rfl, hb⟩

set_option maxRecDepth 20000 in
set_option maxHeartbeats 4000000 in
theorem plays_walk (a : Option Addr) (zs : List Int) (cap : Nat) (ak : Option Addr) (kp : List Int) (ck : Nat) (k : Int) (hk : I.kok k) (w : World) (hzs : Ints .i64 w w.heap.size a zs) (hkp : Ints .i64 w w.heap.size ak kp) :
    Calls Try.prog 3 #[.slice a zs.length cap, .slice ak kp.length ck, .int .i64 k] w fun e w' => e = .returned (.bool true) ∧ Below w.heap.size w w' := by
  have hlen := hzs.len
  have hlen2 := hkp.len
  obtain ⟨w0, hw0⟩ : ∃ w0, w0 = w.alloc (.cells #[.slice ak kp.length ck] 22) := ⟨_, rfl⟩
  have hb0 : w0.heap[w.heap.size]? = some (.cells #[.slice ak kp.length ck] 22 (0, 0)) := by rw [hw0]; exact heap_alloc_new w _
  have hB0 : Below w.heap.size w w0 := by rw [hw0]; exact (Below.refl _ _).alloc (Nat.le_refl _) _
  have HW0 := Lib.hid hw0
  have HB0 := Lib.hid hB0
  have HBB := Lib.hid hb0
  clear hw0 hB0 hb0
  by_cases hbig : 100 < zs.length
  · go_enter Try.func3, Try.ntmps3
    go_wp2_with fail
    rw [← HW0.out]
    refine (alive_any _).mono ?_
    rintro e w1 ⟨rfl, b1⟩
    have HB1 := Lib.hid b1
    clear b1
    go_wp2_with fail
    go_ret
    exact ⟨rfl, HB0.out.trans (HB1.out.mono HB0.out.size)⟩
  by_cases hbig2 : 100 < kp.length
  · have hd : decide (100 < (zs.length : Int)) = false := by simp; omega
    have hd2 : (100 : Int) < (kp.length : Int) := by omega
    go_enter Try.func3, Try.ntmps3
    go_wp2_with fail
    rw [← HW0.out]
    refine (alive_any _).mono ?_
    rintro e w1 ⟨rfl, b1⟩
    have cb := (I.cell_of_block ((b1.block _ (Array.getElem?_eq_some_iff.1 HBB.out).1).trans HBB.out)).1
    have HB1 := Lib.hid b1
    clear b1
    go_wp2_with fail
    go_ret
    exact ⟨rfl, HB0.out.trans (HB1.out.mono HB0.out.size)⟩
  · have hl1 : zs.length ≤ 100 := by omega
    have hl2 : kp.length ≤ 100 := by omega
    have hd : decide (100 < (zs.length : Int)) = false := by simp; omega
    have hd2 : decide (100 < (kp.length : Int)) = false := by simp; omega
    clear hlen hlen2
    go_enter Try.func3, Try.ntmps3
    go_wp2_with fail
    rw [← HW0.out]
    refine (alive_any _).mono ?_
    rintro e w1 ⟨rfl, b1⟩
    have HB1 : Hid (Below w.heap.size w w1) := HB0.out.trans (b1.mono HB0.out.size)
    have HBB1 : Hid (w1.heap[w.heap.size]? = some (.cells #[.slice ak kp.length ck] 22 (0, 0))) := (b1.block _ (Array.getElem?_eq_some_iff.1 HBB.out).1).trans HBB.out
    have hbw1 : w.heap.size < w1.heap.size := (Array.getElem?_eq_some_iff.1 HBB1.out).1
    have cb := (I.cell_of_block HBB1.out).1
    clear b1 HBB HB0 HW0
    go_wp2_with fail
    refine (I.new_any _).mono ?_
    rintro e w2 ⟨rfl, hw2⟩
    have hal0 : Along w1.heap.size w1.heap.size w2 [] 0 none := by
      rw [hw2]
      refine ⟨⟨w1.heap.size, none⟩, rfl, I.At_new w1 0, fun i hi => Nat.le_of_eq (I.Lst.foot_none.1 hi).symm, ⟨fun h => by simp at h⟩, fun g e => by cases e⟩
    have b2 : Below w1.heap.size w1 w2 := by rw [hw2]; exact (Below.refl _ _).alloc (Nat.le_refl _) _
    clear hw2 hd hd2 cb hbig hbig2
    go_wp2_with fail
    go_loopw [8, 9] (fun s8 s9 wr => ∃ (j : Nat) (ks : List Int) (am : Option Addr) (cm : Nat), s8 = .slice am ks.length cm ∧ s9 = .int .i64 (j : Nat) ∧ j ≤ zs.length ∧ Along w1.heap.size w1.heap.size wr ks j am ∧ Below w1.heap.size w1 wr) (fun _ s9 _ => zs.length - (intOf s9).toNat)
    case atStart => exact ⟨0, [], none, 0, rfl, rfl, Nat.zero_le _, hal0, b2⟩
    case round =>
      clear hal0 b2
      obtain ⟨j, ks, am, cm, rfl, rfl, hj, hal, hB⟩ := hrel
      have hkl := hal.isL.le
      have hnd := hal.isL.nodup
      by_cases hlt : j < zs.length
      · obtain ⟨z, hz⟩ : ∃ z, zs[j]? = some z := ⟨_, List.getElem?_eq_getElem hlt⟩
        obtain ⟨b, off, rfl, hbl, hc⟩ := hzs.cell j z hz
        obtain ⟨z0, z1⟩ := bounds_i64 (hzs.wf j z hz)
        have hbl1 : b < w1.heap.size := Nat.lt_of_lt_of_le hbl HB1.out.size
        have hc1 := (HB1.out.cell (p := ⟨b, off + j, none⟩) hbl).trans hc
        have hcr := (hB.cell (p := ⟨b, off + j, none⟩) hbl1).trans hc1
        have hlt' : (j : Int) < (zs.length : Int) := by omega
        clear hz hc
        by_cases hz0 : 0 ≤ z
        · go_wp2_with fail
          refine (use_along _ _ _ _ _ z _ hal hB.size ⟨z0, z1⟩ (by omega)).mono ?_
          rintro e w5 ⟨rfl, hah, hb5⟩
          have hB5 := hB.trans hb5
          have hcr5 := (hB5.cell (p := ⟨b, off + j, none⟩) hbl1).trans hc1
          clear hcr hal hb5
          go_wp2_with fail
          refine (refUse_any am ks cm z _ hah.ri (by omega)).mono ?_
          rintro e w6 ⟨v, rfl, hrow, hb6⟩
          obtain ⟨a6, c6, rfl, hal6⟩ := along_row hah.isL hrow hb6 (by rw [erase_not hnd])
          have hB6 := hB5.trans (hb6.mono hB5.size)
          clear hcr5 hah hrow hb6
          have hi6 := hal6.isL
          have hlz : (z :: ks.erase z).length ≤ 101 := by have := hi6.le; omega
          obtain ⟨ls, hls⟩ : ∃ ls, ls = z :: ks.erase z := ⟨_, rfl⟩
          rw [← hls] at hal6 hi6 hlz
          rw [← hls]
          have HLS := Lib.hid hls
          clear hls
          go_wp2_with fail
          refine (I.keys_l _ _ _ _ _ hi6 (by omega)).mono ?_
          rintro e w7 ⟨v, rfl, hrow7, hi7, hb7⟩
          obtain ⟨a7, c7, rfl, hr7⟩ := reads_of hrow7
          have hal7 := hal6.below hb7
          have hB7 := hB6.trans (hb7.mono hB6.size)
          clear hrow7 hal6 hi6 hb7
          go_wp2_with fail
          refine (same_any a7 a6 ls c7 c6 _ (RI.of_reads hr7) hal7.ri (by omega)).mono ?_
          rintro e w8 ⟨rfl, hb8⟩
          have hal8 := hal7.below hb8
          have hB8 := hB7.trans (hb8.mono hB7.size)
          clear hr7 hal7 hi7 hb8
          go_wp2_with fail
          refine (I.len_l _ _ _ _ _ hal8.isL).mono ?_
          rintro e w9 ⟨rfl, rfl⟩
          go_wp2_with fail
          refine (I.has_l _ _ _ _ k _ hal8.isL hk).mono ?_
          rintro e w10 ⟨rfl, rfl⟩
          go_wp2_with fail
          refine (refHas_any a6 ls c6 k _ hal8.ri (by omega)).mono ?_
          rintro e w11 ⟨rfl, hb11⟩
          have HAL := Lib.hid (hal8.below hb11)
          have HB11 : Hid (Below w1.heap.size w1 w11) := hB8.trans (hb11.mono hB8.size)
          obtain ⟨hk2, hhk⟩ : ∃ hk2, hk2 = decide (k ∈ ls) := ⟨_, rfl⟩
          rw [← hhk]
          clear hal8 hb11 hhk hB8 hB7 hB6
          cases hk2 <;>
          · go_wp2
            go_roundw
            case rel => exact ⟨j + 1, ls, a6, c6, rfl, by simp, by omega, HAL.out, HB11.out⟩
            case measure => simp [intOf]; omega
        · obtain ⟨n, hn⟩ : ∃ n, n = -1 - z := ⟨_, rfl⟩
          have hnk : I.kok n := by unfold I.kok; omega
          have hzd : decide (0 ≤ z) = false := by simp; omega
          have hzn : -1 - z = n := hn.symm
          have HZN := Lib.hid hzn
          clear hn hzn
          go_upto_region 14 with fail
          rw [HZN.out]
          go_wp2_with fail
          refine (drop_along _ _ _ _ _ n _ hal hB.size hnk).mono ?_
          rintro e w5 ⟨rfl, hah, hb5⟩
          have hB5 := hB.trans hb5
          clear hcr hal hb5
          go_wp2_with fail
          refine (refHas_any am ks cm n _ hah.ri (by omega)).mono ?_
          rintro e w5a ⟨rfl, hb5a⟩
          have hah2 := hah.below hb5a
          have hB5a := hB5.trans (hb5a.mono hB5.size)
          obtain ⟨hn2, hhn⟩ : ∃ hn2, hn2 = decide (n ∈ ks) := ⟨_, rfl⟩
          rw [← hhn]
          clear hah hb5a hB5 hhn
          have HN2 : Hid ((hn2 != hn2) = false) := by cases hn2 <;> rfl
          have hn3 := HN2.out
          go_wp2_with fail
          refine (without_any am ks cm n _ hah2.ri (by omega)).mono ?_
          rintro e w6 ⟨v, rfl, hrow, hb6⟩
          obtain ⟨a6, c6, rfl, hal6⟩ := along_row hah2.isL hrow hb6 (by rw [erase_not hnd])
          have hB6 := hB5a.trans (hb6.mono hB5a.size)
          clear hah2 hrow hb6 HN2 hn3
          have hi6 := hal6.isL
          have hlz : (ks.erase n).length ≤ 101 := by have := hi6.le; omega
          obtain ⟨ls, hls⟩ : ∃ ls, ls = ks.erase n := ⟨_, rfl⟩
          rw [← hls] at hal6 hi6 hlz
          rw [← hls]
          have HLS := Lib.hid hls
          clear hls
          go_wp2_with fail
          refine (I.keys_l _ _ _ _ _ hi6 (by omega)).mono ?_
          rintro e w7 ⟨v, rfl, hrow7, hi7, hb7⟩
          obtain ⟨a7, c7, rfl, hr7⟩ := reads_of hrow7
          have hal7 := hal6.below hb7
          have hB7 := hB6.trans (hb7.mono hB6.size)
          clear hrow7 hal6 hi6 hb7
          go_wp2_with fail
          refine (same_any a7 a6 ls c7 c6 _ (RI.of_reads hr7) hal7.ri (by omega)).mono ?_
          rintro e w8 ⟨rfl, hb8⟩
          have hal8 := hal7.below hb8
          have hB8 := hB7.trans (hb8.mono hB7.size)
          clear hr7 hal7 hi7 hb8
          go_wp2_with fail
          refine (I.len_l _ _ _ _ _ hal8.isL).mono ?_
          rintro e w9 ⟨rfl, rfl⟩
          go_wp2_with fail
          refine (I.has_l _ _ _ _ k _ hal8.isL hk).mono ?_
          rintro e w10 ⟨rfl, rfl⟩
          go_wp2_with fail
          refine (refHas_any a6 ls c6 k _ hal8.ri (by omega)).mono ?_
          rintro e w11 ⟨rfl, hb11⟩
          have HAL := Lib.hid ((hal8.below hb11).mono (N' := j + 1) (by omega))
          have HB11 : Hid (Below w1.heap.size w1 w11) := hB8.trans (hb11.mono hB8.size)
          obtain ⟨hk2, hhk⟩ : ∃ hk2, hk2 = decide (k ∈ ls) := ⟨_, rfl⟩
          rw [← hhk]
          clear hal8 hb11 hhk hB8 hB7 hB6
          cases hk2 <;>
          · go_wp2
            go_roundw
            case rel => exact ⟨j + 1, ls, a6, c6, rfl, by simp, by omega, HAL.out, HB11.out⟩
            case measure => simp [intOf]; omega
      · have hlt' : decide ((j : Int) < (zs.length : Int)) = false := by simp; omega
        have hkl2 : ks.length ≤ 100 := by omega
        go_wp2_with fail
        refine (I.last_l _ _ _ _ _ hal.isL (by omega)).mono ?_
        rintro e w5 ⟨lr, lok, rfl, hlast, _, hb5⟩
        have hal5 := hal.below hb5
        have hB5 := hB.trans (hb5.mono hB.size)
        clear hal hb5 hB
        have HKP : Hid (Kept w.heap.size w5.heap.size ak ck kp w5) := by
          refine ⟨(hB5.block _ hbw1).trans HBB1.out, fun i z hz => ?_⟩
          obtain ⟨b, off, h1, h2, h3⟩ := hkp.cell i z hz
          have h2' : b < w1.heap.size := Nat.lt_of_lt_of_le h2 HB1.out.size
          exact ⟨b, off, h1, Nat.lt_of_lt_of_le h2' hB5.size, (hB5.cell (p := ⟨b, off + i, none⟩) h2').trans ((HB1.out.cell (p := ⟨b, off + i, none⟩) h2).trans h3)⟩
        have hlb := I.lastbut_any 21 (enters_of Try.func21 (by kernel_rfl) rfl) #[.pointer (some ⟨w.heap.size, 0, none⟩)] (some ⟨w1.heap.size, 0, none⟩) ks w5.heap.size w5 (Nat.le_refl _) (hal5.isL.seen (by omega)) hal5.isL.ok (fun x => decide (x ∈ kp))
          (fun _ W => Kept w.heap.size w5.heap.size ak ck kp W) (Kept.own _ _ _ _ _) (fun _ W i u hi h => Kept.set (Nat.lt_of_lt_of_le hbw1 hB5.size) W i u hi h) HKP.out
          (fun pre x W _ hJ _ hW => (playClo_any x w.heap.size w5.heap.size ak ck kp W hJ (by omega) (by omega)).mono (by
            rintro e W' ⟨rfl, hb⟩
            exact ⟨rfl, hJ.below (by omega) hb, I.KeepFrame.of_below hb (by omega) hW⟩))
        have hmf : ∀ (fn : Fn) (first cap : Array Value) (w : World), (Instr.makeFunc fn first cap).run Try.prog w = .ok (.func fn first cap) w := fun _ _ _ _ => rfl
        have HLB := Lib.hid hlb
        clear hlb
        have hmid : ∃ cg, Hid (∀ (z : Int), ks.getLast? = some z → am = some ⟨cg, 0, none⟩ ∧ w5.cell? ⟨cg, ks.length - 1, none⟩ = some (.int .i64 z)) := by
          by_cases hke : ks = []
          · exact ⟨0, by intro z hz; rw [hke] at hz; simp at hz⟩
          · have hkz : 0 < ks.length := Nat.pos_of_ne_zero (fun e => hke (List.eq_nil_of_length_eq_zero e))
            obtain ⟨g, hg1, _, hg3⟩ := hal5.reads.row (by simpa using hkz)
            refine ⟨g, fun z hz => ⟨hg1, hg3 (ks.length - 1) (.int .i64 z) ?_⟩⟩
            rw [List.getLast?_eq_getElem?] at hz
            simp [hz]
        obtain ⟨cg, HMID⟩ := hmid
        have HAL5 := Lib.hid hal5
        clear hal5
        rcases hlast with ⟨rfl, hlast⟩ | ⟨rfl, hlast, rfl⟩
        · obtain ⟨rfl, hcm⟩ := HMID.out lr hlast
          have hkp0 : 0 < ks.length := by
            cases ks with
            | nil => simp at hlast
            | cons _ _ => simp
          have hkp1 : (0 : Int) < (ks.length : Int) := by omega
          have i1 : (ks.length : Int) - 1 < (ks.length : Int) := by omega
          have i2 : 0 ≤ (ks.length : Int) - 1 := by omega
          have t1 : ((ks.length : Int) - 1).toNat = ks.length - 1 := by omega
          clear hlast
          go_wp2_with fail
          refine HLB.out.mono ?_
          rintro e w6 ⟨asked, r, ok, rfl, htold, hkept, hb6⟩
          have hal6 := HAL5.out.below hb6
          have hB6 := hB5.trans (hb6.mono hB5.size)
          have hkept6 : Kept w.heap.size w6.heap.size ak ck kp w6 := by
            refine ⟨hkept.1, fun i z hz => ?_⟩
            obtain ⟨b, off, h1, h2, h3⟩ := hkept.2 i z hz
            exact ⟨b, off, h1, Nat.lt_of_lt_of_le h2 hb6.size, h3⟩
          have HT := Lib.hid htold
          have HAL6 := Lib.hid hal6
          have HK6 := Lib.hid hkept6
          clear hb6 hkept hkept6 htold HLB HAL5 HMID HKP hcm hal6
          go_wp2_with fail
          go_loopw [15] (fun s15 wr => ∃ (t : Nat), s15 = .int .i64 ((t : Int) - 1) ∧ t ≤ ks.length ∧ (∀ v y, t ≤ v → ks[v]? = some y → decide (y ∈ kp) = true) ∧ Below w6.heap.size w6 wr) (fun s15 _ => (intOf s15 + 1).toNat)
          case atStart => exact ⟨ks.length, rfl, Nat.le_refl _, fun v y hv hy => by have := (List.getElem?_eq_some_iff.1 hy).1; omega, Below.refl _ _⟩
          case round =>
            obtain ⟨t, rfl, ht, hall, hB7⟩ := hrel
            have hB17 := hB6.trans (hB7.mono hB6.size)
            cases t with
            | zero =>
              obtain ⟨rfl, rfl⟩ := told_none HT.out (fun y hy => by
                obtain ⟨v, hv, rfl⟩ := List.mem_iff_getElem.1 hy
                exact hall v _ (Nat.zero_le _) (List.getElem?_eq_getElem hv))
              clear hall
              go_wp2
              go_ret
              exact ⟨rfl, HB1.out.trans (hB17.mono HB1.out.size)⟩
            | succ t =>
              obtain ⟨z, hz⟩ : ∃ z, ks[t]? = some z := ⟨_, List.getElem?_eq_getElem (by omega)⟩
              obtain ⟨g, e1, _, hg3⟩ := (HAL6.out.below hB7).reads.row (by simpa using hkp0)
              cases e1
              have dz := hg3 t (.int .i64 z) (by simp [hz])
              have hk7 := HK6.out.below (Nat.le_refl _) hB7
              have cb := (I.cell_of_block hk7.1).1
              have hh := refHas_any ak kp ck z
              have hri := hk7.ri hB7.size
              have i3 : ((t + 1 : Nat) : Int) - 1 = (t : Int) := by omega
              have i4 : (t : Int) < (ks.length : Int) := by omega
              rw [i3]
              have HALL := Lib.hid hall
              have HZ := Lib.hid hz
              clear hg3 hk7 hall i3 hh hz
              go_upto_region 26 with fail
              refine region_tail 5 (by kernel_rfl) (by kernel_rfl) ?_
              intro w8 hd8
              have b8 : Below wr.heap.size wr w8 := hd8.below _
              have cb8 := (b8.cell (p := ⟨w.heap.size, 0, none⟩) (by show w.heap.size < wr.heap.size; have := hB17.size; omega)).trans cb
              have hgl : cg < wr.heap.size := lt_of_cell dz
              have dz8 := (b8.cell (p := ⟨cg, t, none⟩) hgl).trans dz
              have DZ := Lib.hid dz
              simp only [List.take_succ_cons, List.take_zero, List.drop_succ_cons, List.drop_zero]
              repeat still_step
              refine wpStill_nil ?_
              clear cb dz
              go_wp2_with fail
              refine (refHas_any ak kp ck z _ (hri.below b8) (by omega)).mono ?_
              rintro e w9 ⟨rfl, b9⟩
              have b89 : Below wr.heap.size wr w9 := b8.trans (b9.mono b8.size)
              have dz9 := (b89.cell (p := ⟨cg, t, none⟩) hgl).trans DZ.out
              have HB9 : Hid (Below w6.heap.size w6 w9) := hB7.trans (b89.mono hB7.size)
              clear cb8 dz8 hri b8 b9 b89 hB7
              by_cases hzk : z ∈ kp
              · rw [decide_eq_true hzk]
                clear dz9
                go_wp2
                go_roundw
                case rel =>
                  refine ⟨t, rfl, by omega, fun v y hv hy => ?_, HB9.out⟩
                  rcases Nat.eq_or_lt_of_le hv with e | e
                  · subst e
                    rw [HZ.out] at hy
                    cases hy
                    exact decide_eq_true hzk
                  · exact HALL.out v y (by omega) hy
                case measure => simp [intOf]
              · rw [decide_eq_false hzk]
                obtain ⟨rfl, rfl⟩ := told_first HT.out HZ.out (fun v y hv hy => HALL.out v y (by omega) hy) (decide_eq_false hzk)
                go_wp2
                go_ret
                refine ⟨by simp, HB1.out.trans ((hB6.trans (HB9.out.mono hB6.size)).mono HB1.out.size)⟩
        · subst hlast
          go_wp2_with fail
          refine HLB.out.mono ?_
          rintro e w6 ⟨asked, r, ok, rfl, htold, hkept, hb6⟩
          obtain ⟨rfl, rfl⟩ := told_none htold (by simp)
          have HB6 : Hid (Below w1.heap.size w1 w6) := hB5.trans (hb6.mono hB5.size)
          clear hb6 hkept htold HLB HAL5 HMID HKP
          go_wp2_with fail
          go_loopw [15] (fun s15 wr => s15 = .int .i64 (-1) ∧ wr = w6) (fun _ _ => 0)
          case atStart => exact ⟨rfl, rfl⟩
          case round =>
            obtain ⟨rfl, rfl⟩ := hrel
            go_wp2
            go_ret
            exact ⟨rfl, HB1.out.trans (HB6.out.mono HB1.out.size)⟩

theorem laidOutP : laidOutB Try.prog = true := by kernel_rfl
theorem cells3 : Try.prog.cellsOf 3 = 1 := by kernel_rfl
theorem ownP : ownKnob Try.prog.godebug = none := by kernel_rfl

set_option maxRecDepth 100000 in
theorem plays_lifted (os : Os) (started : os.Started) (H : Type) (enc : TypeId × Value → H) :
    ReturnsInHanded {} Try.checked os 3 .any (Rows.lruPlaysSpec.pre6 enc Try.prog Try.f3 Rows.lruPlaysRow.domain false) (Rows.lruPlaysSpec.post enc Try.prog Try.f3 false true false false) := by
  refine returnsInHanded_of_change (C := Try.checked) ownP started (by kernel_rfl) Try.func3
    (ChangeSpec.witness6 (enc := enc) (C := Try.checked) false ⟨#[], #[.slice none 0 0, .slice none 0 0, .int .i64 0], []⟩ 8 (by kernel_rfl) (by kernel_rfl) (by kernel_rfl) (by kernel_rfl)) ?_
  intro W base args ds gs before hval0 hW _ _
  have hval : ∀ (j : Nat) t v, Try.f3.params[j]? = some t → args[j]? = some v → Value.okWide Try.prog W .any base t v := hval0
  have hW' := hW
  obtain ⟨p, q, hA0, hV, rfl, _, _⟩ := hW
  have hA : DataW.TrodAll enc Try.prog W 0 (fun _ => true) true Try.f3.params.toList args.toList ds p := hA0
  rw [Try.params3] at hA hval
  obtain ⟨v0, vs0, d0, ds0, p0, q0, hargs, rfl, rfl, h0, r0⟩ := trodAll_cons hA
  obtain ⟨v1, vs1, d1, ds1, p1, q1, rfl, rfl, rfl, h1, r1⟩ := trodAll_cons r0
  obtain ⟨v2, vs2, d2, ds2, p2, q2, rfl, rfl, rfl, h2, r2⟩ := trodAll_cons r1
  obtain ⟨rfl, rfl, rfl⟩ := trodAll_nil r2
  obtain rfl : args = #[v0, v1, v2] := by cases args; simp_all
  obtain ⟨rfl, rfl⟩ := trodVars_none hV
  obtain ⟨a0, len, cap, rfl⟩ := okWide_slice Try.underlying22 (hval 0 22 v0 rfl rfl)
  obtain ⟨a1, len1, cap1, rfl⟩ := okWide_slice Try.underlying22 (hval 1 22 v1 rfl rfl)
  obtain ⟨k, rfl, rfl, rfl, wk⟩ := open_int Try.underlying3 (hval 2 3 v2 rfl rfl) h2
  clear hA0 hval0
  simp only [List.append_nil] at hW'
  have hlt : ∀ x ∈ p0, x.block < W.heap.size := fun x hx => by simpa using hW'.lt x (List.mem_append.2 (.inl hx))
  have hlt1 : ∀ x ∈ p1, x.block < W.heap.size := fun x hx => by simpa using hW'.lt x (List.mem_append.2 (.inr hx))
  obtain ⟨zs, rfl, hzs⟩ := ints_of Try.underlying22 Try.underlying3 cells3 h0 hlt
  obtain ⟨kp, rfl, hkp⟩ := ints_of Try.underlying22 Try.underlying3 cells3 h1 hlt1
  have nk := bounds_i64 wk
  refine (plays_walk a0 zs cap a1 kp cap1 k nk W hzs hkp).mono fun e W' ⟨he, bel⟩ => ?_
  subst he
  exact ⟨_, rfl, _, _, _, [], _, [], hW', trodAll_mk1 (shut_bool Try.underlying4 _), (trodAll_cons_mk (Below.trod laidOutP (by kernel_rfl) (of_decide_eq_true (by kernel_rfl)) h0 bel hlt) (trodAll_cons_mk (Below.trod laidOutP (by kernel_rfl) (of_decide_eq_true (by kernel_rfl)) h1 bel hlt1) (trodAll_cons_mk (shut_int Try.underlying3 wk) trodAll_mk0))), rfl, bel.frame _, fun h => by cases h⟩

theorem lruPlays_holds : Rows.LruPlaysSaid :=
  OpenClaim.holds_of_wide 3 Try.f3 rfl rfl rfl rfl rfl rfl rfl ⟨rfl, rfl, rfl, rfl, rfl⟩ rfl rfl rfl rfl rfl (by kernel_rfl) Try.func3 (by kernel_rfl)
    (of_decide_eq_true (by kernel_rfl)) (by unfold Func.isWrapper; first | (rw [if_pos (by decide +kernel)]; kernel_rfl) | (rw [if_neg (by decide +kernel)]; exact ⟨rfl, rfl⟩))
    (fun os started H enc _ => plays_lifted os started H enc)

#print axioms lruPlays_holds

end Go.Proofs.Ythnmnohhhakjbaa

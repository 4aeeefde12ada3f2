/-
  The walk of the law LedgerPlays.
-/
import Derived.Test.YtgifjakblcfpnaaRef
import Derived.Test.YtgifjakblcfpnaaKeeps
import Derived.Deep.RegionHeld3
import Derived.Deep.RegionWith
import Derived.Deep.DeepCutAuto
namespace Go.Proofs.Ytgifjakblcfpnaa
open Go.RowKit

/-- Block b is the document's ledger. -/
def MAt (w : World) (b : Nat) (B C H : Int) : Prop := w.heap[b]? = some (.cells #[.int .i64 B, .int .i64 C, .int .i64 H] 29 (0, 0))

theorem MAt.lt {w : World} {b : Nat} {B C H : Int} (h : MAt w b B C H) : b < w.heap.size := (Array.getElem?_eq_some_iff.1 h).1
theorem MAt.c0 {w : World} {b : Nat} {B C H : Int} (h : MAt w b B C H) : w.cell? ⟨b, 0, none⟩ = some (.int .i64 B) := by unfold MAt at h; simp [World.cell?, h]
theorem MAt.c1 {w : World} {b : Nat} {B C H : Int} (h : MAt w b B C H) : w.cell? ⟨b, 1, none⟩ = some (.int .i64 C) := by unfold MAt at h; simp [World.cell?, h]
theorem MAt.c2 {w : World} {b : Nat} {B C H : Int} (h : MAt w b B C H) : w.cell? ⟨b, 2, none⟩ = some (.int .i64 H) := by unfold MAt at h; simp [World.cell?, h]
theorem MAt.f {w : World} {b i : Nat} {B C H : Int} (h : MAt w b B C H) : w.frozen? ⟨b, i, none⟩ = false := by unfold MAt at h; simp [World.frozen?, h]
theorem MAt.below {w w' : World} {b N : Nat} {B C H : Int} (h : MAt w b B C H) (k : Below N w w') (hb : b < N) : MAt w' b B C H := (k.block b hb).trans h
theorem MAt.kept {w w' : World} {b x : Nat} {B C H : Int} (h : MAt w b B C H) (k : KeptBut x w w') (hb : b ≠ x) : MAt w' b B C H := (k.block b h.lt hb).trans h

theorem new_kept {W0 w3 : World} {g : Nat} (b3 : Below W0.heap.size W0 w3) (h : MAt W0 g 0 0 0) : MAt w3 g 0 0 0 := h.below b3 h.lt

theorem below_none {w w3 : World} (b3 : Below w.drew.heap.size w.drew w3) : Below w.heap.size w w3 := ⟨b3.os, b3.tape, b3.output, b3.size, b3.block⟩
theorem below_alloc {w w3 : World} {o : Obj} (b3 : Below (w.alloc o).drew.heap.size (w.alloc o).drew w3) : Below w.heap.size w w3 :=
  (((Below.refl _ w).alloc (Nat.le_refl _) o).drew).trans (b3.mono (by simp [World.drew]))

theorem m_set0 {w : World} {b : Nat} {B C H n : Int} (h : MAt w b B C H) : MAt (w.setCell ⟨b, 0, none⟩ (.int .i64 n)) b n C H := by
  unfold MAt at h ⊢
  rw [heap_setCell_same w b 0 _ _ _ h]; rfl
theorem m_set1 {w : World} {b : Nat} {B C H n : Int} (h : MAt w b B C H) : MAt (w.setCell ⟨b, 1, none⟩ (.int .i64 n)) b B n H := by
  unfold MAt at h ⊢
  rw [heap_setCell_same w b 1 _ _ _ h]; rfl
theorem m_set2 {w : World} {b : Nat} {B C H n : Int} (h : MAt w b B C H) : MAt (w.setCell ⟨b, 2, none⟩ (.int .i64 n)) b B C n := by
  unfold MAt at h ⊢
  rw [heap_setCell_same w b 2 _ _ _ h]; rfl
theorem m_set3 {w : World} {b : Nat} {B C H B' C' H' : Int} (h : MAt w b B' C' H') : MAt (((w.setCell ⟨b, 0, none⟩ (.int .i64 B)).setCell ⟨b, 1, none⟩ (.int .i64 C)).setCell ⟨b, 2, none⟩ (.int .i64 H)) b B C H := m_set2 (m_set1 (m_set0 h))
theorem below_set3 {w w' : World} {x y z : Value} (h : Below w.heap.size w w') : Below w.heap.size w (((w'.setCell ⟨w.heap.size, 0, none⟩ x).setCell ⟨w.heap.size, 1, none⟩ y).setCell ⟨w.heap.size, 2, none⟩ z) :=
  ((h.setCell (Nat.le_refl _) _).setCell (Nat.le_refl _) _).setCell (Nat.le_refl _) _
theorem kept_set3 {w : World} {b : Nat} {x y z : Value} : KeptBut b w (((w.setCell ⟨b, 0, none⟩ x).setCell ⟨b, 1, none⟩ y).setCell ⟨b, 2, none⟩ z) :=
  ((KeptBut.set w b 0 x).trans (KeptBut.set _ b 1 y)).trans (KeptBut.set _ b 2 z)

/-- What stands at a round's beginning: the program's ledger in block x, the document's in block m, with the same numbers. -/
structure Both (w wr : World) (x m : Nat) (B C H : Int) : Prop where
  x : LedAt wr x B C H
  m : MAt wr m B C H
  s : Sane B C H
  b : Below w.heap.size w wr

set_option maxRecDepth 20000 in
set_option maxHeartbeats 1000000 in
theorem plays_walk (bu : Int) (a : Option Addr) (xs : List (Int × Int)) (cap : Nat) (nn : Int) (w : World) (has : Acts w w.heap.size a xs) :
    Calls Try.prog 3 #[.int .i64 bu, .slice a xs.length cap, .int .i64 nn] w fun e w' => e = .returned (.bool true) ∧ Below w.heap.size w w' := by
  have hlen := has.len
  by_cases hbig : 100 < xs.length
  · go_enter Try.func3, Try.ntmps3
    go_wp2_with fail
    refine (alive_any _).mono ?_
    rintro e w1 ⟨rfl, b1⟩
    go_wp2_with fail
    go_ret
    exact ⟨rfl, b1⟩
  · have hbig' : xs.length ≤ 100 := by omega
    have hd : decide (100 < (xs.length : Int)) = false := by simp; omega
    clear hbig hlen
    by_cases hb0 : bu < 0
    · have hb : isBudget bu = false := by simp [isBudget]; omega
      go_enter Try.func3, Try.ntmps3
      go_wp2_with fail
      refine (alive_any _).mono ?_
      rintro e w1 ⟨rfl, b1⟩
      go_wp2_with fail
      refine (new_bad _ _ hb).mono ?_
      rintro e w2 ⟨rfl, rfl⟩
      go_wp2_with fail
      go_ret
      exact ⟨rfl, b1⟩
    by_cases hb1 : 1099511627776 < bu
    · have hb : isBudget bu = false := by simp [isBudget]; omega
      have d0 : decide (bu < 0) = false := by simp; omega
      go_enter Try.func3, Try.ntmps3
      go_wp2_with fail
      refine (alive_any _).mono ?_
      rintro e w1 ⟨rfl, b1⟩
      go_wp2_with fail
      refine (new_bad _ _ hb).mono ?_
      rintro e w2 ⟨rfl, rfl⟩
      go_wp2_with fail
      go_ret
      exact ⟨rfl, b1⟩
    have hb : isBudget bu = true := by simp [isBudget]; omega
    have d0 : decide (bu < 0) = false := by simp; omega
    have d1 : decide (1099511627776 < bu) = false := by simp; omega
    clear hb0 hb1
    go_enter Try.func3, Try.ntmps3
    go_wp2_with fail
    refine (alive_any _).mono ?_
    rintro e w1 ⟨rfl, b1⟩
    go_wp2_with fail
    refine (new_good _ _ hb).mono ?_
    rintro e w2 ⟨rfl, h2, b2⟩
    have b02 : Below w.heap.size w w2 := b1.trans (b2.mono b1.size)
    have hS0 := Lib.hid (Sane.new hb)
    have hxm : w1.heap.size < w2.heap.size := h2.lt
    clear b2 hd hb
    go_wp2_with fail
    go_loopw [10] (fun i wr => ∃ (j : Nat) (B C H : Int), j ≤ xs.length ∧ i = .int .i64 j ∧ Both w wr w1.heap.size w2.heap.size B C H) (fun i _ => xs.length - (intOf i).toNat)
    case atStart => exact ⟨0, _, _, _, Nat.zero_le _, rfl, ⟨h2.alloc _, heap_alloc_new _ _, hS0.out, b02.alloc b02.size _⟩⟩
    case round =>
      clear h2
      obtain ⟨j, B, C, H, hj, rfl, hT⟩ := hrel
      by_cases hlt : j < xs.length
      · obtain ⟨⟨k, n⟩, hz⟩ : ∃ z, xs[j]? = some z := ⟨_, List.getElem?_eq_getElem hlt⟩
        obtain ⟨b, off, rfl, hbl, hc0, hc1⟩ := has.cell j k n hz
        have c0 := (hT.b.cell (p := ⟨b, off + j * 2, none⟩) hbl).trans hc0
        have c1 := (hT.b.cell (p := ⟨b, off + j * 2 + 1, none⟩) hbl).trans hc1
        clear hz
        by_cases hk : k < 0
        · go_wp2_with fail
          go_ret
          exact ⟨rfl, hT.b⟩
        · by_cases hk2 : 2 < k
          · have d0 : decide (k < 0) = false := by simp; omega
            go_wp2_with fail
            go_ret
            exact ⟨rfl, hT.b⟩
          · have d0 : decide (k < 0) = false := by simp; omega
            have d1 : decide (2 < k) = false := by simp; omega
            have hm := hT.m
            have m0 := hm.c0
            have m1 := hm.c1
            have m2 := hm.c2
            clear hm
            go_upto_region 14 with fail
            go_cut [11, 12] (fun s11 s12 wx => ∃ g : Nat, s11 = .pointer (some ⟨g, 0, none⟩) ∧ s12 = .int .i64 (doE k B C n) ∧ wr.heap.size ≤ g ∧ MAt wx g (doB k B C n) (doC k B C n) (doH k B C H n) ∧ Below wr.heap.size wr wx)
            case first =>
              have HS := Lib.hid hT.s
              have nb := World.new_ne wr _ c0
              have nm := World.new_ne wr _ m0
              have hbw : b < wr.heap.size := Nat.lt_of_lt_of_le hbl hT.b.size
              have hmw : w2.heap.size < wr.heap.size := hT.m.lt
              go_region_held3 (fun w' => w'.cell? ⟨w2.heap.size, 0, none⟩ = some (.int .i64 B) ∧ w'.cell? ⟨w2.heap.size, 1, none⟩ = some (.int .i64 C) ∧ w'.cell? ⟨w2.heap.size, 2, none⟩ = some (.int .i64 H) ∧ w'.cell? ⟨b, off + j * 2, none⟩ = some (.int .i64 k) ∧ w'.cell? ⟨b, off + j * 2 + 1, none⟩ = some (.int .i64 n)) (go_keep)
                (first | (go_at_call 10; refine (ref_any B C H k n _ HS.out (by omega) (by omega)).mono ?_; rintro e w3 ⟨rfl, b3⟩; (have k3 : Below wr.heap.size wr w3 := (by first | exact below_none b3 | exact below_alloc b3)); (have s0 := (k3.cell (p := ⟨w2.heap.size, 0, none⟩) hmw).trans m0); (have s1 := (k3.cell (p := ⟨w2.heap.size, 1, none⟩) hmw).trans m1); (have s2 := (k3.cell (p := ⟨w2.heap.size, 2, none⟩) hmw).trans m2); (have s3 := (k3.cell (p := ⟨b, off + j * 2, none⟩) hbw).trans c0); (have s4 := (k3.cell (p := ⟨b, off + j * 2 + 1, none⟩) hbw).trans c1); first | (have q := new_kept b3 (g := wr.heap.size) (heap_alloc_new wr _); have q0 := q.c0; have q1 := q.c1; have q2 := q.c2; have f0 := q.f (i := 0); have f1 := q.f (i := 1); have f2 := q.f (i := 2); have Q := Lib.hid q; clear q) | skip))
              all_goals go_wp2_with fail
              all_goals go_meet
              all_goals first
                | exact ⟨wr.heap.size, rfl, rfl, Nat.le_refl _, m_set3 Q.out, below_set3 k3⟩
                | exact ⟨w3.heap.size, rfl, rfl, k3.size, heap_alloc_new _ _, k3.alloc k3.size _⟩
            case rest =>
              obtain ⟨g, rfl, rfl, hg, hmg, hbx⟩ := hcut
              have hbw : b < wr.heap.size := Nat.lt_of_lt_of_le hbl hT.b.size
              have hxx := hT.x.below hbx hT.x.lt
              have hmx := hT.m.below hbx hT.m.lt
              have p0 := hmg.c0
              have p1 := hmg.c1
              have p2 := hmg.c2
              have r0 := hmx.c0
              have r1 := hmx.c1
              have r2 := hmx.c2
              have rf0 := hmx.f (i := 0)
              have rf1 := hmx.f (i := 1)
              have rf2 := hmx.f (i := 2)
              go_upto_region 16 with fail
              obtain ⟨w4, hw4⟩ : ∃ w4, w4 = ((wc.setCell ⟨w2.heap.size, 0, none⟩ (.int .i64 (doB k B C n))).setCell ⟨w2.heap.size, 1, none⟩ (.int .i64 (doC k B C n))).setCell ⟨w2.heap.size, 2, none⟩ (.int .i64 (doH k B C H n)) := ⟨_, rfl⟩
              rw [← hw4]
              have m4 : MAt w4 w2.heap.size (doB k B C n) (doC k B C n) (doH k B C H n) := by rw [hw4]; exact m_set3 hmx
              have k4 : KeptBut w2.heap.size wc w4 := by rw [hw4]; exact kept_set3
              have x4 := hxx.kept k4 (Nat.ne_of_lt hxm)
              have b4 : Below w.heap.size w w4 := (hT.b.trans (hbx.mono hT.b.size)).trans (k4.below (Nat.le_trans hT.b.size hbx.size) b02.size)
              have e0 := (b4.cell (p := ⟨b, off + j * 2, none⟩) hbl).trans hc0
              have e1 := (b4.cell (p := ⟨b, off + j * 2 + 1, none⟩) hbl).trans hc1
              have S4 := Lib.hid (hT.s.act k n)
              clear hw4 p0 p1 p2 r0 r1 r2 rf0 rf1 rf2 c0 c1 m0 m1 m2 hmg hxx hmx hg hbx k4 d0 d1
              have HS := Lib.hid hT.s
              go_wp2_with fail
              refine (do_any _ _ _ _ _ _ _ x4 HS.out).mono ?_
              rintro e w5 ⟨rfl, x5, k5⟩
              have m5 := m4.kept k5 (Nat.ne_of_gt hxm)
              have b5 := b4.trans (k5.below b4.size b1.size)
              clear e0 e1 k5 x4 m4
              generalize doE k B C n = f
              generalize doB k B C n = B', doC k B C n = C', doH k B C H n = H' at x5 m5 S4
              go_wp2_with fail
              refine (numbers_any _ _ _ _ _ x5).mono ?_
              rintro e w6 ⟨rfl, x6, k6⟩
              have m6 := m5.below k6 m5.lt
              have b6 := b5.trans (k6.mono b5.size)
              clear k6 x5 m5
              have q0 := m6.c0
              have q1 := m6.c1
              have q2 := m6.c2
              go_wp2_with fail
              refine (fits_any _ _ _ _ _ _ x6 S4.out).mono ?_
              rintro e w7 ⟨rfl, x7, k7⟩
              have m7 := m6.below k7 m6.lt
              have b7 := b6.trans (k7.mono b6.size)
              have y0 := m7.c0
              have y1 := m7.c1
              clear k7 x6 m6 q0 q1 q2
              obtain ⟨s0, s1, s2, s3, s4⟩ := S4.out
              rcases (show nn < 0 ∨ (0 ≤ nn ∧ nn ≤ B' - C') ∨ (0 ≤ nn ∧ B' - C' < nn) by omega) with g1 | ⟨g1, g2⟩ | ⟨g1, g2⟩
              · rw [decide_eq_false (by omega)]
                have z0 : decide (0 ≤ nn) = false := by simp; omega
                go_wp2_with fail
                go_roundw
                case rel => exact ⟨j + 1, B', C', H', by omega, by go_num, ⟨x7, m7, S4.out, b7⟩⟩
                case measure => simp [intOf]; omega
              · rw [decide_eq_true ⟨g1, g2⟩]
                go_wp2_with fail
                go_roundw
                case rel => exact ⟨j + 1, B', C', H', by omega, by go_num, ⟨x7, m7, S4.out, b7⟩⟩
                case measure => simp [intOf]; omega
              · rw [decide_eq_false (by omega)]
                have z0 : decide (nn ≤ B' - C') = false := by simp; omega
                go_wp2_with fail
                go_roundw
                case rel => exact ⟨j + 1, B', C', H', by omega, by go_num, ⟨x7, m7, S4.out, b7⟩⟩
                case measure => simp [intOf]; omega
      · go_wp2_with fail
        go_ret
        exact ⟨rfl, hT.b⟩

end Go.Proofs.Ytgifjakblcfpnaa

/-
  The walk of the law LedgerKeeps.
-/
import Derived.Test.YtgifjakblcfpnaaDo
import Derived.Test.YtgifjakblcfpnaaHigh
namespace Go.Proofs.Ytgifjakblcfpnaa
open Go.ChangeShapes Go.WideShapes Go.ChangeAt Go.RowKit

/-- What the walk is told of a slice of calls that came in: each lies in its two cells, below block B. -/
structure Acts (w : World) (B : Nat) (a : Option Addr) (xs : List (Int × Int)) : Prop where
  cell : ∀ (i : Nat) (k n : Int), xs[i]? = some (k, n) → ∃ b off, a = some ⟨b, off, none⟩ ∧ b < B ∧ w.cell? ⟨b, off + i * 2, none⟩ = some (.int .i64 k) ∧ w.cell? ⟨b, off + i * 2 + 1, none⟩ = some (.int .i64 n)
  len : xs.length ≤ 9223372036854775807

theorem act_nums {k B C H n : Int} (hs : Sane B C H) : doC k B C n ≤ doB k B C n ∧ 0 ≤ doC k B C n ∧ H ≤ doH k B C H n ∧ doC k B C n ≤ doH k B C H n := by
  have h := hs.act k n
  refine ⟨h.b1, h.b0, ?_, h.h0⟩
  unfold doH
  split
  · unfold chH; split <;> omega
  · exact Int.le_refl _

theorem act_same {k B C H n : Int} (h : doE k B C n ≠ 0) : doB k B C n = B ∧ doC k B C n = C ∧ doH k B C H n = H := by
  unfold doE at h
  unfold doB doC doH
  by_cases k0 : k = 0
  · rw [if_pos k0] at h
    rw [if_pos (.inl k0), if_pos k0, if_pos k0]
    exact ⟨rfl, by simp [chC, h], by simp [chH, h]⟩
  · rw [if_neg k0] at h
    by_cases k1 : k = 1
    · rw [if_pos k1] at h
      rw [if_pos (.inr k1), if_neg k0, if_pos k1, if_neg k0]
      refine ⟨rfl, ?_, rfl⟩
      unfold reE at h
      unfold reC
      split
      · rfl
      · rename_i hh; rw [if_neg hh] at h; exact absurd rfl h
    · rw [if_neg k1] at h
      rw [if_neg (by omega), if_neg k0, if_neg k1, if_neg k0]
      refine ⟨?_, rfl, rfl⟩
      unfold seE at h
      unfold seB
      split
      · rfl
      · rename_i hh
        rw [if_neg hh] at h
        split
        · rfl
        · rename_i h2
          rw [if_neg h2] at h
          exact absurd rfl h

set_option maxRecDepth 20000 in
set_option maxHeartbeats 1000000 in
theorem keeps_walk (bu : Int) (a : Option Addr) (xs : List (Int × Int)) (cap : Nat) (w : World) (bu0 : 0 ≤ bu) (bu1 : bu ≤ 65535) (has : Acts w w.heap.size a xs) :
    Calls Try.prog 4 #[.int .u16 bu, .slice a xs.length cap] w fun e w' => e = .returned (.bool true) ∧ Below w.heap.size w w' := by
  have hlen := has.len
  by_cases hbig : 100 < xs.length
  · go_enter Try.func4, Try.ntmps4
    go_wp2_with fail
    refine (alive_any _).mono ?_
    rintro e w1 ⟨rfl, b1⟩
    go_wp2_with fail
    go_ret
    exact ⟨rfl, b1⟩
  · have hbig' : xs.length ≤ 100 := by omega
    have hd : decide (100 < (xs.length : Int)) = false := by simp; omega
    have hb : isBudget bu = true := by simp [isBudget]; omega
    clear hbig hlen
    go_enter Try.func4, Try.ntmps4
    go_wp2_with fail
    refine (alive_any _).mono ?_
    rintro e w1 ⟨rfl, b1⟩
    go_wp2_with fail
    refine (new_good _ _ hb).mono ?_
    rintro e w2 ⟨rfl, h2, b2⟩
    have b02 : Below w.heap.size w w2 := b1.trans (b2.mono b1.size)
    have hS0 := Lib.hid (Sane.new hb)
    clear b2 hd hb
    go_wp2_with fail
    go_loopw [7] (fun i wr => ∃ (j : Nat) (B C H : Int), j ≤ xs.length ∧ i = .int .i64 j ∧ LedAt wr w1.heap.size B C H ∧ Sane B C H ∧ Below w.heap.size w wr) (fun i _ => xs.length - (intOf i).toNat)
    case atStart => exact ⟨0, _, _, _, Nat.zero_le _, rfl, h2, hS0.out, b02⟩
    case round =>
      clear h2 b02
      obtain ⟨j, B, C, H, hj, rfl, hT, hS, hB⟩ := hrel
      have HS := Lib.hid hS
      clear hS
      by_cases hlt : j < xs.length
      · obtain ⟨⟨k, n⟩, hz⟩ : ∃ z, xs[j]? = some z := ⟨_, List.getElem?_eq_getElem hlt⟩
        obtain ⟨b, off, rfl, hbl, hc0, hc1⟩ := has.cell j k n hz
        have c0 := (hB.cell (p := ⟨b, off + j * 2, none⟩) hbl).trans hc0
        have c1 := (hB.cell (p := ⟨b, off + j * 2 + 1, none⟩) hbl).trans hc1
        clear hz hc0 hc1
        by_cases hk : k < 0
        · go_wp2_with fail
          go_ret
          exact ⟨rfl, hB⟩
        · by_cases hk2 : 2 < k
          · have d0 : decide (k < 0) = false := by simp; omega
            go_wp2_with fail
            go_ret
            exact ⟨rfl, hB⟩
          · have d0 : decide (k < 0) = false := by simp; omega
            have d1 : decide (2 < k) = false := by simp; omega
            clear hk hk2
            go_wp2_with fail
            refine (numbers_any _ _ _ _ _ hT).mono ?_
            rintro e w3 ⟨rfl, h3, k3⟩
            have b3 := hB.trans (k3.mono hB.size)
            have c0' := (k3.cell (p := ⟨b, off + j * 2, none⟩) (Nat.lt_of_lt_of_le hbl hB.size)).trans c0
            have c1' := (k3.cell (p := ⟨b, off + j * 2 + 1, none⟩) (Nat.lt_of_lt_of_le hbl hB.size)).trans c1
            clear c0 c1 k3 d0 d1
            go_wp2_with fail
            refine (do_any _ _ _ _ _ _ _ h3 HS.out).mono ?_
            rintro e w4 ⟨rfl, h4, k4⟩
            have b4 := b3.trans (k4.below b3.size b1.size)
            have S4 := Lib.hid (HS.out.act k n)
            obtain ⟨g1, g2, g3, g4⟩ := act_nums (k := k) (n := n) HS.out
            have hsame : doE k B C n ≠ 0 → doB k B C n = B ∧ doC k B C n = C ∧ doH k B C H n = H := act_same
            generalize doE k B C n = f at hsame ⊢
            generalize doB k B C n = B', doC k B C n = C', doH k B C H n = H' at hsame h4 S4 g1 g2 g3 g4
            clear c0' c1' k4 h3
            go_wp2_with fail
            refine (numbers_any _ _ _ _ _ h4).mono ?_
            rintro e w5 ⟨rfl, h5, k5⟩
            have b5 := b4.trans (k5.mono b4.size)
            have d1 : decide (B' < C') = false := by simp; omega
            have d2 : decide (C' < 0) = false := by simp; omega
            have d3 : decide (H' < H) = false := by simp; omega
            have d4 : decide (H' < C') = false := by simp; omega
            by_cases hf : f = 0
            · subst hf
              clear hsame g1 g2 g3 g4 k5 h4
              go_wp2_with fail
              go_roundw
              case rel => exact ⟨j + 1, B', C', H', by omega, by go_num, h5, S4.out, b5⟩
              case measure => simp [intOf]; omega
            · obtain ⟨rfl, rfl, rfl⟩ := hsame hf
              have d5 : (f == 0) = false := by simp [hf]
              clear hsame g1 g2 g3 g4 k5 h4
              go_wp2_with fail
              go_roundw
              case rel => exact ⟨j + 1, _, _, _, by omega, by go_num, h5, S4.out, b5⟩
              case measure => simp [intOf]; omega
      · go_wp2_with fail
        refine (numbers_nil _).mono ?_
        rintro e w3 ⟨rfl, rfl⟩
        go_wp2_with fail
        refine (charge_nil _ _).mono ?_
        rintro e w3 ⟨rfl, rfl⟩
        go_wp2_with fail
        refine (refund_nil _ _).mono ?_
        rintro e w3 ⟨rfl, rfl⟩
        go_wp2_with fail
        refine (set_nil _ _).mono ?_
        rintro e w3 ⟨rfl, rfl⟩
        go_wp2_with fail
        refine (fits_nil _ _).mono ?_
        rintro e w3 ⟨rfl, rfl⟩
        go_wp2_with fail
        go_ret
        exact ⟨rfl, hB⟩

end Go.Proofs.Ytgifjakblcfpnaa

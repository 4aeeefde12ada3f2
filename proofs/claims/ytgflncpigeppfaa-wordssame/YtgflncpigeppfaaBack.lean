/-
  The walk of the law WordsBack.
-/
import Derived.Test.YtgflncpigeppfaaAlive
import Derived.Test.YtgflncpigeppfaaOrd
namespace Go.Proofs.Ytgflncpigeppfaa
open Go.RowKit Go.Maps

/-- What the walk is told of a slice of texts that came in: its elements are ss, and each lies in its cell, below block B. -/
structure Strs (w : World) (B : Nat) (a : Option Addr) (ss : List ByteArray) : Prop where
  cell : ∀ (i : Nat) (s : ByteArray), ss[i]? = some s → ∃ b off, a = some ⟨b, off, none⟩ ∧ b < B ∧ w.cell? ⟨b, off + i, none⟩ = some (.string s)
  small : ∀ (i : Nat) (s : ByteArray), ss[i]? = some s → s.size ≤ 281474976710656
  len : ss.length ≤ 9223372036854775807

set_option maxHeartbeats 1000000 in
theorem back_walk (a : Option Addr) (ss : List ByteArray) (cap : Nat) (w : World) (hss : Strs w w.heap.size a ss) :
    Calls Try.prog 7 #[.slice a ss.length cap] w fun e w' => e = .returned (.bool true) ∧ Below w.heap.size w w' := by
  have hlen := hss.len
  by_cases hbig : 100 < ss.length
  · go_enter Try.func7, Try.ntmps7
    go_wp2_with fail
    refine (alive_any _).mono ?_
    rintro e w1 ⟨rfl, b1⟩
    go_wp2_with fail
    go_ret
    exact ⟨rfl, b1⟩
  · have hbig' : ss.length ≤ 100 := by omega
    have hd : decide (100 < (ss.length : Int)) = false := by simp; omega
    clear hbig
    go_enter Try.func7, Try.ntmps7
    go_wp2_with fail
    refine (alive_any _).mono ?_
    rintro e w1 ⟨rfl, b1⟩
    go_wp2_with fail
    refine (new_tab _).mono ?_
    rintro e w2 ⟨rfl, h2, b2⟩
    have h2' : IsTab w.heap.size w1.heap.size w2 [] := h2.mono b1.size
    have b02 : Below w.heap.size w w2 := b1.trans (b2.mono b1.size)
    clear h2 b2 hd
    go_wp2_with fail
    go_loopw [4] (fun i wr => ∃ k : Nat, k ≤ ss.length ∧ i = .int .i64 k ∧ IsTab w.heap.size w1.heap.size wr (puts [] (ss.take k)) ∧ Below w.heap.size w wr) (fun i _ => ss.length - (intOf i).toNat)
    case atStart => exact ⟨0, Nat.zero_le _, rfl, h2', b02⟩
    case round =>
      clear h2' b02
      obtain ⟨k, hk, rfl, hT, hB⟩ := hrel
      by_cases hlt : k < ss.length
      · obtain ⟨s, hs⟩ : ∃ s, ss[k]? = some s := ⟨_, List.getElem?_eq_getElem hlt⟩
        obtain ⟨b, off, rfl, hbl, hc⟩ := hss.cell k s hs
        have hc' := (hB.cell (p := ⟨b, off + k, none⟩) hbl).trans hc
        have hsm := hss.small k s hs
        have hpl := puts_length (ss.take k) []
        simp only [List.length_nil, List.length_take] at hpl
        have HP := Lib.hid (puts_take ss k s hs)
        clear hs hc
        go_wp2_with fail
        refine (of_tab _ _ _ _ _ hT hB.size hsm (by omega)).mono ?_
        rintro e w3 ⟨rfl, hT3, hB3⟩
        go_wp2_with fail
        go_roundw
        case rel => exact ⟨k + 1, by omega, by go_num, by rw [HP.out]; exact hT3, hB.trans hB3⟩
        case measure => simp [intOf]; omega
      · have hkl : k = ss.length := by omega
        subst hkl
        rw [List.take_length] at hT
        have hord := ord_puts ss
        have hTl : (puts [] ss).length ≤ 100 := by have := puts_length ss []; simp only [List.length_nil] at this; omega
        generalize puts [] ss = T at hT hord hTl
        go_wp2_with fail
        go_loop [5, 6] (fun at_ n => ∃ j p : Nat, j ≤ T.length ∧ p ≤ ss.length ∧ at_ = .int .i64 p ∧ n = .int .i64 ((j : Int) + 1) ∧ ∀ (i : Nat) (x : ByteArray), i < p → ss[i]? = some x → num T x ≤ j) (fun _ n => T.length + 1 - (intOf n).toNat)
        case atStart => exact ⟨0, 0, Nat.zero_le _, Nat.zero_le _, rfl, rfl, fun i x hi => by omega⟩
        case round =>
          obtain ⟨j, p, hj, hp, rfl, rfl, hJ⟩ := hrel
          have HJ := Lib.hid hJ
          clear hJ
          by_cases hjl : j < T.length
          · obtain ⟨s, hs⟩ : ∃ s, T[j]? = some s := ⟨_, List.getElem?_eq_getElem hjl⟩
            have HS := Lib.hid hs
            clear hs
            go_wp2_with fail
            refine (len_tab _ _ _ _ hT).mono ?_
            rintro e w3 ⟨rfl, rfl⟩
            go_wp2_with fail
            refine (text_tab_some _ _ _ j s _ _ hT HS.out rfl).mono ?_
            rintro e w3 ⟨rfl, rfl⟩
            go_wp2_with fail
            go_loop [5] (fun at_ => ∃ q : Nat, q ≤ ss.length ∧ at_ = .int .i64 q ∧ ∀ (i : Nat) (x : ByteArray), i < q → ss[i]? = some x → num T x ≤ j) (fun at_ => ss.length - (intOf at_).toNat)
            case atStart => exact ⟨p, hp, rfl, HJ.out⟩
            case round =>
              clear HJ hp
              obtain ⟨q, hq, rfl, hJ⟩ := hrel
              have HJ := Lib.hid hJ
              clear hJ
              by_cases hql : q < ss.length
              · obtain ⟨x, hx⟩ : ∃ x, ss[q]? = some x := ⟨_, List.getElem?_eq_getElem hql⟩
                obtain ⟨b, off, rfl, hbl, hc⟩ := hss.cell q x hx
                have hc' := (hB.cell (p := ⟨b, off + q, none⟩) hbl).trans hc
                have hsm := hss.small q x hx
                have HX := Lib.hid hx
                clear hx hc
                have hmx : x.size ≤ maxLen := by unfold maxLen; omega
                have hlenq : ((q : Int) == (ss.length : Int)) = false := by simp; omega
                by_cases hxs : x = s
                · subst hxs
                  have hxx := str_eq x
                  go_wp2_with fail
                  go_round
                  case rel => exact ⟨j + 1, q, by omega, by omega, rfl, by go_num, fun i y hi hy => Nat.le_succ_of_le (HJ.out i y hi hy)⟩
                  case measure => simp [intOf]; omega
                · have hne := str_ne hxs
                  obtain ⟨hk0, hkj⟩ : num T x ≠ 0 ∧ num T x ≤ j := by
                    have h0 := hord.there q x HX.out
                    refine ⟨h0, ?_⟩
                    obtain ⟨i, h1, h2, h3⟩ := hord.first j s HS.out
                    by_cases hqi : q < i
                    · exact h3 q x hqi HX.out
                    · by_cases hqe : q = i
                      · subst hqe
                        rw [HX.out] at h1
                        exact absurd (Option.some.inj h1) hxs
                      · have := HJ.out i s (by omega) h1
                        omega
                  have hhas : has T x = true := by simp [has, hk0]
                  clear hxs
                  go_wp2_with fail
                  refine (known_tab _ _ _ _ _ hT hmx).mono ?_
                  rintro e w3 ⟨rfl, rfl⟩
                  rw [hhas]
                  go_wp2_with fail
                  go_round
                  case rel =>
                    refine ⟨q + 1, by omega, by go_num, fun i y hi hy => ?_⟩
                    by_cases hiq : i = q
                    · subst hiq
                      rw [HX.out] at hy
                      obtain rfl := Option.some.inj hy
                      exact hkj
                    · exact HJ.out i y (by omega) hy
                  case measure => simp [intOf]; omega
              · exfalso
                obtain ⟨i, h1, h2, h3⟩ := hord.first j s HS.out
                have := HJ.out i s (by have := (List.getElem?_eq_some_iff.1 h1).1; omega) h1
                omega
          · go_wp2_with fail
            refine (len_tab _ _ _ _ hT).mono ?_
            rintro e w3 ⟨rfl, rfl⟩
            go_wp2_with fail
            refine (text_tab_none _ _ _ _ _ hT (by omega)).mono ?_
            rintro e w3 ⟨rfl, rfl⟩
            go_wp2_with fail
            refine (len_tab _ _ _ _ hT).mono ?_
            rintro e w3 ⟨rfl, rfl⟩
            go_wp2_with fail
            refine (text_tab_none _ _ _ _ _ hT (by omega)).mono ?_
            rintro e w3 ⟨rfl, rfl⟩
            go_wp2_with fail
            refine (text_tab_none _ _ _ _ _ hT (by omega)).mono ?_
            rintro e w3 ⟨rfl, rfl⟩
            go_wp2_with fail
            go_ret
            exact ⟨rfl, hB⟩

end Go.Proofs.Ytgflncpigeppfaa

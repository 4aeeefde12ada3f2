/-
  The walk of the law WordsSame.
-/
import Derived.Test.YtgflncpigeppfaaBytes
import Derived.Test.YtgflncpigeppfaaBack
namespace Go.Proofs.Ytgflncpigeppfaa
open Go.RowKit Go.Maps

set_option maxHeartbeats 400000 in
theorem of_nil (s : ByteArray) (w : World) : Calls Try.prog 11 #[.pointer none, .string s] w fun e w' => e = .returned (.int .i64 0) ∧ w = w' := by
  go_enter Try.func11, Try.ntmps11
  go_wp2
  go_ret
  exact ⟨rfl, rfl⟩
set_option maxHeartbeats 400000 in
theorem len_nil (w : World) : Calls Try.prog 12 #[.pointer none] w fun e w' => e = .returned (.int .i64 0) ∧ w = w' := by
  go_enter Try.func12, Try.ntmps12
  go_wp2
  go_ret
  exact ⟨rfl, rfl⟩
set_option maxHeartbeats 400000 in
theorem known_nil (s : ByteArray) (w : World) : Calls Try.prog 13 #[.pointer none, .string s] w fun e w' => e = .returned (.tuple #[.int .i64 0, .bool false]) ∧ w = w' := by
  go_enter Try.func13, Try.ntmps13
  go_wp2
  go_ret2
  exact ⟨rfl, rfl⟩
set_option maxHeartbeats 400000 in
theorem text_nil (n : Int) (w : World) : Calls Try.prog 14 #[.pointer none, .int .i64 n] w fun e w' => e = .returned (.tuple #[.string ⟨#[]⟩, .int .i64 2]) ∧ w = w' := by
  go_enter Try.func14, Try.ntmps14
  go_wp2
  go_ret2
  exact ⟨rfl, rfl⟩

/-! Plain facts. -/
theorem num_puts_there (ss : List ByteArray) : ∀ (L : List ByteArray) (u : ByteArray), num L u ≠ 0 → num (puts L ss) u = num L u := by
  induction ss with
  | nil => intro L u _; rfl
  | cons s r ih =>
    intro L u h
    have h1 := num_put_there L s u h
    have := ih (put L s) u (by rw [h1]; exact h)
    simp only [puts, List.foldl_cons] at this ⊢
    rw [this, h1]

theorem num_put_pos (L : List ByteArray) (s : ByteArray) : num (put L s) s ≠ 0 := by
  rw [num_put]; split <;> omega

theorem put_there {L : List ByteArray} {s : ByteArray} (h : num L s ≠ 0) : put L s = L := by simp [put, h]

theorem num_inj {L : List ByteArray} {a b : ByteArray} (ha : num L a ≠ 0) (h : num L a = num L b) : a = b := by
  have h1 := num_get L a ha
  have h2 := num_get L b (by omega)
  rw [h, h2] at h1
  exact (Option.some.inj h1).symm

set_option maxHeartbeats 2000000 in
theorem same_walk (a b : ByteArray) (sa : Option Addr) (ss : List ByteArray) (cap : Nat) (w : World) (ha : a.size ≤ 281474976710656) (hb : b.size ≤ 281474976710656) (hss : Strs w w.heap.size sa ss) :
    Calls Try.prog 4 #[.string a, .string b, .slice sa ss.length cap] w fun e w' => e = .returned (.bool true) ∧ Below w.heap.size w w' := by
  have hlen := hss.len
  by_cases hbig : 100 < ss.length
  · go_enter Try.func4, Try.ntmps4
    go_wp2_with fail
    refine (alive_any _).mono ?_
    rintro e w1 ⟨rfl, b1⟩
    go_wp2_with fail
    go_ret
    exact ⟨rfl, b1⟩
  · have hbig' : ss.length ≤ 100 := by omega
    have hd : decide (100 < (ss.length : Int)) = false := by simp; omega
    clear hbig
    go_enter Try.func4, Try.ntmps4
    go_wp2_with fail
    refine (alive_any _).mono ?_
    rintro e w1 ⟨rfl, b1⟩
    go_wp2_with fail
    refine (new_tab _).mono ?_
    rintro e w2 ⟨rfl, h2, b2⟩
    have h2' : IsTab w.heap.size w1.heap.size w2 [] := h2.mono b1.size
    have b02 : Below w.heap.size w w2 := b1.trans (b2.mono b1.size)
    clear h2 b2 hd
    go_wp2_with fail
    refine (of_tab _ _ _ _ _ h2' b02.size ha (by simp)).mono ?_
    rintro e w3 ⟨rfl, h3, b3⟩
    have b03 := b02.trans b3
    clear h2' b3
    go_wp2_with fail
    refine (of_tab _ _ _ _ _ h3 b03.size hb (by simp [put, num])).mono ?_
    rintro e w4 ⟨rfl, h4, b4⟩
    have b04 := b03.trans b4
    clear h3 b4
    -- the first two texts, and their numbers
    obtain ⟨L, hL⟩ : ∃ L, L = put (put [] a) b := ⟨_, rfl⟩
    rw [← hL] at h4
    have hLl : L.length ≤ 2 := by have h5 := put_length (put [] a) b; have h6 := put_length [] a; rw [← hL] at h5; simp only [List.length_nil] at h6; omega
    have na0 := num_put_pos [] a
    have ea : num (put (put [] a) b) a = num (put [] a) a := num_put_there _ b a na0
    have nb := num_put_pos (put [] a) b
    have hna : num L a ≠ 0 := by rw [hL, ea]; exact na0
    have hnb : num L b ≠ 0 := by rw [hL]; exact nb
    rw [← ea, ← hL]
    have hla := num_le L a
    have hlb := num_le L b
    have HAB : Hid (num L a = num L b → a = b) := fun h => num_inj hna h
    clear na0 ea nb hL
    go_wp2_with fail
    go_loopw [10] (fun i wr => ∃ k : Nat, k ≤ ss.length ∧ i = .int .i64 k ∧ IsTab w.heap.size w1.heap.size wr (puts L (ss.take k)) ∧ Below w.heap.size w wr) (fun i _ => ss.length - (intOf i).toNat)
    case atStart => exact ⟨0, Nat.zero_le _, rfl, h4, b04⟩
    case round =>
      clear h4 b04
      obtain ⟨k, hk, rfl, hT, hB⟩ := hrel
      have hpl := puts_length (ss.take k) L
      simp only [List.length_take] at hpl
      by_cases hlt : k < ss.length
      · obtain ⟨s, hs⟩ : ∃ s, ss[k]? = some s := ⟨_, List.getElem?_eq_getElem hlt⟩
        obtain ⟨sb, off, rfl, hbl, hc⟩ := hss.cell k s hs
        have hc' := (hB.cell (p := ⟨sb, off + k, none⟩) hbl).trans hc
        have hsm := hss.small k s hs
        have HP : Hid (puts L (ss.take (k + 1)) = put (puts L (ss.take k)) s) := by
          obtain ⟨hk, rfl⟩ := List.getElem?_eq_some_iff.1 hs
          show _ = _
          rw [List.take_succ_eq_append_getElem hk, puts_snoc]
        clear hs hc
        go_wp2_with fail
        refine (of_tab _ _ _ _ _ hT hB.size hsm (by omega)).mono ?_
        rintro e w5 ⟨rfl, hT5, hB5⟩
        go_wp2_with fail
        go_roundw
        case rel => exact ⟨k + 1, by omega, by go_num, by rw [HP.out]; exact hT5, hB.trans hB5⟩
        case measure => simp [intOf]; omega
      · have hkl : k = ss.length := by omega
        subst hkl
        rw [List.take_length] at hT
        have na := num_puts_there ss L a hna
        have nb := num_puts_there ss L b hnb
        have hTl : (puts L ss).length < 1000 := by have := puts_length ss L; omega
        clear hpl
        generalize puts L ss = T at hT na nb hTl
        have ga := num_get T a (by omega)
        have gb := num_get T b (by omega)
        rw [na] at ga
        rw [nb] at gb
        have ht : put T a = T := put_there (by omega)
        have HT := Lib.hid ht
        have HNA := Lib.hid na
        have GA := Lib.hid ga
        have GB := Lib.hid gb
        clear ht na nb ga gb
        have pa : 1 ≤ num L a := by omega
        have pb : 1 ≤ num L b := by omega
        go_wp2_with fail
        refine (text_tab_some _ _ _ _ _ _ _ hT GA.out (by omega)).mono ?_
        rintro e w5 ⟨rfl, rfl⟩
        go_wp2_with fail
        refine (text_tab_some _ _ _ _ _ _ _ hT GB.out (by omega)).mono ?_
        rintro e w5 ⟨rfl, rfl⟩
        go_wp2_with fail
        refine (text_nil _ _).mono ?_
        rintro e w5 ⟨rfl, rfl⟩
        go_wp2_with fail
        refine (known_nil _ _).mono ?_
        rintro e w5 ⟨rfl, rfl⟩
        have hsame : ((num L a : Int) == (num L b : Int)) = (a.toList == b.toList) := by
          by_cases hab : a = b
          · subst hab; simp
          · rw [str_ne hab]
            have : num L a ≠ num L b := fun e => hab (HAB.out e)
            simp
            omega
        go_wp2_with fail
        refine (of_tab _ _ _ _ _ hT hB.size ha hTl).mono ?_
        rintro e w5 ⟨rfl, hT5, hB5⟩
        rw [HT.out, HNA.out]
        clear hT5
        go_wp2_with fail
        refine (of_nil _ _).mono ?_
        rintro e w6 ⟨rfl, rfl⟩
        go_wp2_with fail
        refine (len_nil _).mono ?_
        rintro e w6 ⟨rfl, rfl⟩
        go_wp2_with fail
        refine (bytes_nil _).mono ?_
        rintro e w6 ⟨rfl, hB6⟩
        go_wp2_with fail
        go_ret
        exact ⟨rfl, (hB.trans hB5).trans (hB6.mono (Nat.le_trans hB.size hB5.size))⟩

end Go.Proofs.Ytgflncpigeppfaa

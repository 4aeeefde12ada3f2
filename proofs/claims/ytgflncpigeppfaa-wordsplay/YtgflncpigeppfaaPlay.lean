/-
  The walk of the law WordsPlay.
-/
import Derived.Test.YtgflncpigeppfaaFind
namespace Go.Proofs.Ytgflncpigeppfaa
open Go.RowKit Go.Maps

theorem total_take {M : List ByteArray} {k : Nat} {s : ByteArray} (h : M[k]? = some s) : total (M.take (k + 1)) = total (M.take k) + s.size := by
  obtain ⟨hk, rfl⟩ := List.getElem?_eq_some_iff.1 h
  rw [List.take_succ_eq_append_getElem hk, total_snoc]

theorem has_num (L : List ByteArray) (s : ByteArray) : has L s = decide (0 < num L s) := by
  unfold has
  by_cases h : num L s = 0
  · simp [h]
  · simp [h]; omega

set_option maxRecDepth 100000 in
set_option maxHeartbeats 2000000 in
theorem play_walk (sa : Option Addr) (ss : List ByteArray) (cap : Nat) (s : ByteArray) (n : Int) (w : World) (hss : Strs w w.heap.size sa ss) (hs : s.size ≤ 281474976710656) (hn1 : -9223372036854775808 ≤ n) (hn2 : n ≤ 9223372036854775807) :
    Calls Try.prog 3 #[.slice sa ss.length cap, .string s, .int .i64 n] w fun e w' => e = .returned (.bool true) ∧ Below w.heap.size w w' := by
  have hlen := hss.len
  by_cases hbig : 100 < ss.length
  · go_enter Try.func3, Try.ntmps3
    go_wp2_with fail
    refine (alive_any _).mono ?_
    rintro e w1 ⟨rfl, b1⟩
    go_wp2_with fail
    go_ret
    exact ⟨rfl, b1⟩
  · have hbig' : ss.length ≤ 100 := by omega
    have hd : decide (100 < (ss.length : Int)) = false := by simp; omega
    clear hbig
    go_enter Try.func3, Try.ntmps3
    go_wp2_with fail
    refine (alive_any _).mono ?_
    rintro e w1 ⟨rfl, b1⟩
    go_wp2_with fail
    refine (new_tab _).mono ?_
    rintro e w2 ⟨rfl, h2, b2⟩
    have h2' : Play w.heap.size w1.heap.size w2 (.slice none 0 0) [] [] := by
      obtain ⟨τ, g1, g2, g3⟩ := h2.mono b1.size
      exact ⟨τ, g1, g2, g3, World.ownsRow_nil _ _ _ _, fun k hk => by cases hk⟩
    have b02 : Below w.heap.size w w2 := b1.trans (b2.mono b1.size)
    clear h2 b2 hd
    go_wp2_with fail
    go_loopw [8, 9, 10] (fun m i kk wr => ∃ (k : Nat) (ma : Option Addr) (mc : Nat), k ≤ ss.length ∧ i = .int .i64 k ∧ m = .slice ma (puts [] (ss.take k)).length mc ∧ Play w.heap.size w1.heap.size wr (.slice ma (puts [] (ss.take k)).length mc) (puts [] (ss.take k)) (puts [] (ss.take k)) ∧ Below w.heap.size w wr) (fun _ i _ _ => ss.length - (intOf i).toNat)
    case atStart => exact ⟨0, none, 0, Nat.zero_le _, rfl, rfl, h2', b02⟩
    case round =>
      clear h2' b02
      obtain ⟨k, ma, mc, hk, rfl, rfl, hP, hB⟩ := hrel
      by_cases hlt : k < ss.length
      · obtain ⟨x, hx⟩ : ∃ x, ss[k]? = some x := ⟨_, List.getElem?_eq_getElem hlt⟩
        obtain ⟨sb, off, rfl, hbl, hc⟩ := hss.cell k x hx
        have hc' := (hB.cell (p := ⟨sb, off + k, none⟩) hbl).trans hc
        have hsm := hss.small k x hx
        have hpl := puts_length (ss.take k) []
        simp only [List.length_nil, List.length_take] at hpl
        have HP := Lib.hid (puts_take ss k x hx)
        clear hx hc
        generalize puts [] (ss.take k) = L at hP hpl HP
        have hcs := cells_of_row hP.row
        by_cases hnew : num L x = 0
        · have e1 : put L x = L ++ [x] := by simp [put, hnew]
          have e2 := num_snoc_same L x hnew
          have HN := Lib.hid hnew
          have E1 := Lib.hid e1
          have E2 := Lib.hid e2
          clear hnew e1 e2
          obtain ⟨i0, hi, hz0, hz1, hz2⟩ := info_parts info9
          have hmax : L.length + 1 ≤ maxLen := by unfold maxLen; omega
          go_wp2_with fail
          refine (find_any _ _ _ _ _ hcs (by omega)).mono ?_
          rintro e w3 ⟨rfl, rfl⟩
          rw [HN.out]
          clear hcs
          go_wp2_with (at_builtin; refine wpList_append_own_at _ rfl _ _ 22 rfl w.heap.size 9 i0 (.string ⟨#[]⟩) 1 16 Try.underlying22 hi hz0 hz1 hz2 rfl (by decide) _ _ _ rfl (hP.row.alloc _) ⟨wr.heap.size, 0, none⟩ 1 1 [.string x] rfl rfl (cell_one_new _ _ _) (by simp [Value.oneCell']) hmax (by omega) (by have := hB.size; simp; omega) ?_; intro v' w4 hown' hgrow hnil hloc; clear hnil; obtain ⟨hP4, hB4⟩ := hP.appended hB.size hown' hgrow hloc; obtain ⟨ma', mc', rfl⟩ := row_slice hown'; have hc4 := (hB4.cell (p := ⟨sb, off + k, none⟩) hbl).trans hc'; clear hown' hgrow hloc)
          refine (play_of x hP4 (Nat.le_trans hB.size hB4.size) hsm (by omega)).mono ?_
          rintro e w5 ⟨rfl, hP5, hB5⟩
          rw [E1.out] at hP5 ⊢
          rw [E2.out]
          go_wp2_with fail
          refine (len_tab _ _ _ _ hP5.tab).mono ?_
          rintro e w6 ⟨rfl, rfl⟩
          rw [List.length_append, List.length_singleton]
          go_wp2_with fail
          go_roundw
          case rel =>
            refine ⟨k + 1, ma', mc', by omega, by go_num, ?_, ?_, (hB.trans hB4).trans hB5⟩
            · rw [HP.out, E1.out, List.length_append, List.length_singleton]
            · rw [HP.out, E1.out, List.length_append, List.length_singleton]
              exact hP5
          case measure => simp [intOf]; omega
        · have e1 : put L x = L := put_there hnew
          have hpos : 0 < num L x := by omega
          have hnl := num_le L x
          have hne0 : ((num L x : Int) == 0) = false := by simp; omega
          have E1 := Lib.hid e1
          clear hnew e1
          go_wp2_with fail
          refine (find_any _ _ _ _ _ hcs (by omega)).mono ?_
          rintro e w3 ⟨rfl, rfl⟩
          clear hcs
          go_wp2_with fail
          refine (play_of x hP hB.size hsm (by omega)).mono ?_
          rintro e w5 ⟨rfl, hP5, hB5⟩
          rw [E1.out] at hP5 ⊢
          go_wp2_with fail
          refine (len_tab _ _ _ _ hP5.tab).mono ?_
          rintro e w6 ⟨rfl, rfl⟩
          go_wp2_with fail
          go_roundw
          case rel =>
            refine ⟨k + 1, ma, mc, by omega, by go_num, ?_, ?_, hB.trans hB5⟩
            · rw [HP.out, E1.out]
            · rw [HP.out, E1.out]
              exact hP5
          case measure => simp [intOf]; omega
      · have hkl : k = ss.length := by omega
        subst hkl
        rw [List.take_length] at hP ⊢
        have hpl := puts_length ss []
        have hPs := puts_small hss.small
        simp only [List.length_nil] at hpl
        generalize puts [] ss = L at hP hpl hPs
        have HPS := Lib.hid hPs
        clear hPs
        have hL100 : L.length ≤ 100 := by omega
        clear hpl hss
        have hcs := cells_of_row hP.row
        have HC := Lib.hid hcs
        clear hcs
        go_wp2_with fail
        go_loop [11, 12] (fun by_ i => ∃ k : Nat, k ≤ L.length ∧ i = .int .i64 k ∧ by_ = .int .i64 (total (L.take k) : Nat)) (fun _ i => L.length - (intOf i).toNat)
        case atStart => exact ⟨0, Nat.zero_le _, rfl, rfl⟩
        case round =>
          obtain ⟨k, hk, rfl, rfl⟩ := hrel
          by_cases hlt : k < L.length
          · obtain ⟨x, hx⟩ : ∃ x, L[k]? = some x := ⟨_, List.getElem?_eq_getElem hlt⟩
            obtain ⟨g, rfl, hc⟩ := HC.out k x hx
            have hxs := HPS.out x (List.mem_of_getElem? hx)
            have htk := total_le (L.take k) (fun y hy => HPS.out y (List.mem_of_mem_take hy))
            rw [List.length_take] at htk
            have HT := Lib.hid (total_take hx)
            clear hx
            have htk' : total (L.take k) ≤ 28147497671065600 := by
              have : min k L.length * 281474976710656 ≤ 100 * 281474976710656 := Nat.mul_le_mul_right _ (by omega)
              omega
            clear htk
            go_wp2_with fail
            go_round
            case rel => exact ⟨k + 1, by omega, by go_num, by rw [HT.out]; go_num⟩
            case measure => simp [intOf]; omega
          · have hkl : k = L.length := by omega
            subst hkl
            rw [List.take_length]
            have hns := num_le L s
            have hhas := has_num L s
            have HH := Lib.hid hhas
            clear hhas
            go_wp2_with fail
            refine (known_tab _ _ _ _ _ hP.tab (by unfold maxLen; omega)).mono ?_
            rintro e w3 ⟨rfl, rfl⟩
            rw [HH.out]
            by_cases hin : n < 1 ∨ (L.length : Int) < n
            · go_wp2_with fail
              refine (text_tab_none _ _ _ _ _ hP.tab hin).mono ?_
              rintro e w3 ⟨rfl, rfl⟩
              go_wp2_with fail
              refine (find_any _ _ _ _ _ HC.out (by omega)).mono ?_
              rintro e w3 ⟨rfl, rfl⟩
              go_wp2_with fail
              refine (len_tab _ _ _ _ hP.tab).mono ?_
              rintro e w3 ⟨rfl, rfl⟩
              go_wp2_with fail
              refine (bytes_tab _ _ _ _ hP.tab (by omega) HPS.out).mono ?_
              rintro e w3 ⟨rfl, hB3⟩
              have hfin := hB.trans (hB3.mono hB.size)
              by_cases hlo : n < 1
              · clear hin
                go_wp2_with fail
                go_ret
                exact ⟨rfl, hfin⟩
              · have hhi : (L.length : Int) < n := by rcases hin with h | h; exact absurd h hlo; exact h
                clear hin
                go_wp2_with fail
                go_ret
                exact ⟨rfl, hfin⟩
            · obtain ⟨j, rfl⟩ : ∃ j : Nat, n = (j : Int) + 1 := ⟨(n - 1).toNat, by omega⟩
              have hj : j < L.length := by omega
              clear hin hn1 hn2 hlen
              obtain ⟨x, hx⟩ : ∃ x, L[j]? = some x := ⟨_, List.getElem?_eq_getElem hj⟩
              obtain ⟨g, rfl, hc⟩ := HC.out j x hx
              have hxx := str_eq x
              have HX := Lib.hid hx
              clear hx
              have hg : g < wr.heap.size := World.block_lt_of_cell? wr ⟨g, j, none⟩ hc
              go_wp2_with fail
              refine (text_tab_some _ _ _ j x _ _ hP.tab HX.out rfl).mono ?_
              rintro e w3 ⟨rfl, rfl⟩
              go_wp2_with fail
              refine (find_any _ _ _ _ _ HC.out (by omega)).mono ?_
              rintro e w3 ⟨rfl, rfl⟩
              go_wp2_with fail
              refine (len_tab _ _ _ _ hP.tab).mono ?_
              rintro e w3 ⟨rfl, rfl⟩
              go_wp2_with fail
              refine (bytes_tab _ _ _ _ hP.tab (by omega) HPS.out).mono ?_
              rintro e w3 ⟨rfl, hB3⟩
              have hfin := hB.trans (hB3.mono hB.size)
              have hc3 := (hB3.cell (p := ⟨g, j, none⟩) hg).trans hc
              clear hc
              go_wp2_with fail
              go_ret
              exact ⟨rfl, hfin⟩

end Go.Proofs.Ytgflncpigeppfaa

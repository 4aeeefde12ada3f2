/-
  LruOrder: keys come out of Last in the order of their last uses. No condition.
-/
import Derived.Test.YthnmnohhhakjbaaAlive
import Derived.Test.YthnmnohhhakjbaaSIs
import Derived.Test.YthnmnohhhakjbaaIn
import Derived.ShutString
namespace Go.Proofs.Ythnmnohhhakjbaa
open Go.ChangeShapes Go.WideShapes Go.ChangeAt Go.RowKit Go.Maps
open Go.ChangeMaps (open_string shut_string)

/-- What the walk is told of a slice of texts that came in: its elements are ss, and each lies in its cell, below block B. -/
structure Strs (w : World) (B : Nat) (a : Option Addr) (ss : List ByteArray) : Prop where
  cell : ∀ (i : Nat) (s : ByteArray), ss[i]? = some s → ∃ b off, a = some ⟨b, off, none⟩ ∧ b < B ∧ w.cell? ⟨b, off + i, none⟩ = some (.string s)
  small : ∀ (i : Nat) (s : ByteArray), ss[i]? = some s → s.size ≤ 281474976710656
  len : ss.length ≤ 9223372036854775807

/-- What comes of uses, one behind the other. -/
def usesS : List ByteArray → List ByteArray → List ByteArray
  | ks, [] => ks
  | ks, z :: r => usesS (z :: ks.erase z) r
theorem usesS_snoc : ∀ (l : List ByteArray) (ks : List ByteArray) (z : ByteArray), usesS ks (l ++ [z]) = z :: (usesS ks l).erase z
  | [], ks, z => rfl
  | x :: r, ks, z => by simp [usesS, usesS_snoc r]

theorem usesS_mem : ∀ (r ks : List ByteArray) (x : ByteArray), x ∈ usesS ks r → x ∈ ks ∨ x ∈ r
  | [], ks, x, h => .inl h
  | y :: r, ks, x, h => by
    rcases usesS_mem r _ x h with h | h
    · rcases List.mem_cons.1 h with rfl | h
      · exact .inr (by simp)
      · exact .inl (List.mem_of_mem_erase h)
    · exact .inr (by simp [h])

theorem erase_last {ks : List ByteArray} {z : ByteArray} (h : z ∉ ks) : (ks ++ [z]).erase z = ks := by
  rw [List.erase_append_right _ h]; simp

theorem usesS_last : ∀ (r ks : List ByteArray) (z : ByteArray), z ∉ ks → usesS (ks ++ [z]) r = if z ∈ r then usesS ks r else usesS ks r ++ [z]
  | [], ks, z, _ => by simp [usesS]
  | x :: r, ks, z, h => by
    by_cases e : x = z
    · subst e
      simp only [usesS, List.mem_cons, true_or, if_true]
      rw [erase_last h, List.erase_of_not_mem h]
    · have e2 : (ks ++ [z]).erase x = ks.erase x ++ [z] := by
        by_cases hx : x ∈ ks
        · rw [List.erase_append_left _ hx]
        · rw [List.erase_append_right _ hx, List.erase_of_not_mem hx, List.erase_of_not_mem (by simpa using e)]
      have h2 : z ∉ x :: ks.erase x := by
        simp only [List.mem_cons, not_or]
        exact ⟨Ne.symm e, fun hh => h (List.mem_of_mem_erase hh)⟩
      have ih := usesS_last r (x :: ks.erase x) z h2
      simp only [usesS, e2]
      rw [← List.cons_append, ih]
      simp [Ne.symm e]

theorem usesS_head (z : ByteArray) (r : List ByteArray) : usesS [] (z :: r) = if z ∈ r then usesS [] r else usesS [] r ++ [z] := by
  have := usesS_last r [] z (by simp)
  simpa [usesS] using this

theorem drop_cons {α : Type} {l : List α} {i : Nat} {z : α} (h : l[i]? = some z) : l.drop i = z :: l.drop (i + 1) := by
  obtain ⟨h1, rfl⟩ := List.getElem?_eq_some_iff.1 h
  exact List.drop_eq_getElem_cons h1

theorem never_any (x : ByteArray) (W : World) : Calls Try.prog 28 #[.string x] W fun e W' => e = .returned (.bool false) ∧ W = W' := by
  go_enter Try.func28, Try.ntmps28
  go_wp2
  go_ret
  exact ⟨rfl, rfl⟩

theorem keys_nil (w : World) : Calls Try.prog 30 #[.pointer none] w fun e w' => e = .returned (.slice none 0 0) ∧ w = w' := by
  go_enter Try.func30, Try.ntmps30
  go_wp2_with (go_at_call 29; refine (S.len_nil _).mono ?_; rintro e w' ⟨rfl, rfl⟩)
  go_ret
  exact ⟨rfl, rfl⟩

theorem lastbut_nil (w : World) : Calls Try.prog 27 #[.pointer none, .func (.func 28) #[] #[]] w fun e w' => e = .returned (.tuple #[.string ⟨#[]⟩, .bool false]) ∧ Below w.heap.size w w' := by
  refine (S.lastbut_any 28 (enters_of Try.func28 (by kernel_rfl) rfl) #[] none [] w.heap.size w (Nat.le_refl _) (.inl ⟨rfl, rfl⟩) (by simp) (fun _ => false) (fun _ _ => True) (fun _ _ _ _ _ _ _ => trivial) (fun _ _ _ _ _ _ => trivial) trivial
    (fun pre x W _ _ _ hw => (never_any x W).mono (by rintro e W' ⟨rfl, rfl⟩; exact ⟨rfl, trivial, S.KeepFrame.of_below (Below.refl _ _) (by omega) hw⟩))).mono ?_
  rintro e w' ⟨asked, r, ok, rfl, ht, _, hB⟩
  rcases ht with ⟨rfl, pre, rfl, hp, _⟩ | ⟨rfl, rfl, _⟩
  · obtain ⟨t, ht⟩ := hp
    simp at ht
  · exact ⟨rfl, hB⟩

theorem last_nil (w : World) : Calls Try.prog 24 #[.pointer none] w fun e w' => e = .returned (.tuple #[.string ⟨#[]⟩, .bool false]) ∧ Below w.heap.size w w' := by
  refine (S.last_in none [] w (.inl ⟨rfl, rfl⟩) (by simp)).mono ?_
  rintro e w' ⟨r, ok, rfl, ht, hB⟩
  rcases ht with ⟨rfl, ht⟩ | ⟨rfl, _, rfl⟩
  · simp at ht
  · exact ⟨rfl, hB⟩

set_option maxRecDepth 20000 in
set_option maxHeartbeats 4000000 in
theorem order_walk (a : Option Addr) (ss : List ByteArray) (cap : Nat) (w : World) (hss : Strs w w.heap.size a ss) :
    Calls Try.prog 4 #[.slice a ss.length cap] w fun e w' => e = .returned (.bool true) ∧ Below w.heap.size w w' := by
  have hlen := hss.len
  by_cases hbig : 100 < ss.length
  · go_enter Try.func4, Try.ntmps4
    go_wp2_with fail
    refine (alive_any _).mono ?_
    rintro e w1 ⟨rfl, b1⟩
    go_wp2_with fail
    go_ret
    exact ⟨rfl, b1⟩
  · have hbig' : ss.length ≤ 100 := by omega
    have hd : decide (100 < (ss.length : Int)) = false := by simp; omega
    clear hbig hlen
    go_enter Try.func4, Try.ntmps4
    go_wp2_with fail
    refine (alive_any _).mono ?_
    rintro e w1 ⟨rfl, b1⟩
    go_wp2_with fail
    refine (S.new_l _).mono ?_
    rintro e w2 ⟨rfl, x2, b2⟩
    have HB1 := Lib.hid b1
    clear hd b1
    go_wp2_with fail
    go_loopw [4] (fun s4 wr => ∃ (j : Nat), s4 = .int .i64 (j : Nat) ∧ j ≤ ss.length ∧ S.IsL w1.heap.size w1.heap.size wr (usesS [] (ss.take j)) j ∧ Below w1.heap.size w1 wr) (fun s4 _ => ss.length - (intOf s4).toNat)
    case atStart => exact ⟨0, rfl, Nat.zero_le _, x2, b2⟩
    case round =>
      clear x2 b2
      obtain ⟨j, rfl, hj, hx, hB⟩ := hrel
      by_cases hlt : j < ss.length
      · obtain ⟨z, hz⟩ : ∃ z, ss[j]? = some z := ⟨_, List.getElem?_eq_getElem hlt⟩
        obtain ⟨b, off, rfl, hbl, hc⟩ := hss.cell j z hz
        have hsm : S.kok z := by have := hss.small j z hz; unfold S.kok maxLen; omega
        have hbl1 : b < w1.heap.size := Nat.lt_of_lt_of_le hbl HB1.out.size
        have hcr := (hB.cell (p := ⟨b, off + j, none⟩) hbl1).trans ((HB1.out.cell (p := ⟨b, off + j, none⟩) hbl).trans hc)
        have hlt' : (j : Int) < (ss.length : Int) := by omega
        have HTK : Hid (ss.take (j + 1) = ss.take j ++ [z]) := S.take_snoc hz
        clear hz hc
        go_wp2_with fail
        refine (S.use_l _ _ _ _ z _ hx hB.size hsm (by omega)).mono ?_
        rintro e w5 ⟨rfl, hx5, hb5⟩
        have HX5 := Lib.hid hx5
        clear hx5 hx
        go_wp2
        go_roundw
        case rel => exact ⟨j + 1, by simp, by omega, by rw [HTK.out, usesS_snoc]; exact HX5.out, hB.trans hb5⟩
        case measure => simp [intOf]; omega
      · have hlt' : decide ((j : Int) < (ss.length : Int)) = false := by simp; omega
        have hx0 : S.IsL w1.heap.size w1.heap.size wr (usesS [] (ss.drop 0)) 100 := by
          have hje : j = ss.length := by omega
          rw [hje, List.take_length] at hx
          exact hx.mono (by omega)
        clear hx
        go_wp2_with fail
        go_loopw [5] (fun s5 wr => ∃ (i : Nat), s5 = .int .i64 (i : Nat) ∧ i ≤ ss.length ∧ S.IsL w1.heap.size w1.heap.size wr (usesS [] (ss.drop i)) 100 ∧ Below w1.heap.size w1 wr) (fun s5 _ => ss.length - (intOf s5).toNat)
        case atStart => exact ⟨0, rfl, Nat.zero_le _, hx0, hB⟩
        case round =>
          clear hx0 hB
          obtain ⟨i, rfl, hi, hx, hB⟩ := hrel
          by_cases hil : i < ss.length
          · obtain ⟨wo, rfl⟩ : ∃ wo, wo = wr := ⟨_, rfl⟩
            obtain ⟨z, hz⟩ : ∃ z, ss[i]? = some z := ⟨_, List.getElem?_eq_getElem hil⟩
            obtain ⟨b, off, rfl, hbl, hc⟩ := hss.cell i z hz
            have hsm : S.kok z := by have := hss.small i z hz; unfold S.kok maxLen; omega
            have hbl1 : b < w1.heap.size := Nat.lt_of_lt_of_le hbl HB1.out.size
            have hc1 := (HB1.out.cell (p := ⟨b, off + i, none⟩) hbl).trans hc
            have hil' : (i : Int) < (ss.length : Int) := by omega
            obtain ⟨r, hr⟩ : ∃ r, r = ss.drop (i + 1) := ⟨_, rfl⟩
            have hrl : r.length = ss.length - (i + 1) := by rw [hr]; simp
            have hhead := usesS_head z r
            have hdc := drop_cons hz
            rw [← hr] at hdc
            rw [hdc, hhead] at hx
            have hrget : ∀ t y, r[t]? = some y → ss[i + 1 + t]? = some y := by intro t y ht; rw [hr] at ht; simpa using ht
            have HX := Lib.hid hx
            have HRG := Lib.hid hrget
            have HR := Lib.hid hr
            clear hz hc hhead hdc hx hrget hr
            go_wp2_with fail
            go_loopw [6, 7] (fun s6 s7 w' => ∃ (t : Nat) (bb : Bool), s6 = .bool bb ∧ s7 = .int .i64 ((i : Int) + 1 + (t : Nat)) ∧ t ≤ r.length ∧ bb = decide (z ∈ r.take t) ∧ Below wo.heap.size wo w') (fun _ s7 _ => 200 - (intOf s7).toNat)
            case atStart => exact ⟨0, false, rfl, by simp, Nat.zero_le _, by simp, Below.refl _ _⟩
            case round =>
              obtain ⟨t, bb, rfl, rfl, ht, hbb, hBt⟩ := hrel
              have hblr : b < wo.heap.size := Nat.lt_of_lt_of_le hbl1 hB.size
              by_cases htl : t < r.length
              · obtain ⟨y, hy⟩ : ∃ y, r[t]? = some y := ⟨_, List.getElem?_eq_getElem htl⟩
                obtain ⟨b', off', e', _, hcy⟩ := hss.cell (i + 1 + t) y (HRG.out t y hy)
                cases e'
                have dz := (hBt.cell (p := ⟨b, off + i, none⟩) hblr).trans ((hB.cell (p := ⟨b, off + i, none⟩) hbl1).trans hc1)
                have dy := (hBt.cell (p := ⟨b, off + (i + 1 + t), none⟩) hblr).trans ((hB.cell (p := ⟨b, off + (i + 1 + t), none⟩) hbl1).trans ((HB1.out.cell (p := ⟨b, off + (i + 1 + t), none⟩) hbl).trans hcy))
                have hk1 : (i : Int) + 1 + (t : Int) < (ss.length : Int) := by omega
                have t1 : ((i : Int) + 1 + (t : Int)).toNat = i + 1 + t := by omega
                have HTK : Hid (r.take (t + 1) = r.take t ++ [y]) := S.take_snoc hy
                have HBB := Lib.hid hbb
                clear hy hcy hbb
                cases bb with
                | true =>
                  go_wp2
                  go_quiet (fail)
                  go_wp2
                  go_roundw
                  case rel =>
                    refine ⟨t + 1, true, rfl, by simp; omega, by omega, ?_, below_drawn hBt _⟩
                    have := of_decide_eq_true HBB.out.symm
                    rw [HTK.out]
                    exact (decide_eq_true (List.mem_append.2 (.inl this))).symm
                  case measure => simp [intOf]; omega
                | false =>
                  have hnz : z ∉ r.take t := of_decide_eq_false HBB.out.symm
                  by_cases hyz : y = z
                  · subst hyz
                    have hse := str_eq y
                    go_wp2
                    go_quiet (fail)
                    go_wp2
                    go_roundw
                    case rel =>
                      refine ⟨t + 1, true, by simp, by simp; omega, by omega, ?_, below_drawn hBt _⟩
                      rw [HTK.out]
                      exact (decide_eq_true (List.mem_append.2 (.inr (by simp)))).symm
                    case measure => simp [intOf]; omega
                  · have hse := str_ne hyz
                    go_wp2
                    go_quiet (fail)
                    go_wp2
                    go_roundw
                    case rel =>
                      refine ⟨t + 1, false, by simp, by simp; omega, by omega, ?_, below_drawn hBt _⟩
                      rw [HTK.out]
                      refine (decide_eq_false ?_).symm
                      simp only [List.mem_append, List.mem_singleton, not_or]
                      exact ⟨hnz, fun e => hyz e.symm⟩
                    case measure => simp [intOf]; omega
              · have hte : t = r.length := by omega
                have hk1 : decide ((i : Int) + 1 + (t : Int) < (ss.length : Int)) = false := by simp; omega
                rw [hte, List.take_length] at hbb
                have hxt := HX.out.below hBt
                have hBt1 : Below w1.heap.size w1 wr := hB.trans (hBt.mono hB.size)
                cases bb with
                | true =>
                  have hzr := of_decide_eq_true hbb.symm
                  rw [if_pos hzr] at hxt
                  have HXT := Lib.hid hxt
                  clear hxt hbb hBt
                  go_wp2
                  go_roundw
                  case rel => exact ⟨i + 1, by simp, by omega, by rw [← HR.out]; exact HXT.out, hBt1⟩
                  case measure => simp [intOf]; omega
                | false =>
                  have hzr := of_decide_eq_false hbb.symm
                  rw [if_neg hzr] at hxt
                  have hzu : z ∉ usesS [] r := fun e => by
                    rcases usesS_mem r [] z e with e | e
                    · simp at e
                    · exact hzr e
                  clear hbb hBt
                  go_wp2_with fail
                  refine (S.last_l _ _ _ _ _ hxt (by omega)).mono ?_
                  rintro e w5 ⟨q, ok, rfl, hl, hx5, hb5⟩
                  obtain ⟨rfl, rfl⟩ : q = z ∧ ok = true := by
                    rcases hl with ⟨rfl, hl⟩ | ⟨_, hl, _⟩
                    · simp at hl
                      exact ⟨hl.symm, rfl⟩
                    · simp at hl
                  have hB5 := hBt1.trans (hb5.mono hBt1.size)
                  have dz := (hB5.cell (p := ⟨b, off + i, none⟩) hbl1).trans hc1
                  have hse := str_eq q
                  clear hxt hl hb5
                  go_wp2_with fail
                  refine (S.drop_l _ _ _ _ q _ hx5 hB5.size hsm).mono ?_
                  rintro e w6 ⟨rfl, hx6, hb6⟩
                  rw [decide_eq_true (by simp)]
                  rw [erase_last hzu] at hx6
                  have hB6 := hB5.trans hb6
                  clear hx5 dz
                  go_wp2_with fail
                  refine (S.drop_l _ _ _ _ q _ hx6 hB6.size hsm).mono ?_
                  rintro e w7 ⟨rfl, hx7, hb7⟩
                  rw [decide_eq_false hzu]
                  rw [List.erase_of_not_mem hzu] at hx7
                  have hB7 := hB6.trans hb7
                  clear hx6
                  go_wp2_with fail
                  refine (S.has_l _ _ _ _ q _ hx7 hsm).mono ?_
                  rintro e w8 ⟨rfl, rfl⟩
                  rw [decide_eq_false hzu]
                  have HX7 := Lib.hid hx7
                  clear hx7
                  go_wp2
                  go_roundw
                  case rel => exact ⟨i + 1, by simp, by omega, by rw [← HR.out]; exact HX7.out, hB7⟩
                  case measure => simp [intOf]; omega
          · have hil' : decide ((i : Int) < (ss.length : Int)) = false := by simp; omega
            have hie : i = ss.length := by omega
            have hx9 : S.IsL w1.heap.size w1.heap.size wr [] 100 := by rw [hie, List.drop_length] at hx; exact hx
            clear hx hie
            go_wp2_with fail
            refine (S.use_nil _ ⟨#[97]⟩).mono ?_
            rintro e w20 ⟨rfl, rfl⟩
            go_wp2_with fail
            refine (last_nil _).mono ?_
            rintro e w21 ⟨rfl, b21⟩
            have hx21 := hx9.below b21
            have hB21 := hB.trans (b21.mono hB.size)
            clear hx9 b21 hB
            go_wp2_with fail
            refine (lastbut_nil _).mono ?_
            rintro e w22 ⟨rfl, b22⟩
            have hx22 := hx21.below b22
            have HB22 : Hid (Below w1.heap.size w1 w22) := hB21.trans (b22.mono hB21.size)
            clear hx21 b22 hB21
            go_wp2_with fail
            refine (S.len_l _ _ _ _ _ hx22).mono ?_
            rintro e w23 ⟨rfl, rfl⟩
            go_wp2_with fail
            refine (S.has_nil _ ⟨#[97]⟩).mono ?_
            rintro e w24 ⟨rfl, rfl⟩
            go_wp2_with fail
            refine (S.drop_nil _ ⟨#[97]⟩).mono ?_
            rintro e w25 ⟨rfl, rfl⟩
            go_wp2_with fail
            refine (S.len_nil _).mono ?_
            rintro e w26 ⟨rfl, rfl⟩
            go_wp2_with fail
            refine (keys_nil _).mono ?_
            rintro e w27 ⟨rfl, rfl⟩
            go_wp2
            go_ret
            exact ⟨by simp, HB1.out.trans (HB22.out.mono HB1.out.size)⟩

theorem laidOutS : laidOutB Try.prog = true := by kernel_rfl
theorem cells9 : Try.prog.cellsOf 9 = 1 := by kernel_rfl
theorem ownS : ownKnob Try.prog.godebug = none := by kernel_rfl

theorem weights_strs {H : Type} {P : Program} {e : TypeId} : ∀ (ss : List ByteArray) (s : ByteArray), s ∈ ss → s.size ∈ DataW.weightsAll P e (strs (H := H) ss)
  | [], s, h => by simp at h
  | x :: r, s, h => by
    simp only [strs, List.map_cons, DataW.weightsAll, List.mem_append]
    rcases List.mem_cons.1 h with rfl | h
    · exact .inl (by simp [DataW.weights])
    · exact .inr (weights_strs r s h)

/-- A slice of texts that was read, as the walk is told of it. -/
theorem strs_of {H : Type} {enc : TypeId × Value → H} {W : World} {a0 : Option Addr} {len cap : Nat} {d : DataW H} {p : List MemPlace} (h : DataW.Trod enc Try.prog W 0 (fun _ => true) true 37 (.slice a0 len cap) d p)
    (hsz : ∀ n ∈ d.weights Try.prog 37, n ≤ reachBytes) (hlt : ∀ x ∈ p, x.block < W.heap.size) : ∃ ss : List ByteArray, ss.length = len ∧ Strs W W.heap.size a0 ss := by
  obtain ⟨fuel, hf⟩ := h
  rcases open_strings Try.underlying37 Try.underlying9 cells9 hf with ⟨hcs, hx⟩ | ⟨a, len', cap', ss, hcs, _, hl, hm, hz, hx, hcell, hws⟩
  · simp [Value.cells] at hcs
    obtain ⟨rfl, rfl, rfl⟩ := hcs
    exact ⟨[], rfl, ⟨fun i s hs => by simp at hs, fun i s hs => by simp at hs, by simp⟩⟩
  · simp [Value.cells] at hcs
    obtain ⟨rfl, rfl, rfl⟩ := hcs
    simp only [Prod.mk.injEq] at hx
    obtain ⟨rfl, rfl⟩ := hx
    simp only [if_true] at hz
    have hlen : (ss.take len).length = len := by rw [List.length_take]; omega
    refine ⟨ss.take len, hlen, ⟨fun i s hs => ?_, fun i s hs => ?_, ?_⟩⟩
    · have hi : i < len := by have := (List.getElem?_eq_some_iff.1 hs).1; omega
      have hs' : ss.getD i ByteArray.empty = s := by
        rw [List.getElem?_take, if_pos hi] at hs
        simp [List.getD, hs]
      have hc := hcell i (by omega)
      rw [hs'] at hc
      obtain ⟨b, off, spot⟩ := a
      have hspot : spot = none := by
        have h0 := hcell 0 (by omega)
        simpa [Addr.add] using World.cell?_spot h0
      subst hspot
      refine ⟨b, off, rfl, hlt (.cell b off) (MemPlace.mem_row.2 ⟨0, by omega, by simp⟩), ?_⟩
      rw [← add_plain]
      exact hc
    · have hmem : s ∈ ss.take len := List.mem_of_getElem? hs
      have := hsz s.size (by
        simp only [DataW.weights, Try.underlying37, List.mem_cons, List.mem_append]
        exact .inr (.inl (weights_strs _ s hmem)))
      simp only [reachBytes] at this
      omega
    · rw [hlen]; simp only [maxLen] at hm; omega

set_option maxRecDepth 100000 in
theorem order_lifted (os : Os) (started : os.Started) (H : Type) (enc : TypeId × Value → H) :
    ReturnsInHanded {} Try.checked os 4 .any (Rows.lruOrderSpec.pre6 enc Try.prog Try.f4 Rows.lruOrderRow.domain false) (Rows.lruOrderSpec.post enc Try.prog Try.f4 false true false false) := by
  refine returnsInHanded_of_change_sized (C := Try.checked) ownS started (by kernel_rfl) Try.func4
    (ChangeSpec.witness6 (enc := enc) (C := Try.checked) false ⟨#[], #[.slice none 0 0], []⟩ 8 (by kernel_rfl) (by kernel_rfl) (by kernel_rfl) (by kernel_rfl)) ?_
  intro W base args ds gs before hval0 hW _ hsz0 _
  have hsz : (DataW.weightsEach Try.prog (Try.f4.params.toList ++ Rows.lruOrderSpec.plain.varTypes Try.prog) (ds ++ gs)).all (· ≤ reachBytes) = true := hsz0
  clear hsz0
  have hval : ∀ (j : Nat) t v, Try.f4.params[j]? = some t → args[j]? = some v → Value.okWide Try.prog W .any base t v := hval0
  have hW' := hW
  obtain ⟨p, q, hA0, hV, rfl, _, _⟩ := hW
  have hA : DataW.TrodAll enc Try.prog W 0 (fun _ => true) true Try.f4.params.toList args.toList ds p := hA0
  rw [Try.params4] at hA hval hsz
  obtain ⟨v0, d0, rfl, rfl, h0⟩ := trodAll_one hA
  obtain ⟨rfl, rfl⟩ := trodVars_none hV
  obtain ⟨a0, len, cap, rfl⟩ := okWide_slice Try.underlying37 (hval 0 37 v0 rfl rfl)
  clear hA0 hval0
  simp only [List.append_nil] at hW'
  have hlt : ∀ x ∈ p, x.block < W.heap.size := fun x hx => by simpa using hW'.lt x hx
  have hw0 : ∀ n ∈ d0.weights Try.prog 37, n ≤ reachBytes := fun n hn => by
    have := List.all_eq_true.1 hsz n (DataW.weights_mem_each (j := 0) (t := 37) (d := d0) rfl rfl n hn)
    simpa using this
  obtain ⟨ss, rfl, hss⟩ := strs_of h0 hw0 hlt
  refine (order_walk a0 ss cap W hss).mono fun e W' ⟨he, bel⟩ => ?_
  subst he
  exact ⟨_, rfl, _, _, _, [], p, [], hW', trodAll_mk1 (shut_bool Try.underlying4 _), trodAll_mk1 (Below.trod laidOutS (by kernel_rfl) (of_decide_eq_true (by kernel_rfl)) h0 bel hlt), rfl, bel.frame _, fun h => by cases h⟩

theorem lruOrder_holds : Rows.LruOrderSaid :=
  OpenClaim.holds_of_wide 4 Try.f4 rfl rfl rfl rfl rfl rfl rfl ⟨rfl, rfl, rfl, rfl, rfl⟩ rfl rfl rfl rfl rfl (by kernel_rfl) Try.func4 (by kernel_rfl)
    (of_decide_eq_true (by kernel_rfl)) (by unfold Func.isWrapper; first | (rw [if_pos (by decide +kernel)]; kernel_rfl) | (rw [if_neg (by decide +kernel)]; exact ⟨rfl, rfl⟩))
    (fun os started H enc _ => order_lifted os started H enc)

#print axioms lruOrder_holds

end Go.Proofs.Ythnmnohhhakjbaa

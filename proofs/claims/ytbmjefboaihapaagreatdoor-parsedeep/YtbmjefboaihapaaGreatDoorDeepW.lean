/-
  ParseDeep: the walk, a form a theorem.
-/
import Derived.Test.YtbmjefboaihapaaGreatDoorDeepB
import Derived.Test.YtbmjefboaihapaaGreatDoorDeepC
namespace Go.Proofs.YtbmjefboaihapaaGreatDoor
set_option maxRecDepth 20000
set_option maxHeartbeats 4000000
open Go.RowKit Go.Shelf

theorem optV_ag {α : Type} {is : α → List Value → Prop} {zero : Array Value} {o : Option α} {e : Ending} (h : OptV is zero o e) : ∃ cs : Array Value, e = .returned (.tuple #[.agg cs, .bool o.isSome]) := by
  cases o with
  | none => exact ⟨zero, h⟩
  | some x => obtain ⟨cs, h, _⟩ := h; exact ⟨_, h⟩
/-- A row of one element or more has a block, and its cells. -/
theorem own_cells {W : World} {base : Nat} {e : TypeId} {size n : Nat} {v : Value} {xs : List Value} (h : W.ownsRow base e size v n xs) (hn : n ≠ 0) : ∃ g c, v = .slice (some ⟨g, 0, none⟩) n c ∧ g < W.heap.size ∧ ∀ j x, j < n * size → xs[j]? = some x → W.cell? ⟨g, j, none⟩ = some x := by
  rcases h.2 with ⟨_, e⟩ | ⟨g, c, cur, rfl, hb, hg, rest⟩
  · exact absurd e hn
  · exact ⟨g, c, rfl, (Array.getElem?_eq_some_iff.1 hg).1, fun j x hj hx => by rw [h.cellAt j hj]; exact hx⟩
theorem deep_lt {c k : Nat} (h : deepChk c k = true) (hk : k < 64) : deepOk c k = true ∧ (deepQ c k).1.length = 2 ∧ (deepQ c k).2.length = 0 := by
  simp only [deepChk, if_pos hk, Bool.and_eq_true, beq_iff_eq] at h
  exact ⟨h.1.1, h.1.2, h.2⟩
theorem deep_ge {c k : Nat} (h : deepChk c k = true) (hk : ¬ k < 64) : deepOk c k = false ∧ (∃ x, (deepQ c k).1 = [x] ∧ x.k = 1) ∧ ∃ y, (deepQ c k).2 = [y] ∧ y.d = 3 := by
  simp only [deepChk, if_neg hk, Bool.and_eq_true, beq_iff_eq, Bool.not_eq_true'] at h
  obtain ⟨⟨⟨⟨h1, h2⟩, h3⟩, h4⟩, h5⟩ := h
  obtain ⟨x, hx⟩ := List.length_eq_one_iff.1 h2
  obtain ⟨y, hy⟩ := List.length_eq_one_iff.1 h3
  rw [hy] at h4
  rw [hx] at h5
  exact ⟨h1, ⟨x, hx, h5⟩, y, hy, h4⟩

theorem deep_0 (n q : Nat) (hn : n < 256) (hq : q < 256) (hc : q % 6 = 0) (w : World) :
    Calls Tryz.prog 7 #[.int .u8 (n : Nat), .int .u8 (q : Nat)] w fun e w' => e = .returned (.bool true) ∧ Below w.heap.size w w' := by
  have HA := Lib.hid (alive_any w)
  obtain ⟨k, hk⟩ : ∃ k, k = n % 90 := ⟨_, rfl⟩
  have HK := Lib.hid (show ((n : Int) % 90) = (k : Int) by omega)
  have HK9 := Lib.hid (show k < 90 by omega)
  have hq6 : ((q : Int) % 6) = 0 := by omega
  clear hk hc
  go_enter Tryz.func7, Tryz.ntmps7
  go_wp2_with fail
  refine HA.out.mono ?_
  rintro e w1 ⟨rfl, b1⟩
  have B1 := Lib.hid b1
  clear b1
  go_wp2_with fail
  rw [HK.out]
  go_loopw [6, 7, 8] (fun s6 s7 s8 wr => ∃ (i : Nat), s8 = .int .i64 (i : Nat) ∧ i ≤ k ∧ (∃ X : ByteArray, s6 = .string X ∧ X.data.toList = rep [40] i) ∧ (∃ Y : ByteArray, s7 = .string Y ∧ Y.data.toList = rep [41] i) ∧ wr = w1) (fun _ _ s8 _ => k - (intOf s8).toNat)
  case atStart => exact ⟨0, rfl, Nat.zero_le _, ⟨_, rfl, rfl⟩, ⟨_, rfl, rfl⟩, rfl⟩
  case round =>
    obtain ⟨i, rfl, hik, ⟨X, rfl, hX⟩, ⟨Y, rfl, hY⟩, rfl⟩ := hrel
    have hXs : X.size ≤ 1000 := by rw [Lib.size_eq, hX, rep_len]; have := HK9.out; simp; omega
    have hYs : Y.size ≤ 1000 := by rw [Lib.size_eq, hY, rep_len]; have := HK9.out; simp; omega
    have HX := Lib.hid hX
    have HY := Lib.hid hY
    clear hX hY
    by_cases hlt : i < k
    · have hd1 : decide ((i : Int) < (k : Int)) = true := by simp; omega
      have hd2 : decide (i < k) = true := by simp; omega
      have HLT := Lib.hid hlt
      have hi9 : i ≤ 100 := by have := HK9.out; omega
      clear hlt hik
      go_wp2_with fail
      refine ⟨⟨i + 1, by simp, by have := HLT.out; omega, ⟨_, rfl, ?_⟩, ⟨_, rfl, ?_⟩, trivial⟩, ?_⟩
      · simp [HX.out, rep]
      · simp [HY.out, rep]
      · simp [intOf]
        have := HLT.out
        omega
    · have hd1 : decide ((i : Int) < (k : Int)) = false := by simp; omega
      have hd2 : decide (i < k) = false := by simp; omega
      obtain rfl : i = k := by omega
      clear hlt hik
      have HS : Hid ((X ++ (⟨#[105, 110, 116]⟩ : ByteArray) ++ Y).data.toList = dpS 0 i) := by
        show _ = _
        simp [HX.out, HY.out, dpS, dpT, dpA, dpB]
      have HP : Hid (((⟨#[116, 121, 112, 101, 32, 116, 32, 61, 32]⟩ : ByteArray) ++ (X ++ (⟨#[105, 110, 116]⟩ : ByteArray) ++ Y) ++ (⟨#[59]⟩ : ByteArray) ++ (⟨#[32, 117, 115, 101, 32, 102, 59]⟩ : ByteArray)).data.toList = dpP 0 i) := by
        show _ = _
        simp [HX.out, HY.out, dpP, dpS, dpT, dpA, dpB]
      have HSZ := Lib.hid (show (X ++ (⟨#[105, 110, 116]⟩ : ByteArray) ++ Y).size ≤ 100000 by simp only [ByteArray.size_append]; have : (⟨#[105, 110, 116]⟩ : ByteArray).size = 3 := rfl; omega)
      have HPZ := Lib.hid (show ((⟨#[116, 121, 112, 101, 32, 116, 32, 61, 32]⟩ : ByteArray) ++ (X ++ (⟨#[105, 110, 116]⟩ : ByteArray) ++ Y) ++ (⟨#[59]⟩ : ByteArray) ++ (⟨#[32, 117, 115, 101, 32, 102, 59]⟩ : ByteArray)).size ≤ 100000 by simp only [ByteArray.size_append]; have : (⟨#[105, 110, 116]⟩ : ByteArray).size = 3 := rfl; have : (⟨#[116, 121, 112, 101, 32, 116, 32, 61, 32]⟩ : ByteArray).size = 9 := rfl; have : (⟨#[59]⟩ : ByteArray).size = 1 := rfl; have : (⟨#[32, 117, 115, 101, 32, 102, 59]⟩ : ByteArray).size = 7 := rfl; omega)
      have HT := Lib.hid (type_any (X ++ (⟨#[105, 110, 116]⟩ : ByteArray) ++ Y) HSZ.out wr)
      have HPP := Lib.hid (fun W => parse_any ((⟨#[116, 121, 112, 101, 32, 116, 32, 61, 32]⟩ : ByteArray) ++ (X ++ (⟨#[105, 110, 116]⟩ : ByteArray) ++ Y) ++ (⟨#[59]⟩ : ByteArray) ++ (⟨#[32, 117, 115, 101, 32, 102, 59]⟩ : ByteArray)) HPZ.out W)
      have hi9 : i ≤ 100 := by have := HK9.out; omega
      go_wp2_with fail
      refine HT.out.mono ?_
      rintro e w2 ⟨b2, h2⟩
      obtain ⟨cs, rfl⟩ := optV_ag h2
      obtain ⟨ok, hok⟩ : ∃ ok, ok = (wholeO (readW (typ 64) (toks (X ++ (⟨#[105, 110, 116]⟩ : ByteArray) ++ Y).data.toList)) (dns (X ++ (⟨#[105, 110, 116]⟩ : ByteArray) ++ Y).data.toList)).isSome := ⟨_, rfl⟩
      rw [← hok]
      have HOK := Lib.hid (show ok = deepOk 0 i from hok.trans (by rw [HS.out, tkF_is, dnF_is]; rfl))
      have B2 := Lib.hid (B1.out.trans (b2.mono B1.out.size))
      clear h2 hok b2
      go_wp2_with fail
      refine (HPP.out _).mono ?_
      rintro e w3 ⟨vl, vd, rfl, b3, h3, h4⟩
      have B3 := Lib.hid (B2.out.trans (b3.mono B2.out.size))
      rw [HP.out, deepQ_is] at h3 h4
      by_cases hk6 : i < 64
      · obtain ⟨q1, q2, q3⟩ := deep_lt (chk0 HK9.out) hk6
        rw [q2] at h3
        rw [q3] at h4
        obtain ⟨g, cap, xs, rfl, -, -, -, -⟩ := row_cells h3 (by decide)
        obtain ⟨ad, cd, rfl⟩ := row_slice h4
        obtain rfl : ok = true := HOK.out.trans q1
        have hd3 : decide ((i : Int) + 1 ≤ 64) = true := by simp; omega
        clear b3 h3 h4 q1 q2 q3 HOK HP HS HPZ HSZ HT HPP
        go_wp2_with fail
        go_ret
        exact ⟨rfl, B3.out⟩
      · obtain ⟨q1, ⟨x, q2, hx⟩, y, q3, hy⟩ := deep_ge (chk0 HK9.out) hk6
        rw [q2] at h3
        rw [q3] at h4
        obtain ⟨g, cap, xs, rfl, -, hg, hcs, hcell⟩ := row_cells h3 (by simp)
        simp only [encDs, List.flatMap_cons, List.flatMap_nil, encD, List.append_nil] at hcs
        obtain ⟨x0, ys, rfl, k0, hcs⟩ := hcs.uncons
        simp only [IsC] at k0
        rw [hx] at k0
        subst k0
        have c0 := hcell 0 _ (by simp) rfl
        obtain ⟨g', cap', rfl, hg', hcell'⟩ := own_cells h4 (by simp)
        have c1 := hcell' 1 (.int .i64 (y.d : Nat)) (by simp) (by simp [dnCells, Dn.cells])
        rw [hy] at c1
        obtain rfl : ok = false := HOK.out.trans q1
        have hd3 : decide ((i : Int) + 1 ≤ 64) = false := by simp; omega
        clear b3 h3 h4 q1 q2 q3 HOK HP HS HPZ HSZ HT HPP hcs hcell hcell' hx hy
        go_wp2_with fail
        go_ret
        exact ⟨rfl, B3.out⟩

theorem deep_1 (n q : Nat) (hn : n < 256) (hq : q < 256) (hc : q % 6 = 1) (w : World) :
    Calls Tryz.prog 7 #[.int .u8 (n : Nat), .int .u8 (q : Nat)] w fun e w' => e = .returned (.bool true) ∧ Below w.heap.size w w' := by
  have HA := Lib.hid (alive_any w)
  obtain ⟨k, hk⟩ : ∃ k, k = n % 90 := ⟨_, rfl⟩
  have HK := Lib.hid (show ((n : Int) % 90) = (k : Int) by omega)
  have HK9 := Lib.hid (show k < 90 by omega)
  have hq6 : ((q : Int) % 6) = 1 := by omega
  clear hk hc
  go_enter Tryz.func7, Tryz.ntmps7
  go_wp2_with fail
  refine HA.out.mono ?_
  rintro e w1 ⟨rfl, b1⟩
  have B1 := Lib.hid b1
  clear b1
  go_wp2_with fail
  rw [HK.out]
  go_loopw [6, 7, 8] (fun s6 s7 s8 wr => ∃ (i : Nat), s8 = .int .i64 (i : Nat) ∧ i ≤ k ∧ (∃ X : ByteArray, s6 = .string X ∧ X.data.toList = rep [40] i) ∧ (∃ Y : ByteArray, s7 = .string Y ∧ Y.data.toList = rep [41] i) ∧ wr = w1) (fun _ _ s8 _ => k - (intOf s8).toNat)
  case atStart => exact ⟨0, rfl, Nat.zero_le _, ⟨_, rfl, rfl⟩, ⟨_, rfl, rfl⟩, rfl⟩
  case round =>
    obtain ⟨i, rfl, hik, ⟨X, rfl, hX⟩, ⟨Y, rfl, hY⟩, rfl⟩ := hrel
    have hXs : X.size ≤ 1000 := by rw [Lib.size_eq, hX, rep_len]; have := HK9.out; simp; omega
    have hYs : Y.size ≤ 1000 := by rw [Lib.size_eq, hY, rep_len]; have := HK9.out; simp; omega
    have HX := Lib.hid hX
    have HY := Lib.hid hY
    clear hX hY
    by_cases hlt : i < k
    · have hd1 : decide ((i : Int) < (k : Int)) = true := by simp; omega
      have hd2 : decide (i < k) = true := by simp; omega
      have HLT := Lib.hid hlt
      have hi9 : i ≤ 100 := by have := HK9.out; omega
      clear hlt hik
      go_wp2_with fail
      refine ⟨⟨i + 1, by simp, by have := HLT.out; omega, ⟨_, rfl, ?_⟩, ⟨_, rfl, ?_⟩, trivial⟩, ?_⟩
      · simp [HX.out, rep]
      · simp [HY.out, rep]
      · simp [intOf]
        have := HLT.out
        omega
    · have hd1 : decide ((i : Int) < (k : Int)) = false := by simp; omega
      have hd2 : decide (i < k) = false := by simp; omega
      obtain rfl : i = k := by omega
      clear hlt hik
      have HS : Hid ((X ++ (⟨#[120]⟩ : ByteArray) ++ Y).data.toList = dpS 1 i) := by
        show _ = _
        simp [HX.out, HY.out, dpS, dpT, dpA, dpB]
      have HP : Hid (((⟨#[108, 101, 116, 32, 116, 32, 61, 32]⟩ : ByteArray) ++ (X ++ (⟨#[120]⟩ : ByteArray) ++ Y) ++ (⟨#[59]⟩ : ByteArray) ++ (⟨#[32, 117, 115, 101, 32, 102, 59]⟩ : ByteArray)).data.toList = dpP 1 i) := by
        show _ = _
        simp [HX.out, HY.out, dpP, dpS, dpT, dpA, dpB]
      have HSZ := Lib.hid (show (X ++ (⟨#[120]⟩ : ByteArray) ++ Y).size ≤ 100000 by simp only [ByteArray.size_append]; have : (⟨#[120]⟩ : ByteArray).size = 1 := rfl; omega)
      have HPZ := Lib.hid (show ((⟨#[108, 101, 116, 32, 116, 32, 61, 32]⟩ : ByteArray) ++ (X ++ (⟨#[120]⟩ : ByteArray) ++ Y) ++ (⟨#[59]⟩ : ByteArray) ++ (⟨#[32, 117, 115, 101, 32, 102, 59]⟩ : ByteArray)).size ≤ 100000 by simp only [ByteArray.size_append]; have : (⟨#[120]⟩ : ByteArray).size = 1 := rfl; have : (⟨#[108, 101, 116, 32, 116, 32, 61, 32]⟩ : ByteArray).size = 8 := rfl; have : (⟨#[59]⟩ : ByteArray).size = 1 := rfl; have : (⟨#[32, 117, 115, 101, 32, 102, 59]⟩ : ByteArray).size = 7 := rfl; omega)
      have HT := Lib.hid (exprs_any (X ++ (⟨#[120]⟩ : ByteArray) ++ Y) HSZ.out wr)
      have HPP := Lib.hid (fun W => parse_any ((⟨#[108, 101, 116, 32, 116, 32, 61, 32]⟩ : ByteArray) ++ (X ++ (⟨#[120]⟩ : ByteArray) ++ Y) ++ (⟨#[59]⟩ : ByteArray) ++ (⟨#[32, 117, 115, 101, 32, 102, 59]⟩ : ByteArray)) HPZ.out W)
      have hi9 : i ≤ 100 := by have := HK9.out; omega
      go_wp2_with fail
      refine HT.out.mono ?_
      rintro e w2 ⟨b2, h2⟩
      obtain ⟨cs, rfl⟩ := optV_ag h2
      obtain ⟨ok, hok⟩ : ∃ ok, ok = (wholeO (readW (exp 64) (toks (X ++ (⟨#[120]⟩ : ByteArray) ++ Y).data.toList)) (dns (X ++ (⟨#[120]⟩ : ByteArray) ++ Y).data.toList)).isSome := ⟨_, rfl⟩
      rw [← hok]
      have HOK := Lib.hid (show ok = deepOk 1 i from hok.trans (by rw [HS.out, tkF_is, dnF_is]; rfl))
      have B2 := Lib.hid (B1.out.trans (b2.mono B1.out.size))
      clear h2 hok b2
      go_wp2_with fail
      refine (HPP.out _).mono ?_
      rintro e w3 ⟨vl, vd, rfl, b3, h3, h4⟩
      have B3 := Lib.hid (B2.out.trans (b3.mono B2.out.size))
      rw [HP.out, deepQ_is] at h3 h4
      by_cases hk6 : i < 64
      · obtain ⟨q1, q2, q3⟩ := deep_lt (chk1 HK9.out) hk6
        rw [q2] at h3
        rw [q3] at h4
        obtain ⟨g, cap, xs, rfl, -, -, -, -⟩ := row_cells h3 (by decide)
        obtain ⟨ad, cd, rfl⟩ := row_slice h4
        obtain rfl : ok = true := HOK.out.trans q1
        have hd3 : decide ((i : Int) + 1 ≤ 64) = true := by simp; omega
        clear b3 h3 h4 q1 q2 q3 HOK HP HS HPZ HSZ HT HPP
        go_wp2_with fail
        go_ret
        exact ⟨rfl, B3.out⟩
      · obtain ⟨q1, ⟨x, q2, hx⟩, y, q3, hy⟩ := deep_ge (chk1 HK9.out) hk6
        rw [q2] at h3
        rw [q3] at h4
        obtain ⟨g, cap, xs, rfl, -, hg, hcs, hcell⟩ := row_cells h3 (by simp)
        simp only [encDs, List.flatMap_cons, List.flatMap_nil, encD, List.append_nil] at hcs
        obtain ⟨x0, ys, rfl, k0, hcs⟩ := hcs.uncons
        simp only [IsC] at k0
        rw [hx] at k0
        subst k0
        have c0 := hcell 0 _ (by simp) rfl
        obtain ⟨g', cap', rfl, hg', hcell'⟩ := own_cells h4 (by simp)
        have c1 := hcell' 1 (.int .i64 (y.d : Nat)) (by simp) (by simp [dnCells, Dn.cells])
        rw [hy] at c1
        obtain rfl : ok = false := HOK.out.trans q1
        have hd3 : decide ((i : Int) + 1 ≤ 64) = false := by simp; omega
        clear b3 h3 h4 q1 q2 q3 HOK HP HS HPZ HSZ HT HPP hcs hcell hcell' hx hy
        go_wp2_with fail
        go_ret
        exact ⟨rfl, B3.out⟩

theorem deep_2 (n q : Nat) (hn : n < 256) (hq : q < 256) (hc : q % 6 = 2) (w : World) :
    Calls Tryz.prog 7 #[.int .u8 (n : Nat), .int .u8 (q : Nat)] w fun e w' => e = .returned (.bool true) ∧ Below w.heap.size w w' := by
  have HA := Lib.hid (alive_any w)
  obtain ⟨k, hk⟩ : ∃ k, k = n % 90 := ⟨_, rfl⟩
  have HK := Lib.hid (show ((n : Int) % 90) = (k : Int) by omega)
  have HK9 := Lib.hid (show k < 90 by omega)
  have hq6 : ((q : Int) % 6) = 2 := by omega
  clear hk hc
  go_enter Tryz.func7, Tryz.ntmps7
  go_wp2_with fail
  refine HA.out.mono ?_
  rintro e w1 ⟨rfl, b1⟩
  have B1 := Lib.hid b1
  clear b1
  go_wp2_with fail
  rw [HK.out]
  go_loopw [6, 7, 8] (fun s6 s7 s8 wr => ∃ (i : Nat), s8 = .int .i64 (i : Nat) ∧ i ≤ k ∧ (∃ X : ByteArray, s6 = .string X ∧ X.data.toList = rep [123, 97, 58, 32] i) ∧ (∃ Y : ByteArray, s7 = .string Y ∧ Y.data.toList = rep [125] i) ∧ wr = w1) (fun _ _ s8 _ => k - (intOf s8).toNat)
  case atStart => exact ⟨0, rfl, Nat.zero_le _, ⟨_, rfl, rfl⟩, ⟨_, rfl, rfl⟩, rfl⟩
  case round =>
    obtain ⟨i, rfl, hik, ⟨X, rfl, hX⟩, ⟨Y, rfl, hY⟩, rfl⟩ := hrel
    have hXs : X.size ≤ 1000 := by rw [Lib.size_eq, hX, rep_len]; have := HK9.out; simp; omega
    have hYs : Y.size ≤ 1000 := by rw [Lib.size_eq, hY, rep_len]; have := HK9.out; simp; omega
    have HX := Lib.hid hX
    have HY := Lib.hid hY
    clear hX hY
    by_cases hlt : i < k
    · have hd1 : decide ((i : Int) < (k : Int)) = true := by simp; omega
      have hd2 : decide (i < k) = true := by simp; omega
      have HLT := Lib.hid hlt
      have hi9 : i ≤ 100 := by have := HK9.out; omega
      clear hlt hik
      go_wp2_with fail
      refine ⟨⟨i + 1, by simp, by have := HLT.out; omega, ⟨_, rfl, ?_⟩, ⟨_, rfl, ?_⟩, trivial⟩, ?_⟩
      · simp [HX.out, rep]
      · simp [HY.out, rep]
      · simp [intOf]
        have := HLT.out
        omega
    · have hd1 : decide ((i : Int) < (k : Int)) = false := by simp; omega
      have hd2 : decide (i < k) = false := by simp; omega
      obtain rfl : i = k := by omega
      clear hlt hik
      have HS : Hid ((X ++ (⟨#[105, 110, 116]⟩ : ByteArray) ++ Y).data.toList = dpS 2 i) := by
        show _ = _
        simp [HX.out, HY.out, dpS, dpT, dpA, dpB]
      have HP : Hid (((⟨#[116, 121, 112, 101, 32, 116, 32, 61, 32]⟩ : ByteArray) ++ (X ++ (⟨#[105, 110, 116]⟩ : ByteArray) ++ Y) ++ (⟨#[59]⟩ : ByteArray) ++ (⟨#[32, 117, 115, 101, 32, 102, 59]⟩ : ByteArray)).data.toList = dpP 2 i) := by
        show _ = _
        simp [HX.out, HY.out, dpP, dpS, dpT, dpA, dpB]
      have HSZ := Lib.hid (show (X ++ (⟨#[105, 110, 116]⟩ : ByteArray) ++ Y).size ≤ 100000 by simp only [ByteArray.size_append]; have : (⟨#[105, 110, 116]⟩ : ByteArray).size = 3 := rfl; omega)
      have HPZ := Lib.hid (show ((⟨#[116, 121, 112, 101, 32, 116, 32, 61, 32]⟩ : ByteArray) ++ (X ++ (⟨#[105, 110, 116]⟩ : ByteArray) ++ Y) ++ (⟨#[59]⟩ : ByteArray) ++ (⟨#[32, 117, 115, 101, 32, 102, 59]⟩ : ByteArray)).size ≤ 100000 by simp only [ByteArray.size_append]; have : (⟨#[105, 110, 116]⟩ : ByteArray).size = 3 := rfl; have : (⟨#[116, 121, 112, 101, 32, 116, 32, 61, 32]⟩ : ByteArray).size = 9 := rfl; have : (⟨#[59]⟩ : ByteArray).size = 1 := rfl; have : (⟨#[32, 117, 115, 101, 32, 102, 59]⟩ : ByteArray).size = 7 := rfl; omega)
      have HT := Lib.hid (type_any (X ++ (⟨#[105, 110, 116]⟩ : ByteArray) ++ Y) HSZ.out wr)
      have HPP := Lib.hid (fun W => parse_any ((⟨#[116, 121, 112, 101, 32, 116, 32, 61, 32]⟩ : ByteArray) ++ (X ++ (⟨#[105, 110, 116]⟩ : ByteArray) ++ Y) ++ (⟨#[59]⟩ : ByteArray) ++ (⟨#[32, 117, 115, 101, 32, 102, 59]⟩ : ByteArray)) HPZ.out W)
      have hi9 : i ≤ 100 := by have := HK9.out; omega
      go_wp2_with fail
      refine HT.out.mono ?_
      rintro e w2 ⟨b2, h2⟩
      obtain ⟨cs, rfl⟩ := optV_ag h2
      obtain ⟨ok, hok⟩ : ∃ ok, ok = (wholeO (readW (typ 64) (toks (X ++ (⟨#[105, 110, 116]⟩ : ByteArray) ++ Y).data.toList)) (dns (X ++ (⟨#[105, 110, 116]⟩ : ByteArray) ++ Y).data.toList)).isSome := ⟨_, rfl⟩
      rw [← hok]
      have HOK := Lib.hid (show ok = deepOk 2 i from hok.trans (by rw [HS.out, tkF_is, dnF_is]; rfl))
      have B2 := Lib.hid (B1.out.trans (b2.mono B1.out.size))
      clear h2 hok b2
      go_wp2_with fail
      refine (HPP.out _).mono ?_
      rintro e w3 ⟨vl, vd, rfl, b3, h3, h4⟩
      have B3 := Lib.hid (B2.out.trans (b3.mono B2.out.size))
      rw [HP.out, deepQ_is] at h3 h4
      by_cases hk6 : i < 64
      · obtain ⟨q1, q2, q3⟩ := deep_lt (chk2 HK9.out) hk6
        rw [q2] at h3
        rw [q3] at h4
        obtain ⟨g, cap, xs, rfl, -, -, -, -⟩ := row_cells h3 (by decide)
        obtain ⟨ad, cd, rfl⟩ := row_slice h4
        obtain rfl : ok = true := HOK.out.trans q1
        have hd3 : decide ((i : Int) + 1 ≤ 64) = true := by simp; omega
        clear b3 h3 h4 q1 q2 q3 HOK HP HS HPZ HSZ HT HPP
        go_wp2_with fail
        go_ret
        exact ⟨rfl, B3.out⟩
      · obtain ⟨q1, ⟨x, q2, hx⟩, y, q3, hy⟩ := deep_ge (chk2 HK9.out) hk6
        rw [q2] at h3
        rw [q3] at h4
        obtain ⟨g, cap, xs, rfl, -, hg, hcs, hcell⟩ := row_cells h3 (by simp)
        simp only [encDs, List.flatMap_cons, List.flatMap_nil, encD, List.append_nil] at hcs
        obtain ⟨x0, ys, rfl, k0, hcs⟩ := hcs.uncons
        simp only [IsC] at k0
        rw [hx] at k0
        subst k0
        have c0 := hcell 0 _ (by simp) rfl
        obtain ⟨g', cap', rfl, hg', hcell'⟩ := own_cells h4 (by simp)
        have c1 := hcell' 1 (.int .i64 (y.d : Nat)) (by simp) (by simp [dnCells, Dn.cells])
        rw [hy] at c1
        obtain rfl : ok = false := HOK.out.trans q1
        have hd3 : decide ((i : Int) + 1 ≤ 64) = false := by simp; omega
        clear b3 h3 h4 q1 q2 q3 HOK HP HS HPZ HSZ HT HPP hcs hcell hcell' hx hy
        go_wp2_with fail
        go_ret
        exact ⟨rfl, B3.out⟩

end Go.Proofs.YtbmjefboaihapaaGreatDoor

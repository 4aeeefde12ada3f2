/-
  The walk of the law LexJoins.
-/
import Derived.Test.YtiblndmblchhmaaPure2
import Derived.Lib.QuietBelow
namespace Go.Proofs.Ytiblndmblchhmaa
open Go.RowKit Go.Shelf Go.Sort

theorem str_join (a b : ByteArray) : (a ++ (⟨#[10]⟩ : ByteArray) ++ b).data.toList = a.data.toList ++ 10 :: b.data.toList := by
  simp

theorem sameT_self (l : List Tk) : sameT l l = true := by simp [sameT]
theorem sameT_up (k : Nat) (l : List Tk) : sameT (l.map (Tk.up k)) l = true := by
  rw [sameT, beq_iff_eq, List.map_map]
  rfl

theorem told_in (l : Bs) : ∀ t ∈ told l, t.a < l.length := by
  obtain ⟨h1, h2⟩ := pieces_at l.length 0 l (Nat.le_refl _)
  intro t ht
  simp only [told, toldOf, List.mem_filterMap] at ht
  obtain ⟨x, hx, he⟩ := ht
  split at he
  · cases he
  · cases he
    have := (h1 x hx).2
    show x.at_ < l.length
    omega

theorem Tris.atD {W : World} {a0 : Option Addr} {L : List Dg} (h : Tris W a0 (L.map Dg.tri)) {i : Nat} {t : Dg} (ht : L[i]? = some t) :
    ∃ g o, a0 = some ⟨g, o, none⟩ ∧ g < W.heap.size ∧ W.cell? ⟨g, o + i * 3, none⟩ = some (.int .i64 t.a) ∧ W.cell? ⟨g, o + i * 3 + 1, none⟩ = some (.int .i64 t.d) ∧ W.cell? ⟨g, o + i * 3 + 2, none⟩ = some (.string ⟨#[]⟩) := by
  obtain ⟨g, o, h1, h2, h3, h4, h5⟩ := h i (t.tri) (by simp [ht])
  rw [Nat.mul_comm] at h3 h4 h5
  exact ⟨g, o, h1, h2, h3, h4, h5⟩

set_option maxRecDepth 20000 in
set_option maxHeartbeats 4000000 in
theorem joins_walk (a b : ByteArray) (w : World) (ha : a.size ≤ 281474976710656) (hb : b.size ≤ 281474976710656) :
    Calls Try.prog 6 #[.string a, .string b] w fun e w' => e = .returned (.bool true) ∧ Below w.heap.size w w' := by
  by_cases hbig : 600 < a.size
  · have h1 : decide ((600 : Int) < (a.size : Int)) = true := by simp; omega
    go_enter Try.func6, Try.ntmps6
    go_wp2_with fail
    refine (alive_any _).mono ?_
    rintro e w1 ⟨rfl, b1⟩
    go_wp2_with fail
    go_ret
    exact ⟨rfl, b1⟩
  have h1 : decide ((600 : Int) < (a.size : Int)) = false := by simp; omega
  by_cases hbig2 : 600 < b.size
  · have h2 : decide ((600 : Int) < (b.size : Int)) = true := by simp; omega
    go_enter Try.func6, Try.ntmps6
    go_wp2_with fail
    refine (alive_any _).mono ?_
    rintro e w1 ⟨rfl, b1⟩
    go_wp2_with fail
    go_ret
    exact ⟨rfl, b1⟩
  have h2 : decide ((600 : Int) < (b.size : Int)) = false := by simp; omega
  have hla := lex_is a (by omega)
  have hlb := lex_is b (by omega)
  have hz : (⟨#[10]⟩ : ByteArray).size = 1 := rfl
  have hlj := lex_is (a ++ (⟨#[10]⟩ : ByteArray) ++ b) (by rw [ByteArray.size_append, ByteArray.size_append, hz]; omega)
  clear hz
  rw [str_join] at hlj
  have htj := toks_join a.data.toList b.data.toList
  have hdj := told_join a.data.toList b.data.toList
  obtain ⟨A', hA'⟩ : ∃ A', A' = toksOf (pieces 0 a.data.toList) := ⟨_, rfl⟩
  have hA : toks a.data.toList = A' ++ [⟨6, a.size, []⟩] := by rw [hA', Lib.size_eq]; rfl
  rw [← hA'] at htj
  rw [← Lib.size_eq] at htj hdj
  obtain ⟨M, hM⟩ : ∃ M, M = toks b.data.toList := ⟨_, rfl⟩
  obtain ⟨D, hD⟩ : ∃ D, D = told a.data.toList := ⟨_, rfl⟩
  obtain ⟨E, hE⟩ : ∃ E, E = told b.data.toList := ⟨_, rfl⟩
  rw [← hM] at htj
  rw [← hD, ← hE] at hdj
  simp only [hA, htj, hdj, ← hM, ← hD, ← hE] at hla hlb hlj
  have n1 : A'.length ≤ 1000 := by
    rw [hA']; have := toksOf_le (pieces 0 a.data.toList); have := pieces_le a.data.toList.length 0 a.data.toList (Nat.le_refl _); rw [← Lib.size_eq] at this; omega
  have n2 : M.length ≤ 1000 := by
    rw [hM, toks, List.length_append]; have := toksOf_le (pieces 0 b.data.toList); have := pieces_le b.data.toList.length 0 b.data.toList (Nat.le_refl _); rw [← Lib.size_eq] at this; simp; omega
  have n3 : D.length ≤ 1000 := by
    rw [hD, told]; have := toldOf_le (pieces 0 a.data.toList); have := pieces_le a.data.toList.length 0 a.data.toList (Nat.le_refl _); rw [← Lib.size_eq] at this; omega
  have n4 : E.length ≤ 1000 := by
    rw [hE, told]; have := toldOf_le (pieces 0 b.data.toList); have := pieces_le b.data.toList.length 0 b.data.toList (Nat.le_refl _); rw [← Lib.size_eq] at this; omega
  have HMa : Hid (∀ t ∈ M, t.a ≤ 600) := by
    show ∀ t ∈ M, t.a ≤ 600
    intro t ht
    rw [hM] at ht
    have := (toks_places b.data.toList).2 t ht
    rw [← Lib.size_eq] at this
    omega
  have HEa : Hid (∀ t ∈ E, t.a ≤ 600) := by
    show ∀ t ∈ E, t.a ≤ 600
    intro t ht
    rw [hE] at ht
    have := told_in b.data.toList t ht
    rw [← Lib.size_eq] at this
    omega
  have HM : Hid (1 ≤ M.length) := by show 1 ≤ M.length; rw [hM]; exact toks_pos _
  clear hA' hA hM hD hE htj hdj
  simp only [List.length_append, List.length_map, List.length_singleton] at hla hlb hlj
  have HA := Lib.hid hla
  have HB := Lib.hid hlb
  have HJ := Lib.hid hlj
  clear hla hlb hlj
  go_enter Try.func6, Try.ntmps6
  go_wp2_with fail
  refine (alive_any _).mono ?_
  rintro e w1 ⟨rfl, b1⟩
  go_wp2_with fail
  refine (HA.out _).mono ?_
  rintro e w2 ⟨a0, c0, a1, c1, rfl, s0, s1, b2⟩
  go_wp2_with fail
  refine (HB.out _).mono ?_
  rintro e w3 ⟨a2, c2, a3, c3, rfl, s2, s3, b3⟩
  go_wp2_with fail
  refine (HJ.out _).mono ?_
  rintro e w4 ⟨a4, c4, a5, c5, rfl, s4, s5, b4⟩
  have B4 : Below w.heap.size w w4 := ((b1.trans (b2.mono b1.size)).trans (b3.mono (Nat.le_trans b1.size b2.size))).trans (b4.mono (Nat.le_trans (Nat.le_trans b1.size b2.size) b3.size))
  have S0 := (s0.below b3).below b4
  have S1 := (s1.below b3).below b4
  have S2 := s2.below b4
  have S3 := s3.below b4
  clear s0 s1 s2 s3 b1 b2 b3 b4
  have m0 : 1 ≤ M.length := HM.out
  have hcap4 := s4.hcap
  simp only [List.length_map, List.length_append] at hcap4
  have hcap0 := S0.hcap
  simp only [List.length_map, List.length_append, List.length_singleton] at hcap0
  obtain ⟨g0, rfl⟩ : ∃ g, a0 = some ⟨g, 0, none⟩ := by
    cases a0 with
    | none => have := (S0.hnone rfl).1; simp at this
    | some x => obtain ⟨g, rfl, _⟩ := S0.hsome x rfl; exact ⟨g, rfl⟩
  obtain ⟨g2, rfl⟩ : ∃ g, a2 = some ⟨g, 0, none⟩ := by
    cases a2 with
    | none => have := (S2.hnone rfl).1; simp at this; rw [this] at m0; simp at m0
    | some x => obtain ⟨g, rfl, _⟩ := S2.hsome x rfl; exact ⟨g, rfl⟩
  obtain ⟨g4, rfl⟩ : ∃ g, a4 = some ⟨g, 0, none⟩ := by
    cases a4 with
    | none => have := (s4.hnone rfl).1; simp at this; rw [this.2] at m0; simp at m0
    | some x => obtain ⟨g, rfl, _⟩ := s4.hsome x rfl; exact ⟨g, rfl⟩
  have hT1 : Tris w4 (some ⟨g4, 0, none⟩) (A'.map Tk.tri) := by
    have := s4.tris.take A'.length
    rw [List.map_append, List.take_left' (by simp)] at this
    exact this
  have hT2 : Tris w4 (some ⟨g4, 0 + 3 * A'.length, none⟩) ((M.map (Tk.up (a.size + 1))).map Tk.tri) := by
    have := s4.tris.drop A'.length
    rw [List.map_append, List.drop_left' (by simp)] at this
    exact this
  have hT3 : Tris w4 (some ⟨g0, 0, none⟩) (A'.map Tk.tri) := by
    have := S0.tris.take A'.length
    rw [List.map_append, List.take_left' (by simp)] at this
    exact this
  have cS1 : ∀ p : Regrown, Calls Try.prog 15 #[.slice (some ⟨g4, 0, none⟩) A'.length c4, .slice (some ⟨g0, 0, none⟩) A'.length c0] (grow (redrawn w4 p.d) p.os) fun e w'' => e = .returned (.bool true) ∧ ∃ p : Regrown, w'' = grow (redrawn w4 p.d) p.os := by
    intro p
    refine Calls.regrown_of ?_
    have := same_any (some ⟨g4, 0, none⟩) (some ⟨g0, 0, none⟩) c4 c0 A' A' (by omega) (by omega) (grow (redrawn w4 p.d) p.os) (hT1.below (below_regrown w4 p.d p.os)) (hT3.below (below_regrown w4 p.d p.os))
    rw [sameT_self] at this
    exact this
  have hT4 : Tris w4 (some ⟨g4, A'.length * 3, none⟩) ((M.map (Tk.up (a.size + 1))).map Tk.tri) := by
    rw [Nat.zero_add, Nat.mul_comm] at hT2
    exact hT2
  have hT5 := S2.tris
  have cS2 : ∀ p : Regrown, Calls Try.prog 15 #[.slice (some ⟨g4, A'.length * 3, none⟩) M.length (c4 - A'.length), .slice (some ⟨g2, 0, none⟩) M.length c2] (grow (redrawn w4 p.d) p.os) fun e w'' => e = .returned (.bool true) ∧ ∃ p : Regrown, w'' = grow (redrawn w4 p.d) p.os := by
    intro p
    refine Calls.regrown_of ?_
    have := same_any (some ⟨g4, A'.length * 3, none⟩) (some ⟨g2, 0, none⟩) (c4 - A'.length) c2 (M.map (Tk.up (a.size + 1))) M (by rw [List.length_map]; omega) (by omega) (grow (redrawn w4 p.d) p.os) (hT4.below (below_regrown w4 p.d p.os)) (hT5.below (below_regrown w4 p.d p.os))
    rw [sameT_up, List.length_map] at this
    exact this
  have HT4 := Lib.hid hT4
  have HT5 := Lib.hid hT5
  have HS5 := Lib.hid s5.tris
  have HS1 := Lib.hid S1.tris
  have HS3 := Lib.hid S3.tris
  clear hT1 hT2 hT3 hT4 hT5 S0 S1 S2 S3 s4 s5
  have e1 : ((A'.length + M.length : Nat) : Int) = ((A'.length : Int) + 1 + (M.length : Int) - 1) := by omega
  go_wp2_with fail
  refine wp_region_quiet_below (by kernel_rfl) (by kernel_rfl) ?_
  repeat (go_big_quiet_step (first | exact cS1 _ | exact cS2 _))
  refine wpQuiet_nil ?_
  intro w5 hw5
  have b5 : Below w4.heap.size w4 w5 := by
    obtain ⟨p, rfl⟩ := hw5
    exact below_regrown w4 p.d p.os
  clear hw5 cS1 cS2 e1
  go_wp2_with fail
  go_loopw [11] (fun s11 wr => ∃ i : Nat, s11 = .int .i64 (i : Int) ∧ i ≤ M.length ∧ Below w4.heap.size w4 wr) (fun s11 _ => M.length - (intOf s11).toNat)
  case atStart => exact ⟨0, rfl, Nat.zero_le _, b5⟩
  case round =>
    clear b5
    obtain ⟨i, rfl, hi, hB⟩ := hrel
    by_cases hlt : i < M.length
    · obtain ⟨x, hx⟩ : ∃ x, M[i]? = some x := ⟨_, List.getElem?_eq_getElem hlt⟩
      obtain ⟨g, o, eg, hg, p0, p1, p2⟩ := HT5.out.at hx
      cases eg
      obtain ⟨g', o', eg', hg', q0, q1, q2⟩ := HT4.out.at (i := i) (t := x.up (a.size + 1)) (by simp [hx])
      cases eg'
      have r1 := (hB.cell (p := ⟨g2, _, none⟩) hg).trans p1
      have u1 := (hB.cell (p := ⟨g4, _, none⟩) hg').trans q1
      simp only [Tk.up] at u1
      rw [show A'.length * 3 + i * 3 + 1 = (A'.length + i) * 3 + 1 by omega] at u1
      rw [Nat.zero_add] at r1
      have hxa := HMa.out x (List.mem_of_getElem? hx)
      rw [show ((x.a + (a.size + 1) : Nat) : Int) = (x.a : Int) + (a.size : Int) + 1 by omega] at u1
      clear p0 p1 p2 q0 q1 q2 hx
      obtain ⟨xk, xa, xt⟩ := x
      simp only at u1 r1 hxa
      go_wp2_with fail
      go_quiet (fail)
      go_wp2_with fail
      go_roundw
      case rel => exact ⟨i + 1, by go_num, by omega, ⟨hB.os, hB.tape, hB.output, hB.size, hB.block⟩⟩
      case measure => simp [intOf]; omega
    · have hil : i = M.length := by omega
      clear hlt
      go_wp2_with fail
      go_loopw [12] (fun s12 wx => ∃ j : Nat, s12 = .int .i64 (j : Int) ∧ j ≤ D.length + E.length ∧ Below w4.heap.size w4 wx) (fun s12 _ => D.length + E.length - (intOf s12).toNat)
      case atStart => exact ⟨0, rfl, Nat.zero_le _, hB⟩
      case round =>
        obtain ⟨j, rfl, hj, hB2⟩ := hrel
        clear hB hil hi
        by_cases hlt : j < D.length
        · obtain ⟨x, hx⟩ : ∃ x, D[j]? = some x := ⟨_, List.getElem?_eq_getElem hlt⟩
          obtain ⟨g, o, rfl, hg, p0, p1, p2⟩ := HS1.out.atD hx
          obtain ⟨g', o', rfl, hg', q0, q1, q2⟩ := HS5.out.atD (i := j) (t := x) (by rw [List.getElem?_append_left hlt]; exact hx)
          have r0 := (hB2.cell (p := ⟨g, _, none⟩) hg).trans p0
          have r1 := (hB2.cell (p := ⟨g, _, none⟩) hg).trans p1
          have r2 := (hB2.cell (p := ⟨g, _, none⟩) hg).trans p2
          have u0 := (hB2.cell (p := ⟨g', _, none⟩) hg').trans q0
          have u1 := (hB2.cell (p := ⟨g', _, none⟩) hg').trans q1
          have u2 := (hB2.cell (p := ⟨g', _, none⟩) hg').trans q2
          clear p0 p1 p2 q0 q1 q2 hx
          have h4 : decide ((j : Int) < (D.length : Int)) = true := by simp; omega
          have h5 : decide ((D.length : Int) ≤ (j : Int)) = false := by simp; omega
          have h6 : ¬ (D.length : Int) ≤ (j : Int) := by omega
          have h5' : decide (D.length ≤ j) = false := by simp; omega
          have hj2 : j < D.length + E.length := by omega
          go_wp2_with fail
          go_quiet (fail)
          go_wp2_with fail
          go_roundw
          case rel => exact ⟨j + 1, by go_num, by omega, ⟨hB2.os, hB2.tape, hB2.output, hB2.size, hB2.block⟩⟩
          case measure => simp [intOf]; omega
        · by_cases hlt2 : j < D.length + E.length
          · obtain ⟨k, rfl⟩ : ∃ k, j = D.length + k := ⟨j - D.length, by omega⟩
            obtain ⟨x, hx⟩ : ∃ x, E[k]? = some x := ⟨_, List.getElem?_eq_getElem (by omega)⟩
            obtain ⟨g, o, rfl, hg, p0, p1, p2⟩ := HS3.out.atD hx
            obtain ⟨g', o', rfl, hg', q0, q1, q2⟩ := HS5.out.atD (i := D.length + k) (t := x.up (a.size + 1)) (by rw [List.getElem?_append_right (by omega), Nat.add_sub_cancel_left]; simp [hx])
            have r0 := (hB2.cell (p := ⟨g, _, none⟩) hg).trans p0
            have u0 := (hB2.cell (p := ⟨g', _, none⟩) hg').trans q0
            have hxa := HEa.out x (List.mem_of_getElem? hx)
            simp only [Dg.up] at u0
            rw [show ((x.a + (a.size + 1) : Nat) : Int) = (x.a : Int) + (a.size : Int) + 1 by omega] at u0
            clear p0 p1 p2 q0 q1 q2 hx
            have h4 : decide ((D.length : Int) + (k : Int) < (D.length : Int)) = false := by simp; omega
            have h4' : ¬ (D.length : Int) + (k : Int) < (D.length : Int) := by omega
            have h5 : decide ((D.length : Int) ≤ (D.length : Int) + (k : Int)) = true := by simp; omega
            have hk : k < E.length := by omega
            go_wp2_with fail
            go_quiet (fail)
            go_wp2_with fail
            go_roundw
            case rel => exact ⟨D.length + k + 1, by go_num, by omega, ⟨hB2.os, hB2.tape, hB2.output, hB2.size, hB2.block⟩⟩
            case measure => simp [intOf]; omega
          · have hjl : j = D.length + E.length := by omega
            have hge : decide ((j : Int) < ((D.length + E.length : Nat) : Int)) = false := by simp; omega
            go_wp2_with fail
            go_ret
            exact ⟨rfl, B4.trans (hB2.mono B4.size)⟩

end Go.Proofs.Ytiblndmblchhmaa

/-
  The walk of the law LexAll.
-/
import Derived.Test.YtiblndmblchhmaaRefB
namespace Go.Proofs.Ytiblndmblchhmaa
open Go.RowKit Go.Shelf

set_option maxRecDepth 20000 in
set_option maxHeartbeats 4000000 in
theorem all_walk (s : ByteArray) (w : World) (_hs : s.size ≤ 281474976710656) : Calls Try.prog 3 #[.string s] w fun e w' => e = .returned (.bool true) ∧ Below w.heap.size w w' := by
  by_cases hbig : 2000 < s.size
  · have h1 : decide ((2000 : Int) < (s.size : Int)) = true := by simp; omega
    go_enter Try.func3, Try.ntmps3
    go_wp2_with fail
    refine (alive_any _).mono ?_
    rintro e w1 ⟨rfl, b1⟩
    go_wp2_with fail
    go_ret
    exact ⟨rfl, b1⟩
  have h1 : decide ((2000 : Int) < (s.size : Int)) = false := by simp; omega
  have l1 := lex_is s (by omega)
  have l2 := ref_is s (by omega)
  obtain ⟨T, hT⟩ : ∃ T, T = toks s.data.toList := ⟨_, rfl⟩
  obtain ⟨D, hD⟩ : ∃ D, D = told s.data.toList := ⟨_, rfl⟩
  rw [← hT, ← hD] at l1 l2
  have n1 : T.length ≤ 2001 := by
    rw [hT, toks, List.length_append]; have := toksOf_le (pieces 0 s.data.toList); have := pieces_le s.data.toList.length 0 s.data.toList (Nat.le_refl _); rw [← Lib.size_eq] at this; simp; omega
  have n2 : D.length ≤ 2000 := by
    rw [hD, told]; have := toldOf_le (pieces 0 s.data.toList); have := pieces_le s.data.toList.length 0 s.data.toList (Nat.le_refl _); rw [← Lib.size_eq] at this; omega
  have L1 := Lib.hid l1
  have L2 := Lib.hid l2
  clear hT hD l1 l2
  go_enter Try.func3, Try.ntmps3
  go_wp2_with fail
  refine (alive_any _).mono ?_
  rintro e w1 ⟨rfl, b1⟩
  go_wp2_with fail
  refine (L1.out _).mono ?_
  rintro e w2 ⟨a0, c0, a1, c1, rfl, s0, s1, b2⟩
  go_wp2_with fail
  refine (L2.out _).mono ?_
  rintro e w3 ⟨a2, c2, a3, c3, rfl, s2, s3, b3⟩
  have B3 : Below w.heap.size w w3 := (b1.trans (b2.mono b1.size)).trans (b3.mono (Nat.le_trans b1.size b2.size))
  have t0 := s0.tris.below b3
  have t1 := s1.tris.below b3
  have t2 := s2.tris
  have t3 := s3.tris
  have T0 := Lib.hid t0
  have T1 := Lib.hid t1
  have T2 := Lib.hid t2
  have T3 := Lib.hid t3
  clear s0 s1 s2 s3 b1 b2 b3 t0 t1 t2 t3
  go_wp2_with fail
  refine (diags_any a1 c1 D (by omega) _ T1.out).mono ?_
  rintro e w4 ⟨a4, c4, rfl, t4, b4⟩
  have T4 := Lib.hid t4
  have T3' := Lib.hid (T3.out.below b4)
  have B4 := B3.trans (b4.mono B3.size)
  clear t4
  go_wp2_with fail
  refine (samediags_any a4 a3 c4 c3 D (by omega) _ T4.out T3'.out).mono ?_
  rintro e w5 ⟨rfl, b5⟩
  have b45 := b4.trans (b5.mono b4.size)
  have T0' := Lib.hid (T0.out.below b45)
  have T2' := Lib.hid (T2.out.below b45)
  have B5 := B4.trans (b5.mono B4.size)
  clear b4 b5 b45 B3 B4 T3' T4
  go_wp2_with fail
  go_loopw [7] (fun s7 wr => ∃ i : Nat, s7 = .int .i64 (i : Int) ∧ i ≤ T.length ∧ Below w5.heap.size w5 wr) (fun s7 _ => T.length - (intOf s7).toNat)
  case atStart => exact ⟨0, rfl, Nat.zero_le _, Below.refl _ _⟩
  case round =>
    obtain ⟨i, rfl, hi, hB⟩ := hrel
    by_cases hlt : i < T.length
    · obtain ⟨x, hx⟩ : ∃ x, T[i]? = some x := ⟨_, List.getElem?_eq_getElem hlt⟩
      obtain ⟨g, o, rfl, hg, p0, p1, p2⟩ := T0'.out.at hx
      obtain ⟨g', o', rfl, hg', q0, q1, q2⟩ := T2'.out.at hx
      have r0 := (hB.cell (p := ⟨g, _, none⟩) hg).trans p0
      have r1 := (hB.cell (p := ⟨g, _, none⟩) hg).trans p1
      have r2 := (hB.cell (p := ⟨g, _, none⟩) hg).trans p2
      have u0 := (hB.cell (p := ⟨g', _, none⟩) hg').trans q0
      have u1 := (hB.cell (p := ⟨g', _, none⟩) hg').trans q1
      have u2 := (hB.cell (p := ⟨g', _, none⟩) hg').trans q2
      clear p0 p1 p2 q0 q1 q2 hx
      obtain ⟨xk, xa, xt⟩ := x
      simp only at r0 r1 r2 u0 u1 u2
      go_wp2_with fail
      go_quiet (fail)
      go_wp2_with fail
      go_roundw
      case rel => exact ⟨i + 1, by go_num, by omega, ⟨hB.os, hB.tape, hB.output, hB.size, hB.block⟩⟩
      case measure => simp [intOf]; omega
    · have hil : i = T.length := by omega
      have hge : decide ((i : Int) < (T.length : Int)) = false := by simp; omega
      have hge' : decide (i < T.length) = false := by simp; omega
      go_wp2_with fail
      go_ret
      exact ⟨rfl, B5.trans (hB.mono B5.size)⟩

end Go.Proofs.Ytiblndmblchhmaa

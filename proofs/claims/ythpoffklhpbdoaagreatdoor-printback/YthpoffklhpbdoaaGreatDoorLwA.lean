/-
  A caller's view of Type and Expr; the chapter's example of printing: alive tells true.
-/
import Derived.Test.YthpoffklhpbdoaaGreatDoorPdM
namespace Go.Proofs.YthpoffklhpbdoaaGreatDoor
set_option maxRecDepth 100000
open Go.RowKit Go.Shelf

theorem size_of_list {s : ByteArray} {l : Bs} {n : Nat} (h : s.data.toList = l) (hl : l.length ≤ n) : s.size ≤ n := by
  show s.data.size ≤ n
  rw [← Array.length_toList, h]; exact hl
/-- A type and true, or nothing and false. -/
theorem t_opt (l : Bs) (hl : l.length ≤ 100000) (s : ByteArray) (hs : s.data.toList = l) (w : World) :
    Calls Tryz.prog 11 #[.string s] w fun e w' => Below w.heap.size w w' ∧ ∃ k n a2 n2 c2 a3 n3 c3 ok, e = .returned (.tuple #[.agg #[.int .i64 k, .string n, .slice a2 n2 c2, .slice a3 n3 c3], .bool ok]) ∧
      (wT l = none ∧ ok = false ∨ ∃ t, wT l = some t ∧ ok = true ∧ IsCs (fun b => w.heap.size ≤ b) w' (encT 26 t) [.int .i64 k, .string n, .slice a2 n2 c2, .slice a3 n3 c3]) := by
  refine (type_any s (size_of_list hs hl) w).mono ?_
  rintro e w' ⟨b, h⟩
  rw [hs] at h
  refine ⟨b, ?_⟩
  have hw : wT l = wholeO (readW (typ 64) (toks l)) (dns l) := rfl
  rw [← hw] at h
  cases ho : wT l with
  | none =>
    rw [ho] at h
    exact ⟨0, ⟨#[]⟩, none, 0, 0, none, 0, 0, false, h, .inl ⟨rfl, rfl⟩⟩
  | some t =>
    rw [ho] at h
    obtain ⟨cs, he, hc⟩ := h
    obtain ⟨k, n, ns, ll⟩ := t
    obtain ⟨a2, c2, a3, c3, rfl, -, -⟩ := cells_T2 hc
    exact ⟨_, _, _, _, _, _, _, _, true, he, .inr ⟨_, rfl, rfl, hc⟩⟩
/-- An expression and true, or nothing and false. -/
theorem x_opt (l : Bs) (hl : l.length ≤ 100000) (s : ByteArray) (hs : s.data.toList = l) (w : World) :
    Calls Tryz.prog 13 #[.string s] w fun e w' => Below w.heap.size w w' ∧ ∃ i0 i1 s2 i3 a4 n4 c4 a5 n5 c5 a6 n6 c6 ok, e = .returned (.tuple #[.agg #[.int .i64 i0, .int .i64 i1, .string s2, .int .i64 i3, .slice a4 n4 c4, .slice a5 n5 c5, .slice a6 n6 c6], .bool ok]) ∧
      (wE l = none ∧ ok = false ∨ ∃ x, wE l = some x ∧ ok = true ∧ IsCs (fun b => w.heap.size ≤ b) w' (encE 26 36 x) [.int .i64 i0, .int .i64 i1, .string s2, .int .i64 i3, .slice a4 n4 c4, .slice a5 n5 c5, .slice a6 n6 c6]) := by
  refine (exprs_any s (size_of_list hs hl) w).mono ?_
  rintro e w' ⟨b, h⟩
  rw [hs] at h
  refine ⟨b, ?_⟩
  have hw : wE l = wholeO (readW (exp 64) (toks l)) (dns l) := rfl
  rw [← hw] at h
  cases ho : wE l with
  | none =>
    rw [ho] at h
    exact ⟨0, 0, ⟨#[]⟩, 0, none, 0, 0, none, 0, 0, none, 0, 0, false, h, .inl ⟨rfl, rfl⟩⟩
  | some x =>
    rw [ho] at h
    obtain ⟨cs, he, hc⟩ := h
    obtain ⟨k, a, n, m, ns, ll, ts⟩ := x
    obtain ⟨a4, c4, a5, c5, a6, c6, rfl, -, -, -⟩ := cells_E2 hc
    exact ⟨_, _, _, _, _, _, _, _, _, _, _, _, _, true, he, .inr ⟨_, rfl, rfl, hc⟩⟩

theorem lit06 : wT [105, 110, 116, 45, 62, 40, 105, 110, 116, 124, 98, 111, 111, 108, 41] = some (.mk 6 [] [] [tInt, .mk 7 [] [] [tInt, tBool]]) := by
  rw [wT, toks_lit (L := [(2, 0, [105, 110, 116]), (5, 3, [45, 62]), (5, 5, [40]), (2, 6, [105, 110, 116]), (5, 9, [124]), (2, 10, [98, 111, 111, 108]), (5, 14, [41]), (6, 15, [])]) (by decide), dns_lit (L := []) (by decide)]
  rfl
theorem txt06 : prT 0 (.mk 6 [] [] [tInt, .mk 7 [] [] [tInt, tBool]]) = [105, 110, 116, 32, 45, 62, 32, 40, 105, 110, 116, 32, 124, 32, 98, 111, 111, 108, 41] := by
  simp [prT_mk, markT, bodyT, lvlT, tInt, tBool, joinL]

set_option maxHeartbeats 1000000 in
theorem alive06 (w : World) : Calls Tryz.prog 20 #[] w fun e w' => e = .returned (.bool true) ∧ Below w.heap.size w w' := by
  have H1 := Lib.hid (t_opt _ (by decide) ⟨#[105, 110, 116, 45, 62, 40, 105, 110, 116, 124, 98, 111, 111, 108, 41]⟩ rfl w)
  rw [lit06] at H1
  go_enter Tryz.func20, Tryz.ntmps20
  go_wp2_with fail
  refine H1.out.mono ?_
  rintro e w1 ⟨b1, k, n, a2, n2, c2, a3, n3, c3, ok, rfl, h⟩
  obtain ⟨h, -⟩ | ⟨t, ht, rfl, hc⟩ := h
  · cases h
  cases ht
  obtain ⟨W2, hW2⟩ : ∃ W2, w1.alloc (.cells #[.int .i64 k, .string n, .slice a2 n2 c2, .slice a3 n3 c3] 26) = W2 := ⟨_, rfl⟩
  have hA2 : W2.heap[w1.heap.size]? = some (.cells #[.int .i64 k, .string n, .slice a2 n2 c2, .slice a3 n3 c3] 26 (0, 0)) := by rw [← hW2]; exact heap_alloc_new w1 _
  have hb2 : Below w1.heap.size w1 W2 := by rw [← hW2]; exact (Below.refl _ _).alloc (Nat.le_refl _) _
  obtain ⟨⟨q0, q1, q2, q3⟩, -⟩ := fou_of (t := 26) hA2
  have HP := Lib.hid (printT_any _ _ _ W2 (hc.below hb2) (by rw [txt06]; decide))
  rw [txt06] at HP
  have HB := Lib.hid (b1.trans (hb2.mono b1.size))
  have HW2 := Lib.hid hW2
  clear hc hb2 hA2 hW2 b1
  go_upto_region 2 with fail
  rw [HW2.out]
  go_wp2_with fail
  refine HP.out.mono ?_
  rintro e w3 ⟨rfl, b3⟩
  have B3 := Lib.hid (HB.out.trans (b3.mono HB.out.size))
  clear b3
  go_wp2_with fail
  go_ret
  exact ⟨by first | rfl | simp, B3.out⟩

end Go.Proofs.YthpoffklhpbdoaaGreatDoor

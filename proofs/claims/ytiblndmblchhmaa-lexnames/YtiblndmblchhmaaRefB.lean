/-
  A caller's view of the document's Lex; the contracts of Diags and SameDiags.
-/
import Derived.Test.YtiblndmblchhmaaRef
import Derived.Test.YtiblndmblchhmaaJoins
namespace Go.Proofs.Ytiblndmblchhmaa
open Go.RowKit Go.Shelf

theorem ref_is (s : ByteArray) (hs : s.size ≤ 2000) (w : World) :
    Calls Try.prog 11 #[.string s] w fun e W' => ∃ a0 c0 a1 c1, e = .returned (.tuple #[.slice a0 (toks s.data.toList).length c0, .slice a1 (told s.data.toList).length c1]) ∧
      Sl W' a0 c0 ((toks s.data.toList).map Tk.tri) ∧ Sl W' a1 c1 ((told s.data.toList).map Dg.tri) ∧ Below w.heap.size w W' := by
  refine (ref_raw s hs w).mono ?_
  rintro e W' ⟨v, u, rfl, h1, h2, h3⟩
  rw [tk_flat] at h1
  rw [dg_flat] at h2
  obtain ⟨a0, c0, rfl, p1, p2, p3, p4, p5⟩ := tris_of h1 (by simp)
  obtain ⟨a1, c1, rfl, q1, q2, q3, q4, q5⟩ := tris_of h2 (by simp)
  rw [Lib.size_eq] at p1 p3 p5
  refine ⟨a0, c0, a1, c1, ?_, ⟨p1, p2, p3, p4, p5⟩, ⟨q1, q2, q3, q4, q5⟩, h3⟩
  simp only [List.length_map, toks, told, Lib.size_eq]

theorem dg_snoc_take {D : List Dg} {i : Nat} {x : Dg} (h : D[i]? = some x) : D.take (i + 1) = D.take i ++ [x] := by
  obtain ⟨h1, rfl⟩ := List.getElem?_eq_some_iff.1 h
  exact List.take_succ_eq_append_getElem h1

set_option maxRecDepth 20000 in
set_option maxHeartbeats 4000000 in
/-- The program's diagnostics as the document's. -/
theorem diags_any (a0 : Option Addr) (c0 : Nat) (D : List Dg) (hD : D.length ≤ 100000) (w : World) (hT : Tris w a0 (D.map Dg.tri)) :
    Calls Try.prog 13 #[.slice a0 D.length c0] w fun e W' => ∃ a1 c1, e = .returned (.slice a1 D.length c1) ∧ Tris W' a1 (D.map Dg.tri) ∧ Below w.heap.size w W' := by
  obtain ⟨j0, hj, hy0, hy1, hy2⟩ := info_parts info54
  go_enter Try.func13, Try.ntmps13
  go_wp2_with fail
  go_loopw [3, 4] (fun s3 s4 wr => ∃ i : Nat, s4 = .int .i64 (i : Int) ∧ i ≤ D.length ∧ wr.ownsRow w.heap.size 54 3 s3 (D.take i).length (dgCells (D.take i)) ∧ Below w.heap.size w wr) (fun _ s4 _ => D.length - (intOf s4).toNat)
  case atStart => exact ⟨0, rfl, Nat.zero_le _, World.ownsRow_nil _ _ _ _, Below.refl _ _⟩
  case round =>
    obtain ⟨i, rfl, hi, hr, hB⟩ := hrel
    by_cases hlt : i < D.length
    · obtain ⟨x, hx⟩ : ∃ x, D[i]? = some x := ⟨_, List.getElem?_eq_getElem hlt⟩
      obtain ⟨g, o, rfl, hg, p0, p1, p2⟩ := hT.atD hx
      have r0 := (hB.cell (p := ⟨g, _, none⟩) hg).trans p0
      have r1 := (hB.cell (p := ⟨g, _, none⟩) hg).trans p1
      have r2 := (hB.cell (p := ⟨g, _, none⟩) hg).trans p2
      have HS := Lib.hid (dg_snoc_take hx)
      have htl : (D.take i).length = i := by rw [List.length_take]; omega
      have hmy : (D.take i).length + 1 ≤ maxLen := by unfold maxLen; omega
      have hmb : ((D.take i).length + 1) * 32 ≤ 140737488355328 := by omega
      have hbs := hB.size
      have hba : ∀ o, w.heap.size ≤ (wr.alloc o).heap.size := fun o => by rw [World.size_alloc]; omega
      have HTL := Lib.hid htl
      clear p0 p1 p2 hx htl
      obtain ⟨xa, xd⟩ := x
      simp only at r0 r1 r2
      obtain ⟨ds, hds⟩ : ∃ ds, ds = D.take i := ⟨_, rfl⟩
      rw [← hds] at hr hmy hmb HS HTL
      clear hds
      go_wp2_with (first | (at_builtin; refine wpList_append_own _ rfl (.tmp 11) (.tmp 16) 28 rfl w.heap.size 54 j0 _ 3 32 Try.underlying28 hj hy0 hy1 hy2 rfl (by decide) _ _ _ rfl (hr.alloc _) ⟨wr.heap.size, 0, none⟩ 1 1 [.int .i64 (xa : Int), .int .i64 (xd : Int), .string ⟨#[]⟩] rfl rfl (cells3_new wr _ _ _ 54) one3 hmy hmb (hba _) ?_; intro u' W7 hown7 hg7 hnil7; clear hnil7; obtain ⟨g', cap', rfl⟩ := ownsRow_succ hown7))
      go_roundw
      case rel =>
        refine ⟨i + 1, by go_num, by omega, ?_, grown_below (hB.alloc hbs _) (hr.alloc _) hg7⟩
        rw [HS.out, dgCells_snoc, List.length_append]
        exact hown7
      case measure => simp [intOf]; omega
    · have hil : i = D.length := by omega
      have hge : decide ((i : Int) < (D.length : Int)) = false := by simp; omega
      have hge' : decide (i < D.length) = false := by simp; omega
      rw [List.take_of_length_le (by omega)] at hr
      rw [dg_flat] at hr
      obtain ⟨a1, c1, rfl, q1, q2, q3, q4, q5⟩ := tris_of hr (by simp)
      have HQ := Lib.hid q5
      clear hr q1 q2 q3 q4 q5 hlt
      go_wp2_with fail
      go_ret
      exact ⟨a1, c1, by simp, HQ.out, hB⟩

set_option maxRecDepth 20000 in
set_option maxHeartbeats 4000000 in
theorem samediags_any (a0 a1 : Option Addr) (c0 c1 : Nat) (D : List Dg) (hD : D.length ≤ 100000) (w : World) (h0 : Tris w a0 (D.map Dg.tri)) (h1 : Tris w a1 (D.map Dg.tri)) :
    Calls Try.prog 12 #[.slice a0 D.length c0, .slice a1 D.length c1] w fun e W' => e = .returned (.bool true) ∧ Below w.heap.size w W' := by
  go_enter Try.func12, Try.ntmps12
  go_wp2_with fail
  go_loopw [5] (fun s5 wr => ∃ i : Nat, s5 = .int .i64 (i : Int) ∧ i ≤ D.length ∧ Below w.heap.size w wr) (fun s5 _ => D.length - (intOf s5).toNat)
  case atStart => exact ⟨0, rfl, Nat.zero_le _, Below.refl _ _⟩
  case round =>
    obtain ⟨i, rfl, hi, hB⟩ := hrel
    by_cases hlt : i < D.length
    · obtain ⟨x, hx⟩ : ∃ x, D[i]? = some x := ⟨_, List.getElem?_eq_getElem hlt⟩
      obtain ⟨g, o, rfl, hg, p0, p1, p2⟩ := h0.atD hx
      obtain ⟨g', o', rfl, hg', q0, q1, q2⟩ := h1.atD hx
      have r0 := (hB.cell (p := ⟨g, _, none⟩) hg).trans p0
      have r1 := (hB.cell (p := ⟨g, _, none⟩) hg).trans p1
      have r2 := (hB.cell (p := ⟨g, _, none⟩) hg).trans p2
      have u0 := (hB.cell (p := ⟨g', _, none⟩) hg').trans q0
      have u1 := (hB.cell (p := ⟨g', _, none⟩) hg').trans q1
      have u2 := (hB.cell (p := ⟨g', _, none⟩) hg').trans q2
      clear p0 p1 p2 q0 q1 q2 hx
      obtain ⟨xa, xd⟩ := x
      simp only at r0 r1 r2 u0 u1 u2
      go_wp2_with fail
      go_quiet (fail)
      go_wp2_with fail
      go_roundw
      case rel => exact ⟨i + 1, by go_num, by omega, ⟨hB.os, hB.tape, hB.output, hB.size, hB.block⟩⟩
      case measure => simp [intOf]; omega
    · have hil : i = D.length := by omega
      have hge : decide ((i : Int) < (D.length : Int)) = false := by simp; omega
      have hge' : decide (i < D.length) = false := by simp; omega
      go_wp2_with fail
      go_ret
      exact ⟨rfl, hB⟩

end Go.Proofs.Ytiblndmblchhmaa

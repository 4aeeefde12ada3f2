/-
  The chapter's example: alive tells true.
-/
import Derived.Test.YtijnjoonbjdafaaGreatDoorPsM
import Derived.Test.YtijnjoonbjdafaaGreatDoorWhM
namespace Go.Proofs.YtijnjoonbjdafaaGreatDoor
set_option maxRecDepth 20000
open Go.RowKit Go.Shelf
theorem toks_lit {l : Bs} {L : List (Nat × Nat × Bs)} (h : toksF l = L) : toks l = L.map fun x => ⟨x.1, x.2.1, x.2.2⟩ := by
  rw [← h, ← toks_eqF, List.map_map]
  exact (List.map_id _).symm.trans (List.map_congr_left fun _ _ => rfl)
theorem dns_lit {l : Bs} {L : List (Nat × Nat)} (h : toldF l = L) : dns l = L.map fun x => ⟨x.1, x.2, []⟩ := by
  rw [← h, ← told_eqF, List.map_map]
  rfl
theorem lit_let : parseAll [108, 101, 116, 32, 120, 32, 61, 32, 49, 59] = ([⟨3, 4, [120], [], [.mk 1 8 [] 1 [] [] []]⟩], []) := by
  rw [parseAll, toks_lit (L := [(2, 0, [108, 101, 116]), (1, 4, [120]), (5, 6, [61]), (3, 8, [49]), (5, 9, [59]), (6, 10, [])]) (by decide), dns_lit (L := []) (by decide)]
  rfl
theorem lit_arrow : wholeO (readW (typ 64) (toks [105, 110, 116, 32, 45, 62])) (dns [105, 110, 116, 32, 45, 62]) = none := by
  rw [toks_lit (L := [(2, 0, [105, 110, 116]), (5, 4, [45, 62]), (6, 6, [])]) (by decide), dns_lit (L := []) (by decide)]
  rfl
set_option maxHeartbeats 1000000 in
theorem alive_any (w : World) : Calls Tryz.prog 9 #[] w fun e w' => e = .returned (.bool true) ∧ Below w.heap.size w w' := by
  have H1 := Lib.hid (parse_any ⟨#[108, 101, 116, 32, 120, 32, 61, 32, 49, 59]⟩ (by decide) w)
  have H2 := Lib.hid (fun W => type_any ⟨#[105, 110, 116, 32, 45, 62]⟩ (by decide) W)
  go_enter Tryz.func9, Tryz.ntmps9
  go_wp2_with fail
  refine H1.out.mono ?_
  rintro e w1 ⟨vl, vd, rfl, b1, h1, h2⟩
  have e1 : parseAll (ByteArray.mk #[108, 101, 116, 32, 120, 32, 61, 32, 49, 59]).data.toList = _ := lit_let
  rw [e1] at h1 h2
  obtain ⟨g, c, xs, rfl, hA, hg, hcs, hcell⟩ := row_cells h1 (by simp)
  simp only [encDs, List.flatMap_cons, List.flatMap_nil, encD, List.append_nil] at hcs
  obtain ⟨x0, ys, rfl, k0, hcs⟩ := hcs.uncons
  obtain ⟨x1, ys, rfl, k1, hcs⟩ := hcs.uncons
  obtain ⟨x2, ys, rfl, k2, hcs⟩ := hcs.uncons
  obtain ⟨x3, ys, rfl, k3, hcs⟩ := hcs.uncons
  obtain ⟨x4, ys, rfl, k4, hcs⟩ := hcs.uncons
  simp only [IsC] at k0 k1
  obtain ⟨g2, c2, xs2, rfl, hA2, hg2, hcs2, hcell2⟩ := row_cells k4 (by simp)
  simp only [encEs, encE, List.append_nil] at hcs2
  obtain ⟨z0, ys2, rfl, m0, hcs2⟩ := hcs2.uncons
  simp only [IsC] at m0
  subst k0 k1 m0
  have d0 := hcell 0 _ (by simp) rfl
  have d1 := hcell 1 _ (by simp) rfl
  have d4 := hcell 4 _ (by simp) rfl
  have f0 := hcell2 0 _ (by simp) rfl
  have HD := Lib.hid (show w1.cell? ⟨g, 0, none⟩ = some (.int .i64 3) ∧ w1.cell? ⟨g, 1, none⟩ = some (.int .i64 4) ∧ w1.cell? ⟨g, 4, none⟩ = some (.slice (some ⟨g2, 0, none⟩) 1 c2) ∧ w1.cell? ⟨g2, 0, none⟩ = some (.int .i64 1) from ⟨d0, d1, d4, f0⟩)
  obtain ⟨ad, cd, rfl⟩ := row_slice h2
  have B1 := Lib.hid b1
  have HG := Lib.hid hg
  have HG2 := Lib.hid hg2
  clear h1 h2 e1 hcell hcell2 hcs hcs2 k2 k3 k4 d0 d1 d4 f0 b1 hA hA2 hg hg2
  go_wp2_with fail
  refine (H2.out _).mono ?_
  rintro e w2 ⟨b2, h2⟩
  have e2 : wholeO (readW (typ 64) (toks (ByteArray.mk #[105, 110, 116, 32, 45, 62]).data.toList)) (dns (ByteArray.mk #[105, 110, 116, 32, 45, 62]).data.toList) = _ := lit_arrow
  rw [e2] at h2
  have h2 : e = .returned (.tuple #[.agg #[.int .i64 0, .string ⟨#[]⟩, .slice none 0 0, .slice none 0 0], .bool false]) := h2
  subst h2
  have d0 := (b2.cell (p := ⟨g, 0, none⟩) HG.out).trans HD.out.1
  have d1 := (b2.cell (p := ⟨g, 1, none⟩) HG.out).trans HD.out.2.1
  have d4 := (b2.cell (p := ⟨g, 4, none⟩) HG.out).trans HD.out.2.2.1
  have f0 := (b2.cell (p := ⟨g2, 0, none⟩) HG2.out).trans HD.out.2.2.2
  have l1 : g < w2.heap.size := Nat.lt_of_lt_of_le HG.out b2.size
  have l2 : g2 < w2.heap.size := Nat.lt_of_lt_of_le HG2.out b2.size
  have n1 : ¬ g = w2.heap.size := Nat.ne_of_lt l1
  have n2 : ¬ g2 = w2.heap.size := Nat.ne_of_lt l2
  have B2 := Lib.hid (B1.out.trans (b2.mono B1.out.size))
  clear e2 b2
  go_wp2_with fail
  go_ret
  exact ⟨rfl, B2.out.alloc B2.out.size _⟩
end Go.Proofs.YtijnjoonbjdafaaGreatDoor

/-
  The contract of the deferred closure that catches what was given up, at expressions.
-/
import Derived.Test.YthpoffklhpbdoaaGreatDoorAtt
namespace Go.Proofs.YthpoffklhpbdoaaGreatDoor
set_option maxRecDepth 20000
open Go.RowKit Go.Shelf
set_option maxHeartbeats 1500000 in
theorem catch_76 {B M : Nat} {pb b0 : Nat} {all : List Tk} (y : Dn) (w : World) (ts : List Tk) (told : List Dn) (h : PS B M w pb all ts told) (hM : told.length + 1 + ts.length ≤ M) (hM' : M ≤ 20000000) (hb : w.heap[b0]? = some (bxP pb)) :
    CallsD Tryz.prog 100 #[.pointer (some ⟨b0, 0, none⟩)] (.panicking [gv y]) w fun e u' w' => e = .returned (.tuple #[]) ∧ u' = .panicking [{ gv y with recovered := true }] ∧ PS B M w' pb all ts (told ++ [y]) ∧ Fr B w w' := by
  obtain ⟨j0, hj, hy0, hy1, hy2⟩ := info_parts info65
  have cb : w.cell? ⟨b0, 0, none⟩ = some (.pointer (some ⟨pb, 0, none⟩)) := by simp [World.cell?, hb]
  have hfl := fld103
  have hta := ta103
  unfold gv
  refine callsD_of_wpS Tryz.func100 rfl fun c₀ cs hu => ?_
  apply wpS_seq
  apply wpS_region
  simp [wpOpsS, go_sem, recoverD, hu, Tryz.ntmps100, Exit.thenS]
  refine wpS_of_wp (wp_act (a' := { tmps := #[.pointer (some ⟨b0, 0, none⟩), .iface 115 (.agg #[.int .i64 (y.a : Nat), .int .i64 (y.d : Nat), .string ⟨y.n.toArray⟩]), .iface 115 (.agg #[.int .i64 (y.a : Nat), .int .i64 (y.d : Nat), .string ⟨y.n.toArray⟩]), undef, undef, undef, undef, undef, undef, undef, undef, undef, undef, undef, undef, undef, undef], defers := [] }) (by kernel_rfl) ?_)
  have P3 := Lib.hid h
  have HBT := Lib.hid hM
  obtain ⟨vt, vd, i3, h6, -, h8, -⟩ := P3.out.ex
  obtain ⟨⟨c0, c1, c2⟩, u0, u1, u2⟩ := thr_of h6
  have H6 := Lib.hid h6
  have R65 : Hid (∀ W : World, W.heap = (w.alloc (.cells #[.int .i64 (y.a : Nat), .int .i64 (y.d : Nat), .string ⟨y.n.toArray⟩] 113)).heap → W.ownsRow B 113 3 vd told.length (dnCells told)) := fun W e => by
    have := h8.alloc (.cells #[.int .i64 (y.a : Nat), .int .i64 (y.d : Nat), .string ⟨y.n.toArray⟩] 113)
    refine ⟨this.1, ?_⟩
    rw [e]
    exact this.2
  have hmx : told.length + 1 ≤ maxLen := by unfold maxLen; omega
  have hmb : (told.length + 1) * 32 ≤ 140737488355328 := by omega
  have HBS := Lib.hid (show B ≤ w.heap.size + 1 by have := P3.out.hi; omega)
  have HN65 := Lib.hid (World.news_of_block (heap_alloc_new w (.cells #[.int .i64 (y.a : Nat), .int .i64 (y.d : Nat), .string ⟨y.n.toArray⟩] 113)))
  have HPL := Lib.hid P3.out.lt
  have HNE := Lib.hid (show some pb ≠ vd.ownBlock from fun e => by
    rcases h8.2 with ⟨rfl, _⟩ | ⟨g', cap', cur, rfl, _, hgg, _⟩
    · cases e
    · simp only [Value.ownBlock, Option.some.injEq] at e
      subst e
      rw [H6.out] at hgg
      cases hgg)
  have HNB := Lib.hid (show some b0 ≠ vd.ownBlock from fun e => by
    rcases h8.2 with ⟨rfl, _⟩ | ⟨g', cap', cur, rfl, _, hgg, _⟩
    · cases e
    · simp only [Value.ownBlock, Option.some.injEq] at e
      subst e
      rw [hb] at hgg
      cases hgg)
  have HB0 := Lib.hid hb
  have hpl := P3.out.lt
  have hbl : b0 < w.heap.size := (Array.getElem?_eq_some_iff.1 hb).1
  have hbn : ¬ b0 = w.heap.size := Nat.ne_of_lt hbl
  have HBL := Lib.hid hbl
  have HU := Lib.hid hu
  clear h6 h8 h hM hM' hb hu
  go_upto_region 2 with fail
  go_region_law (refine step_append_lies _ rfl (.tmp 9) (.tmp 13) 51 rfl B 113 j0 _ 3 32 Tryz.underlying51 hj hy0 hy1 hy2 rfl (by decide) vd told.length (dnCells told) rfl (R65.out _ rfl) ⟨w.heap.size, 0, none⟩ 1 1 [.int .i64 (y.a : Nat), .int .i64 (y.d : Nat), .string ⟨y.n.toArray⟩] rfl rfl (fun j u hu => HN65.out j u hu) one3 (by decide) hmx hmb (by simpa using HBS.out) _ rfl ?_; intro g cap W5 hown5 hg5 hloc5 hlt5; (have hp5 : Thr W5 pb 95 vt (.int .i64 (i3 : Nat)) vd := (hg5.block pb (Nat.lt_succ_of_lt HPL.out |> fun h => by simpa using h) HNE.out).trans (blk_alloc H6.out (.cells #[.int .i64 (y.a : Nat), .int .i64 (y.d : Nat), .string ⟨y.n.toArray⟩] 113))); obtain ⟨⟨e0, e1, e2⟩, y0, y1, y2⟩ := thr_of hp5; (have hq5 : W5.heap[b0]? = some (bxP pb) := (hg5.block b0 (Nat.lt_succ_of_lt HBL.out |> fun h => by simpa using h) HNB.out).trans (blk_alloc HB0.out (.cells #[.int .i64 (y.a : Nat), .int .i64 (y.d : Nat), .string ⟨y.n.toArray⟩] 113))); (have cb5 : W5.cell? ⟨b0, 0, none⟩ = some (.pointer (some ⟨pb, 0, none⟩)) := by simp [World.cell?, hq5]); (have HO5 := Lib.hid hown5); (have HG5 := Lib.hid hg5); (have HL5 := Lib.hid hloc5); clear hown5 hg5 hloc5 hp5 hq5)
  all_goals
    go_wp2_with fail
    have hL : vd.ownBlock = some g ∨ (w.alloc (.cells #[.int .i64 (y.a : Nat), .int .i64 (y.d : Nat), .string ⟨y.n.toArray⟩] 113)).heap.size ≤ g := HL5.out.imp id (fun e => by rw [e]; exact Nat.le_refl _)
    have hg6 : (w.alloc (.cells #[.int .i64 (y.a : Nat), .int .i64 (y.d : Nat), .string ⟨y.n.toArray⟩] 113)).grownBy W5 vd.ownBlock := ⟨HG5.out.os, HG5.out.tape, HG5.out.output, HG5.out.size, HG5.out.block⟩
    obtain ⟨a1, a2⟩ := (P3.out.alloc (.cells #[.int .i64 (y.a : Nat), .int .i64 (y.d : Nat), .string ⟨y.n.toArray⟩] 113)).tells y HBT.out (blk_alloc H6.out _) hg6 HO5.out hL rfl
    refine ⟨rfl, _, rfl, _, results_none Tryz.results100 _ _ _, rfl, rfl, a1, ((Fr.refl B w).alloc _).trans a2⟩

set_option maxHeartbeats 1000000 in
theorem idle_76 (b0 : Nat) (w : World) : CallsD Tryz.prog 100 #[.pointer (some ⟨b0, 0, none⟩)] .returning w fun e u' w' => e = .returned (.tuple #[]) ∧ u' = .returning ∧ w' = w := by
  refine callsD_of_wpS Tryz.func100 rfl fun c₀ cs hu => ?_
  apply wpS_seq
  apply wpS_region
  simp [wpOpsS, go_sem, recoverD, hu, Tryz.ntmps100, Exit.thenS]
  refine wpS_of_wp (wp_act (a' := { tmps := #[.pointer (some ⟨b0, 0, none⟩), .nilIface, .nilIface, undef, undef, undef, undef, undef, undef, undef, undef, undef, undef, undef, undef, undef, undef], defers := [] }) (by kernel_rfl) ?_)
  have HU := Lib.hid hu
  clear hu
  go_wp2_with fail
  exact ⟨rfl, c₀.mode, rfl, _, results_none Tryz.results100 _ _ _, rfl, HU.out, rfl⟩


end Go.Proofs.YthpoffklhpbdoaaGreatDoor

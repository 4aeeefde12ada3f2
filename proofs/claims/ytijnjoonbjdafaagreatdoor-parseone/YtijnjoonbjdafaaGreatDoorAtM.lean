/-
  The contract of the deferred closure that catches what was given up, at declarations.
  The contract of the deferred closure that catches what was given up, at types.
  The contract of the deferred closure that catches what was given up, at expressions.
  The contracts of attempts.
-/
import Derived.Test.YtijnjoonbjdafaaGreatDoorDcM
import Derived.Defers
import Derived.Recover
namespace Go.Proofs.YtijnjoonbjdafaaGreatDoor
set_option maxRecDepth 20000
open Go.RowKit Go.Shelf
theorem wp_act {P : Program} {c : Code} {Q : Exit → Act → World → Prop} {a a' : Act} {w : World} (h : a = a') (k : c.wp P Q a' w) : c.wp P Q a w := h ▸ k
theorem fld103 (x0 x1 x2 : Value) (w : World) : (Instr.field 155 (.agg #[x0, x1, x2]) 0).run Tryz.prog w = .ok (.agg #[x0, x1, x2]) w := by kernel_rfl
theorem ta103 (x : Value) (w : World) : (Instr.typeAssert (.iface 155 x) 20 155 false).run Tryz.prog w = .ok x w := by kernel_rfl
set_option maxHeartbeats 1500000 in
theorem catch_43 {B M : Nat} {pb b0 : Nat} {all : List Tk} (y : Dn) (w : World) (ts : List Tk) (told : List Dn) (h : PS B M w pb all ts told) (hM : told.length + 1 + ts.length ≤ M) (hM' : M ≤ 20000000) (hb : w.heap[b0]? = some (bxP pb)) :
    CallsD Tryz.prog 96 #[.pointer (some ⟨b0, 0, none⟩)] (.panicking [gv y]) w fun e u' w' => e = .returned (.tuple #[]) ∧ u' = .panicking [{ gv y with recovered := true }] ∧ PS B M w' pb all ts (told ++ [y]) ∧ Fr B w w' := by
  obtain ⟨j0, hj, hy0, hy1, hy2⟩ := info_parts info65
  have cb : w.cell? ⟨b0, 0, none⟩ = some (.pointer (some ⟨pb, 0, none⟩)) := by simp [World.cell?, hb]
  have hfl := fld103
  have hta := ta103
  unfold gv
  refine callsD_of_wpS Tryz.func96 rfl fun c₀ cs hu => ?_
  apply wpS_seq
  apply wpS_region
  simp [wpOpsS, go_sem, recoverD, hu, Tryz.ntmps96, Exit.thenS]
  refine wpS_of_wp (wp_act (a' := { tmps := #[.pointer (some ⟨b0, 0, none⟩), .iface 155 (.agg #[.int .i64 (y.a : Nat), .int .i64 (y.d : Nat), .string ⟨y.n.toArray⟩]), .iface 155 (.agg #[.int .i64 (y.a : Nat), .int .i64 (y.d : Nat), .string ⟨y.n.toArray⟩]), undef, undef, undef, undef, undef, undef, undef, undef, undef, undef, undef, undef, undef, undef], defers := [] }) (by kernel_rfl) ?_)
  have P3 := Lib.hid h
  have HBT := Lib.hid hM
  obtain ⟨vt, vd, i3, h6, -, h8, -⟩ := P3.out.ex
  obtain ⟨⟨c0, c1, c2⟩, u0, u1, u2⟩ := thr_of h6
  have H6 := Lib.hid h6
  have R65 : Hid (∀ W : World, W.heap = (w.alloc (.cells #[.int .i64 (y.a : Nat), .int .i64 (y.d : Nat), .string ⟨y.n.toArray⟩] 153)).heap → W.ownsRow B 153 3 vd told.length (dnCells told)) := fun W e => by
    have := h8.alloc (.cells #[.int .i64 (y.a : Nat), .int .i64 (y.d : Nat), .string ⟨y.n.toArray⟩] 153)
    refine ⟨this.1, ?_⟩
    rw [e]
    exact this.2
  have hmx : told.length + 1 ≤ maxLen := by unfold maxLen; omega
  have hmb : (told.length + 1) * 32 ≤ 140737488355328 := by omega
  have HBS := Lib.hid (show B ≤ w.heap.size + 1 by have := P3.out.hi; omega)
  have HN65 := Lib.hid (World.news_of_block (heap_alloc_new w (.cells #[.int .i64 (y.a : Nat), .int .i64 (y.d : Nat), .string ⟨y.n.toArray⟩] 153)))
  have HPL := Lib.hid P3.out.lt
  have HNE := Lib.hid (show some pb ≠ vd.ownBlock from fun e => by
    rcases h8.2 with ⟨rfl, _⟩ | ⟨g', cap', cur, rfl, _, hgg, _⟩
    · cases e
    · simp only [Value.ownBlock, Option.some.injEq] at e
      subst e
      rw [H6.out] at hgg
      cases hgg)
  have HNB := Lib.hid (show some b0 ≠ vd.ownBlock from fun e => by
    rcases h8.2 with ⟨rfl, _⟩ | ⟨g', cap', cur, rfl, _, hgg, _⟩
    · cases e
    · simp only [Value.ownBlock, Option.some.injEq] at e
      subst e
      rw [hb] at hgg
      cases hgg)
  have HB0 := Lib.hid hb
  have hpl := P3.out.lt
  have hbl : b0 < w.heap.size := (Array.getElem?_eq_some_iff.1 hb).1
  have hbn : ¬ b0 = w.heap.size := Nat.ne_of_lt hbl
  have HBL := Lib.hid hbl
  have HU := Lib.hid hu
  clear h6 h8 h hM hM' hb hu
  go_upto_region 2 with fail
  go_region_law (refine step_append_lies _ rfl (.tmp 9) (.tmp 13) 50 rfl B 153 j0 _ 3 32 Tryz.underlying50 hj hy0 hy1 hy2 rfl (by decide) vd told.length (dnCells told) rfl (R65.out _ rfl) ⟨w.heap.size, 0, none⟩ 1 1 [.int .i64 (y.a : Nat), .int .i64 (y.d : Nat), .string ⟨y.n.toArray⟩] rfl rfl (fun j u hu => HN65.out j u hu) one3 (by decide) hmx hmb (by simpa using HBS.out) _ rfl ?_; intro g cap W5 hown5 hg5 hloc5 hlt5; (have hp5 : Thr W5 pb 112 vt (.int .i64 (i3 : Nat)) vd := (hg5.block pb (Nat.lt_succ_of_lt HPL.out |> fun h => by simpa using h) HNE.out).trans (blk_alloc H6.out (.cells #[.int .i64 (y.a : Nat), .int .i64 (y.d : Nat), .string ⟨y.n.toArray⟩] 153))); obtain ⟨⟨e0, e1, e2⟩, y0, y1, y2⟩ := thr_of hp5; (have hq5 : W5.heap[b0]? = some (bxP pb) := (hg5.block b0 (Nat.lt_succ_of_lt HBL.out |> fun h => by simpa using h) HNB.out).trans (blk_alloc HB0.out (.cells #[.int .i64 (y.a : Nat), .int .i64 (y.d : Nat), .string ⟨y.n.toArray⟩] 153))); (have cb5 : W5.cell? ⟨b0, 0, none⟩ = some (.pointer (some ⟨pb, 0, none⟩)) := by simp [World.cell?, hq5]); (have HO5 := Lib.hid hown5); (have HG5 := Lib.hid hg5); (have HL5 := Lib.hid hloc5); clear hown5 hg5 hloc5 hp5 hq5)
  all_goals
    go_wp2_with fail
    have hL : vd.ownBlock = some g ∨ (w.alloc (.cells #[.int .i64 (y.a : Nat), .int .i64 (y.d : Nat), .string ⟨y.n.toArray⟩] 153)).heap.size ≤ g := HL5.out.imp id (fun e => by rw [e]; exact Nat.le_refl _)
    have hg6 : (w.alloc (.cells #[.int .i64 (y.a : Nat), .int .i64 (y.d : Nat), .string ⟨y.n.toArray⟩] 153)).grownBy W5 vd.ownBlock := ⟨HG5.out.os, HG5.out.tape, HG5.out.output, HG5.out.size, HG5.out.block⟩
    obtain ⟨a1, a2⟩ := (P3.out.alloc (.cells #[.int .i64 (y.a : Nat), .int .i64 (y.d : Nat), .string ⟨y.n.toArray⟩] 153)).tells y HBT.out (blk_alloc H6.out _) hg6 HO5.out hL rfl
    refine ⟨rfl, _, rfl, _, results_none Tryz.results96 _ _ _, rfl, rfl, a1, ((Fr.refl B w).alloc _).trans a2⟩
set_option maxHeartbeats 1000000 in
theorem idle_43 (b0 : Nat) (w : World) : CallsD Tryz.prog 96 #[.pointer (some ⟨b0, 0, none⟩)] .returning w fun e u' w' => e = .returned (.tuple #[]) ∧ u' = .returning ∧ w' = w := by
  refine callsD_of_wpS Tryz.func96 rfl fun c₀ cs hu => ?_
  apply wpS_seq
  apply wpS_region
  simp [wpOpsS, go_sem, recoverD, hu, Tryz.ntmps96, Exit.thenS]
  refine wpS_of_wp (wp_act (a' := { tmps := #[.pointer (some ⟨b0, 0, none⟩), .nilIface, .nilIface, undef, undef, undef, undef, undef, undef, undef, undef, undef, undef, undef, undef, undef, undef], defers := [] }) (by kernel_rfl) ?_)
  have HU := Lib.hid hu
  clear hu
  go_wp2_with fail
  exact ⟨rfl, c₀.mode, rfl, _, results_none Tryz.results96 _ _ _, rfl, HU.out, rfl⟩
end Go.Proofs.YtijnjoonbjdafaaGreatDoor
namespace Go.Proofs.YtijnjoonbjdafaaGreatDoor
set_option maxRecDepth 20000
open Go.RowKit Go.Shelf
set_option maxHeartbeats 1500000 in
theorem catch_73 {B M : Nat} {pb b0 : Nat} {all : List Tk} (y : Dn) (w : World) (ts : List Tk) (told : List Dn) (h : PS B M w pb all ts told) (hM : told.length + 1 + ts.length ≤ M) (hM' : M ≤ 20000000) (hb : w.heap[b0]? = some (bxP pb)) :
    CallsD Tryz.prog 127 #[.pointer (some ⟨b0, 0, none⟩)] (.panicking [gv y]) w fun e u' w' => e = .returned (.tuple #[]) ∧ u' = .panicking [{ gv y with recovered := true }] ∧ PS B M w' pb all ts (told ++ [y]) ∧ Fr B w w' := by
  obtain ⟨j0, hj, hy0, hy1, hy2⟩ := info_parts info65
  have cb : w.cell? ⟨b0, 0, none⟩ = some (.pointer (some ⟨pb, 0, none⟩)) := by simp [World.cell?, hb]
  have hfl := fld103
  have hta := ta103
  unfold gv
  refine callsD_of_wpS Tryz.func127 rfl fun c₀ cs hu => ?_
  apply wpS_seq
  apply wpS_region
  simp [wpOpsS, go_sem, recoverD, hu, Tryz.ntmps127, Exit.thenS]
  refine wpS_of_wp (wp_act (a' := { tmps := #[.pointer (some ⟨b0, 0, none⟩), .iface 155 (.agg #[.int .i64 (y.a : Nat), .int .i64 (y.d : Nat), .string ⟨y.n.toArray⟩]), .iface 155 (.agg #[.int .i64 (y.a : Nat), .int .i64 (y.d : Nat), .string ⟨y.n.toArray⟩]), undef, undef, undef, undef, undef, undef, undef, undef, undef, undef, undef, undef, undef, undef], defers := [] }) (by kernel_rfl) ?_)
  have P3 := Lib.hid h
  have HBT := Lib.hid hM
  obtain ⟨vt, vd, i3, h6, -, h8, -⟩ := P3.out.ex
  obtain ⟨⟨c0, c1, c2⟩, u0, u1, u2⟩ := thr_of h6
  have H6 := Lib.hid h6
  have R65 : Hid (∀ W : World, W.heap = (w.alloc (.cells #[.int .i64 (y.a : Nat), .int .i64 (y.d : Nat), .string ⟨y.n.toArray⟩] 153)).heap → W.ownsRow B 153 3 vd told.length (dnCells told)) := fun W e => by
    have := h8.alloc (.cells #[.int .i64 (y.a : Nat), .int .i64 (y.d : Nat), .string ⟨y.n.toArray⟩] 153)
    refine ⟨this.1, ?_⟩
    rw [e]
    exact this.2
  have hmx : told.length + 1 ≤ maxLen := by unfold maxLen; omega
  have hmb : (told.length + 1) * 32 ≤ 140737488355328 := by omega
  have HBS := Lib.hid (show B ≤ w.heap.size + 1 by have := P3.out.hi; omega)
  have HN65 := Lib.hid (World.news_of_block (heap_alloc_new w (.cells #[.int .i64 (y.a : Nat), .int .i64 (y.d : Nat), .string ⟨y.n.toArray⟩] 153)))
  have HPL := Lib.hid P3.out.lt
  have HNE := Lib.hid (show some pb ≠ vd.ownBlock from fun e => by
    rcases h8.2 with ⟨rfl, _⟩ | ⟨g', cap', cur, rfl, _, hgg, _⟩
    · cases e
    · simp only [Value.ownBlock, Option.some.injEq] at e
      subst e
      rw [H6.out] at hgg
      cases hgg)
  have HNB := Lib.hid (show some b0 ≠ vd.ownBlock from fun e => by
    rcases h8.2 with ⟨rfl, _⟩ | ⟨g', cap', cur, rfl, _, hgg, _⟩
    · cases e
    · simp only [Value.ownBlock, Option.some.injEq] at e
      subst e
      rw [hb] at hgg
      cases hgg)
  have HB0 := Lib.hid hb
  have hpl := P3.out.lt
  have hbl : b0 < w.heap.size := (Array.getElem?_eq_some_iff.1 hb).1
  have hbn : ¬ b0 = w.heap.size := Nat.ne_of_lt hbl
  have HBL := Lib.hid hbl
  have HU := Lib.hid hu
  clear h6 h8 h hM hM' hb hu
  go_upto_region 2 with fail
  go_region_law (refine step_append_lies _ rfl (.tmp 9) (.tmp 13) 50 rfl B 153 j0 _ 3 32 Tryz.underlying50 hj hy0 hy1 hy2 rfl (by decide) vd told.length (dnCells told) rfl (R65.out _ rfl) ⟨w.heap.size, 0, none⟩ 1 1 [.int .i64 (y.a : Nat), .int .i64 (y.d : Nat), .string ⟨y.n.toArray⟩] rfl rfl (fun j u hu => HN65.out j u hu) one3 (by decide) hmx hmb (by simpa using HBS.out) _ rfl ?_; intro g cap W5 hown5 hg5 hloc5 hlt5; (have hp5 : Thr W5 pb 112 vt (.int .i64 (i3 : Nat)) vd := (hg5.block pb (Nat.lt_succ_of_lt HPL.out |> fun h => by simpa using h) HNE.out).trans (blk_alloc H6.out (.cells #[.int .i64 (y.a : Nat), .int .i64 (y.d : Nat), .string ⟨y.n.toArray⟩] 153))); obtain ⟨⟨e0, e1, e2⟩, y0, y1, y2⟩ := thr_of hp5; (have hq5 : W5.heap[b0]? = some (bxP pb) := (hg5.block b0 (Nat.lt_succ_of_lt HBL.out |> fun h => by simpa using h) HNB.out).trans (blk_alloc HB0.out (.cells #[.int .i64 (y.a : Nat), .int .i64 (y.d : Nat), .string ⟨y.n.toArray⟩] 153))); (have cb5 : W5.cell? ⟨b0, 0, none⟩ = some (.pointer (some ⟨pb, 0, none⟩)) := by simp [World.cell?, hq5]); (have HO5 := Lib.hid hown5); (have HG5 := Lib.hid hg5); (have HL5 := Lib.hid hloc5); clear hown5 hg5 hloc5 hp5 hq5)
  all_goals
    go_wp2_with fail
    have hL : vd.ownBlock = some g ∨ (w.alloc (.cells #[.int .i64 (y.a : Nat), .int .i64 (y.d : Nat), .string ⟨y.n.toArray⟩] 153)).heap.size ≤ g := HL5.out.imp id (fun e => by rw [e]; exact Nat.le_refl _)
    have hg6 : (w.alloc (.cells #[.int .i64 (y.a : Nat), .int .i64 (y.d : Nat), .string ⟨y.n.toArray⟩] 153)).grownBy W5 vd.ownBlock := ⟨HG5.out.os, HG5.out.tape, HG5.out.output, HG5.out.size, HG5.out.block⟩
    obtain ⟨a1, a2⟩ := (P3.out.alloc (.cells #[.int .i64 (y.a : Nat), .int .i64 (y.d : Nat), .string ⟨y.n.toArray⟩] 153)).tells y HBT.out (blk_alloc H6.out _) hg6 HO5.out hL rfl
    refine ⟨rfl, _, rfl, _, results_none Tryz.results127 _ _ _, rfl, rfl, a1, ((Fr.refl B w).alloc _).trans a2⟩
set_option maxHeartbeats 1000000 in
theorem idle_73 (b0 : Nat) (w : World) : CallsD Tryz.prog 127 #[.pointer (some ⟨b0, 0, none⟩)] .returning w fun e u' w' => e = .returned (.tuple #[]) ∧ u' = .returning ∧ w' = w := by
  refine callsD_of_wpS Tryz.func127 rfl fun c₀ cs hu => ?_
  apply wpS_seq
  apply wpS_region
  simp [wpOpsS, go_sem, recoverD, hu, Tryz.ntmps127, Exit.thenS]
  refine wpS_of_wp (wp_act (a' := { tmps := #[.pointer (some ⟨b0, 0, none⟩), .nilIface, .nilIface, undef, undef, undef, undef, undef, undef, undef, undef, undef, undef, undef, undef, undef, undef], defers := [] }) (by kernel_rfl) ?_)
  have HU := Lib.hid hu
  clear hu
  go_wp2_with fail
  exact ⟨rfl, c₀.mode, rfl, _, results_none Tryz.results127 _ _ _, rfl, HU.out, rfl⟩
end Go.Proofs.YtijnjoonbjdafaaGreatDoor
namespace Go.Proofs.YtijnjoonbjdafaaGreatDoor
set_option maxRecDepth 20000
open Go.RowKit Go.Shelf
set_option maxHeartbeats 1500000 in
theorem catch_76 {B M : Nat} {pb b0 : Nat} {all : List Tk} (y : Dn) (w : World) (ts : List Tk) (told : List Dn) (h : PS B M w pb all ts told) (hM : told.length + 1 + ts.length ≤ M) (hM' : M ≤ 20000000) (hb : w.heap[b0]? = some (bxP pb)) :
    CallsD Tryz.prog 135 #[.pointer (some ⟨b0, 0, none⟩)] (.panicking [gv y]) w fun e u' w' => e = .returned (.tuple #[]) ∧ u' = .panicking [{ gv y with recovered := true }] ∧ PS B M w' pb all ts (told ++ [y]) ∧ Fr B w w' := by
  obtain ⟨j0, hj, hy0, hy1, hy2⟩ := info_parts info65
  have cb : w.cell? ⟨b0, 0, none⟩ = some (.pointer (some ⟨pb, 0, none⟩)) := by simp [World.cell?, hb]
  have hfl := fld103
  have hta := ta103
  unfold gv
  refine callsD_of_wpS Tryz.func135 rfl fun c₀ cs hu => ?_
  apply wpS_seq
  apply wpS_region
  simp [wpOpsS, go_sem, recoverD, hu, Tryz.ntmps135, Exit.thenS]
  refine wpS_of_wp (wp_act (a' := { tmps := #[.pointer (some ⟨b0, 0, none⟩), .iface 155 (.agg #[.int .i64 (y.a : Nat), .int .i64 (y.d : Nat), .string ⟨y.n.toArray⟩]), .iface 155 (.agg #[.int .i64 (y.a : Nat), .int .i64 (y.d : Nat), .string ⟨y.n.toArray⟩]), undef, undef, undef, undef, undef, undef, undef, undef, undef, undef, undef, undef, undef, undef], defers := [] }) (by kernel_rfl) ?_)
  have P3 := Lib.hid h
  have HBT := Lib.hid hM
  obtain ⟨vt, vd, i3, h6, -, h8, -⟩ := P3.out.ex
  obtain ⟨⟨c0, c1, c2⟩, u0, u1, u2⟩ := thr_of h6
  have H6 := Lib.hid h6
  have R65 : Hid (∀ W : World, W.heap = (w.alloc (.cells #[.int .i64 (y.a : Nat), .int .i64 (y.d : Nat), .string ⟨y.n.toArray⟩] 153)).heap → W.ownsRow B 153 3 vd told.length (dnCells told)) := fun W e => by
    have := h8.alloc (.cells #[.int .i64 (y.a : Nat), .int .i64 (y.d : Nat), .string ⟨y.n.toArray⟩] 153)
    refine ⟨this.1, ?_⟩
    rw [e]
    exact this.2
  have hmx : told.length + 1 ≤ maxLen := by unfold maxLen; omega
  have hmb : (told.length + 1) * 32 ≤ 140737488355328 := by omega
  have HBS := Lib.hid (show B ≤ w.heap.size + 1 by have := P3.out.hi; omega)
  have HN65 := Lib.hid (World.news_of_block (heap_alloc_new w (.cells #[.int .i64 (y.a : Nat), .int .i64 (y.d : Nat), .string ⟨y.n.toArray⟩] 153)))
  have HPL := Lib.hid P3.out.lt
  have HNE := Lib.hid (show some pb ≠ vd.ownBlock from fun e => by
    rcases h8.2 with ⟨rfl, _⟩ | ⟨g', cap', cur, rfl, _, hgg, _⟩
    · cases e
    · simp only [Value.ownBlock, Option.some.injEq] at e
      subst e
      rw [H6.out] at hgg
      cases hgg)
  have HNB := Lib.hid (show some b0 ≠ vd.ownBlock from fun e => by
    rcases h8.2 with ⟨rfl, _⟩ | ⟨g', cap', cur, rfl, _, hgg, _⟩
    · cases e
    · simp only [Value.ownBlock, Option.some.injEq] at e
      subst e
      rw [hb] at hgg
      cases hgg)
  have HB0 := Lib.hid hb
  have hpl := P3.out.lt
  have hbl : b0 < w.heap.size := (Array.getElem?_eq_some_iff.1 hb).1
  have hbn : ¬ b0 = w.heap.size := Nat.ne_of_lt hbl
  have HBL := Lib.hid hbl
  have HU := Lib.hid hu
  clear h6 h8 h hM hM' hb hu
  go_upto_region 2 with fail
  go_region_law (refine step_append_lies _ rfl (.tmp 9) (.tmp 13) 50 rfl B 153 j0 _ 3 32 Tryz.underlying50 hj hy0 hy1 hy2 rfl (by decide) vd told.length (dnCells told) rfl (R65.out _ rfl) ⟨w.heap.size, 0, none⟩ 1 1 [.int .i64 (y.a : Nat), .int .i64 (y.d : Nat), .string ⟨y.n.toArray⟩] rfl rfl (fun j u hu => HN65.out j u hu) one3 (by decide) hmx hmb (by simpa using HBS.out) _ rfl ?_; intro g cap W5 hown5 hg5 hloc5 hlt5; (have hp5 : Thr W5 pb 112 vt (.int .i64 (i3 : Nat)) vd := (hg5.block pb (Nat.lt_succ_of_lt HPL.out |> fun h => by simpa using h) HNE.out).trans (blk_alloc H6.out (.cells #[.int .i64 (y.a : Nat), .int .i64 (y.d : Nat), .string ⟨y.n.toArray⟩] 153))); obtain ⟨⟨e0, e1, e2⟩, y0, y1, y2⟩ := thr_of hp5; (have hq5 : W5.heap[b0]? = some (bxP pb) := (hg5.block b0 (Nat.lt_succ_of_lt HBL.out |> fun h => by simpa using h) HNB.out).trans (blk_alloc HB0.out (.cells #[.int .i64 (y.a : Nat), .int .i64 (y.d : Nat), .string ⟨y.n.toArray⟩] 153))); (have cb5 : W5.cell? ⟨b0, 0, none⟩ = some (.pointer (some ⟨pb, 0, none⟩)) := by simp [World.cell?, hq5]); (have HO5 := Lib.hid hown5); (have HG5 := Lib.hid hg5); (have HL5 := Lib.hid hloc5); clear hown5 hg5 hloc5 hp5 hq5)
  all_goals
    go_wp2_with fail
    have hL : vd.ownBlock = some g ∨ (w.alloc (.cells #[.int .i64 (y.a : Nat), .int .i64 (y.d : Nat), .string ⟨y.n.toArray⟩] 153)).heap.size ≤ g := HL5.out.imp id (fun e => by rw [e]; exact Nat.le_refl _)
    have hg6 : (w.alloc (.cells #[.int .i64 (y.a : Nat), .int .i64 (y.d : Nat), .string ⟨y.n.toArray⟩] 153)).grownBy W5 vd.ownBlock := ⟨HG5.out.os, HG5.out.tape, HG5.out.output, HG5.out.size, HG5.out.block⟩
    obtain ⟨a1, a2⟩ := (P3.out.alloc (.cells #[.int .i64 (y.a : Nat), .int .i64 (y.d : Nat), .string ⟨y.n.toArray⟩] 153)).tells y HBT.out (blk_alloc H6.out _) hg6 HO5.out hL rfl
    refine ⟨rfl, _, rfl, _, results_none Tryz.results135 _ _ _, rfl, rfl, a1, ((Fr.refl B w).alloc _).trans a2⟩
set_option maxHeartbeats 1000000 in
theorem idle_76 (b0 : Nat) (w : World) : CallsD Tryz.prog 135 #[.pointer (some ⟨b0, 0, none⟩)] .returning w fun e u' w' => e = .returned (.tuple #[]) ∧ u' = .returning ∧ w' = w := by
  refine callsD_of_wpS Tryz.func135 rfl fun c₀ cs hu => ?_
  apply wpS_seq
  apply wpS_region
  simp [wpOpsS, go_sem, recoverD, hu, Tryz.ntmps135, Exit.thenS]
  refine wpS_of_wp (wp_act (a' := { tmps := #[.pointer (some ⟨b0, 0, none⟩), .nilIface, .nilIface, undef, undef, undef, undef, undef, undef, undef, undef, undef, undef, undef, undef, undef, undef], defers := [] }) (by kernel_rfl) ?_)
  have HU := Lib.hid hu
  clear hu
  go_wp2_with fail
  exact ⟨rfl, c₀.mode, rfl, _, results_none Tryz.results135 _ _ _, rfl, HU.out, rfl⟩
end Go.Proofs.YtijnjoonbjdafaaGreatDoor
namespace Go.Proofs.YtijnjoonbjdafaaGreatDoor
set_option maxRecDepth 20000
open Go.RowKit Go.Shelf
theorem PS.wide {B M M' : Nat} {w : World} {pb : Nat} {all ts : List Tk} {told : List Dn} (h : PS B M w pb all ts told) (hM : told.length + ts.length ≤ M') : PS B M' w pb all ts told := ⟨h.lo, h.hi, h.fin, hM, h.big, h.ex⟩
def AtPost {α : Type} (B M : Nat) (w : World) (pb : Nat) (all : List Tk) (told : List Dn) (val : Nat → α → Ending → World → Prop) (zero : Value) (r : R α) (e : Ending) (w' : World) : Prop :=
  Fr B w w' ∧ match r with
  | .ok x rest d => val w.heap.size x e w' ∧ PS B (M + 1) w' pb all rest (told ++ d)
  | .bad y rest d => e = .returned zero ∧ PS B (M + 1) w' pb all rest (told ++ d ++ [y])
theorem AtPost.ok {α : Type} {B M : Nat} {w : World} {pb : Nat} {all : List Tk} {told : List Dn} {val : Nat → α → Ending → World → Prop} {zero : Value} {res : R α} {e : Ending} {w' : World} {x : α} {r : List Tk} {d : List Dn} (hq : res = .ok x r d) (hF : Fr B w w') (hv : val w.heap.size x e w') (hp : PS B (M + 1) w' pb all r (told ++ d)) : AtPost B M w pb all told val zero res e w' := by
  subst hq; exact ⟨hF, hv, hp⟩
theorem AtPost.bad {α : Type} {B M : Nat} {w : World} {pb : Nat} {all : List Tk} {told : List Dn} {val : Nat → α → Ending → World → Prop} {zero : Value} {res : R α} {w' : World} {y : Dn} {r : List Tk} {d : List Dn} (hq : res = .bad y r d) (hF : Fr B w w') (hp : PS B (M + 1) w' pb all r (told ++ d ++ [y])) : AtPost B M w pb all told val zero res (.returned zero) w' := by
  subst hq; exact ⟨hF, rfl, hp⟩
set_option maxHeartbeats 1000000 in
theorem attempt_D {B M : Nat} {pb : Nat} {all : List Tk} (hM' : M ≤ 10000000) (Bx : World → Prop) (hBx : ∀ w w', Bx w → Fr B w w' → Bx w') (read : List Tk → R PD) 
    (HC : ∀ W ts told, PS B M W pb all ts told → Bx W → Calls Tryz.prog 55 #[.pointer (some ⟨pb, 0, none⟩)] W (Post B M W pb all told (vD W.heap.size) (read ts)))
    (w : World) (ts : List Tk) (told : List Dn) (h : PS B M w pb all ts told) (hb : Bx w) :
    Calls Tryz.prog 54 #[.pointer (some ⟨pb, 0, none⟩), .func (.func 55) #[.pointer (some ⟨pb, 0, none⟩)] #[]] w (AtPost B M w pb all told (fun lo x e w' => ∃ cs, e = .returned (.tuple #[.agg cs.toArray, .bool true]) ∧ IsCs (fun b => lo ≤ b) w' (encD 26 36 x) cs) (.tuple #[.agg #[.int .i64 0, .int .i64 0, .string ⟨#[]⟩, .slice none 0 0, .slice none 0 0], .bool false]) (read ts)) := by
  have HPB := Lib.hid h.lt
  obtain ⟨W0, hW0⟩ : ∃ W0, (w.alloc (bxP pb)).alloc zD = W0 := ⟨_, rfl⟩
  have P0 : PS B M W0 pb all ts told := by rw [← hW0]; exact (h.alloc _).alloc _
  have A0 := Lib.hid (show W0.heap[w.heap.size + 1]? = some zD by
    rw [← hW0]
    have := heap_alloc_new (w.alloc (bxP pb)) zD
    simpa using this)
  have X0 := Lib.hid (show W0.heap[w.heap.size]? = some (bxP pb) by rw [← hW0]; exact blk_alloc (heap_alloc_new w _) _)
  have F0 := Lib.hid (show Fr B w W0 by rw [← hW0]; exact ((Fr.refl B w).alloc _).alloc _)
  have HS0 := Lib.hid (show W0.heap.size = w.heap.size + 2 by rw [← hW0]; simp)
  have HCC := Lib.hid (HC W0 ts told P0 (hBx _ _ hb F0.out))
  have HW0 := Lib.hid hW0
  have hmf : ∀ (fn : Fn) (first cap : Array Value) (w : World), (Instr.makeFunc fn first cap).run Tryz.prog w = .ok (.func fn first cap) w := fun _ _ _ _ => rfl
  clear h hb HC hBx hW0 P0
  obtain ⟨res, hres⟩ : ∃ res, res = read ts := ⟨_, rfl⟩
  rw [← hres] at HCC ⊢
  clear hres
  go_enter_defers Tryz.func54, Tryz.ntmps54
  go_upto_region 2 with fail
  rw [HW0.out]
  go_wp2_with fail
  refine HCC.out.mono ?_
  rintro e w1 ⟨f1, h1⟩
  cases hr : res with
  | bad y rest ds =>
    rw [hr] at h1
    obtain ⟨rfl, p1⟩ := h1
    have X1 := f1.cells X0.out (by decide)
    have A1 := f1.cells A0.out (by decide)
    have hbd := p1.bd
    have HC2 := Lib.hid (catch_43 y w1 rest (told ++ ds) (p1.wide (M' := M + 1) (by omega)) (by simp only [List.length_append] at hbd ⊢; omega) (by omega) X1)
    have HF := Lib.hid (F0.out.trans f1)
    have HA := Lib.hid A1
    have HR := Lib.hid hr
    clear hr p1 f1 X1 A1 hbd
    go_wp2_with fail
    refine leaves_cons (f := 96) (args := #[.pointer (some ⟨w.heap.size, 0, none⟩)]) (by simp) (by simp [go_sem]) ?_
    refine HC2.out.mono ?_
    rintro e u' w2 ⟨rfl, rfl, p2, f2⟩
    have hA2 := f2.cells HA.out (by decide)
    obtain ⟨⟨q0, q1, q2, q3, q4⟩, -⟩ := fiv_of (t := 61) hA2
    refine ⟨.tuple #[.agg #[.int .i64 0, .int .i64 0, .string ⟨#[]⟩, .slice none 0 0, .slice none 0 0], .bool false], ?_, .bad HR.out (HF.out.trans f2) p2⟩
    simp [results, Tryz.results54, go_sem, q0, q1, q2, q3, q4]
  | ok x rest ds =>
    rw [hr] at h1
    obtain ⟨⟨cs, rfl, hcs⟩, p1⟩ := h1
    obtain ⟨dk, da, dn, a3, n3, c3, a4, n4, c4, rfl⟩ := cells_D hcs
    have HP := Lib.hid (p1.wide (M' := M + 1) (by have := p1.bd; omega))
    have HF := Lib.hid (F0.out.trans f1)
    have HA := Lib.hid (f1.cells A0.out (by decide))
    have HCS := Lib.hid (hcs.mono (A' := fun b => w.heap.size ≤ b ∧ b ≠ w.heap.size + 1) (fun b _ hb => by have := HS0.out; exact ⟨by omega, by omega⟩))
    have HTH := Lib.hid (there_of HA.out rfl)
    have HR := Lib.hid hr
    clear hr p1 f1 hcs
    go_wp2_with (first | (refine wpList_store_put rfl 61 (.tmp 4) (.tmp 8) rfl (w.heap.size + 1) _ rfl rfl HTH.out size62 (all_oneCell_toArray (by simp [Value.oneCell'])) ?_; intro W9 hW9))
    have e9 : W9 = putL w1 (w.heap.size + 1) [.int .i64 dk, .int .i64 da, .string dn, .slice a3 n3 c3, .slice a4 n4 c4] := hW9.out
    refine leaves_cons (f := 96) (args := #[.pointer (some ⟨w.heap.size, 0, none⟩)]) (by simp) (by simp [go_sem]) ?_
    refine (idle_43 _ _).mono ?_
    rintro e u' w2 ⟨rfl, rfl, rfl⟩
    have hA2 : w2.heap[w.heap.size + 1]? = some (.cells #[.int .i64 dk, .int .i64 da, .string dn, .slice a3 n3 c3, .slice a4 n4 c4] 61 (0, 0)) := by rw [e9]; exact putL_at (vs := [.int .i64 dk, .int .i64 da, .string dn, .slice a3 n3 c3, .slice a4 n4 c4]) HA.out rfl
    obtain ⟨⟨q0, q1, q2, q3, q4⟩, -⟩ := fiv_of (t := 61) hA2
    refine ⟨.tuple #[.agg #[.int .i64 dk, .int .i64 da, .string dn, .slice a3 n3 c3, .slice a4 n4 c4], .bool true], ?_, .ok HR.out ?_ ⟨[.int .i64 dk, .int .i64 da, .string dn, .slice a3 n3 c3, .slice a4 n4 c4], rfl, ?_⟩ ?_⟩
    · simp [results, Tryz.results54, go_sem, q0, q1, q2, q3, q4]
    · rw [e9]; exact HF.out.putL (by omega) _
    · rw [e9]; exact (HCS.out.putL _ (fun b hb => hb.2) _).mono (fun b _ hb => hb.1)
    · rw [e9]; exact HP.out.putL HA.out (by decide) (by have := HPB.out; omega) _
set_option maxHeartbeats 1000000 in
theorem attempt_T {B M : Nat} {pb : Nat} {all : List Tk} (hM' : M ≤ 10000000) (Bx : World → Prop) (hBx : ∀ w w', Bx w → Fr B w w' → Bx w') (read : List Tk → R PT) (b3 b6 : Nat)
    (HC : ∀ W ts told, PS B M W pb all ts told → Bx W → Calls Tryz.prog 78 #[.pointer (some ⟨b3, 0, none⟩), .pointer (some ⟨b6, 0, none⟩)] W (Post B M W pb all told (vT W.heap.size) (read ts)))
    (w : World) (ts : List Tk) (told : List Dn) (h : PS B M w pb all ts told) (hb : Bx w) :
    Calls Tryz.prog 77 #[.pointer (some ⟨pb, 0, none⟩), .func (.func 78) #[] #[.pointer (some ⟨b3, 0, none⟩), .pointer (some ⟨b6, 0, none⟩)]] w (AtPost B M w pb all told (fun lo x e w' => ∃ cs, e = .returned (.tuple #[.agg cs.toArray, .bool true]) ∧ IsCs (fun b => lo ≤ b) w' (encT 26 x) cs) (.tuple #[.agg #[.int .i64 0, .string ⟨#[]⟩, .slice none 0 0, .slice none 0 0], .bool false]) (read ts)) := by
  have HPB := Lib.hid h.lt
  obtain ⟨W0, hW0⟩ : ∃ W0, (w.alloc (bxP pb)).alloc zT = W0 := ⟨_, rfl⟩
  have P0 : PS B M W0 pb all ts told := by rw [← hW0]; exact (h.alloc _).alloc _
  have A0 := Lib.hid (show W0.heap[w.heap.size + 1]? = some zT by
    rw [← hW0]
    have := heap_alloc_new (w.alloc (bxP pb)) zT
    simpa using this)
  have X0 := Lib.hid (show W0.heap[w.heap.size]? = some (bxP pb) by rw [← hW0]; exact blk_alloc (heap_alloc_new w _) _)
  have F0 := Lib.hid (show Fr B w W0 by rw [← hW0]; exact ((Fr.refl B w).alloc _).alloc _)
  have HS0 := Lib.hid (show W0.heap.size = w.heap.size + 2 by rw [← hW0]; simp)
  have HCC := Lib.hid (HC W0 ts told P0 (hBx _ _ hb F0.out))
  have HW0 := Lib.hid hW0
  have hmf : ∀ (fn : Fn) (first cap : Array Value) (w : World), (Instr.makeFunc fn first cap).run Tryz.prog w = .ok (.func fn first cap) w := fun _ _ _ _ => rfl
  clear h hb HC hBx hW0 P0
  obtain ⟨res, hres⟩ : ∃ res, res = read ts := ⟨_, rfl⟩
  rw [← hres] at HCC ⊢
  clear hres
  go_enter_defers Tryz.func77, Tryz.ntmps77
  go_upto_region 2 with fail
  rw [HW0.out]
  go_wp2_with fail
  refine HCC.out.mono ?_
  rintro e w1 ⟨f1, h1⟩
  cases hr : res with
  | bad y rest ds =>
    rw [hr] at h1
    obtain ⟨rfl, p1⟩ := h1
    have X1 := f1.cells X0.out (by decide)
    have A1 := f1.cells A0.out (by decide)
    have hbd := p1.bd
    have HC2 := Lib.hid (catch_73 y w1 rest (told ++ ds) (p1.wide (M' := M + 1) (by omega)) (by simp only [List.length_append] at hbd ⊢; omega) (by omega) X1)
    have HF := Lib.hid (F0.out.trans f1)
    have HA := Lib.hid A1
    have HR := Lib.hid hr
    clear hr p1 f1 X1 A1 hbd
    go_wp2_with fail
    refine leaves_cons (f := 127) (args := #[.pointer (some ⟨w.heap.size, 0, none⟩)]) (by simp) (by simp [go_sem]) ?_
    refine HC2.out.mono ?_
    rintro e u' w2 ⟨rfl, rfl, p2, f2⟩
    have hA2 := f2.cells HA.out (by decide)
    obtain ⟨⟨q0, q1, q2, q3⟩, -⟩ := fou_of (t := 26) hA2
    refine ⟨.tuple #[.agg #[.int .i64 0, .string ⟨#[]⟩, .slice none 0 0, .slice none 0 0], .bool false], ?_, .bad HR.out (HF.out.trans f2) p2⟩
    simp [results, Tryz.results77, go_sem, q0, q1, q2, q3]
  | ok x rest ds =>
    rw [hr] at h1
    obtain ⟨⟨cs, rfl, hcs⟩, p1⟩ := h1
    obtain ⟨tk, tn, a2, n2, c2, a3, n3, c3, rfl⟩ := cells_T hcs
    have HP := Lib.hid (p1.wide (M' := M + 1) (by have := p1.bd; omega))
    have HF := Lib.hid (F0.out.trans f1)
    have HA := Lib.hid (f1.cells A0.out (by decide))
    have HCS := Lib.hid (hcs.mono (A' := fun b => w.heap.size ≤ b ∧ b ≠ w.heap.size + 1) (fun b _ hb => by have := HS0.out; exact ⟨by omega, by omega⟩))
    have HTH := Lib.hid (there_of HA.out rfl)
    have HR := Lib.hid hr
    clear hr p1 f1 hcs
    go_wp2_with (first | (refine wpList_store_put rfl 26 (.tmp 4) (.tmp 8) rfl (w.heap.size + 1) _ rfl rfl HTH.out size39 (all_oneCell_toArray (by simp [Value.oneCell'])) ?_; intro W9 hW9))
    have e9 : W9 = putL w1 (w.heap.size + 1) [.int .i64 tk, .string tn, .slice a2 n2 c2, .slice a3 n3 c3] := hW9.out
    refine leaves_cons (f := 127) (args := #[.pointer (some ⟨w.heap.size, 0, none⟩)]) (by simp) (by simp [go_sem]) ?_
    refine (idle_73 _ _).mono ?_
    rintro e u' w2 ⟨rfl, rfl, rfl⟩
    have hA2 : w2.heap[w.heap.size + 1]? = some (.cells #[.int .i64 tk, .string tn, .slice a2 n2 c2, .slice a3 n3 c3] 26 (0, 0)) := by rw [e9]; exact putL_at (vs := [.int .i64 tk, .string tn, .slice a2 n2 c2, .slice a3 n3 c3]) HA.out rfl
    obtain ⟨⟨q0, q1, q2, q3⟩, -⟩ := fou_of (t := 26) hA2
    refine ⟨.tuple #[.agg #[.int .i64 tk, .string tn, .slice a2 n2 c2, .slice a3 n3 c3], .bool true], ?_, .ok HR.out ?_ ⟨[.int .i64 tk, .string tn, .slice a2 n2 c2, .slice a3 n3 c3], rfl, ?_⟩ ?_⟩
    · simp [results, Tryz.results77, go_sem, q0, q1, q2, q3]
    · rw [e9]; exact HF.out.putL (by omega) _
    · rw [e9]; exact (HCS.out.putL _ (fun b hb => hb.2) _).mono (fun b _ hb => hb.1)
    · rw [e9]; exact HP.out.putL HA.out (by decide) (by have := HPB.out; omega) _
set_option maxHeartbeats 1000000 in
theorem attempt_E {B M : Nat} {pb : Nat} {all : List Tk} (hM' : M ≤ 10000000) (Bx : World → Prop) (hBx : ∀ w w', Bx w → Fr B w w' → Bx w') (read : List Tk → R PE) (b3 b6 : Nat)
    (HC : ∀ W ts told, PS B M W pb all ts told → Bx W → Calls Tryz.prog 87 #[.pointer (some ⟨b3, 0, none⟩), .pointer (some ⟨b6, 0, none⟩)] W (Post B M W pb all told (vE W.heap.size) (read ts)))
    (w : World) (ts : List Tk) (told : List Dn) (h : PS B M w pb all ts told) (hb : Bx w) :
    Calls Tryz.prog 86 #[.pointer (some ⟨pb, 0, none⟩), .func (.func 87) #[] #[.pointer (some ⟨b3, 0, none⟩), .pointer (some ⟨b6, 0, none⟩)]] w (AtPost B M w pb all told (fun lo x e w' => ∃ cs, e = .returned (.tuple #[.agg cs.toArray, .bool true]) ∧ IsCs (fun b => lo ≤ b) w' (encE 26 36 x) cs) (.tuple #[.agg #[.int .i64 0, .int .i64 0, .string ⟨#[]⟩, .int .i64 0, .slice none 0 0, .slice none 0 0, .slice none 0 0], .bool false]) (read ts)) := by
  have HPB := Lib.hid h.lt
  obtain ⟨W0, hW0⟩ : ∃ W0, (w.alloc (bxP pb)).alloc zE = W0 := ⟨_, rfl⟩
  have P0 : PS B M W0 pb all ts told := by rw [← hW0]; exact (h.alloc _).alloc _
  have A0 := Lib.hid (show W0.heap[w.heap.size + 1]? = some zE by
    rw [← hW0]
    have := heap_alloc_new (w.alloc (bxP pb)) zE
    simpa using this)
  have X0 := Lib.hid (show W0.heap[w.heap.size]? = some (bxP pb) by rw [← hW0]; exact blk_alloc (heap_alloc_new w _) _)
  have F0 := Lib.hid (show Fr B w W0 by rw [← hW0]; exact ((Fr.refl B w).alloc _).alloc _)
  have HS0 := Lib.hid (show W0.heap.size = w.heap.size + 2 by rw [← hW0]; simp)
  have HCC := Lib.hid (HC W0 ts told P0 (hBx _ _ hb F0.out))
  have HW0 := Lib.hid hW0
  have hmf : ∀ (fn : Fn) (first cap : Array Value) (w : World), (Instr.makeFunc fn first cap).run Tryz.prog w = .ok (.func fn first cap) w := fun _ _ _ _ => rfl
  clear h hb HC hBx hW0 P0
  obtain ⟨res, hres⟩ : ∃ res, res = read ts := ⟨_, rfl⟩
  rw [← hres] at HCC ⊢
  clear hres
  go_enter_defers Tryz.func86, Tryz.ntmps86
  go_upto_region 2 with fail
  rw [HW0.out]
  go_wp2_with fail
  refine HCC.out.mono ?_
  rintro e w1 ⟨f1, h1⟩
  cases hr : res with
  | bad y rest ds =>
    rw [hr] at h1
    obtain ⟨rfl, p1⟩ := h1
    have X1 := f1.cells X0.out (by decide)
    have A1 := f1.cells A0.out (by decide)
    have hbd := p1.bd
    have HC2 := Lib.hid (catch_76 y w1 rest (told ++ ds) (p1.wide (M' := M + 1) (by omega)) (by simp only [List.length_append] at hbd ⊢; omega) (by omega) X1)
    have HF := Lib.hid (F0.out.trans f1)
    have HA := Lib.hid A1
    have HR := Lib.hid hr
    clear hr p1 f1 X1 A1 hbd
    go_wp2_with fail
    refine leaves_cons (f := 135) (args := #[.pointer (some ⟨w.heap.size, 0, none⟩)]) (by simp) (by simp [go_sem]) ?_
    refine HC2.out.mono ?_
    rintro e u' w2 ⟨rfl, rfl, p2, f2⟩
    have hA2 := f2.cells HA.out (by decide)
    obtain ⟨⟨q0, q1, q2, q3, q4, q5, q6⟩, -⟩ := sev_of (t := 36) hA2
    refine ⟨.tuple #[.agg #[.int .i64 0, .int .i64 0, .string ⟨#[]⟩, .int .i64 0, .slice none 0 0, .slice none 0 0, .slice none 0 0], .bool false], ?_, .bad HR.out (HF.out.trans f2) p2⟩
    simp [results, Tryz.results86, go_sem, q0, q1, q2, q3, q4, q5, q6]
  | ok x rest ds =>
    rw [hr] at h1
    obtain ⟨⟨cs, rfl, hcs⟩, p1⟩ := h1
    obtain ⟨ek, ea, en, em, a4, n4, c4, a5, n5, c5, a6, n6, c6, rfl⟩ := cells_E hcs
    have HP := Lib.hid (p1.wide (M' := M + 1) (by have := p1.bd; omega))
    have HF := Lib.hid (F0.out.trans f1)
    have HA := Lib.hid (f1.cells A0.out (by decide))
    have HCS := Lib.hid (hcs.mono (A' := fun b => w.heap.size ≤ b ∧ b ≠ w.heap.size + 1) (fun b _ hb => by have := HS0.out; exact ⟨by omega, by omega⟩))
    have HTH := Lib.hid (there_of HA.out rfl)
    have HR := Lib.hid hr
    clear hr p1 f1 hcs
    go_wp2_with (first | (refine wpList_store_put rfl 36 (.tmp 4) (.tmp 8) rfl (w.heap.size + 1) _ rfl rfl HTH.out size49 (all_oneCell_toArray (by simp [Value.oneCell'])) ?_; intro W9 hW9))
    have e9 : W9 = putL w1 (w.heap.size + 1) [.int .i64 ek, .int .i64 ea, .string en, .int .i64 em, .slice a4 n4 c4, .slice a5 n5 c5, .slice a6 n6 c6] := hW9.out
    refine leaves_cons (f := 135) (args := #[.pointer (some ⟨w.heap.size, 0, none⟩)]) (by simp) (by simp [go_sem]) ?_
    refine (idle_76 _ _).mono ?_
    rintro e u' w2 ⟨rfl, rfl, rfl⟩
    have hA2 : w2.heap[w.heap.size + 1]? = some (.cells #[.int .i64 ek, .int .i64 ea, .string en, .int .i64 em, .slice a4 n4 c4, .slice a5 n5 c5, .slice a6 n6 c6] 36 (0, 0)) := by rw [e9]; exact putL_at (vs := [.int .i64 ek, .int .i64 ea, .string en, .int .i64 em, .slice a4 n4 c4, .slice a5 n5 c5, .slice a6 n6 c6]) HA.out rfl
    obtain ⟨⟨q0, q1, q2, q3, q4, q5, q6⟩, -⟩ := sev_of (t := 36) hA2
    refine ⟨.tuple #[.agg #[.int .i64 ek, .int .i64 ea, .string en, .int .i64 em, .slice a4 n4 c4, .slice a5 n5 c5, .slice a6 n6 c6], .bool true], ?_, .ok HR.out ?_ ⟨[.int .i64 ek, .int .i64 ea, .string en, .int .i64 em, .slice a4 n4 c4, .slice a5 n5 c5, .slice a6 n6 c6], rfl, ?_⟩ ?_⟩
    · simp [results, Tryz.results86, go_sem, q0, q1, q2, q3, q4, q5, q6]
    · rw [e9]; exact HF.out.putL (by omega) _
    · rw [e9]; exact (HCS.out.putL _ (fun b hb => hb.2) _).mono (fun b _ hb => hb.1)
    · rw [e9]; exact HP.out.putL HA.out (by decide) (by have := HPB.out; omega) _
end Go.Proofs.YtijnjoonbjdafaaGreatDoor

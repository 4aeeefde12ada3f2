/-
  The contract of split, at expressions.
-/
import Derived.Test.YtijnjoonbjdafaaGreatDoorSplitT
import Derived.Test.YtijnjoonbjdafaaGreatDoorFieldsE
namespace Go.Proofs.YtijnjoonbjdafaaGreatDoor
set_option maxRecDepth 20000
open Go.RowKit Go.Shelf
theorem cells_FE {A : Nat → Prop} {w : World} : ∀ (fs : List (Bs × PE)) (xs : List Value), IsCs A w (encFE fs) xs → ∃ ys : List (Bs × List Value), xs = ys.flatMap fcells ∧ fs.length = ys.length ∧ ∀ i (h1 : i < fs.length) (h2 : i < ys.length), ys[i].1 = fs[i].1 ∧ IsCs A w (encE 26 36 fs[i].2) ys[i].2
  | [], xs, h => by
    simp only [encFE, List.flatMap_nil, IsCs] at h
    subst h
    exact ⟨[], rfl, rfl, fun i h1 => by simp at h1⟩
  | f :: r, xs, h => by
    have e : encFE (f :: r) = .str f.1 :: (encE 26 36 f.2 ++ encFE r) := by simp [encFE]
    rw [e] at h
    obtain ⟨x, zs, rfl, h1, h2⟩ := h.uncons
    obtain ⟨a, b, rfl, h3, h4⟩ := h2.split
    simp only [IsC] at h1
    subst h1
    obtain ⟨ys, rfl, hl, hq⟩ := cells_FE r b h4
    refine ⟨(f.1, a) :: ys, by simp [fcells], by simpa using hl, fun i a1 a2 => ?_⟩
    cases i with
    | zero => exact ⟨rfl, h3⟩
    | succ i => exact hq i (by simpa using a1) (by simpa using a2)
theorem vals_E {A : Nat → Prop} {w : World} : ∀ (vs : List PE) (ys : List (Bs × List Value)), vs.length = ys.length → (∀ i (h1 : i < vs.length) (h2 : i < ys.length), IsCs A w (encE 26 36 vs[i]) ys[i].2) → IsCs A w (encEs 26 36 vs) (ys.flatMap (·.2))
  | [], [], _, _ => by simp only [encEs, List.flatMap_nil]; exact IsCs.nil _ _
  | [], _ :: _, h, _ => by simp at h
  | _ :: _, [], h, _ => by simp at h
  | v :: vs, y :: ys, h, hq => by
    have h1 := hq 0 (by simp) (by simp)
    simp only [List.getElem_cons_zero] at h1
    rw [encEs, List.flatMap_cons]
    exact h1.append _ _ _ _ (vals_E vs ys (by simpa using h) (fun i a b => hq (i + 1) (by simpa using a) (by simpa using b)))
theorem info49 : (Tryz.prog.info? 36).map (fun i => (i.zero, i.size, i.bytes)) = some (some (.agg #[.int .i64 0, .int .i64 0, .string ⟨#[]⟩, .int .i64 0, .slice none 0 0, .slice none 0 0, .slice none 0 0]), 7, 112) := by kernel_rfl
theorem fcell_E {w : World} {b : Nat} {t : TypeId} {v0 v1 v2 v3 v4 v5 v6 v7 : Value} (h : w.heap[b]? = some (.cells #[v0, v1, v2, v3, v4, v5, v6, v7] t (0, 0))) : w.cell? ⟨b, 0, none⟩ = some v0 ∧ w.cell? ⟨b, 1, none⟩ = some v1 ∧ w.cell? ⟨b, 2, none⟩ = some v2 ∧ w.cell? ⟨b, 3, none⟩ = some v3 ∧ w.cell? ⟨b, 4, none⟩ = some v4 ∧ w.cell? ⟨b, 5, none⟩ = some v5 ∧ w.cell? ⟨b, 6, none⟩ = some v6 ∧ w.cell? ⟨b, 7, none⟩ = some v7 := by simp [World.cell?, h]
set_option maxHeartbeats 4000000 in
theorem split_E {A : Nat → Prop} (w : World) (fs : List (Bs × PE)) (v : Value) (xs : List Value) (hr : w.ownsRow 0 280 8 v fs.length xs) (hc : IsCs A w (encFE fs) xs) (hn : fs.length ≤ 1000000) :
    Calls Tryz.prog 197 #[v] w fun e w' => Below w.heap.size w w' ∧ ∃ vn vv, e = .returned (.tuple #[vn, vv]) ∧ IsCs (fun b => A b ∧ b < w.heap.size ∨ w.heap.size ≤ b) w' [.row 9 1 (fs.map (·.1)).length ((fs.map (·.1)).map .str), .row 36 7 (fs.map (·.2)).length (encEs 26 36 (fs.map (·.2)))] [vn, vv] := by
  obtain ⟨i0, hi, hz0, hz1, hz2⟩ := info_parts info49
  obtain ⟨j0, hj, hy0, hy1, hy2⟩ := info_parts info9
  obtain ⟨ys, rfl, hl, hq⟩ := cells_FE fs xs hc
  obtain ⟨a0, cap, rfl⟩ : ∃ a0 cap, v = .slice a0 fs.length cap := by
    rcases hr.2 with ⟨rfl, e⟩ | ⟨g, cap, cur, rfl, _⟩
    · exact ⟨none, 0, by rw [e]⟩
    · exact ⟨_, _, rfl⟩
  have hlen : ∀ y ∈ ys, (fcells y).length = 8 := by
    intro y hy
    obtain ⟨i, h1, rfl⟩ := List.getElem_of_mem hy
    have := (hq i (by omega) h1).2.length
    rw [encE_length] at this
    simp [fcells, this]
  have HG : ∀ i (h2 : i < ys.length), ∃ g, a0 = some ⟨g, 0, none⟩ ∧ g < w.heap.size ∧ ∀ j x, j < 8 → (fcells ys[i])[j]? = some x → ∀ W, Below w.heap.size w W → W.cell? ⟨g, i * 8 + j, none⟩ = some x := by
    intro i h2
    rcases hr.2 with ⟨_, e⟩ | ⟨g, cap', cur, e, hb, hg, hcc, hm, hs, ht⟩
    · omega
    · cases e
      refine ⟨g, rfl, (Array.getElem?_eq_some_iff.1 hg).1, fun j x hj hx W hW => ?_⟩
      have hr' := row_below hr hW
      rw [hr'.cellAt (i * 8 + j) (by have := Nat.mul_le_mul_right 8 (show i + 1 ≤ fs.length by omega); rw [Nat.add_mul] at this; omega), flat_get fcells ys hlen i j h2 hj]
      exact hx
  have HQ := Lib.hid hq
  have HL := Lib.hid hl
  have HGG := Lib.hid HG
  have HNN := Lib.hid hn
  obtain ⟨n, hnn⟩ : ∃ n, n = fs.length := ⟨_, rfl⟩
  rw [← hnn]
  have HLN := Lib.hid (show ys.length = n by rw [hnn]; exact hl.symm)
  have HN := Lib.hid (show n ≤ 1000000 by rw [hnn]; exact hn)
  have HFN := Lib.hid hnn
  clear hr hc hlen HG hq hl hn hnn
  go_enter Tryz.func197, Tryz.ntmps197
  go_wp2_with fail
  go_loopw [4, 5, 10] (fun s4 s5 s10 wr => ∃ (i : Nat), s10 = .int .i64 (i : Nat) ∧ i ≤ n ∧ Below w.heap.size w wr ∧ wr.ownsRow 0 9 1 s4 i ((ys.take i).map fun y => Value.string ⟨y.1.toArray⟩) ∧ wr.ownsRow 0 36 7 s5 i ((ys.take i).flatMap (·.2)) ∧ (∀ b, s4.ownBlock = some b → w.heap.size ≤ b) ∧ (∀ b, s5.ownBlock = some b → w.heap.size ≤ b) ∧ (∀ b, s4.ownBlock = some b → s5.ownBlock ≠ some b)) (fun _ _ s10 _ => n - (intOf s10).toNat)
  case atStart =>
    exact ⟨0, rfl, Nat.zero_le _, Below.refl _ _, World.ownsRow_nil _ _ _ _, World.ownsRow_nil _ _ _ _, (fun b hb => by cases hb), (fun b hb => by cases hb), (fun b hb => by cases hb)⟩
  case round =>
    obtain ⟨i, rfl, hin, hB, hr4, hr5, ho4, ho5, hne⟩ := hrel
    by_cases hlt : i < n
    · have hd1 : decide ((i : Int) < (n : Int)) = true := by simp; omega
      have hd2 : decide (i < n) = true := by simp; omega
      have hy : i < ys.length := by have := HLN.out; omega
      obtain ⟨g, rfl, hgl, hcell⟩ := HGG.out i hy
      obtain ⟨hq1, hq2⟩ := HQ.out i (by have := HFN.out; omega) hy
      obtain ⟨ek, ea, en, em, a4, n4, c4, a5, n5, c5, a6, n6, c6, hcs⟩ := cells_E hq2
      have hcc : fcells ys[i] = [.string ⟨(ys[i]).1.toArray⟩, .int .i64 ek, .int .i64 ea, .string en, .int .i64 em, .slice a4 n4 c4, .slice a5 n5 c5, .slice a6 n6 c6] := by rw [fcells, hcs]
      rw [hcc] at hcell
      have x0 := hcell 0 (.string ⟨(ys[i]).1.toArray⟩) (by decide) rfl wr hB
      have x1 := hcell 1 (.int .i64 ek) (by decide) rfl wr hB
      have x2 := hcell 2 (.int .i64 ea) (by decide) rfl wr hB
      have x3 := hcell 3 (.string en) (by decide) rfl wr hB
      have x4 := hcell 4 (.int .i64 em) (by decide) rfl wr hB
      have x5 := hcell 5 (.slice a4 n4 c4) (by decide) rfl wr hB
      have x6 := hcell 6 (.slice a5 n5 c5) (by decide) rfl wr hB
      have x7 := hcell 7 (.slice a6 n6 c6) (by decide) rfl wr hB
      rw [Nat.add_zero] at x0
      have HTK := Lib.hid (show ys.take (i + 1) = ys.take i ++ [ys[i]] from take_snoc ys i hy)
      have HCS := Lib.hid hcs
      obtain ⟨nm, hnm⟩ : ∃ nm : ByteArray, nm = ⟨(ys[i]).1.toArray⟩ := ⟨_, rfl⟩
      rw [← hnm] at x0
      have HNM := Lib.hid hnm
      have HBL := Lib.hid hB
      have R4 := Lib.hid hr4
      have R5 := Lib.hid hr5
      have O4 := Lib.hid ho4
      have O5 := Lib.hid ho5
      have NE := Lib.hid hne
      have HLT := Lib.hid hlt
      have HSZ := Lib.hid hB.size
      have HL4 := Lib.hid (show ∀ b, u4.ownBlock = some b → b < wr.heap.size from fun b hb => (hr4.lt b hb).2)
      have HL5 := Lib.hid (show ∀ b, u5.ownBlock = some b → b < wr.heap.size from fun b hb => (hr5.lt b hb).2)
      have R4a := Lib.hid ((hr4.alloc (.cells #[.string nm, .int .i64 ek, .int .i64 ea, .string en, .int .i64 em, .slice a4 n4 c4, .slice a5 n5 c5, .slice a6 n6 c6] 280)).alloc (.cells #[.string nm] 9))
      have HNA := Lib.hid (World.news_of_block (heap_alloc_new (wr.alloc (.cells #[.string nm, .int .i64 ek, .int .i64 ea, .string en, .int .i64 em, .slice a4 n4 c4, .slice a5 n5 c5, .slice a6 n6 c6] 280)) (.cells #[.string nm] 9)))
      have hmx : i + 1 ≤ maxLen := by have := HN.out; unfold maxLen; omega
      have hmb : (i + 1) * 16 ≤ 140737488355328 := by have := HN.out; omega
      have hmb2 : (i + 1) * 112 ≤ 140737488355328 := by have := HN.out; omega
      clear hB hr4 hr5 ho4 ho5 hne hcell hcs hcc hq1 hq2 hlt hnm hin
      go_upto_region 7 with (first | (at_builtin; refine wpList_append_lies _ rfl (.tmp 14) (.tmp 17) 23 rfl 0 9 j0 _ 1 16 Tryz.underlying23 hj hy0 hy1 hy2 rfl (by decide) u4 i _ rfl R4a.out ⟨wr.heap.size + 1, 0, none⟩ 1 1 [.string nm] rfl rfl (fun j u hu => by have := HNA.out j u hu; simpa using this) (by simp [Value.oneCell']) (by decide) hmx hmb (Nat.zero_le _) (wr.heap.size + 2) (by simp) ?_; intro g4 cap4 w4 hown4 hg4 hat4 hlt4))
      have hF4 : w4.heap[wr.heap.size]? = some (.cells #[.string nm, .int .i64 ek, .int .i64 ea, .string en, .int .i64 em, .slice a4 n4 c4, .slice a5 n5 c5, .slice a6 n6 c6] 280) := blk_grown (blk_alloc (heap_alloc_new wr _) _) hg4 (fun e => by have := HL4.out _ e.symm; omega)
      obtain ⟨q0, q1, q2, q3, q4, q5, q6, q7⟩ := fcell_E hF4
      have G4 := Lib.hid hg4
      have A4 := Lib.hid hat4
      have N4 := Lib.hid hown4
      have HS4 := Lib.hid (show wr.heap.size + 2 ≤ w4.heap.size by have := hg4.size; simpa using this)
      have R5a := Lib.hid ((row_grown ((R5.out.alloc (.cells #[.string nm, .int .i64 ek, .int .i64 ea, .string en, .int .i64 em, .slice a4 n4 c4, .slice a5 n5 c5, .slice a6 n6 c6] 280)).alloc (.cells #[.string nm] 9)) hg4 (fun b hb e => NE.out b e.symm hb)).alloc (.cells #[.int .i64 ek, .int .i64 ea, .string en, .int .i64 em, .slice a4 n4 c4, .slice a5 n5 c5, .slice a6 n6 c6] 36))
      have HNC := Lib.hid (World.news_of_block (heap_alloc_new w4 (.cells #[.int .i64 ek, .int .i64 ea, .string en, .int .i64 em, .slice a4 n4 c4, .slice a5 n5 c5, .slice a6 n6 c6] 36)))
      have HONE := Lib.hid (show ∀ u ∈ ([.int .i64 ek, .int .i64 ea, .string en, .int .i64 em, .slice a4 n4 c4, .slice a5 n5 c5, .slice a6 n6 c6] : List Value), u.oneCell' = true by simp [Value.oneCell'])
      clear hg4 hat4 hown4 hF4
      go_wp2_with (first | (at_builtin; refine wpList_append_lies _ rfl (.tmp 19) (.tmp 22) 34 rfl 0 36 i0 _ 7 112 Tryz.underlying34 hi hz0 hz1 hz2 rfl (by decide) u5 i _ rfl R5a.out ⟨w4.heap.size, 0, none⟩ 1 1 [.int .i64 ek, .int .i64 ea, .string en, .int .i64 em, .slice a4 n4 c4, .slice a5 n5 c5, .slice a6 n6 c6] rfl rfl HNC.out HONE.out (by decide) hmx hmb2 (Nat.zero_le _) (w4.heap.size + 1) (World.size_alloc _ _) ?_; intro g5 cap5 w5 hown5 hg5 hat5 hlt5))
      have hb4 : Below w.heap.size w w4 := Below.grownAt ((HBL.out.alloc HSZ.out _).alloc (by simp; have := HSZ.out; omega) _) G4.out O4.out (by simp; have := HSZ.out; omega)
      have hb5 : Below w.heap.size w w5 := Below.grownAt (hb4.alloc hb4.size _) hg5 O5.out (by simp; have := hb4.size; omega)
      have o4 : w.heap.size ≤ g4 := by
        rcases A4.out with e | e
        · exact O4.out _ e
        · have := HSZ.out; omega
      have o5 : w.heap.size ≤ g5 := by
        rcases hat5 with e | e
        · exact O5.out _ e
        · have := hb4.size; omega
      have l4 : g4 < w4.heap.size := (N4.out.lt g4 rfl).2
      have ne4 : u5.ownBlock ≠ some g4 := by
        intro e5
        rcases A4.out with e | e
        · exact NE.out _ e e5
        · have := HL5.out _ e5; omega
      refine ⟨⟨i + 1, by simp, by have := HLT.out; omega, hb5, ?_, ?_, (fun b hb => by cases hb; exact o4), (fun b hb => by cases hb; exact o5), ?_⟩, ?_⟩
      · rw [HTK.out, List.map_append]
        have := row_grown (N4.out.alloc (.cells #[.int .i64 ek, .int .i64 ea, .string en, .int .i64 em, .slice a4 n4 c4, .slice a5 n5 c5, .slice a6 n6 c6] 36)) hg5 (fun b hb e => ne4 (by cases hb; exact e.symm))
        simpa [← HNM.out] using this
      · rw [HTK.out, List.flatMap_append]
        simpa [HCS.out] using hown5
      · intro b hb e
        cases hb
        have e' : g5 = g4 := by cases e; rfl
        rcases hat5 with e5 | e5
        · exact ne4 (e' ▸ e5)
        · omega
      · simp [intOf]
        have := HLT.out
        omega
    · have hd1 : decide ((i : Int) < (n : Int)) = false := by simp; omega
      have hd2 : decide (i < n) = false := by simp; omega
      obtain rfl : i = n := by omega
      have HBL := Lib.hid hB
      have R4 := Lib.hid hr4
      have R5 := Lib.hid hr5
      have O4 := Lib.hid ho4
      have O5 := Lib.hid ho5
      clear hB hr4 hr5 ho4 ho5 hne hin hlt
      go_wp2_with fail
      go_ret2
      refine ⟨HBL.out, _, _, rfl, ?_⟩
      have e4 : ys.take i = ys := List.take_of_length_le (by have := HLN.out; omega)
      have r4 := R4.out
      have r5 := R5.out
      rw [e4, HFN.out] at r4 r5
      have k1 : ∀ j (h1 : j < (fs.map (·.1)).length) (h2 : j < ys.length), ys[j].1 = (fs.map (·.1))[j] := fun j h1 h2 => by rw [List.getElem_map]; exact (HQ.out j (by simpa using h1) h2).1
      have k2 : ∀ j (h1 : j < (fs.map (·.2)).length) (h2 : j < ys.length), IsCs (fun b => A b ∧ b < w.heap.size ∨ w.heap.size ≤ b) wr (encE 26 36 (fs.map (·.2))[j]) ys[j].2 := fun j h1 h2 => by
        rw [List.getElem_map]
        exact ((HQ.out j (by simpa using h1) h2).2.mono (A' := fun b => A b ∧ b < w.heap.size ∨ w.heap.size ≤ b) (fun b hb ha => .inl ⟨ha, hb⟩)).below HBL.out
      refine .cons (.row (by decide) (by rw [List.length_map]; exact r4) (fun b hb => .inr (O4.out b hb)) (names_back _ _ _ _ (by rw [List.length_map]; exact HL.out) k1)) (.cons (.row (by decide) (by rw [List.length_map]; exact r5) (fun b hb => .inr (O5.out b hb)) (vals_E _ _ (by rw [List.length_map]; exact HL.out) k2)) (.nil _ _))
end Go.Proofs.YtijnjoonbjdafaaGreatDoor

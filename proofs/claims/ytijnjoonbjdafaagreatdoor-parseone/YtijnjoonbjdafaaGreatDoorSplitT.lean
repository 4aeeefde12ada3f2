/-
  The contract of split, at types.
-/
import Derived.Test.YtijnjoonbjdafaaGreatDoorExA
namespace Go.Proofs.YtijnjoonbjdafaaGreatDoor
set_option maxRecDepth 20000
open Go.RowKit Go.Shelf
def fcells (y : Bs × List Value) : List Value := .string ⟨y.1.toArray⟩ :: y.2
theorem flat_get {β : Type} {k : Nat} (f : β → List Value) : ∀ (l : List β), (∀ y ∈ l, (f y).length = k) → ∀ (i j : Nat) (hi : i < l.length), j < k → (l.flatMap f)[i * k + j]? = (f l[i])[j]?
  | [], _, i, j, hi, _ => by simp at hi
  | y :: r, h, 0, j, _, hj => by
    have := h y List.mem_cons_self
    simp only [List.flatMap_cons, List.getElem_cons_zero]
    rw [List.getElem?_append_left (by omega), Nat.zero_mul, Nat.zero_add]
  | y :: r, h, i + 1, j, hi, hj => by
    have h0 := h y List.mem_cons_self
    have := flat_get f r (fun z hz => h z (List.mem_cons_of_mem _ hz)) i j (by simpa using hi) hj
    simp only [List.flatMap_cons, List.getElem_cons_succ]
    rw [List.getElem?_append_right (by rw [h0, Nat.add_mul]; omega), h0, ← this]
    congr 1
    rw [Nat.add_mul]; omega
theorem Below.grownAt {n : Nat} {w W W' : World} (h : Below n w W) {row : Option Nat} (hg : W.grownBy W' row) (hr : ∀ b, row = some b → n ≤ b) (hn : n ≤ W.heap.size) : Below n w W' :=
  ⟨hg.os.trans h.os, hg.tape.trans h.tape, hg.output.trans h.output, Nat.le_trans h.size hg.size, fun k hk => (hg.block k (by omega) (fun e => by have := hr k e.symm; omega)).trans (h.block k hk)⟩
theorem row_grown {w w' : World} {base : Nat} {e : TypeId} {size : Nat} {v : Value} {n : Nat} {xs : List Value} (h : w.ownsRow base e size v n xs) {row : Option Nat} (hg : w.grownBy w' row) (hn : ∀ b, v.ownBlock = some b → some b ≠ row) : w'.ownsRow base e size v n xs :=
  row_kept (S := fun b => some b = row) h hg.size (fun b hb hb' => hg.block b hb hb') hn
theorem info9 : (Tryz.prog.info? 9).map (fun i => (i.zero, i.size, i.bytes)) = some (some (.string ⟨#[]⟩), 1, 16) := by kernel_rfl
theorem take_snoc {β : Type} (l : List β) (i : Nat) (h : i < l.length) : l.take (i + 1) = l.take i ++ [l[i]] := by
  rw [List.take_succ_eq_append_getElem h]
theorem names_back (A : Nat → Prop) (w : World) : ∀ (ns : List Bs) (ys : List (Bs × List Value)), ns.length = ys.length → (∀ i (h1 : i < ns.length) (h2 : i < ys.length), ys[i].1 = ns[i]) → IsCs A w (ns.map .str) (ys.map fun y => Value.string ⟨y.1.toArray⟩)
  | [], [], _, _ => IsCs.nil _ _
  | [], _ :: _, h, _ => by simp at h
  | _ :: _, [], h, _ => by simp at h
  | n :: ns, y :: ys, h, hq => by
    have h0 := hq 0 (by simp) (by simp)
    simp only [List.getElem_cons_zero] at h0
    simp only [List.map_cons, ← h0]
    exact .cons (.str _ _ _) (names_back A w ns ys (by simpa using h) (fun i a b => hq (i + 1) (by simpa using a) (by simpa using b)))
theorem cells_FT {A : Nat → Prop} {w : World} : ∀ (fs : List (Bs × PT)) (xs : List Value), IsCs A w (encFT fs) xs → ∃ ys : List (Bs × List Value), xs = ys.flatMap fcells ∧ fs.length = ys.length ∧ ∀ i (h1 : i < fs.length) (h2 : i < ys.length), ys[i].1 = fs[i].1 ∧ IsCs A w (encT 26 fs[i].2) ys[i].2
  | [], xs, h => by
    simp only [encFT, List.flatMap_nil, IsCs] at h
    subst h
    exact ⟨[], rfl, rfl, fun i h1 => by simp at h1⟩
  | f :: r, xs, h => by
    have e : encFT (f :: r) = .str f.1 :: (encT 26 f.2 ++ encFT r) := by simp [encFT]
    rw [e] at h
    obtain ⟨x, zs, rfl, h1, h2⟩ := h.uncons
    obtain ⟨a, b, rfl, h3, h4⟩ := h2.split
    simp only [IsC] at h1
    subst h1
    obtain ⟨ys, rfl, hl, hq⟩ := cells_FT r b h4
    refine ⟨(f.1, a) :: ys, by simp [fcells], by simpa using hl, fun i a1 a2 => ?_⟩
    cases i with
    | zero => exact ⟨rfl, h3⟩
    | succ i => exact hq i (by simpa using a1) (by simpa using a2)
theorem FT_cells {A : Nat → Prop} {w : World} : ∀ (fs : List (Bs × PT)) (ys : List (Bs × List Value)), fs.length = ys.length → (∀ i (h1 : i < fs.length) (h2 : i < ys.length), ys[i].1 = fs[i].1 ∧ IsCs A w (encT 26 fs[i].2) ys[i].2) → IsCs A w (encFT fs) (ys.flatMap fcells)
  | [], [], _, _ => by simp only [encFT, List.flatMap_nil]; exact IsCs.nil _ _
  | [], _ :: _, h, _ => by simp at h
  | _ :: _, [], h, _ => by simp at h
  | f :: r, y :: ys, h, hq => by
    obtain ⟨h0, h1⟩ := hq 0 (by simp) (by simp)
    simp only [List.getElem_cons_zero] at h0 h1
    have e : encFT (f :: r) = .str f.1 :: (encT 26 f.2 ++ encFT r) := by simp [encFT]
    rw [e, List.flatMap_cons, fcells, h0]
    exact .cons (.str _ _ _) (h1.append _ _ _ _ (FT_cells r ys (by simpa using h) (fun i a b => hq (i + 1) (by simpa using a) (by simpa using b))))
theorem vals_T {A : Nat → Prop} {w : World} : ∀ (vs : List PT) (ys : List (Bs × List Value)), vs.length = ys.length → (∀ i (h1 : i < vs.length) (h2 : i < ys.length), IsCs A w (encT 26 vs[i]) ys[i].2) → IsCs A w (encTs 26 vs) (ys.flatMap (·.2))
  | [], [], _, _ => by simp only [encTs, List.flatMap_nil]; exact IsCs.nil _ _
  | [], _ :: _, h, _ => by simp at h
  | _ :: _, [], h, _ => by simp at h
  | v :: vs, y :: ys, h, hq => by
    have h1 := hq 0 (by simp) (by simp)
    simp only [List.getElem_cons_zero] at h1
    rw [encTs, List.flatMap_cons]
    exact h1.append _ _ _ _ (vals_T vs ys (by simpa using h) (fun i a b => hq (i + 1) (by simpa using a) (by simpa using b)))
theorem fcell_T {w : World} {b : Nat} {t : TypeId} {v0 v1 v2 v3 v4 : Value} (h : w.heap[b]? = some (.cells #[v0, v1, v2, v3, v4] t (0, 0))) : w.cell? ⟨b, 0, none⟩ = some v0 ∧ w.cell? ⟨b, 1, none⟩ = some v1 ∧ w.cell? ⟨b, 2, none⟩ = some v2 ∧ w.cell? ⟨b, 3, none⟩ = some v3 ∧ w.cell? ⟨b, 4, none⟩ = some v4 := by simp [World.cell?, h]
set_option maxHeartbeats 4000000 in
theorem split_T {A : Nat → Prop} (w : World) (fs : List (Bs × PT)) (v : Value) (xs : List Value) (hr : w.ownsRow 0 252 5 v fs.length xs) (hc : IsCs A w (encFT fs) xs) (hn : fs.length ≤ 1000000) :
    Calls Tryz.prog 195 #[v] w fun e w' => Below w.heap.size w w' ∧ ∃ vn vv, e = .returned (.tuple #[vn, vv]) ∧ IsCs (fun b => A b ∧ b < w.heap.size ∨ w.heap.size ≤ b) w' [.row 9 1 (fs.map (·.1)).length ((fs.map (·.1)).map .str), .row 26 4 (fs.map (·.2)).length (encTs 26 (fs.map (·.2)))] [vn, vv] := by
  obtain ⟨i0, hi, hz0, hz1, hz2⟩ := info_parts info39
  obtain ⟨j0, hj, hy0, hy1, hy2⟩ := info_parts info9
  obtain ⟨ys, rfl, hl, hq⟩ := cells_FT fs xs hc
  obtain ⟨a0, cap, rfl⟩ : ∃ a0 cap, v = .slice a0 fs.length cap := by
    rcases hr.2 with ⟨rfl, e⟩ | ⟨g, cap, cur, rfl, _⟩
    · exact ⟨none, 0, by rw [e]⟩
    · exact ⟨_, _, rfl⟩
  have hlen : ∀ y ∈ ys, (fcells y).length = 5 := by
    intro y hy
    obtain ⟨i, h1, rfl⟩ := List.getElem_of_mem hy
    have := (hq i (by omega) h1).2.length
    rw [encT_length] at this
    simp [fcells, this]
  have HG : ∀ i (h2 : i < ys.length), ∃ g, a0 = some ⟨g, 0, none⟩ ∧ g < w.heap.size ∧ ∀ j x, j < 5 → (fcells ys[i])[j]? = some x → ∀ W, Below w.heap.size w W → W.cell? ⟨g, i * 5 + j, none⟩ = some x := by
    intro i h2
    rcases hr.2 with ⟨_, e⟩ | ⟨g, cap', cur, e, hb, hg, hcc, hm, hs, ht⟩
    · omega
    · cases e
      refine ⟨g, rfl, (Array.getElem?_eq_some_iff.1 hg).1, fun j x hj hx W hW => ?_⟩
      have hr' := row_below hr hW
      rw [hr'.cellAt (i * 5 + j) (by have := Nat.mul_le_mul_right 5 (show i + 1 ≤ fs.length by omega); rw [Nat.add_mul] at this; omega), flat_get fcells ys hlen i j h2 hj]
      exact hx
  have HQ := Lib.hid hq
  have HL := Lib.hid hl
  have HGG := Lib.hid HG
  have HNN := Lib.hid hn
  obtain ⟨n, hnn⟩ : ∃ n, n = fs.length := ⟨_, rfl⟩
  rw [← hnn]
  have HLN := Lib.hid (show ys.length = n by rw [hnn]; exact hl.symm)
  have HN := Lib.hid (show n ≤ 1000000 by rw [hnn]; exact hn)
  have HFN := Lib.hid hnn
  clear hr hc hlen HG hq hl hn hnn
  go_enter Tryz.func195, Tryz.ntmps195
  go_wp2_with fail
  go_loopw [4, 5, 10] (fun s4 s5 s10 wr => ∃ (i : Nat), s10 = .int .i64 (i : Nat) ∧ i ≤ n ∧ Below w.heap.size w wr ∧ wr.ownsRow 0 9 1 s4 i ((ys.take i).map fun y => Value.string ⟨y.1.toArray⟩) ∧ wr.ownsRow 0 26 4 s5 i ((ys.take i).flatMap (·.2)) ∧ (∀ b, s4.ownBlock = some b → w.heap.size ≤ b) ∧ (∀ b, s5.ownBlock = some b → w.heap.size ≤ b) ∧ (∀ b, s4.ownBlock = some b → s5.ownBlock ≠ some b)) (fun _ _ s10 _ => n - (intOf s10).toNat)
  case atStart =>
    exact ⟨0, rfl, Nat.zero_le _, Below.refl _ _, World.ownsRow_nil _ _ _ _, World.ownsRow_nil _ _ _ _, (fun b hb => by cases hb), (fun b hb => by cases hb), (fun b hb => by cases hb)⟩
  case round =>
    obtain ⟨i, rfl, hin, hB, hr4, hr5, ho4, ho5, hne⟩ := hrel
    by_cases hlt : i < n
    · have hd1 : decide ((i : Int) < (n : Int)) = true := by simp; omega
      have hd2 : decide (i < n) = true := by simp; omega
      have hy : i < ys.length := by have := HLN.out; omega
      obtain ⟨g, rfl, hgl, hcell⟩ := HGG.out i hy
      obtain ⟨hq1, hq2⟩ := HQ.out i (by have := HFN.out; omega) hy
      obtain ⟨tk, tn, a2, n2, c2, a3, n3, c3, hcs⟩ := cells_T hq2
      have hcc : fcells ys[i] = [.string ⟨(ys[i]).1.toArray⟩, .int .i64 tk, .string tn, .slice a2 n2 c2, .slice a3 n3 c3] := by rw [fcells, hcs]
      rw [hcc] at hcell
      have x0 := hcell 0 (.string ⟨(ys[i]).1.toArray⟩) (by decide) rfl wr hB
      have x1 := hcell 1 (.int .i64 tk) (by decide) rfl wr hB
      have x2 := hcell 2 (.string tn) (by decide) rfl wr hB
      have x3 := hcell 3 (.slice a2 n2 c2) (by decide) rfl wr hB
      have x4 := hcell 4 (.slice a3 n3 c3) (by decide) rfl wr hB
      rw [Nat.add_zero] at x0
      have HTK := Lib.hid (show ys.take (i + 1) = ys.take i ++ [ys[i]] from take_snoc ys i hy)
      have HCS := Lib.hid hcs
      obtain ⟨nm, hnm⟩ : ∃ nm : ByteArray, nm = ⟨(ys[i]).1.toArray⟩ := ⟨_, rfl⟩
      rw [← hnm] at x0
      have HNM := Lib.hid hnm
      have HBL := Lib.hid hB
      have R4 := Lib.hid hr4
      have R5 := Lib.hid hr5
      have O4 := Lib.hid ho4
      have O5 := Lib.hid ho5
      have NE := Lib.hid hne
      have HLT := Lib.hid hlt
      have HSZ := Lib.hid hB.size
      have HL4 := Lib.hid (show ∀ b, u4.ownBlock = some b → b < wr.heap.size from fun b hb => (hr4.lt b hb).2)
      have HL5 := Lib.hid (show ∀ b, u5.ownBlock = some b → b < wr.heap.size from fun b hb => (hr5.lt b hb).2)
      have R4a := Lib.hid ((hr4.alloc (.cells #[.string nm, .int .i64 tk, .string tn, .slice a2 n2 c2, .slice a3 n3 c3] 252)).alloc (.cells #[.string nm] 9))
      have HNA := Lib.hid (World.news_of_block (heap_alloc_new (wr.alloc (.cells #[.string nm, .int .i64 tk, .string tn, .slice a2 n2 c2, .slice a3 n3 c3] 252)) (.cells #[.string nm] 9)))
      have hmx : i + 1 ≤ maxLen := by have := HN.out; unfold maxLen; omega
      have hmb : (i + 1) * 16 ≤ 140737488355328 := by have := HN.out; omega
      have hmb2 : (i + 1) * 72 ≤ 140737488355328 := by have := HN.out; omega
      clear hB hr4 hr5 ho4 ho5 hne hcell hcs hcc hq1 hq2 hlt hnm hin
      go_upto_region 7 with (first | (at_builtin; refine wpList_append_lies _ rfl (.tmp 14) (.tmp 17) 23 rfl 0 9 j0 _ 1 16 Tryz.underlying23 hj hy0 hy1 hy2 rfl (by decide) u4 i _ rfl R4a.out ⟨wr.heap.size + 1, 0, none⟩ 1 1 [.string nm] rfl rfl (fun j u hu => by have := HNA.out j u hu; simpa using this) (by simp [Value.oneCell']) (by decide) hmx hmb (Nat.zero_le _) (wr.heap.size + 2) (by simp) ?_; intro g4 cap4 w4 hown4 hg4 hat4 hlt4))
      have hF4 : w4.heap[wr.heap.size]? = some (.cells #[.string nm, .int .i64 tk, .string tn, .slice a2 n2 c2, .slice a3 n3 c3] 252) := blk_grown (blk_alloc (heap_alloc_new wr _) _) hg4 (fun e => by have := HL4.out _ e.symm; omega)
      obtain ⟨q0, q1, q2, q3, q4⟩ := fcell_T hF4
      have G4 := Lib.hid hg4
      have A4 := Lib.hid hat4
      have N4 := Lib.hid hown4
      have HS4 := Lib.hid (show wr.heap.size + 2 ≤ w4.heap.size by have := hg4.size; simpa using this)
      have R5a := Lib.hid ((row_grown ((R5.out.alloc (.cells #[.string nm, .int .i64 tk, .string tn, .slice a2 n2 c2, .slice a3 n3 c3] 252)).alloc (.cells #[.string nm] 9)) hg4 (fun b hb e => NE.out b e.symm hb)).alloc (.cells #[.int .i64 tk, .string tn, .slice a2 n2 c2, .slice a3 n3 c3] 26))
      have HNC := Lib.hid (World.news_of_block (heap_alloc_new w4 (.cells #[.int .i64 tk, .string tn, .slice a2 n2 c2, .slice a3 n3 c3] 26)))
      have HONE := Lib.hid (show ∀ u ∈ ([.int .i64 tk, .string tn, .slice a2 n2 c2, .slice a3 n3 c3] : List Value), u.oneCell' = true by simp [Value.oneCell'])
      clear hg4 hat4 hown4 hF4
      go_wp2_with (first | (at_builtin; refine wpList_append_lies _ rfl (.tmp 19) (.tmp 22) 24 rfl 0 26 i0 _ 4 72 Tryz.underlying24 hi hz0 hz1 hz2 rfl (by decide) u5 i _ rfl R5a.out ⟨w4.heap.size, 0, none⟩ 1 1 [.int .i64 tk, .string tn, .slice a2 n2 c2, .slice a3 n3 c3] rfl rfl HNC.out HONE.out (by decide) hmx hmb2 (Nat.zero_le _) (w4.heap.size + 1) (World.size_alloc _ _) ?_; intro g5 cap5 w5 hown5 hg5 hat5 hlt5))
      have hb4 : Below w.heap.size w w4 := Below.grownAt ((HBL.out.alloc HSZ.out _).alloc (by simp; have := HSZ.out; omega) _) G4.out O4.out (by simp; have := HSZ.out; omega)
      have hb5 : Below w.heap.size w w5 := Below.grownAt (hb4.alloc hb4.size _) hg5 O5.out (by simp; have := hb4.size; omega)
      have o4 : w.heap.size ≤ g4 := by
        rcases A4.out with e | e
        · exact O4.out _ e
        · have := HSZ.out; omega
      have o5 : w.heap.size ≤ g5 := by
        rcases hat5 with e | e
        · exact O5.out _ e
        · have := hb4.size; omega
      have l4 : g4 < w4.heap.size := (N4.out.lt g4 rfl).2
      have ne4 : u5.ownBlock ≠ some g4 := by
        intro e5
        rcases A4.out with e | e
        · exact NE.out _ e e5
        · have := HL5.out _ e5; omega
      refine ⟨⟨i + 1, by simp, by have := HLT.out; omega, hb5, ?_, ?_, (fun b hb => by cases hb; exact o4), (fun b hb => by cases hb; exact o5), ?_⟩, ?_⟩
      · rw [HTK.out, List.map_append]
        have := row_grown (N4.out.alloc (.cells #[.int .i64 tk, .string tn, .slice a2 n2 c2, .slice a3 n3 c3] 26)) hg5 (fun b hb e => ne4 (by cases hb; exact e.symm))
        simpa [← HNM.out] using this
      · rw [HTK.out, List.flatMap_append]
        simpa [HCS.out] using hown5
      · intro b hb e
        cases hb
        have e' : g5 = g4 := by cases e; rfl
        rcases hat5 with e5 | e5
        · exact ne4 (e' ▸ e5)
        · omega
      · simp [intOf]
        have := HLT.out
        omega
    · have hd1 : decide ((i : Int) < (n : Int)) = false := by simp; omega
      have hd2 : decide (i < n) = false := by simp; omega
      obtain rfl : i = n := by omega
      have HBL := Lib.hid hB
      have R4 := Lib.hid hr4
      have R5 := Lib.hid hr5
      have O4 := Lib.hid ho4
      have O5 := Lib.hid ho5
      clear hB hr4 hr5 ho4 ho5 hne hin hlt
      go_wp2_with fail
      go_ret2
      refine ⟨HBL.out, _, _, rfl, ?_⟩
      have e4 : ys.take i = ys := List.take_of_length_le (by have := HLN.out; omega)
      have r4 := R4.out
      have r5 := R5.out
      rw [e4, HFN.out] at r4 r5
      have k1 : ∀ j (h1 : j < (fs.map (·.1)).length) (h2 : j < ys.length), ys[j].1 = (fs.map (·.1))[j] := fun j h1 h2 => by rw [List.getElem_map]; exact (HQ.out j (by simpa using h1) h2).1
      have k2 : ∀ j (h1 : j < (fs.map (·.2)).length) (h2 : j < ys.length), IsCs (fun b => A b ∧ b < w.heap.size ∨ w.heap.size ≤ b) wr (encT 26 (fs.map (·.2))[j]) ys[j].2 := fun j h1 h2 => by
        rw [List.getElem_map]
        exact ((HQ.out j (by simpa using h1) h2).2.mono (A' := fun b => A b ∧ b < w.heap.size ∨ w.heap.size ≤ b) (fun b hb ha => .inl ⟨ha, hb⟩)).below HBL.out
      refine .cons (.row (by decide) (by rw [List.length_map]; exact r4) (fun b hb => .inr (O4.out b hb)) (names_back _ _ _ _ (by rw [List.length_map]; exact HL.out) k1)) (.cons (.row (by decide) (by rw [List.length_map]; exact r5) (fun b hb => .inr (O5.out b hb)) (vals_T _ _ (by rw [List.length_map]; exact HL.out) k2)) (.nil _ _))
end Go.Proofs.YtijnjoonbjdafaaGreatDoor

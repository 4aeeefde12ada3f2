/-
  The contract of slices.SortFunc at the fields of a record type.
-/
import Derived.Test.YtijnjoonbjdafaaGreatDoorShelf
import Derived.Test.YtijnjoonbjdafaaGreatDoorSplitT
namespace Go.Proofs.YtijnjoonbjdafaaGreatDoor
set_option maxRecDepth 20000
open Go.RowKit Go.Shelf Go.Sort
abbrev FC : Type := { y : Bs × List Value // y.2.length = 4 ∧ ∀ v ∈ y.2, v.oneCell' = true }
instance : Inhabited FC := ⟨⟨([], [.int .i64 0, .int .i64 0, .int .i64 0, .int .i64 0]), rfl, by simp [Value.oneCell']⟩⟩
def FC.enc (x : FC) : List Value := fcells x.1
def FC.cmp (x y : FC) : Int := Lib.compareBytes x.1.1 y.1.1
theorem cmp_lt : ∀ a b : Bs, decide (Lib.compareBytes a b < 0) = bsLt a b
  | [], [] => rfl
  | [], _ :: _ => rfl
  | _ :: _, [] => rfl
  | a :: r, b :: s => by
    simp only [Lib.compareBytes, bsLt, UInt8.lt_iff_toNat_lt]
    by_cases h1 : a.toNat < b.toNat
    · simp [h1]
    · by_cases h2 : b.toNat < a.toNat
      · simp [h1, h2]
      · simp only [h1, h2, if_false]
        exact cmp_lt r s
theorem lt_of (x y : FC) : ltOf FC.cmp x y = bsLt x.1.1 y.1.1 := cmp_lt _ _
theorem swo : SWO (ltOf FC.cmp) :=
  ⟨fun x => by rw [lt_of]; exact bsLt_irrefl _, fun x y z h k => by rw [lt_of] at *; exact bsLt_trans _ _ _ h k, fun x y z h k => by rw [lt_of] at *; exact nle_trans k h⟩
theorem flat_len : ∀ l : List FC, (l.flatMap FC.enc).length = l.length * 5
  | [] => rfl
  | y :: r => by
    have : (FC.enc y).length = 5 := by simp [FC.enc, fcells, y.2.1]
    rw [List.flatMap_cons, List.length_append, flat_len r, this, List.length_cons]
    omega
theorem flat_list (d : Array FC) : (flatK FC.enc 5 d).toList = d.toList.flatMap FC.enc := by
  have hk : ∀ y ∈ d.toList, (FC.enc y).length = 5 := fun y _ => by simp [FC.enc, fcells, y.2.1]
  have hl : (d.toList.flatMap FC.enc).length = d.size * 5 := by
    rw [flat_len, Array.length_toList]
  refine List.ext_getElem? fun t => ?_
  by_cases ht : t < d.size * 5
  · have h1 : t / 5 < d.toList.length := by rw [Array.length_toList]; omega
    have := flat_get FC.enc d.toList hk (t / 5) (t % 5) h1 (by omega)
    rw [show t / 5 * 5 + t % 5 = t by omega] at this
    rw [this]
    have e1 := get_flatK FC.enc 5 d t ht
    rw [Array.getElem?_toList, Array.getElem?_eq_getElem (by simpa using ht)]
    rw [getElem!_pos (flatK FC.enc 5 d) t (by simpa using ht)] at e1
    rw [e1, getElem!_pos d (t / 5) (by simpa using h1), Array.getElem_toList]
    have h5 : t % 5 < (FC.enc d[t / 5]).length := by rw [hk _ (by simp)]; omega
    rw [getElem!_pos (FC.enc d[t / 5]) (t % 5) h5, List.getElem?_eq_getElem h5]
  · rw [List.getElem?_eq_none (by simp; omega), List.getElem?_eq_none (by omega)]
set_option maxHeartbeats 1000000 in
theorem cmp_any (x y : FC) (W : World) : Calls Tryz.prog 193 #[.agg (FC.enc x).toArray, .agg (FC.enc y).toArray] W fun e w' => e = .returned (.int .i64 (FC.cmp x y)) ∧ ∃ q os', w' = grow (W.drewN q) os' := by
  obtain ⟨⟨n1, l1⟩, hl1, ho1⟩ := x
  obtain ⟨⟨n2, l2⟩, hl2, ho2⟩ := y
  unfold FC.enc FC.cmp fcells
  simp only at hl1 ho1 hl2 ho2 ⊢
  match l1, hl1, l2, hl2 with
  | [a1, a2, a3, a4], _, [b1, b2, b3, b4], _ =>
    simp only [List.mem_cons, List.not_mem_nil, or_false, forall_eq_or_imp, forall_eq] at ho1 ho2
    obtain ⟨p1, p2, p3, p4⟩ := ho1
    obtain ⟨q1, q2, q3, q4⟩ := ho2
    have hcon := fun W' => strings_Compare ⟨n1.toArray⟩ ⟨n2.toArray⟩ W'
    simp only at hcon
    generalize Lib.compareBytes n1 n2 = r at hcon ⊢
    go_enter Tryz.func193, Tryz.ntmps193
    go_wp2_with (go_at_call 194; refine (hcon _).mono ?_; rintro e w' ⟨rfl, rfl⟩)
    go_ret
    exact ⟨rfl, 0, _, by rw [alloc_eq_grow, alloc_eq_grow, grow_grow]; rfl⟩
theorem row_holds {w : World} {g cap n : Nat} {d : Array FC} (hn : d.size = n) (hr : w.ownsRow 0 252 5 (.slice (some ⟨g, 0, none⟩) n cap) n (d.toList.flatMap FC.enc)) : HoldsK FC.enc 5 w g 0 d := by
  intro j hj
  rw [size_flatK] at hj
  have h1 := hr.cellAt j (by omega)
  rw [← flat_list, Array.getElem?_toList, Array.getElem?_eq_getElem (by rw [size_flatK]; exact hj)] at h1
  rw [Nat.zero_add, getElem!_pos _ j (by rw [size_flatK]; exact hj)]
  refine ⟨h1, ?_⟩
  rcases hr.2 with ⟨e, _⟩ | ⟨g', cap', cur, e, _, hg, _⟩
  · cases e
  · cases e
    simp [World.frozen?, hg]
theorem row_sorted {w : World} {g cap n q : Nat} {d d' : Array FC} {os : Array Obj} (hn' : d'.size = n) (hr : w.ownsRow 0 252 5 (.slice (some ⟨g, 0, none⟩) n cap) n (d.toList.flatMap FC.enc)) :
    (sortWorldK FC.enc 5 w g 0 q d' os).ownsRow 0 252 5 (.slice (some ⟨g, 0, none⟩) n cap) n (d'.toList.flatMap FC.enc) ∧ w.grownBy (sortWorldK FC.enc 5 w g 0 q d' os) (some g) := by
  have hl : (d'.toList.flatMap FC.enc).length = n * 5 := by rw [← flat_list, Array.length_toList, size_flatK, hn']
  rcases hr.2 with ⟨e, _⟩ | ⟨g', cap', cur, e, hb, hg, hc, hm, hs, ht⟩
  · cases e
  cases e
  have hgl := (Array.getElem?_eq_some_iff.1 hg).1
  have hh : (sortWorldK FC.enc 5 w g 0 q d' os).heap[g]? = some (.cells (putCells id 0 (flatK FC.enc 5 d') cur) 252 (0, 0)) := by
    unfold sortWorldK putRowK putRow
    rw [heap_grow_old _ _ (by simp [mapBlock, Sort.ahead]; exact hgl)]
    simp [mapBlock, Sort.ahead, hg, onCells, Array.getElem?_modify]
  refine ⟨⟨hl, .inr ⟨g, cap, _, rfl, hb, hh, hc, hm, by simp [putCells, hs], ?_⟩⟩, ⟨rfl, rfl, rfl, ?_, ?_⟩⟩
  · rw [← flat_list]
    refine List.ext_getElem? fun t => ?_
    by_cases h1 : t < n * 5
    · have h2 : t < cur.size := by rw [hs]; exact Nat.lt_of_lt_of_le h1 (Nat.mul_le_mul_right 5 hc)
      rw [List.getElem?_take, if_pos h1, Array.getElem?_toList, Array.getElem?_toList, putCells, Array.getElem?_mapIdx, Array.getElem?_eq_getElem h2]
      simp only [Option.map_some, Nat.zero_le, Nat.zero_add, Nat.sub_zero, true_and, size_flatK, hn', h1, if_true, id]
      rw [getElem!_pos _ t (by rw [size_flatK, hn']; exact h1), Array.getElem?_eq_getElem (by rw [size_flatK, hn']; exact h1)]
    · rw [List.getElem?_eq_none (by simp; omega), List.getElem?_eq_none (by rw [Array.length_toList, size_flatK, hn']; omega)]
  · simp [sortWorldK, putRowK, Sort.ahead]
  · intro b hb hne
    unfold sortWorldK putRowK putRow
    rw [heap_grow_old _ _ (by simp [mapBlock, Sort.ahead]; exact hb)]
    simp only [mapBlock, Sort.ahead, Array.getElem?_modify]
    rw [if_neg (fun e => hne (by rw [e]))]
theorem sort_T {A : Nat → Prop} (w : World) (fs : List (Bs × PT)) (g cap : Nat) (xs : List Value) (hr : w.ownsRow 0 252 5 (.slice (some ⟨g, 0, none⟩) fs.length cap) fs.length xs) (hc : IsCs A w (encFT fs) xs) (hA : ∀ b, A b → b ≠ g) (hn : fs.length ≤ 1000000) (hd : (fs.map (·.1)).Nodup) :
    Calls Tryz.prog 192 #[.slice (some ⟨g, 0, none⟩) fs.length cap, .func (.func 193) #[] #[]] w fun e w' => e = .returned (.tuple #[]) ∧ w.grownBy w' (some g) ∧ ∃ xs', w'.ownsRow 0 252 5 (.slice (some ⟨g, 0, none⟩) fs.length cap) fs.length xs' ∧ IsCs A w' (encFT (sortF fs)) xs' := by
  obtain ⟨ys, rfl, hl, hq⟩ := cells_FT fs xs hc
  have hy : ∀ y ∈ ys, y.2.length = 4 ∧ ∀ v ∈ y.2, v.oneCell' = true := by
    intro y hy
    obtain ⟨i, h1, rfl⟩ := List.getElem_of_mem hy
    have h2 := (hq i (by omega) h1).2
    refine ⟨?_, h2.one⟩
    rw [h2.length, encT_length]
  obtain ⟨d, hd1⟩ : ∃ d : Array FC, d.toList.map (·.1) = ys := ⟨(ys.attach.map fun y => (⟨y.1, hy y.1 y.2⟩ : FC)).toArray, by
    show List.map (fun x : FC => x.1) (List.map (fun y => (⟨y.1, hy y.1 y.2⟩ : FC)) ys.attach) = ys
    rw [List.map_map]
    exact List.attach_map_subtype_val ys⟩
  have hds : d.size = fs.length := by rw [hl, ← hd1]; simp
  have hfl : ∀ e : Array FC, (e.toList.map (·.1)).flatMap fcells = e.toList.flatMap FC.enc := fun e => by rw [List.flatMap_map]; rfl
  rw [← hd1, hfl] at hr
  have eg : ∀ args w, (callFunc 193 args).run Tryz.prog w = .ok (.enter 193 args) w := enters_of Tryz.func193 (by kernel_rfl) rfl
  have hcon := AnyQ.slices_SortFunc sortLays 5 Tryz.isAgg252 Tryz.sizeOf252 FC.enc (fun x => by simp [FC.enc, fcells, x.2.1]) (fun x v hv => by
    rcases List.mem_cons.1 hv with rfl | hv
    · rfl
    · exact x.2.2 v hv) FC.cmp swo 193 #[] g 0 cap d w eg (fun _ _ _ _ x y => cmp_any x y _) (row_holds hds hr) (hr.lt g rfl).2 (by omega)
  change Calls Tryz.prog 192 _ _ _ at hcon
  rw [hds] at hcon
  refine hcon.mono ?_
  rintro e w' ⟨rfl, d', q, os, ⟨hp1, -, hp2⟩, hsd, rfl⟩
  obtain ⟨k1, k2⟩ := row_sorted (q := q) (os := os) (hp1.trans hds) hr
  refine ⟨rfl, k2, _, k1, ?_⟩
  have hp3 : d.toList.Perm d'.toList := by
    have := hp2.symm
    rwa [Array.extract_eq_self_of_le (by omega), Array.extract_eq_self_of_le (by omega)] at this
  obtain ⟨fs', a1, a2, a3⟩ := perm_rel (Q := fun (f : Bs × PT) (y : FC) => y.1.1 = f.1 ∧ IsCs A w (encT 26 f.2) y.1.2) hp3 fs (by rw [← hds]; exact Array.length_toList.symm) (fun i h1 h2 => by
    have := hq i h1 (by omega)
    simp only [← hd1, List.getElem_map] at this
    exact this)
  have ho : InOrd fs' := by
    refine List.pairwise_iff_getElem.2 fun i j hi hj hij => ?_
    have := hsd i j (Nat.zero_le _) hij (by rw [← a1.length_eq] at hj; exact hj)
    have a2' : fs'.length = d'.size := a2.trans Array.length_toList
    rw [lt_of, getElem!_pos d' i (by omega), getElem!_pos d' j (by omega)] at this
    have e1 := (a3 i hi (a2 ▸ hi)).1
    have e2 := (a3 j hj (a2 ▸ hj)).1
    rw [Array.getElem_toList] at e1 e2
    rw [e1, e2] at this
    exact this
  rw [sortF_is a1.symm ho hd, ← hfl]
  exact (FT_cells fs' _ (by rw [List.length_map]; exact a2) (fun i h1 h2 => by
    rw [List.getElem_map]
    exact a3 i h1 (by simpa using h2))).grown k2 (fun b hb e => hA b hb (by cases e; rfl))
theorem sort_none (fv : Value) (w : World) : Calls Tryz.prog 192 #[.slice none 0 0, fv] w fun e w' => e = .returned (.tuple #[]) ∧ w' = w :=
  AnyF.slices_SortFunc_none sortLays none 0 fv w
end Go.Proofs.YtijnjoonbjdafaaGreatDoor

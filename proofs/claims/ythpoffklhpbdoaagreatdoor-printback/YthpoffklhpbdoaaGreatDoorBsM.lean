/-
  A printer (a struct that holds a strings.Builder): the contracts of WriteString, String and say.
  The contract of say: pieces one behind the other; called at once, and deferred.
  The contracts of what prints types: levels, parts, what stands between.
-/
import Derived.Test.YthpoffklhpbdoaaGreatDoorFrame
import Derived.Test.YthpoffklhpbdoaaGreatDoorPure
import Derived.Lib.OthersKept
import Derived.Lib.Builder
import Derived.Lib.UnsafeStr
import Derived.Below
import Derived.Shelf.RegionOpenPlain
import Derived.Defers
import Derived.Test.YthpoffklhpbdoaaGreatDoorSubX
import Derived.Test.YthpoffklhpbdoaaGreatDoorPrtO
namespace Go.Proofs.YthpoffklhpbdoaaGreatDoor
set_option maxRecDepth 100000
open Go.RowKit

/-- A printer's block, from B on: so many bytes. -/
def Pst (B : Nat) (w : World) (b : Nat) (bs : Bs) : Prop :=
  B ≤ b ∧ ∃ p v, (p = .pointer none ∨ p = .pointer (some ⟨b, 0, none⟩)) ∧ w.heap[b]? = some (.cells #[p, v] 104 (0, 0)) ∧ w.ownsRowF B 5 1 v bs.length (Lib.byteCells bs) ∧ v.ownBlock ≠ some b ∧ (bs = [] → v = .slice none 0 0)
/-- What printing may turn: the printer and its bytes. -/
def Fb (B b : Nat) (w w' : World) : Prop := Below B w w' ∧ Lib.OthersKept 5 (some b) w w'
theorem Fb.refl (B b : Nat) (w : World) : Fb B b w w := ⟨Below.refl B w, Lib.OthersKept.refl _ _ w⟩
theorem Fb.trans {B b : Nat} {w w' w'' : World} (h : Fb B b w w') (k : Fb B b w' w'') : Fb B b w w'' := ⟨h.1.trans k.1, h.2.trans k.2⟩
theorem Fb.size {B b : Nat} {w w' : World} (h : Fb B b w w') : w.heap.size ≤ w'.heap.size := h.1.size
theorem Fb.alloc {B b : Nat} {w w' : World} (h : Fb B b w w') (hB : B ≤ w.heap.size) (o : Obj) : Fb B b w (w'.alloc o) := ⟨h.1.alloc (Nat.le_trans hB h.size) o, h.2.alloc o⟩
theorem Fb.drew {B b : Nat} {w w' : World} (h : Fb B b w w') : Fb B b w w'.drew := ⟨Below.drew h.1, h.2.drew⟩
theorem Pst.lt {B b : Nat} {w : World} {bs : Bs} (h : Pst B w b bs) : b < w.heap.size := by
  obtain ⟨-, p, v, -, hb, -⟩ := h
  exact (Array.getElem?_eq_some_iff.1 hb).1
theorem Pst.alloc {B b : Nat} {w : World} {bs : Bs} (h : Pst B w b bs) (o : Obj) : Pst B (w.alloc o) b bs := by
  have hlt := h.lt
  obtain ⟨hB, p, v, hp, hb, hr, hn, h0⟩ := h
  refine ⟨hB, p, v, hp, (Lib.alloc_old w o b hlt).trans hb, ?_, hn, h0⟩
  refine ⟨hr.1, ?_⟩
  rcases hr.2 with e | ⟨g, cap, cur, fz, hv, hbg, hg, rest⟩
  · exact .inl e
  · exact .inr ⟨g, cap, cur, fz, hv, hbg, (Lib.alloc_old w o g (Array.getElem?_eq_some_iff.1 hg).1).trans hg, rest⟩
theorem Pst.drew {B b : Nat} {w : World} {bs : Bs} (h : Pst B w b bs) : Pst B w.drew b bs := h
theorem Pst.fresh (w : World) : Pst w.heap.size (w.alloc (.cells #[.pointer none, .slice none 0 0] 104)) w.heap.size [] :=
  ⟨Nat.le_refl _, _, _, .inl rfl, heap_alloc_new w _, ⟨rfl, .inl ⟨rfl, rfl⟩⟩, (fun e => by cases e), fun _ => rfl⟩

theorem lies102 : liesAt Tryz.prog Tryz.prog.depth 104 (2 / Tryz.prog.cellsOf 104) 0 102 1 = true := by kernel_rfl
theorem size102 : (Tryz.prog.info? 102).map (·.size) = some 2 := by kernel_rfl
theorem infoB : (Tryz.prog.info? 5).map (fun i => (i.zero, i.size, i.bytes)) = some (some (.int .u8 0), 1, 1) := by kernel_rfl

/-- (*strings.Builder).copyCheck: behind it the builder names itself. -/
theorem copyCheck_any {B b : Nat} {bs : Bs} {w : World} (h : Pst B w b bs) :
    Calls Tryz.prog 123 #[.pointer (some ⟨b, 0, none⟩)] w fun e w' => e = .returned (.tuple #[]) ∧ Pst B w' b bs ∧ Fb B b w w' ∧ w'.cell? ⟨b, 0, none⟩ = some (.pointer (some ⟨b, 0, none⟩)) := by
  obtain ⟨j, hj, hjs⟩ := Option.map_eq_some_iff.1 size102
  obtain ⟨hB, p, v, hp, hb, hr, hn, h0⟩ := h
  have c0 : w.cell? ⟨b, 0, none⟩ = some p := by rw [Lib.cell_of_heap hb]; rfl
  have f0 : w.frozen? ⟨b, 0, none⟩ = false := Lib.frozen_of_heap hb 0
  have hsh : w.shape? b = some (104, 2) := by simp [World.shape?, hb]
  rcases hp with rfl | rfl
  · have hA : Lib.BuilderAtF 104 5 B b (.pointer none) (Lib.byteCells bs) w := ⟨hB, v, hb, by rw [Lib.byteCells_length]; exact hr, hn⟩
    obtain ⟨hB', v', hb', hr', hn'⟩ := hA.used (.pointer (some ⟨b, 0, none⟩))
    have hb2 : (w.setCell ⟨b, 0, none⟩ (.pointer (some ⟨b, 0, none⟩))).heap[b]? = some (.cells #[.pointer (some ⟨b, 0, none⟩), v] 104 (0, 0)) := heap_setCell_same w b 0 _ _ _ hb
    have hv : v' = v := by rw [hb2] at hb'; cases hb'; rfl
    subst hv
    have HF := Lib.hid (show Pst B (w.setCell ⟨b, 0, none⟩ (.pointer (some ⟨b, 0, none⟩))) b bs from ⟨hB, _, v', .inr rfl, hb2, by rw [Lib.byteCells_length] at hr'; exact hr', hn, h0⟩)
    have HC := Lib.hid (show (w.setCell ⟨b, 0, none⟩ (.pointer (some ⟨b, 0, none⟩))).cell? ⟨b, 0, none⟩ = some (.pointer (some ⟨b, 0, none⟩)) by rw [Lib.cell_of_heap hb2]; rfl)
    have HB := Lib.hid hB
    clear hA hr hr' hb' hb2 hn hn' h0 hB hB' hb
    go_enter Tryz.func123, Tryz.ntmps123
    go_wp2
    rw [Lib.run_to_unsafe w ⟨b, 0, none⟩ Tryz.underlying99 Tryz.underlying192 hj (by rw [hjs]; decide) hsh (Nat.zero_lt_succ 1)]
    simp only [Result.andThen]
    rw [Oper.upon_value]
    go_wp2
    rw [run_callFunc_extern Tryz.func151 (by kernel_rfl) (by kernel_rfl) (by kernel_rfl) (e := Extern.AbiNoEscape.same) (by kernel_rfl)]
    rw [Lib.run_noEscape]
    simp only [Result.andThen]
    rw [Oper.upon_value]
    go_wp2
    rw [Lib.run_from_unsafe w ⟨b, 0, none⟩ Tryz.underlying192 Tryz.underlying99 hj hsh lies102]
    simp only [Result.andThen]
    rw [Oper.upon_value]
    go_wp2
    go_end0
    exact ⟨rfl, HF.out, ⟨(Below.refl B w).setCell (p := ⟨b, 0, none⟩) HB.out _, (Lib.OthersKept.refl _ _ w).setCell ⟨b, 0, none⟩ rfl _⟩, HC.out⟩
  · have HF := Lib.hid (show Pst B w b bs from ⟨hB, _, v, .inr rfl, hb, hr, hn, h0⟩)
    have HC := Lib.hid c0
    clear hr hn h0 hB hb
    go_enter Tryz.func123, Tryz.ntmps123
    go_wp2
    rw [Lib.run_neq_ptr_same w _ Tryz.underlying99 hj]
    go_wp2
    go_end0
    exact ⟨rfl, HF.out, Fb.refl B b w, HC.out⟩

set_option maxHeartbeats 2000000 in
theorem writeString_any {B b : Nat} {bs : Bs} {w : World} (h : Pst B w b bs) (t : Bs) (hlen : bs.length + t.length ≤ 140737488355328) :
    Calls Tryz.prog 107 #[.pointer (some ⟨b, 0, none⟩), .string ⟨t.toArray⟩] w fun e w' => (∃ n : Int, e = .returned (.tuple #[.int .i64 n, .nilIface])) ∧ Pst B w' b (bs ++ t) ∧ Fb B b w w' := by
  obtain ⟨i0, hi, hz0, hz1, hz2⟩ := info_parts infoB
  have HCC := Lib.hid (copyCheck_any h)
  have HLT := Lib.hid h.lt
  clear h
  go_enter Tryz.func107, Tryz.ntmps107
  go_wp2_with fail
  refine HCC.out.mono ?_
  rintro e w1 ⟨rfl, h1, hf1, hc0⟩
  obtain ⟨hB, p, v, hp, hbk, hown, hne, h0⟩ := h1
  have hpe : p = .pointer (some ⟨b, 0, none⟩) := by
    have : w1.cell? ⟨b, 0, none⟩ = some p := by rw [Lib.cell_of_heap hbk]; rfl
    rw [hc0] at this; exact (Option.some.inj this).symm
  subst hpe
  have c1 : w1.cell? ⟨b, 1, none⟩ = some v := by rw [Lib.cell_of_heap hbk]; rfl
  have hB1 : B ≤ w1.heap.size := by have := (Array.getElem?_eq_some_iff.1 hbk).1; omega
  go_wp2_with (at_builtin; refine Lib.wpList_append_own_stringF _ rfl _ _ 100 9 rfl B 5 i0 Tryz.underlying100 Tryz.underlying9 hi hz0 hz1 hz2 _ _ _ rfl hown (⟨t.toArray⟩ : ByteArray) rfl ?c3 ?c4 ?c5 ?_)
  case c3 => unfold maxLen; simp [ByteArray.size]; omega
  case c4 => simpa [ByteArray.size] using hlen
  case c5 => exact hB1
  intro v' w2 hown' hgrow hnil
  have hlt : b < w1.heap.size := (Array.getElem?_eq_some_iff.1 hbk).1
  have hb2 : w2.heap[b]? = some (.cells #[.pointer (some ⟨b, 0, none⟩), v] 104 (0, 0)) := by
    rw [hgrow.block b hlt (fun e => hne e.symm)]
    exact hbk
  have d0 : w2.cell? ⟨b, 0, none⟩ = some (.pointer (some ⟨b, 0, none⟩)) := by rw [Lib.cell_of_heap hb2]; rfl
  have d1 : w2.cell? ⟨b, 1, none⟩ = some v := by rw [Lib.cell_of_heap hb2]; rfl
  have f1 : w2.frozen? ⟨b, 1, none⟩ = false := Lib.frozen_of_heap hb2 1
  have hkind : ∀ g, v.ownBlock = some g → ∃ c fz, w1.heap[g]? = some (.cells c 5 fz) := by
    intro g hg
    rcases hown.2 with ⟨rfl, _⟩ | ⟨g', cap, cur, fz, rfl, _, hgg, _⟩
    · cases hg
    · cases hg; exact ⟨_, _, hgg⟩
  have hcells : Lib.byteCells bs ++ Lib.strCells (⟨t.toArray⟩ : ByteArray) = Lib.byteCells (bs ++ t) := by simp [Lib.byteCells, Lib.strCells]
  rw [hcells, ← List.length_append] at hown'
  have hne' : v'.ownBlock ≠ some b := by
    intro e
    rcases hown'.2 with ⟨rfl, _⟩ | ⟨g', cap, cur, fz, rfl, _, hgg, _⟩
    · cases e
    · cases e; rw [hb2] at hgg; cases hgg
  have hP := heap_setCell_same w2 b 1 _ _ v' hb2
  have HP := Lib.hid (show Pst B (w2.setCell ⟨b, 1, none⟩ v') b (bs ++ t) from by
    have hA : Lib.BuilderAtF 104 5 B b (.pointer (some ⟨b, 0, none⟩)) (Lib.byteCells (bs ++ t)) (w2.setCell ⟨b, 1, none⟩ v') := Lib.BuilderAtF.put (T := 104) (e := 5) hB hb2 (bs' := Lib.byteCells (bs ++ t)) (by rw [Lib.byteCells_length]; exact hown') (by decide)
    obtain ⟨-, v2, hb3, hr3, hn3⟩ := hA
    have : v2 = v' := by rw [hP] at hb3; cases hb3; rfl
    subst this
    refine ⟨hB, _, v2, .inr rfl, hP, by rw [Lib.byteCells_length] at hr3; exact hr3, hn3, fun e => ?_⟩
    obtain ⟨e1, e2⟩ := List.append_eq_nil_iff.1 e
    subst e1 e2
    exact hnil.2 ⟨h0 rfl, rfl⟩)
  have HF := Lib.hid (show Fb B b w (w2.setCell ⟨b, 1, none⟩ v') from hf1.trans ⟨(((Below.refl B w1).grown hgrow hB1 (fun k hk => (hown.lt k hk).1)).setCell (p := ⟨b, 1, none⟩) hB _), (((Lib.OthersKept.refl _ _ w1).grown hgrow hkind).setCell ⟨b, 1, none⟩ rfl _)⟩)
  obtain ⟨ao, n', cap, rfl⟩ : ∃ ao n' cap, v' = .slice ao n' cap := by
    rcases hown'.2 with ⟨hv, _⟩ | ⟨g, cap, cur, fz, hv, _⟩
    · exact ⟨_, _, _, hv⟩
    · exact ⟨_, _, _, hv⟩
  clear hP hcells hne' hkind hown hown' hgrow hnil h0 hf1 hc0 hb2 hbk
  go_wp2
  go_ret2
  exact ⟨⟨_, rfl⟩, HP.out, HF.out⟩

set_option maxHeartbeats 2000000 in
/-- (*strings.Builder).String. -/
theorem string_any {B b : Nat} {bs : Bs} {w : World} (h : Pst B w b bs) :
    Calls Tryz.prog 50 #[.pointer (some ⟨b, 0, none⟩)] w fun e w' => e = .returned (.string ⟨bs.toArray⟩) ∧ Below B w w' := by
  obtain ⟨hB, p, v, hp, hb, hown, hne, h0⟩ := h
  by_cases hz : bs = []
  · subst hz
    have hv := h0 rfl
    subst hv
    have c1 : w.drew.cell? ⟨b, 1, none⟩ = some (.slice none 0 0) := by
      have : w.drew.heap[b]? = some (.cells #[p, .slice none 0 0] 104 (0, 0)) := hb
      rw [Lib.cell_of_heap this]; rfl
    have hSD : (Builtin.unsafeSliceData_ #[100] 133 #[.slice none 0 0]).run Tryz.prog w.drew = .ok (.pointer none) w.drew := rfl
    have hUS : ∀ (a : Option Addr) (W : World), (Builtin.unsafeString_ #[133, 3] 9 #[.pointer a, .int .i64 0]).run Tryz.prog W = .ok (.string ⟨#[]⟩) W := fun a W => Lib.run_unsafeString_none W _ _ _ a
    have mixed : Tryz.prog.follows Departure.mixedOrders = true := by kernel_rfl
    clear hown hne h0 hp hb
    go_enter Tryz.func50, Tryz.ntmps50
    go_wp2
    go_region_o
    all_goals (go_wp2; go_ret; exact ⟨rfl, Below.drew (Below.refl B w)⟩)
  · have hl0 : bs.length ≠ 0 := by simpa using hz
    obtain ⟨g, cap, cur, fz, rfl, hbg, hg, hfz, hnc, hcm, hcs, htake⟩ : ∃ g cap cur fz, v = .slice (some ⟨g, 0, none⟩) bs.length cap ∧ B ≤ g ∧ w.heap[g]? = some (.cells cur 5 fz) ∧ fz.2 ≤ bs.length * 1 ∧ bs.length ≤ cap ∧ cap ≤ maxLen ∧ cur.size = cap * 1 ∧ cur.toList.take (bs.length * 1) = Lib.byteCells bs := by
      rcases hown.2 with ⟨_, hz⟩ | ⟨g, cap, cur, fz, hv, r⟩
      · exact absurd hz hl0
      · exact ⟨g, cap, cur, fz, hv, r⟩
    have c1 : w.drew.cell? ⟨b, 1, none⟩ = some (.slice (some ⟨g, 0, none⟩) bs.length cap) := by
      have : w.drew.heap[b]? = some (.cells #[p, .slice (some ⟨g, 0, none⟩) bs.length cap] 104 (0, 0)) := hb
      rw [Lib.cell_of_heap this]; rfl
    have hSD : (Builtin.unsafeSliceData_ #[100] 133 #[.slice (some ⟨g, 0, none⟩) bs.length cap]).run Tryz.prog w.drew = .ok (.pointer (some ⟨g, 0, none⟩)) w.drew :=
      Lib.run_unsafeSliceData_row _ _ _ _ _ _ (by omega)
    have hUS : (Builtin.unsafeString_ #[133, 3] 9 #[.pointer (some ⟨g, 0, none⟩), .int .i64 bs.length]).run Tryz.prog w.drew = .ok (.string ⟨bs.toArray⟩) (w.drew.freeze ⟨g, 0, none⟩ bs.length) := by
      refine Lib.run_unsafeString_row w.drew 133 3 9 5 Tryz.underlying133 (by kernel_rfl) g cur.size (by have hg' : w.drew.heap[g]? = some (.cells cur 5 fz) := hg; simp [World.shape?, hg']) bs hz (by omega) (by unfold maxLen at hcm; omega) ?_
      intro j x hx
      exact hown.cells (g := g) rfl j (.int .u8 x.toNat) (by simp [Lib.byteCells, hx])
    have HF := Lib.hid (show Below B w (w.drew.freeze ⟨g, 0, none⟩ bs.length) from Lib.below_freeze (Below.drew (Below.refl B w)) (p := ⟨g, 0, none⟩) hbg _)
    have mixed : Tryz.prog.follows Departure.mixedOrders = true := by kernel_rfl
    clear hown hne h0 hp hb hbg hg hfz hnc hcm hcs htake hl0 hz
    go_enter Tryz.func50, Tryz.ntmps50
    go_wp2
    go_region_o
    all_goals (go_wp2; go_ret; exact ⟨rfl, HF.out⟩)

/-- Pieces that lie one behind the other. -/
def Pcsat (w : World) (g : Nat) (L : List Bs) : Prop := ∃ cs, w.heap[g]? = some (.cells cs 9 (0, 0)) ∧ ∀ (i : Nat) (s : Bs), L[i]? = some s → cs[i]? = some (Value.string ⟨s.toArray⟩)
theorem Pcsat.fb {B b : Nat} {w w' : World} {g : Nat} {L : List Bs} (h : Pcsat w g L) (hg : g ≠ b) (hF : Fb B b w w') : Pcsat w' g L := by
  obtain ⟨cs, h1, h2⟩ := h
  exact ⟨cs, hF.2 g _ h1 (fun e => hg (Option.some.inj e)) (fun c fz e => by cases e), h2⟩
theorem Pcsat.cell {w : World} {g : Nat} {L : List Bs} (h : Pcsat w g L) {i : Nat} {s : Bs} (hi : L[i]? = some s) : w.cell? ⟨g, i, none⟩ = some (.string ⟨s.toArray⟩) := by
  obtain ⟨cs, h1, h2⟩ := h
  rw [Lib.cell_of_heap h1]; exact h2 i s hi
theorem Pcsat.ne {B b : Nat} {bs : Bs} {w : World} {g : Nat} {L : List Bs} (h : Pcsat w g L) (k : Pst B w b bs) : g ≠ b := by
  rintro rfl
  obtain ⟨cs, h1, -⟩ := h
  obtain ⟨-, p, v, -, h2, -⟩ := k
  rw [h1] at h2; cases h2
theorem flat_take (L : List Bs) {i : Nat} {s : Bs} (h : L[i]? = some s) : (L.take (i + 1)).flatten = (L.take i).flatten ++ s := by
  rw [List.take_add_one, h]; simp
theorem flatB_len (L : List Bs) (i : Nat) : (L.take i).flatten.length ≤ L.flatten.length := by
  have h := congrArg List.length (show L.flatten = (L.take i).flatten ++ (L.drop i).flatten by rw [← List.flatten_append, List.take_append_drop])
  rw [List.length_append] at h
  omega

end Go.Proofs.YthpoffklhpbdoaaGreatDoor

namespace Go.Proofs.YthpoffklhpbdoaaGreatDoor
set_option maxRecDepth 100000
open Go.RowKit

set_option maxHeartbeats 1000000 in
theorem say_any {B b : Nat} {bs : Bs} {w : World} (h : Pst B w b bs) (L : List Bs) (g c : Nat) (hL : Pcsat w g L) (hlen : bs.length + L.flatten.length ≤ 140737488355328) (hn : L.length ≤ 1000) :
    Calls Tryz.prog 77 #[.pointer (some ⟨b, 0, none⟩), .slice (some ⟨g, 0, none⟩) L.length c] w fun e w' => e = .returned (.tuple #[]) ∧ Fb B b w w' ∧ Pst B w' b (bs ++ L.flatten) := by
  have HP0 := Lib.hid h
  have HL0 := Lib.hid hL
  have HNE := Lib.hid (hL.ne h)
  have HLEN := Lib.hid hlen
  obtain ⟨n, hnn⟩ : ∃ n, n = L.length := ⟨_, rfl⟩
  rw [← hnn] at hn ⊢
  have HN := Lib.hid hnn
  clear h hL hlen hnn
  go_enter Tryz.func77, Tryz.ntmps77
  go_wp2_with fail
  go_loopw [8] (fun s8 wr => ∃ (i : Nat), s8 = .int .i64 (i : Nat) ∧ i ≤ n ∧ Hid (Pst B wr b (bs ++ (L.take i).flatten)) ∧ Hid (Fb B b w wr)) (fun s8 _ => n - (intOf s8).toNat)
  case atStart => exact ⟨0, rfl, Nat.zero_le _, Lib.hid (by simpa using HP0.out), Lib.hid (Fb.refl B b w)⟩
  case round =>
    obtain ⟨i, rfl, hin, hP, hF⟩ := hrel
    by_cases hlt : i < n
    · have hd1 : decide ((i : Int) < (n : Int)) = true := by simp; omega
      have hd2 : decide (i < n) = true := by simp; omega
      have hi : i < L.length := by have := HN.out; omega
      have hg : L[i]? = some L[i] := List.getElem?_eq_getElem hi
      have c0 : wr.cell? ⟨g, i, none⟩ = some (.string ⟨(L[i]).toArray⟩) := (HL0.out.fb HNE.out hF.out).cell hg
      obtain ⟨s, hs⟩ : ∃ s, s = L[i] := ⟨_, rfl⟩
      rw [← hs] at c0 hg
      have HG := Lib.hid hg
      have HLT := Lib.hid hlt
      have HW := Lib.hid (writeString_any hP.out s (by
        have h1 := flatB_len L (i + 1)
        rw [flat_take L hg] at h1
        have := HLEN.out
        simp only [List.length_append] at h1 ⊢
        omega))
      clear hg hs hi hlt hP
      go_wp2_with fail
      refine HW.out.mono ?_
      rintro e w' ⟨⟨k, rfl⟩, h1, h2⟩
      have HP' := Lib.hid h1
      have HF' := Lib.hid (hF.out.trans h2)
      clear h1 h2 hF HW
      go_wp2_with fail
      refine ⟨⟨i + 1, by simp, by have := HLT.out; omega, Lib.hid (by rw [flat_take L HG.out, ← List.append_assoc]; exact HP'.out), HF'⟩, ?_⟩
      simp [intOf]
      have := HLT.out
      omega
    · have hd1 : decide ((i : Int) < (n : Int)) = false := by simp; omega
      have hd2 : decide (i < n) = false := by simp; omega
      obtain rfl : i = n := by omega
      clear hlt hin
      go_wp2_with fail
      go_end0
      refine ⟨rfl, hF.out, ?_⟩
      have e : L.take i = L := List.take_of_length_le (by have := HN.out; omega)
      have := hP.out
      rw [e] at this
      exact this

set_option maxHeartbeats 1000000 in
theorem say_def {B b : Nat} {bs : Bs} {w : World} (h : Pst B w b bs) (L : List Bs) (g c : Nat) (hL : Pcsat w g L) (hlen : bs.length + L.flatten.length ≤ 140737488355328) (hn : L.length ≤ 1000) :
    CallsD Tryz.prog 77 #[.pointer (some ⟨b, 0, none⟩), .slice (some ⟨g, 0, none⟩) L.length c] .returning w fun e u w' => u = .returning ∧ e = .returned (.tuple #[]) ∧ Fb B b w w' ∧ Pst B w' b (bs ++ L.flatten) := by
  have HP0 := Lib.hid h
  have HL0 := Lib.hid hL
  have HNE := Lib.hid (hL.ne h)
  have HLEN := Lib.hid hlen
  obtain ⟨n, hnn⟩ : ∃ n, n = L.length := ⟨_, rfl⟩
  rw [← hnn] at hn ⊢
  have HN := Lib.hid hnn
  clear h hL hlen hnn
  go_enter_d Tryz.func77, Tryz.ntmps77
  go_wp2_with fail
  go_loopw [8] (fun s8 wr => ∃ (i : Nat), s8 = .int .i64 (i : Nat) ∧ i ≤ n ∧ Hid (Pst B wr b (bs ++ (L.take i).flatten)) ∧ Hid (Fb B b w wr)) (fun s8 _ => n - (intOf s8).toNat)
  case atStart => exact ⟨0, rfl, Nat.zero_le _, Lib.hid (by simpa using HP0.out), Lib.hid (Fb.refl B b w)⟩
  case round =>
    obtain ⟨i, rfl, hin, hP, hF⟩ := hrel
    by_cases hlt : i < n
    · have hd1 : decide ((i : Int) < (n : Int)) = true := by simp; omega
      have hd2 : decide (i < n) = true := by simp; omega
      have hi : i < L.length := by have := HN.out; omega
      have hg : L[i]? = some L[i] := List.getElem?_eq_getElem hi
      have c0 : wr.cell? ⟨g, i, none⟩ = some (.string ⟨(L[i]).toArray⟩) := (HL0.out.fb HNE.out hF.out).cell hg
      obtain ⟨s, hs⟩ : ∃ s, s = L[i] := ⟨_, rfl⟩
      rw [← hs] at c0 hg
      have HG := Lib.hid hg
      have HLT := Lib.hid hlt
      have HW := Lib.hid (writeString_any hP.out s (by
        have h1 := flatB_len L (i + 1)
        rw [flat_take L hg] at h1
        have := HLEN.out
        simp only [List.length_append] at h1 ⊢
        omega))
      clear hg hs hi hlt hP
      go_wp2_with fail
      refine HW.out.mono ?_
      rintro e w' ⟨⟨k, rfl⟩, h1, h2⟩
      have HP' := Lib.hid h1
      have HF' := Lib.hid (hF.out.trans h2)
      clear h1 h2 hF HW
      go_wp2_with fail
      refine ⟨⟨i + 1, by simp, by have := HLT.out; omega, Lib.hid (by rw [flat_take L HG.out, ← List.append_assoc]; exact HP'.out), HF'⟩, ?_⟩
      simp [intOf]
      have := HLT.out
      omega
    · have hd1 : decide ((i : Int) < (n : Int)) = false := by simp; omega
      have hd2 : decide (i < n) = false := by simp; omega
      obtain rfl : i = n := by omega
      clear hlt hin
      go_wp2_with fail
      go_end0
      refine ⟨rfl, hF.out, ?_⟩
      have e : L.take i = L := List.take_of_length_le (by have := HN.out; omega)
      have := hP.out
      rw [e] at this
      exact this

end Go.Proofs.YthpoffklhpbdoaaGreatDoor

namespace Go.Proofs.YthpoffklhpbdoaaGreatDoor
set_option maxRecDepth 100000
open Go.RowKit

theorem Pst.below {B b : Nat} {w w' : World} {bs : Bs} (h : Pst B w b bs) (k : Below w.heap.size w w') : Pst B w' b bs := by
  have hlt := h.lt
  obtain ⟨hB, p, v, hp, hb, hr, hn, h0⟩ := h
  refine ⟨hB, p, v, hp, (k.block b hlt).trans hb, ?_, hn, h0⟩
  refine ⟨hr.1, ?_⟩
  rcases hr.2 with e | ⟨g, cap, cur, fz, hv, hbg, hg, rest⟩
  · exact .inl e
  · exact .inr ⟨g, cap, cur, fz, hv, hbg, (k.block g (Array.getElem?_eq_some_iff.1 hg).1).trans hg, rest⟩
theorem Pst.hi {B b : Nat} {w : World} {bs : Bs} (h : Pst B w b bs) : B ≤ w.heap.size := by
  have := h.lt; have := h.1; omega
theorem Fb.of_below {B b : Nat} {w w' : World} (hB : B ≤ w.heap.size) (k : Below w.heap.size w w') : Fb B b w w' :=
  ⟨k.mono hB, fun i _ hi _ _ => (k.block i (Array.getElem?_eq_some_iff.1 hi).1).trans hi⟩
theorem Fb.then_below {B b : Nat} {w w' w'' : World} {bs : Bs} (h : Fb B b w w') (k : Below w'.heap.size w' w'') (hp : Pst B w' b bs) : Fb B b w w'' := h.trans (Fb.of_below hp.hi k)

/-! Data that printing leaves as it is: no rows of bytes, no printers. -/
mutual
def nb : Dt → Bool
  | .num _ => true
  | .str _ => true
  | .row e _ _ l => e != 5 && e != 104 && nbs l
def nbs : List Dt → Bool
  | [] => true
  | d :: r => nb d && nbs r
end
theorem nbs_append : ∀ l m, nbs (l ++ m) = (nbs l && nbs m)
  | [], m => by simp [nbs]
  | d :: r, m => by simp [nbs, nbs_append r m, Bool.and_assoc]
theorem nbs_strs : ∀ ns : List Bs, nbs (ns.map .str) = true
  | [] => rfl
  | n :: ns => by simp [nbs, nb, nbs_strs ns]
mutual
theorem nb_T : ∀ t : PT, nbs (encT 26 t) = true
  | .mk k n ns l => by simp [encT, nbs, nb, nbs_strs, nb_Ts l]
theorem nb_Ts : ∀ l : List PT, nbs (encTs 26 l) = true
  | [] => rfl
  | t :: r => by rw [encTs, nbs_append, nb_T t, nb_Ts r]; rfl
end
mutual
theorem nb_E : ∀ t : PE, nbs (encE 26 36 t) = true
  | .mk k a n m ns l ts => by simp [encE, nbs, nb, nbs_strs, nb_Es l, nb_Ts ts]
theorem nb_Es : ∀ l : List PE, nbs (encEs 26 36 l) = true
  | [] => rfl
  | t :: r => by rw [encEs, nbs_append, nb_E t, nb_Es r]; rfl
end
theorem nb_D (d : PD) : nbs (encD 26 36 d) = true := by simp [encD, nbs, nb, nb_Ts, nb_Es]
theorem nb_Ds : ∀ l : List PD, nbs (encDs 26 36 l) = true
  | [] => rfl
  | d :: r => by rw [encDs, List.flatMap_cons, nbs_append, nb_D d]; exact nb_Ds r
theorem row_fb {B b : Nat} {bs : Bs} {w w' : World} {base : Nat} {e : TypeId} {size : Nat} {v : Value} {n : Nat} {xs : List Value} (h : w.ownsRow base e size v n xs) (hp : Pst B w b bs) (hF : Fb B b w w') (h5 : e ≠ 5) (h104 : e ≠ 104) : w'.ownsRow base e size v n xs := by
  refine ⟨h.1, ?_⟩
  rcases h.2 with hn' | ⟨g, cap, cur, rfl, hb, hgg, rest⟩
  · exact .inl hn'
  · refine .inr ⟨g, cap, cur, rfl, hb, hF.2 g _ hgg (fun e1 => ?_) (fun c fz e1 => ?_), rest⟩
    · cases e1
      obtain ⟨-, p, v, -, h2, -⟩ := hp
      rw [hgg] at h2
      cases h2
      exact h104 rfl
    · cases e1; exact h5 rfl
mutual
theorem IsC.fb {B b : Nat} {bs : Bs} {A : Nat → Prop} {w w' : World} (hp : Pst B w b bs) (hF : Fb B b w w') : ∀ (d : Dt) (v : Value), nb d = true → IsC A w d v → IsC A w' d v
  | .num n, v, _, h => by simpa only [IsC] using h
  | .str s, v, _, h => by simpa only [IsC] using h
  | .row e size n l, v, hn, h => by
    simp only [IsC] at h ⊢
    simp only [nb, Bool.and_eq_true, bne_iff_ne] at hn
    obtain ⟨xs, h1, h2, h3, h4⟩ := h
    exact ⟨xs, h1, row_fb h2 hp hF hn.1.1 hn.1.2, h3, IsCs.fb hp hF l xs hn.2 h4⟩
theorem IsCs.fb {B b : Nat} {bs : Bs} {A : Nat → Prop} {w w' : World} (hp : Pst B w b bs) (hF : Fb B b w w') : ∀ (l : List Dt) (xs : List Value), nbs l = true → IsCs A w l xs → IsCs A w' l xs
  | [], xs, _, h => by simpa only [IsCs] using h
  | d :: r, xs, hn, h => by
    simp only [nbs, Bool.and_eq_true] at hn
    simp only [IsCs] at h ⊢
    obtain ⟨x, ys, h1, h2, h3⟩ := h
    exact ⟨x, ys, h1, IsC.fb hp hF d x hn.1 h2, IsCs.fb hp hF r ys hn.2 h3⟩
end

/-! One, two, three pieces, laid for the call. -/
theorem pcs_new (w : World) (L : List Bs) : Pcsat (w.alloc (.cells (L.map fun s => Value.string ⟨s.toArray⟩).toArray 9)) w.heap.size L :=
  ⟨_, heap_alloc_new w _, fun i s hi => by simp [hi]⟩
theorem sayL {B b : Nat} {bs : Bs} {w : World} (h : Pst B w b bs) (L : List Bs) (c : Nat) (hlen : bs.length + L.flatten.length ≤ 140737488355328) (hn : L.length ≤ 1000) :
    Calls Tryz.prog 77 #[.pointer (some ⟨b, 0, none⟩), .slice (some ⟨w.heap.size, 0, none⟩) L.length c] (w.alloc (.cells (L.map fun s => Value.string ⟨s.toArray⟩).toArray 9)) fun e w' => e = .returned (.tuple #[]) ∧ Fb B b w w' ∧ Pst B w' b (bs ++ L.flatten) := by
  refine (say_any (h.alloc _) L w.heap.size c (pcs_new w L) hlen hn).mono ?_
  rintro e w' ⟨h1, h2, h3⟩
  exact ⟨h1, ((Fb.refl B b w).alloc h.hi _).trans h2, h3⟩
theorem say1 {B b : Nat} {bs : Bs} {w : World} (h : Pst B w b bs) (s : Bs) (hlen : bs.length + s.length ≤ 140737488355328) :
    Calls Tryz.prog 77 #[.pointer (some ⟨b, 0, none⟩), .slice (some ⟨w.heap.size, 0, none⟩) 1 1] (w.alloc (.cells #[.string ⟨s.toArray⟩] 9)) fun e w' => e = .returned (.tuple #[]) ∧ Fb B b w w' ∧ Pst B w' b (bs ++ s) := by
  have := sayL h [s] 1 (by simpa using hlen) (by simp)
  simpa using this
theorem say2 {B b : Nat} {bs : Bs} {w : World} (h : Pst B w b bs) (s t : Bs) (hlen : bs.length + (s ++ t).length ≤ 140737488355328) :
    Calls Tryz.prog 77 #[.pointer (some ⟨b, 0, none⟩), .slice (some ⟨w.heap.size, 0, none⟩) 2 2] (w.alloc (.cells #[.string ⟨s.toArray⟩, .string ⟨t.toArray⟩] 9)) fun e w' => e = .returned (.tuple #[]) ∧ Fb B b w w' ∧ Pst B w' b (bs ++ (s ++ t)) := by
  have := sayL h [s, t] 2 (by simpa using hlen) (by simp)
  simpa using this
theorem say3 {B b : Nat} {bs : Bs} {w : World} (h : Pst B w b bs) (s t u : Bs) (hlen : bs.length + (s ++ (t ++ u)).length ≤ 140737488355328) :
    Calls Tryz.prog 77 #[.pointer (some ⟨b, 0, none⟩), .slice (some ⟨w.heap.size, 0, none⟩) 3 3] (w.alloc (.cells #[.string ⟨s.toArray⟩, .string ⟨t.toArray⟩, .string ⟨u.toArray⟩] 9)) fun e w' => e = .returned (.tuple #[]) ∧ Fb B b w w' ∧ Pst B w' b (bs ++ (s ++ (t ++ u))) := by
  have := sayL h [s, t, u] 3 (by simpa using hlen) (by simp)
  simpa using this

theorem between_any {B b : Nat} {bs : Bs} {w : World} (h : Pst B w b bs) (i : Nat) (s : Bs) (hlen : i ≠ 0 → bs.length + s.length ≤ 140737488355328) :
    Calls Tryz.prog 109 #[.pointer (some ⟨b, 0, none⟩), .int .i64 (i : Nat), .string ⟨s.toArray⟩] w fun e w' => e = .returned (.tuple #[]) ∧ Fb B b w w' ∧ Pst B w' b (bs ++ if i = 0 then [] else s) := by
  have HS := Lib.hid (fun hi => say1 h s (hlen hi))
  have HP := Lib.hid h
  clear h hlen
  go_enter Tryz.func109, Tryz.ntmps109
  by_cases hi : i = 0
  · subst hi
    go_wp2_with fail
    go_end0
    exact ⟨rfl, Fb.refl B b w, by simpa using HP.out⟩
  · have hd1 : decide ((i : Int) > 0) = true := by simp; omega
    have hd2 : decide ((0 : Int) < (i : Int)) = true := by simp; omega
    have hd3 : decide (0 < i) = true := by simp; omega
    go_wp2_with fail
    refine (HS.out hi).mono ?_
    rintro e w' ⟨rfl, h1, h2⟩
    have H1 := Lib.hid h1
    have H2 := Lib.hid h2
    clear h1 h2
    go_wp2_with fail
    go_end0
    exact ⟨rfl, H1.out, by first | exact H2.out | (rw [if_neg hi]; exact H2.out)⟩

theorem level_any (k : Nat) (n : ByteArray) (a2 a3 : Option Addr) (n2 c2 n3 c3 : Nat) (w : World) :
    Calls Tryz.prog 80 #[.agg #[.int .i64 (k : Nat), .string n, .slice a2 n2 c2, .slice a3 n3 c3]] w fun e w' => e = .returned (.int .i64 (lvlT k : Nat)) ∧ Below w.heap.size w w' := by
  go_enter Tryz.func80, Tryz.ntmps80
  by_cases h7 : k = 7
  · subst h7
    go_wp2_with fail
    go_ret
    exact ⟨rfl, (Below.refl _ w).alloc (Nat.le_refl _) _⟩
  by_cases h6 : k = 6
  · subst h6
    go_wp2_with fail
    go_ret
    exact ⟨rfl, (Below.refl _ w).alloc (Nat.le_refl _) _⟩
  · have e7 : ((k : Int) == 7) = false := by simp; omega
    have e6 : ((k : Int) == 6) = false := by simp; omega
    have hl : lvlT k = 2 := by unfold lvlT; rw [if_neg h7, if_neg h6]
    go_wp2_with fail
    go_ret
    exact ⟨by rw [hl]; rfl, (Below.refl _ w).alloc (Nat.le_refl _) _⟩

end Go.Proofs.YthpoffklhpbdoaaGreatDoor

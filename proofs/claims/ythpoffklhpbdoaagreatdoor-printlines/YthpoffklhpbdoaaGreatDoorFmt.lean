/-
  The library's contracts of strconv.FormatInt, laid at this program; FormatBool.
-/
import Derived.Shelf.Strconv.Itoa4
import Derived.Lib.AppendIntMem
import Derived.Test.YthpoffklhpbdoaaGreatDoorTyM
namespace Go.Proofs.YthpoffklhpbdoaaGreatDoor
open Go.Shelf
def laysM173_ren : Go.Shelf.Ren := ⟨fun | 173 => 84 | 246 => 110 | 283 => 124 | 284 => 125 | 285 => 126 | 286 => 127 | 129 => 153 | 317 => 152 | 318 => 154 | 319 => 155 | 320 => 156 | 337 => 168 | 338 => 169 | n => n, fun | 2 => 2 | 3 => 3 | 9 => 9 | 4 => 4 | 171 => 165 | 0 => 0 | 53 => 166 | 37 => 100 | 5 => 5 | 173 => 169 | 212 => 196 | 51 => 197 | 20 => 20 | 213 => 198 | 46 => 200 | 232 => 228 | 233 => 229 | n => n, fun | 17 => 0 | 18 => 2 | 19 => 3 | n => n⟩
theorem laysM173 : Go.Proofs.LaysM.n173 Tryz.prog laysM173_ren := {
  mixed := by kernel_rfl
  f129 := Tryz.func153.trans (congrArg some (by kernel_rfl))
  f173 := Tryz.func84.trans (congrArg some (by kernel_rfl))
  f246 := Tryz.func110.trans (congrArg some (by kernel_rfl))
  f283 := Tryz.func124.trans (congrArg some (by kernel_rfl))
  f284 := Tryz.func125.trans (congrArg some (by kernel_rfl))
  f285 := Tryz.func126.trans (congrArg some (by kernel_rfl))
  f286 := Tryz.func127.trans (congrArg some (by kernel_rfl))
  f317 := Tryz.func152.trans (congrArg some (by kernel_rfl))
  f318 := Tryz.func154.trans (congrArg some (by kernel_rfl))
  f319 := Tryz.func155.trans (congrArg some (by kernel_rfl))
  f320 := Tryz.func156.trans (congrArg some (by kernel_rfl))
  f337 := Tryz.func168.trans (congrArg some (by kernel_rfl))
  f338 := Tryz.func169.trans (congrArg some (by kernel_rfl))
  t0 := Tryz.underlying0
  a0 := Tryz.isAgg0
  z0 := Tryz.sizeOf0
  v0 := Tryz.zeroValue0
  t2 := Tryz.underlying2
  a2 := Tryz.isAgg2
  z2 := Tryz.sizeOf2
  v2 := Tryz.zeroValue2
  t3 := Tryz.underlying3
  a3 := Tryz.isAgg3
  z3 := Tryz.sizeOf3
  v3 := Tryz.zeroValue3
  t4 := Tryz.underlying4
  a4 := Tryz.isAgg4
  z4 := Tryz.sizeOf4
  v4 := Tryz.zeroValue4
  t5 := Tryz.underlying5
  a5 := Tryz.isAgg5
  z5 := Tryz.sizeOf5
  v5 := Tryz.zeroValue5
  t9 := Tryz.underlying9
  a9 := Tryz.isAgg9
  z9 := Tryz.sizeOf9
  v9 := Tryz.zeroValue9
  t20 := Tryz.underlying20
  a20 := Tryz.isAgg20
  z20 := Tryz.sizeOf20
  v20 := Tryz.zeroValue20
  t37 := Tryz.underlying100
  a37 := Tryz.isAgg100
  z37 := Tryz.sizeOf100
  v37 := Tryz.zeroValue100
  t46 := Tryz.underlying200
  a46 := Tryz.isAgg200
  z46 := Tryz.sizeOf200
  v46 := Tryz.zeroValue200
  t51 := Tryz.underlying197
  a51 := Tryz.isAgg197
  z51 := Tryz.sizeOf197
  v51 := Tryz.zeroValue197
  t53 := Tryz.underlying166
  a53 := Tryz.isAgg166
  z53 := Tryz.sizeOf166
  v53 := Tryz.zeroValue166
  t171 := Tryz.underlying165
  a171 := Tryz.isAgg165
  z171 := Tryz.sizeOf165
  v171 := Tryz.zeroValue165
  t173 := Tryz.underlying169
  a173 := Tryz.isAgg169
  z173 := Tryz.sizeOf169
  v173 := Tryz.zeroValue169
  t212 := Tryz.underlying196
  a212 := Tryz.isAgg196
  z212 := Tryz.sizeOf196
  v212 := Tryz.zeroValue196
  t213 := Tryz.underlying198
  a213 := Tryz.isAgg198
  z213 := Tryz.sizeOf198
  t232 := Tryz.underlying228
  a232 := Tryz.isAgg228
  z232 := Tryz.sizeOf228
  v232 := Tryz.zeroValue228
  t233 := Tryz.underlying229
  a233 := Tryz.isAgg229
  z233 := Tryz.sizeOf229
  v233 := Tryz.zeroValue229
  g17 := by kernel_rfl
  g18 := by kernel_rfl
  g19 := by kernel_rfl
  i0 := by kernel_rfl
  i2 := by kernel_rfl
  i3 := by kernel_rfl
  i4 := by kernel_rfl
  i5 := by kernel_rfl
  i9 := by kernel_rfl
  i20 := by kernel_rfl
  i37 := by kernel_rfl
  i46 := by kernel_rfl
  i51 := by kernel_rfl
  i53 := by kernel_rfl
  i171 := by kernel_rfl
  i173 := by kernel_rfl
  i212 := by kernel_rfl
  i232 := by kernel_rfl
  i233 := by kernel_rfl
  m17 := by kernel_rfl
  m18 := by kernel_rfl
  m19 := by kernel_rfl }

set_option maxRecDepth 100000
open Go.RowKit
theorem dig_dec (m : Nat) : Lib.decDigits m = dig m := by
  induction m using Nat.strongRecOn with
  | ind m ih =>
    rw [Lib.decDigits, dig]
    split
    · rfl
    · rw [ih (m / 10) (by omega)]
theorem itoa_dig (m : Nat) : Lib.itoa (m : Nat) = dig m := by
  rw [Lib.itoa, if_neg (by omega), Int.toNat_natCast, dig_dec]
/-- The table stands, whatever is done from block B on. -/
def Tab (B : Nat) (w : World) : Prop := Lib.TabBelow Tryz.prog B w "internal/strconv.uint64pow10" .u64 Lib.pow10Tab
theorem formatInt_any {B : Nat} (m : Nat) (hm : m ≤ 9223372036854775807) (w : World) (h : Tab B w) :
    Calls Tryz.prog 84 #[.int .i64 (m : Nat), .int .i64 10] w fun e w' => e = .returned (.string ⟨(dig m).toArray⟩) ∧ Below w.heap.size w w' := by
  refine (Any.strconv_FormatInt_10 laysM173 (m : Nat) (by omega) (by omega) w h.here).mono ?_
  rintro e w' ⟨rfl, k, os, rfl⟩
  exact ⟨by rw [itoa_dig], Lib.below_grow _ _ (Nat.le_refl _) _ _⟩
theorem formatBool_any (b : Bool) (w : World) :
    Calls Tryz.prog 85 #[.bool b] w fun e w' => e = .returned (.string ⟨(if b then [116, 114, 117, 101] else [102, 97, 108, 115, 101] : Bs).toArray⟩) ∧ w' = w := by
  have h : Calls Tryz.prog 111 #[.bool b] w fun e w' => e = .returned (.string ⟨(if b then [116, 114, 117, 101] else [102, 97, 108, 115, 101] : Bs).toArray⟩) ∧ w' = w := by
    go_enter Tryz.func111, Tryz.ntmps111
    cases b
    · go_wp2_with fail
      go_ret
      exact ⟨rfl, rfl⟩
    · go_wp2_with fail
      go_ret
      exact ⟨rfl, rfl⟩
  obtain ⟨s, hs⟩ : ∃ s : Bs, s = if b then [116, 114, 117, 101] else [102, 97, 108, 115, 101] := ⟨_, rfl⟩
  rw [← hs] at h ⊢
  have H := Lib.hid h
  clear h hs
  go_enter Tryz.func85, Tryz.ntmps85
  go_wp2_with fail
  refine H.out.mono ?_
  rintro e w' ⟨rfl, rfl⟩
  go_wp2_with fail
  go_ret
  exact ⟨rfl, rfl⟩
theorem Tab.fb {B b : Nat} {w w' : World} (h : Tab B w) (hF : Fb B b w w') : Tab B w' := h.on hF.1

/-! An item of a list of expressions; levels. -/
def zPE : PE := .mk 0 0 [] 0 [] [] []
theorem zPE_is (A : Nat → Prop) (w : World) : IsCs A w (encE 26 36 zPE) [.int .i64 (0 : Nat), .int .i64 (0 : Nat), .string ⟨([] : Bs).toArray⟩, .int .i64 (0 : Nat), .slice none 0 0, .slice none 0 0, .slice none 0 0] := by
  simp only [zPE, encE, encEs, encTs, List.map_nil, List.length_nil]
  exact .cons (.num _ _ _) (.cons (.num _ _ _) (.cons (.str _ _ _) (.cons (.num _ _ _) (.cons (.none _ _ _ (by decide)) (.cons (.none _ _ _ (by decide)) (.cons (.none _ _ _ (by decide)) (.nil _ _)))))))

set_option maxHeartbeats 1000000 in
theorem partE_any (l : List PE) (i : Nat) (A : Nat → Prop) (w : World) (v : Value) (h : IsC A w (.row 36 7 l.length (encEs 26 36 l)) v) (hi9 : i ≤ 1000000000000000) :
    Calls Tryz.prog 108 #[v, .int .i64 (i : Nat)] w fun e w' => ∃ cs, e = .returned (.agg cs.toArray) ∧ Below w.heap.size w w' ∧ IsCs A w' (encE 26 36 (l[i]?.getD zPE)) cs := by
  obtain ⟨tt, htt⟩ : ∃ tt, tt = l[i]?.getD zPE := ⟨_, rfl⟩
  rw [← htt]
  have HTT := Lib.hid htt
  clear htt
  have hS := Sub.of_row h (by rw [encEs_flat]; exact flat_length (encE_length 26 36) l)
  obtain ⟨a0, cap, xs, rfl, -, -⟩ := id hS
  obtain ⟨W1, hW1⟩ : ∃ W1, w.alloc (.cells #[.int .i64 0, .int .i64 0, .string ⟨#[]⟩, .int .i64 0, .slice none 0 0, .slice none 0 0, .slice none 0 0] 36) = W1 := ⟨_, rfl⟩
  have hA1 : W1.heap[w.heap.size]? = some (.cells #[.int .i64 0, .int .i64 0, .string ⟨#[]⟩, .int .i64 0, .slice none 0 0, .slice none 0 0, .slice none 0 0] 36 (0, 0)) := by rw [← hW1]; exact heap_alloc_new w _
  have hB1 : Below w.heap.size w W1 := by rw [← hW1]; exact (Below.refl _ w).alloc (Nat.le_refl _) _
  have HB1 := Lib.hid hB1
  have HA1 := Lib.hid hA1
  have HSZ := Lib.hid (show W1.heap.size = w.heap.size + 1 by rw [← hW1]; simp)
  by_cases hlt : i < l.length
  · have hd1 : decide ((i : Int) < (l.length : Int)) = true := by simp only [decide_eq_true_eq]; omega
    have hd2 : decide (i < l.length) = true := by simp only [decide_eq_true_eq]; exact hlt
    have hget : l[i]? = some l[i] := List.getElem?_eq_getElem hlt
    obtain ⟨t, ht⟩ : ∃ t, t = l[i] := ⟨_, rfl⟩
    rw [← ht] at hget
    have hS2 := hS
    rw [encEs_flat] at hS2
    obtain ⟨g, o, cs, rfl, hg, hcs, hcell⟩ := Sub.at (encE_length 26 36) hS2 hget (by omega)
    obtain ⟨tk, ta, tn, tm, a4, n4, c4, a5, n5, c5, a6, n6, c6, rfl⟩ := cells_E hcs
    have d0 := (hB1.cell (p := ⟨g, o + i * 7 + 0, none⟩) hg).trans (hcell 0 _ rfl)
    have d1 := (hB1.cell (p := ⟨g, o + i * 7 + 1, none⟩) hg).trans (hcell 1 _ rfl)
    have d2 := (hB1.cell (p := ⟨g, o + i * 7 + 2, none⟩) hg).trans (hcell 2 _ rfl)
    have d3 := (hB1.cell (p := ⟨g, o + i * 7 + 3, none⟩) hg).trans (hcell 3 _ rfl)
    have d4 := (hB1.cell (p := ⟨g, o + i * 7 + 4, none⟩) hg).trans (hcell 4 _ rfl)
    have d5 := (hB1.cell (p := ⟨g, o + i * 7 + 5, none⟩) hg).trans (hcell 5 _ rfl)
    have d6 := (hB1.cell (p := ⟨g, o + i * 7 + 6, none⟩) hg).trans (hcell 6 _ rfl)
    rw [Nat.add_zero] at d0
    have HCS := Lib.hid (hcs.mono (A' := fun b => A b ∧ b < w.heap.size) (fun b hb ha => ⟨ha, hb⟩))
    have HTH := Lib.hid (there_of hA1 rfl)
    have HGET := Lib.hid (show tt = t by rw [HTT.out, hget]; rfl)
    clear hS hS2 hget ht hcs hcell hg h hA1 hB1
    go_enter Tryz.func108, Tryz.ntmps108
    go_upto_region 1 with fail
    clear hW1
    go_wp2_with (first | (refine wpList_store_put rfl 36 (.tmp 4) (.tmp 13) rfl w.heap.size _ rfl rfl HTH.out size49 (all_oneCell_toArray (by simp [Value.oneCell'])) ?_; intro W9 hW9))
    have hA9 : W9.heap[w.heap.size]? = some (.cells #[.int .i64 tk, .int .i64 ta, .string tn, .int .i64 tm, .slice a4 n4 c4, .slice a5 n5 c5, .slice a6 n6 c6] 36 (0, 0)) := by rw [hW9.out]; exact putL_at (vs := [.int .i64 tk, .int .i64 ta, .string tn, .int .i64 tm, .slice a4 n4 c4, .slice a5 n5 c5, .slice a6 n6 c6]) HA1.out rfl
    refine ret49 Tryz.results108 rfl rfl hA9 ⟨[.int .i64 tk, .int .i64 ta, .string tn, .int .i64 tm, .slice a4 n4 c4, .slice a5 n5 c5, .slice a6 n6 c6], rfl, ?_, ?_⟩
    · rw [hW9.out]; exact Below.putL HB1.out (Nat.le_refl _) _
    · rw [HGET.out, hW9.out]
      exact ((HCS.out.below HB1.out).putL _ (fun b hb => Nat.ne_of_lt hb.2) _).mono (fun b _ hb => hb.1)
  · have hd1 : decide ((i : Int) < (l.length : Int)) = false := by simp only [decide_eq_false_iff_not]; omega
    have hd2 : decide (i < l.length) = false := by simp only [decide_eq_false_iff_not]; exact hlt
    have hA2 : (W1.alloc (.cells #[.int .i64 0, .int .i64 0, .string ⟨#[]⟩, .int .i64 0, .slice none 0 0, .slice none 0 0, .slice none 0 0] 36)).heap[w.heap.size]? = some (.cells #[.int .i64 0, .int .i64 0, .string ⟨#[]⟩, .int .i64 0, .slice none 0 0, .slice none 0 0, .slice none 0 0] 36 (0, 0)) := blk_alloc hA1 _
    have HA2 := Lib.hid hA2
    have HTH := Lib.hid (there_of hA2 rfl)
    have HB2 := Lib.hid (hB1.alloc hB1.size (.cells #[.int .i64 0, .int .i64 0, .string ⟨#[]⟩, .int .i64 0, .slice none 0 0, .slice none 0 0, .slice none 0 0] 36))
    have HGET := Lib.hid (show tt = zPE by rw [HTT.out, List.getElem?_eq_none (by omega)]; rfl)
    clear hS h hA1 hB1 hA2
    go_enter Tryz.func108, Tryz.ntmps108
    go_upto_region 1 with fail
    clear hW1
    go_wp2_with (first | (refine wpList_store_put rfl 36 (.tmp 4) (.tmp 14) rfl w.heap.size _ rfl rfl HTH.out size49 (all_oneCell_toArray (by simp [Value.oneCell'])) ?_; intro W9 hW9))
    have hA9 : W9.heap[w.heap.size]? = some (.cells #[.int .i64 0, .int .i64 0, .string ⟨#[]⟩, .int .i64 0, .slice none 0 0, .slice none 0 0, .slice none 0 0] 36 (0, 0)) := by rw [hW9.out]; exact putL_at (vs := [.int .i64 0, .int .i64 0, .string ⟨#[]⟩, .int .i64 0, .slice none 0 0, .slice none 0 0, .slice none 0 0]) HA2.out rfl
    refine ret49 Tryz.results108 rfl rfl hA9 ⟨[.int .i64 0, .int .i64 0, .string ⟨#[]⟩, .int .i64 0, .slice none 0 0, .slice none 0 0, .slice none 0 0], rfl, ?_, ?_⟩
    · rw [hW9.out]; exact Below.putL HB2.out (Nat.le_refl _) _
    · rw [HGET.out]; exact zPE_is A W9

theorem levelE_any (k : Nat) (ta : Int) (n : ByteArray) (tm : Int) (a4 a5 a6 : Option Addr) (n4 c4 n5 c5 n6 c6 : Nat) (w : World) :
    Calls Tryz.prog 83 #[.agg #[.int .i64 (k : Nat), .int .i64 ta, .string n, .int .i64 tm, .slice a4 n4 c4, .slice a5 n5 c5, .slice a6 n6 c6]] w fun e w' => e = .returned (.int .i64 (lvlE k : Nat)) ∧ Below w.heap.size w w' := by
  go_enter Tryz.func83, Tryz.ntmps83
  by_cases h8 : k = 8
  · subst h8
    go_wp2_with fail
    go_ret
    exact ⟨rfl, (Below.refl _ w).alloc (Nat.le_refl _) _⟩
  by_cases h9 : k = 9
  · subst h9
    go_wp2_with fail
    go_ret
    exact ⟨rfl, (Below.refl _ w).alloc (Nat.le_refl _) _⟩
  by_cases h10 : k = 10
  · subst h10
    go_wp2_with fail
    go_ret
    exact ⟨rfl, (Below.refl _ w).alloc (Nat.le_refl _) _⟩
  · have e8 : ((k : Int) == 8) = false := by simp only [beq_eq_false_iff_ne, ne_eq]; omega
    have e9 : ((k : Int) == 9) = false := by simp only [beq_eq_false_iff_ne, ne_eq]; omega
    have e10 : ((k : Int) == 10) = false := by simp only [beq_eq_false_iff_ne, ne_eq]; omega
    have hl : lvlE k = 2 := by unfold lvlE; rw [if_neg (by omega)]
    go_wp2_with fail
    go_ret
    exact ⟨by rw [hl]; rfl, (Below.refl _ w).alloc (Nat.le_refl _) _⟩

end Go.Proofs.YthpoffklhpbdoaaGreatDoor

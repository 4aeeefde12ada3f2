/-
  The walk of ParseRest.
-/
import Derived.Test.YtbmjefboaihapaaGreatDoorSmX
import Derived.Test.YtbmjefboaihapaaGreatDoorPurX
namespace Go.Proofs.YtbmjefboaihapaaGreatDoor
set_option maxRecDepth 20000
open Go.RowKit Go.Shelf


theorem take_byte {s : ByteArray} {i : Nat} (hi : i < s.size) {P : UInt8 → Prop} (h : ∀ c ∈ s.data.toList.take i, P c) (hc : P s[i]) : ∀ c ∈ s.data.toList.take (i + 1), P c := by
  intro c h1
  have hi' : i < s.data.toList.length := by simpa using hi
  rw [List.take_succ_eq_append_getElem hi'] at h1
  rcases List.mem_append.1 h1 with h1 | h1
  · exact h c h1
  · simp only [List.mem_singleton] at h1
    subst h1
    exact hc
theorem row_cap {w : World} {base : Nat} {e : TypeId} {size : Nat} {a : Option Addr} {n c : Nat} {xs : List Value} (h : w.ownsRow base e size (.slice a n c) n xs) : n ≤ c := by
  rcases h.2 with ⟨hv, hn⟩ | ⟨g, cap, cur, hv, hb, hg, hc, hm, hs, ht⟩
  · omega
  · cases hv
    exact hc
/-- The first few of a slice, and what is behind them. -/
theorem Sub.take {α : Type} {f : α → List Dt} {A : Nat → Prop} {w : World} {l : List α} {a0 : Option Addr} {n cap : Nat} (h : Sub A w (l.flatMap f) n (.slice a0 n cap)) (j : Nat) (hj : j ≤ n) : Sub A w ((l.take j).flatMap f) j (.slice a0 j cap) := by
  obtain ⟨b0, c2, xs, h1, h2, h3⟩ := h
  cases h1
  rw [← List.take_append_drop j l, List.flatMap_append] at h2
  obtain ⟨a, b, rfl, e1, e2⟩ := h2.split
  refine ⟨_, _, a, rfl, e1, fun hn => ?_⟩
  obtain ⟨g, o, e3, e4, e5⟩ := h3 (by omega)
  exact ⟨g, o, e3, e4, fun i x hx => e5 i x (by rw [List.getElem?_append_left (List.getElem?_eq_some_iff.1 hx).1]; exact hx)⟩
theorem Sub.drop {α : Type} {f : α → List Dt} {k : Nat} (hf : ∀ x, (f x).length = k) {A : Nat → Prop} {w : World} {l : List α} {g o n cap : Nat} (h : Sub A w (l.flatMap f) n (.slice (some ⟨g, o, none⟩) n cap)) (j : Nat) (hj : j ≤ l.length) (m : Nat) (cap' : Nat) (hm : m ≠ 0 → n ≠ 0) : Sub A w ((l.drop j).flatMap f) m (.slice (some ⟨g, o + j * k, none⟩) m cap') := by
  obtain ⟨b0, c2, xs, h1, h2, h3⟩ := h
  cases h1
  rw [← List.take_append_drop j l, List.flatMap_append] at h2
  obtain ⟨a, b, rfl, e1, e2⟩ := h2.split
  refine ⟨_, _, b, rfl, e2, fun hn => ?_⟩
  obtain ⟨g', o', e3, e4, e5⟩ := h3 (hm hn)
  cases e3
  have hl : a.length = j * k := by rw [IsCs.length _ _ e1, flat_length hf, List.length_take, Nat.min_eq_left hj]
  refine ⟨g, o + j * k, rfl, e4, fun i x hx => ?_⟩
  rw [Nat.add_assoc]
  exact e5 _ x (by rw [List.getElem?_append_right (by omega), hl, Nat.add_sub_cancel_left]; exact hx)

set_option maxHeartbeats 1000000 in
theorem rest_walk (s : ByteArray) (q : Int) (w : World) : Calls Tryz.prog 5 #[.string s, .int .u8 q] w (Tells w) := by
  have HAL := Lib.hid (alive_any w)
  go_enter Tryz.func5, Tryz.ntmps5
  go_wp2_with fail
  refine HAL.out.mono ?_
  rintro e w1 ⟨rfl, b1⟩
  have B1 := Lib.hid b1
  clear b1
  by_cases hbig : 300 < s.size
  · have hb : decide ((300 : Int) < (s.size : Int)) = true := by simp only [decide_eq_true_eq]; omega
    have hb2 : decide ((s.size : Int) > 300) = true := by simp only [decide_eq_true_eq]; omega
    go_wp2_with fail
    go_ret
    exact ⟨rfl, B1.out⟩
  · have hb : decide ((300 : Int) < (s.size : Int)) = false := by simp only [decide_eq_false_iff_not]; omega
    have hle : s.size ≤ 300 := by omega
    go_wp2_with fail
    go_loopw [5] (fun s5 wr => ∃ i : Nat, s5 = .int .i64 (i : Nat) ∧ i ≤ s.size ∧ wr = w1 ∧ Hid (∀ c ∈ s.data.toList.take i, c ≠ 59 ∧ c ≠ 34 ∧ c ≠ 35)) (fun s5 _ => s.size - (intOf s5).toNat)
    case atStart => exact ⟨0, rfl, Nat.zero_le _, rfl, (fun c hc => by simp at hc)⟩
    case round =>
      obtain ⟨i, rfl, hil, rfl, hC⟩ := hrel
      by_cases hi2 : i < s.size
      · have hlt : decide ((i : Int) < (s.size : Int)) = true := by simp only [decide_eq_true_eq]; omega
        have hltn : decide (i < s.size) = true := by simp only [decide_eq_true_eq]; exact hi2
        go_wp2_with fail
        all_goals first | (go_ret; exact ⟨rfl, B1.out⟩) | skip
        rename_i e1 e2 e3
        refine ⟨⟨i + 1, by simp, by omega, (by first | trivial | rfl), Lib.hid ?_⟩, ?_⟩
        · refine take_byte hi2 hC.out ⟨fun e => e1 (by rw [e]; rfl), fun e => e2 (by rw [e]; rfl), ?_⟩
          have e4 := e3.2
          intro e5
          rw [e5] at e4
          simp at e4
        · simp [intOf]; omega
      · have hlt : decide ((i : Int) < (s.size : Int)) = false := by simp only [decide_eq_false_iff_not]; omega
        have hltn : decide (i < s.size) = false := by simp only [decide_eq_false_iff_not]; exact hi2
        have hi3 : i = s.size := by omega
        have hall : ∀ c ∈ s.data.toList, c ≠ 59 ∧ c ≠ 34 ∧ c ≠ 35 := by
          have := hC.out
          rw [hi3, Lib.size_eq, List.take_length] at this
          exact this
        obtain ⟨mid, dd, hm1, hm2⟩ := rest_pure s.data.toList hall
        have HX : Hid ((⟨#[108, 101, 116, 32, 97, 32, 61, 32, 123, 98, 32, 61, 32, 49, 125, 59, 10]⟩ ++ s ++ ⟨#[59]⟩ ++ ⟨#[10, 117, 115, 101, 32, 99, 59]⟩ : ByteArray).data.toList = srcA ++ 10 :: (s.data.toList ++ 59 :: 10 :: srcC)) := by
          show _ = _
          simp [srcA, srcC]
        have HXS : Hid ((⟨#[108, 101, 116, 32, 97, 32, 61, 32, 123, 98, 32, 61, 32, 49, 125, 59, 10]⟩ ++ s ++ ⟨#[59]⟩ ++ ⟨#[10, 117, 115, 101, 32, 99, 59]⟩ : ByteArray).size ≤ 100000) := by
          show _ ≤ _
          rw [Lib.size_eq, HX.out]
          simp only [List.length_append, List.length_cons, Lib.size_eq] at *
          simp only [srcA, srcC, List.length_cons, List.length_nil]
          omega
        have HP := Lib.hid (parse_any _ HXS.out)
        rw [HX.out, hm2] at HP
        have HQ := Lib.hid (fun W => parse_any ⟨#[108, 101, 116, 32, 97, 32, 61, 32, 123, 98, 32, 61, 32, 49, 125, 59, 10]⟩ (by decide) W)
        have eA : parseAll (ByteArray.mk #[108, 101, 116, 32, 97, 32, 61, 32, 123, 98, 32, 61, 32, 49, 125, 59, 10]).data.toList = ([dA], []) := lit_A
        rw [eA] at HQ
        rw [← Lib.size_eq] at HP
        have HM := Lib.hid hm1
        have HD := Lib.hid (dsOk [dA] (by simp [szDs, szD, dA, szEs, szE, szTs]))
        have HE := Lib.hid (sdOk true [dA] [dA] ⟨rfl, fun _ => rfl⟩ (by simp [szDs, szD, dA, szEs, szE, szTs]))
        clear hm1 hm2 eA HX HXS hall hi3
        go_wp2_with fail
        refine (HP.out _).mono ?_
        rintro e w2 ⟨vl, vd, rfl, b2, hl, hdd⟩
        obtain ⟨ad, cd, rfl⟩ := row_slice hdd
        obtain ⟨k, hk, hk2⟩ : ∃ k, (dA :: (mid ++ [(⟨1, 23 + s.size, [99], [], []⟩ : PD)])).length = k ∧ (k = 2 ∨ k = 3) := ⟨_, rfl, by have h5 : mid.length ≤ 1 := HM.out; rw [List.length_cons, List.length_append, List.length_singleton]; omega⟩
        obtain ⟨_, rl, -, -⟩ := hl.unrow
        obtain ⟨al, cl, rfl⟩ := row_slice rl
        have hcl := row_cap rl
        obtain ⟨L, hLd⟩ : ∃ L, L = dA :: (mid ++ [(⟨1, 23 + s.size, [99], [], []⟩ : PD)]) := ⟨_, rfl⟩
        have HL1 : Hid (L.take 1 = [dA]) := by rw [hLd]; rfl
        have HLA : Hid (L[k - 1]? = some ⟨1, 23 + s.size, [99], [], []⟩) := by
          show _ = _
          rw [hLd, ← hk, ← List.cons_append]
          simp
        rw [← hLd] at hl hk hcl ⊢
        have HL := Lib.hid hl
        have HK := Lib.hid hk
        have B2 := Lib.hid b2
        rw [hk]
        rw [hk] at hcl
        clear hl rl b2 hdd hk hLd
        go_wp2_with fail
        refine (HQ.out _).mono ?_
        rintro e w3 ⟨vm, vd2, rfl, b3, hm, hdd⟩
        obtain ⟨ad2, cd2, rfl⟩ := row_slice hdd
        obtain ⟨_, rm, -, -⟩ := hm.unrow
        obtain ⟨am, cm, rfl⟩ := row_slice rm
        have HMM := Lib.hid hm
        have B3 := Lib.hid b3
        clear hm rm b3 hdd
        rcases hk2 with rfl | rfl
        · 
          have SL := Lib.hid ((Sub.of_row HL.out (flat_length (encD_length 39 49) L)).below B3.out)
          have hSL := SL.out
          rw [HK.out] at hSL
          have HT1 := hSL.take 1 (by omega)
          rw [HL1.out] at HT1
          have HT1 := Lib.hid HT1
          have HT2 := Lib.hid (Sub.of_row HMM.out (flat_length (encD_length 39 49) [dA]))
          obtain ⟨g, o, cs, rfl, hg, hcs, hcell⟩ := Sub.at (encD_length 39 49) hSL HLA.out (by omega)
          obtain ⟨v3, v4, rfl, h3, h4⟩ := cells_DD hcs
          obtain ⟨_, r3, -, -⟩ := h3.unrow
          obtain ⟨x3, y3, rfl⟩ := row_slice r3
          obtain ⟨_, r4, -, -⟩ := h4.unrow
          obtain ⟨x4, y4, rfl⟩ := row_slice r4
          have d0 := hcell 0 _ rfl
          have d1 := hcell 1 _ rfl
          have d2 := hcell 2 _ rfl
          have d3 := hcell 3 _ rfl
          have d4 := hcell 4 _ rfl
          simp only [List.length_nil, Nat.add_zero, Nat.reduceSub, Nat.one_mul] at d0 d1 d2 d3 d4
          have HTH := Lib.hid (there_of (heap_alloc_new w3 (.cells #[.int .i64 0, .int .i64 0, .string ⟨#[]⟩, .slice none 0 0, .slice none 0 0] 62)) (n := 5) rfl)
          have HG := Lib.hid hg
          have hcl1 : ¬ (cl : Int) < 1 := by omega
          have hcl2 : decide ((cl : Int) < 1) = false := by simp only [decide_eq_false_iff_not]; exact hcl1
          clear hSL hcs hcell h3 h4 r3 r4 hg
          go_wp2_with (first | (refine wpList_store_put rfl 62 (.tmp 12) (.tmp 73) rfl w3.heap.size _ rfl rfl HTH.out size62 (all_oneCell_toArray (by simp [Value.oneCell'])) ?_; intro W9 hW9))
          have e9 : W9 = putL (w3.alloc (.cells #[.int .i64 0, .int .i64 0, .string ⟨#[]⟩, .slice none 0 0, .slice none 0 0] 62)) w3.heap.size [.int .i64 ((1 : Nat) : Int), .int .i64 ((23 + s.size : Nat) : Int), .string ⟨#[99]⟩, .slice x3 0 y3, .slice x4 0 y4] := hW9.out
          have hA9 : W9.heap[w3.heap.size]? = some (.cells #[.int .i64 ((1 : Nat) : Int), .int .i64 ((23 + s.size : Nat) : Int), .string ⟨#[99]⟩, .slice x3 0 y3, .slice x4 0 y4] 62 (0, 0)) := by rw [e9]; exact putL_at (vs := [.int .i64 ((1 : Nat) : Int), .int .i64 ((23 + s.size : Nat) : Int), .string ⟨#[99]⟩, .slice x3 0 y3, .slice x4 0 y4]) (heap_alloc_new w3 _) rfl
          have hB9 : Below w3.heap.size w3 W9 := by rw [e9]; exact Below.putL ((Below.refl _ _).alloc (Nat.le_refl _) _) (Nat.le_refl _) _
          have hS9 : w3.heap.size < W9.heap.size := by rw [e9, (putL_same _ _ _ _).2.2.2, World.size_alloc]; omega
          have HA9 := Lib.hid hA9
          have HB9 := Lib.hid hB9
          have HS9 := Lib.hid hS9
          clear hW9 e9 hA9 hB9 hS9 d0 d1 d2 d3 d4
          refine (HD.out _ W9 _ (HT1.out.below HB9.out)).mono ?_
          rintro e w4 ⟨u1, rfl, b4, i4⟩
          obtain ⟨_, r1, -, -⟩ := i4.unrow
          obtain ⟨z1, c1, rfl⟩ := row_slice r1
          have B4 := Lib.hid b4
          have I4 := Lib.hid (Sub.of_row i4 (flat_length (encD_length 44 54) [dA]))
          clear b4 i4 r1
          go_wp2_with fail
          refine (HD.out _ w4 _ ((HT2.out.below HB9.out).below B4.out)).mono ?_
          rintro e w5 ⟨u2, rfl, b5, i5⟩
          obtain ⟨_, r2, -, -⟩ := i5.unrow
          obtain ⟨z2, c2, rfl⟩ := row_slice r2
          have B5 := Lib.hid b5
          have I5 := Lib.hid (Sub.of_row i5 (flat_length (encD_length 44 54) [dA]))
          clear b5 i5 r2
          go_wp2_with fail
          refine (HE.out _ _ w5 _ _ (I4.out.below B5.out) I5.out).mono ?_
          rintro e w6 ⟨rfl, b6⟩
          have hA6 : w6.heap[w3.heap.size]? = some (.cells #[.int .i64 ((1 : Nat) : Int), .int .i64 ((23 + s.size : Nat) : Int), .string ⟨#[99]⟩, .slice x3 0 y3, .slice x4 0 y4] 62 (0, 0)) := (b6.block _ (Nat.lt_of_lt_of_le HS9.out (Nat.le_trans B4.out.size B5.out.size))).trans ((B5.out.block _ (Nat.lt_of_lt_of_le HS9.out B4.out.size)).trans ((B4.out.block _ HS9.out).trans HA9.out))
          have f0 : w6.cell? ⟨w3.heap.size, 0, none⟩ = some (.int .i64 ((1 : Nat) : Int)) := by simp [World.cell?, hA6]
          have f1 : w6.cell? ⟨w3.heap.size, 1, none⟩ = some (.int .i64 ((23 + s.size : Nat) : Int)) := by simp [World.cell?, hA6]
          have f2 : w6.cell? ⟨w3.heap.size, 2, none⟩ = some (.string ⟨#[99]⟩) := by simp [World.cell?, hA6]
          have heq : ((23 : Int) + (s.size : Int) == 17 + (s.size : Int) + 1 + 5) = true := by simp only [beq_iff_eq]; omega
          have BB := Lib.hid (B1.out.trans ((B2.out.trans ((B3.out.trans ((HB9.out.trans ((B4.out.trans ((B5.out.trans (b6.mono B5.out.size)).mono B4.out.size)).mono HB9.out.size)).mono B3.out.size)).mono B2.out.size)).mono B1.out.size))
          clear hA6 b6
          go_wp2_with fail
          go_ret
          exact ⟨by first | rfl | (simp; omega), BB.out⟩
        · 
          have SL := Lib.hid ((Sub.of_row HL.out (flat_length (encD_length 39 49) L)).below B3.out)
          have hSL := SL.out
          rw [HK.out] at hSL
          have HT1 := hSL.take 1 (by omega)
          rw [HL1.out] at HT1
          have HT1 := Lib.hid HT1
          have HT2 := Lib.hid (Sub.of_row HMM.out (flat_length (encD_length 39 49) [dA]))
          obtain ⟨g, o, cs, rfl, hg, hcs, hcell⟩ := Sub.at (encD_length 39 49) hSL HLA.out (by omega)
          obtain ⟨v3, v4, rfl, h3, h4⟩ := cells_DD hcs
          obtain ⟨_, r3, -, -⟩ := h3.unrow
          obtain ⟨x3, y3, rfl⟩ := row_slice r3
          obtain ⟨_, r4, -, -⟩ := h4.unrow
          obtain ⟨x4, y4, rfl⟩ := row_slice r4
          have d0 := hcell 0 _ rfl
          have d1 := hcell 1 _ rfl
          have d2 := hcell 2 _ rfl
          have d3 := hcell 3 _ rfl
          have d4 := hcell 4 _ rfl
          simp only [List.length_nil, Nat.add_zero, Nat.reduceSub, Nat.reduceMul] at d0 d1 d2 d3 d4
          have HTH := Lib.hid (there_of (heap_alloc_new w3 (.cells #[.int .i64 0, .int .i64 0, .string ⟨#[]⟩, .slice none 0 0, .slice none 0 0] 62)) (n := 5) rfl)
          have HG := Lib.hid hg
          have hcl1 : ¬ (cl : Int) < 1 := by omega
          have hcl2 : decide ((cl : Int) < 1) = false := by simp only [decide_eq_false_iff_not]; exact hcl1
          clear hSL hcs hcell h3 h4 r3 r4 hg
          go_wp2_with (first | (refine wpList_store_put rfl 62 (.tmp 12) (.tmp 73) rfl w3.heap.size _ rfl rfl HTH.out size62 (all_oneCell_toArray (by simp [Value.oneCell'])) ?_; intro W9 hW9))
          have e9 : W9 = putL (w3.alloc (.cells #[.int .i64 0, .int .i64 0, .string ⟨#[]⟩, .slice none 0 0, .slice none 0 0] 62)) w3.heap.size [.int .i64 ((1 : Nat) : Int), .int .i64 ((23 + s.size : Nat) : Int), .string ⟨#[99]⟩, .slice x3 0 y3, .slice x4 0 y4] := hW9.out
          have hA9 : W9.heap[w3.heap.size]? = some (.cells #[.int .i64 ((1 : Nat) : Int), .int .i64 ((23 + s.size : Nat) : Int), .string ⟨#[99]⟩, .slice x3 0 y3, .slice x4 0 y4] 62 (0, 0)) := by rw [e9]; exact putL_at (vs := [.int .i64 ((1 : Nat) : Int), .int .i64 ((23 + s.size : Nat) : Int), .string ⟨#[99]⟩, .slice x3 0 y3, .slice x4 0 y4]) (heap_alloc_new w3 _) rfl
          have hB9 : Below w3.heap.size w3 W9 := by rw [e9]; exact Below.putL ((Below.refl _ _).alloc (Nat.le_refl _) _) (Nat.le_refl _) _
          have hS9 : w3.heap.size < W9.heap.size := by rw [e9, (putL_same _ _ _ _).2.2.2, World.size_alloc]; omega
          have HA9 := Lib.hid hA9
          have HB9 := Lib.hid hB9
          have HS9 := Lib.hid hS9
          clear hW9 e9 hA9 hB9 hS9 d0 d1 d2 d3 d4
          refine (HD.out _ W9 _ (HT1.out.below HB9.out)).mono ?_
          rintro e w4 ⟨u1, rfl, b4, i4⟩
          obtain ⟨_, r1, -, -⟩ := i4.unrow
          obtain ⟨z1, c1, rfl⟩ := row_slice r1
          have B4 := Lib.hid b4
          have I4 := Lib.hid (Sub.of_row i4 (flat_length (encD_length 44 54) [dA]))
          clear b4 i4 r1
          go_wp2_with fail
          refine (HD.out _ w4 _ ((HT2.out.below HB9.out).below B4.out)).mono ?_
          rintro e w5 ⟨u2, rfl, b5, i5⟩
          obtain ⟨_, r2, -, -⟩ := i5.unrow
          obtain ⟨z2, c2, rfl⟩ := row_slice r2
          have B5 := Lib.hid b5
          have I5 := Lib.hid (Sub.of_row i5 (flat_length (encD_length 44 54) [dA]))
          clear b5 i5 r2
          go_wp2_with fail
          refine (HE.out _ _ w5 _ _ (I4.out.below B5.out) I5.out).mono ?_
          rintro e w6 ⟨rfl, b6⟩
          have hA6 : w6.heap[w3.heap.size]? = some (.cells #[.int .i64 ((1 : Nat) : Int), .int .i64 ((23 + s.size : Nat) : Int), .string ⟨#[99]⟩, .slice x3 0 y3, .slice x4 0 y4] 62 (0, 0)) := (b6.block _ (Nat.lt_of_lt_of_le HS9.out (Nat.le_trans B4.out.size B5.out.size))).trans ((B5.out.block _ (Nat.lt_of_lt_of_le HS9.out B4.out.size)).trans ((B4.out.block _ HS9.out).trans HA9.out))
          have f0 : w6.cell? ⟨w3.heap.size, 0, none⟩ = some (.int .i64 ((1 : Nat) : Int)) := by simp [World.cell?, hA6]
          have f1 : w6.cell? ⟨w3.heap.size, 1, none⟩ = some (.int .i64 ((23 + s.size : Nat) : Int)) := by simp [World.cell?, hA6]
          have f2 : w6.cell? ⟨w3.heap.size, 2, none⟩ = some (.string ⟨#[99]⟩) := by simp [World.cell?, hA6]
          have heq : ((23 : Int) + (s.size : Int) == 17 + (s.size : Int) + 1 + 5) = true := by simp only [beq_iff_eq]; omega
          have BB := Lib.hid (B1.out.trans ((B2.out.trans ((B3.out.trans ((HB9.out.trans ((B4.out.trans ((B5.out.trans (b6.mono B5.out.size)).mono B4.out.size)).mono HB9.out.size)).mono B3.out.size)).mono B2.out.size)).mono B1.out.size))
          clear hA6 b6
          go_wp2_with fail
          go_ret
          exact ⟨by first | rfl | (simp; omega), BB.out⟩
end Go.Proofs.YtbmjefboaihapaaGreatDoor

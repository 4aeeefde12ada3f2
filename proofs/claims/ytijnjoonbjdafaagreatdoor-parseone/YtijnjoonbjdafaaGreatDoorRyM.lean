/-
  The document's reader of types: plain ones, the walk.
  The document's reader of types: records, the walk.
  The document's reader of types: all levels; a source that is just one type.
-/
import Derived.Test.YtijnjoonbjdafaaGreatDoorRdK
namespace Go.Proofs.YtijnjoonbjdafaaGreatDoor
set_option maxRecDepth 20000
open Go.RowKit Go.Shelf
set_option maxHeartbeats 8000000 in
theorem qplain_name {B M rb : Nat} {all : List Tk} (d : Nat) (qt : Q → PT × Q) (w : World) (s : Q) (h : QS B M w rb all s) (hA : s.bad = true ∨ (hd s.ts).k = 1) :
    Calls Tryz.prog 134 #[.pointer (some ⟨rb, 0, none⟩), .int .i64 (d : Nat)] w (QPT B M w rb all (plainS qt s)) := by
  have HRB := Lib.hid h.lt
  have HLEN := Lib.hid h.len
  obtain ⟨W1, hW1⟩ : ∃ W1, zFou w = W1 := ⟨_, rfl⟩
  have a1 := zfou w
  rw [hW1] at a1
  have HA1 := Lib.hid a1
  have F1 := Lib.hid (show Fr B w W1 by rw [← hW1]; exact (Fr.refl B w).alloc _)
  have q1 := (show QS B M W1 rb all s by rw [← hW1]; exact h.alloc _)
  have Q1 := Lib.hid q1
  have HS1 := Lib.hid (show W1.heap.size = w.heap.size + 1 by rw [← hW1]; simp)
  obtain ⟨out, hout⟩ : ∃ out, out = plainS qt s := ⟨_, rfl⟩
  rw [← hout]
  have HO := Lib.hid hout
  have HW1 := Lib.hid (show w.alloc (.cells #[.int .i64 0, .string ⟨#[]⟩, .slice none 0 0, .slice none 0 0] 31) = W1 from hW1)
  obtain ⟨g, cap, i, vd, h6, hi, hb, hg, c0, c1, c2, -⟩ := q1.first
  obtain ⟨⟨p0, p1, p2, p3⟩, f0, f1, f2, f3⟩ := fou_of h6
  have H6 := Lib.hid h6
  obtain ⟨⟨tk, ta, tt⟩, ht⟩ : ∃ t, t = hd s.ts := ⟨_, rfl⟩
  rw [← ht] at c0 c1 c2
  have HTT := Lib.hid ht
  obtain ⟨bd, hbd⟩ : ∃ bd, bd = s.bad := ⟨_, rfl⟩
  rw [← hbd] at p3
  have HBD := Lib.hid hbd
  obtain ⟨⟨d0, d1, d2, d3⟩, e0, e1, e2, e3⟩ := fou_of a1
  have HRB1 := Lib.hid q1.lt
  have hrb1 : rb < W1.heap.size := q1.lt
  have n1 : ¬ rb = W1.heap.size := Nat.ne_of_lt hrb1
  have hlt1 : w.heap.size < W1.heap.size := (Array.getElem?_eq_some_iff.1 a1).1
  have n2 : ¬ w.heap.size = W1.heap.size := Nat.ne_of_lt hlt1
  simp only at c0 c1 c2
  clear h hW1 a1 hout q1 h6 hbd ht
  go_enter Tryz.func134, Tryz.ntmps134
  go_upto_region 1 with fail
  rw [HW1.out]
  cases bd with
  | true =>
    have HON := Lib.hid (show out = (qT0, s) by rw [HO.out, plain_bad HBD.out.symm])
    clear c0 c1 c2 hA
    go_wp2_with fail
    rw [HON.out]
    exact endT rfl rfl rfl HA1.out F1.out Q1.out HRB.out (bareT _ _ 0 [])
  | false =>
    have HKN := Lib.hid (show tk = 1 from by
      rcases hA with h | h
      · rw [← HBD.out] at h; cases h
      · rw [← HTT.out] at h; exact h)
    clear hA
    obtain ⟨W2, hW2⟩ : ∃ W2, (W1.alloc (.cells #[.int .i64 (tk : Nat), .int .i64 (ta : Nat), .string ⟨tt.toArray⟩] 96)).drew = W2 := ⟨_, rfl⟩
    have b2 : Below W1.heap.size W1 W2 := by rw [← hW2]; exact ((Below.refl _ W1).alloc (Nat.le_refl _) _).drew
    have a2 : Thr W2 W1.heap.size 96 (.int .i64 (tk : Nat)) (.int .i64 (ta : Nat)) (.string ⟨tt.toArray⟩) := by rw [← hW2]; exact thr_new W1 _ _ _ _
    have a12 : Fou W2 w.heap.size 31 (.int .i64 0) (.string ⟨#[]⟩) (.slice none 0 0) (.slice none 0 0) := (b2.block _ hlt1).trans HA1.out
    have Q2 := Lib.hid (Q1.out.below b2)
    have F2 := Lib.hid (F1.out.trans (Fr.of_below (n₀ := B) b2))
    have HA2 := Lib.hid a2
    have HA12 := Lib.hid a12
    have HW2 := Lib.hid hW2
    have h62 := (b2.block rb hrb1).trans H6.out
    have H62 := Lib.hid h62
    have hlt2 : W1.heap.size < W2.heap.size := (Array.getElem?_eq_some_iff.1 a2).1
    have HL12 := Lib.hid hlt1
    clear hW2 a2 a12 b2 h62
    go_upto_region 3 with fail
    go_region
    go_upto_region 4 with fail
    rw [HW2.out]
    clear p0 p1 p2 p3 f0 f1 f2 f3 d0 d1 d2 d3 e0 e1 e2 e3 c0 c1 c2
    obtain ⟨⟨t0, t1, t2⟩, -⟩ := thr_of HA2.out
    by_cases hk : tk = 1
    · have hk1 : ((tk : Int) == 1) = true := by simp only [beq_iff_eq]; omega
      have HON := Lib.hid (show out = (.mk 8 tt [] [], s.next) by rw [HO.out, plain_name HBD.out.symm (by rw [← HTT.out]; exact hk), ← HTT.out])
      have HK := Lib.hid (show (hd s.ts).k ≠ 6 by rw [← HTT.out]; show tk ≠ 6; omega)
      have HP := Lib.hid (Q2.out.passed HK.out H62.out)
      obtain ⟨⟨p0, p1, p2, p3⟩, f0, f1, f2, f3⟩ := fou_of H62.out
      obtain ⟨⟨d0, d1, d2, d3⟩, e0, e1, e2, e3⟩ := fou_of HA12.out
      clear hk
      have hrw : ¬ rb = w.heap.size := Nat.ne_of_lt HRB.out
      have hwr : ¬ w.heap.size = rb := fun e => hrw e.symm
      have hwb : ¬ W1.heap.size = rb := fun e => n1 e.symm
      go_wp2_with fail
      rw [HON.out]
      have a13 : Fou (W2.setCell ⟨rb, 1, none⟩ (.int .i64 ((i : Int) + 1))) w.heap.size 31 (.int .i64 0) (.string ⟨#[]⟩) (.slice none 0 0) (.slice none 0 0) := (Below.heap_setCell W2 ⟨rb, 1, none⟩ _ w.heap.size hwr).trans HA12.out
      exact endT rfl rfl rfl a13 (F2.out.trans HP.out.2) HP.out.1 HRB.out (bareT _ _ 8 tt)
    · exact absurd HKN.out hk
set_option maxHeartbeats 8000000 in
theorem qplain_word {B M rb : Nat} {all : List Tk} (hM : M ≤ 10000000) (d : Nat) (hd64 : d ≤ 64) (qt : Q → PT × Q) (hqt : ∀ s, (qt s).2.ts.length ≤ s.ts.length) (HT : RdsT 45 B M rb all (d + 1) qt) (w : World) (s : Q) (h : QS B M w rb all s) (hb0 : s.bad = false) (hk0 : ¬ (hd s.ts).k = 1) (hw0 : ∃ m, m < 4 ∧ s.is (wd4 m) = true) :
    Calls Tryz.prog 134 #[.pointer (some ⟨rb, 0, none⟩), .int .i64 (d : Nat)] w (QPT B M w rb all (plainS qt s)) := by
  have HNB := Lib.hid (show ¬ s.bad = true by rw [hb0]; decide)
  have HNK := Lib.hid hk0
  have HW0 := Lib.hid hw0
  clear hb0 hk0 hw0
  have HRB := Lib.hid h.lt
  have HLEN := Lib.hid h.len
  obtain ⟨W1, hW1⟩ : ∃ W1, zFou w = W1 := ⟨_, rfl⟩
  have a1 := zfou w
  rw [hW1] at a1
  have HA1 := Lib.hid a1
  have F1 := Lib.hid (show Fr B w W1 by rw [← hW1]; exact (Fr.refl B w).alloc _)
  have q1 := (show QS B M W1 rb all s by rw [← hW1]; exact h.alloc _)
  have Q1 := Lib.hid q1
  have HS1 := Lib.hid (show W1.heap.size = w.heap.size + 1 by rw [← hW1]; simp)
  obtain ⟨out, hout⟩ : ∃ out, out = plainS qt s := ⟨_, rfl⟩
  rw [← hout]
  have HO := Lib.hid hout
  have HW1 := Lib.hid (show w.alloc (.cells #[.int .i64 0, .string ⟨#[]⟩, .slice none 0 0, .slice none 0 0] 31) = W1 from hW1)
  obtain ⟨g, cap, i, vd, h6, hi, hb, hg, c0, c1, c2, -⟩ := q1.first
  obtain ⟨⟨p0, p1, p2, p3⟩, f0, f1, f2, f3⟩ := fou_of h6
  have H6 := Lib.hid h6
  have HT := Lib.hid HT
  have HQT := Lib.hid hqt
  obtain ⟨⟨tk, ta, tt⟩, ht⟩ : ∃ t, t = hd s.ts := ⟨_, rfl⟩
  rw [← ht] at c0 c1 c2
  have HTT := Lib.hid ht
  obtain ⟨bd, hbd⟩ : ∃ bd, bd = s.bad := ⟨_, rfl⟩
  rw [← hbd] at p3
  have HBD := Lib.hid hbd
  obtain ⟨⟨d0, d1, d2, d3⟩, e0, e1, e2, e3⟩ := fou_of a1
  have HRB1 := Lib.hid q1.lt
  have hrb1 : rb < W1.heap.size := q1.lt
  have n1 : ¬ rb = W1.heap.size := Nat.ne_of_lt hrb1
  have hlt1 : w.heap.size < W1.heap.size := (Array.getElem?_eq_some_iff.1 a1).1
  have n2 : ¬ w.heap.size = W1.heap.size := Nat.ne_of_lt hlt1
  simp only at c0 c1 c2
  have HD64 := Lib.hid hd64
  clear h hW1 a1 hout q1 h6 hbd ht hqt
  go_enter Tryz.func134, Tryz.ntmps134
  go_upto_region 1 with fail
  rw [HW1.out]
  cases bd with
  | true => exact absurd HBD.out.symm HNB.out
  | false =>
    obtain ⟨W2, hW2⟩ : ∃ W2, (W1.alloc (.cells #[.int .i64 (tk : Nat), .int .i64 (ta : Nat), .string ⟨tt.toArray⟩] 96)).drew = W2 := ⟨_, rfl⟩
    have b2 : Below W1.heap.size W1 W2 := by rw [← hW2]; exact ((Below.refl _ W1).alloc (Nat.le_refl _) _).drew
    have a2 : Thr W2 W1.heap.size 96 (.int .i64 (tk : Nat)) (.int .i64 (ta : Nat)) (.string ⟨tt.toArray⟩) := by rw [← hW2]; exact thr_new W1 _ _ _ _
    have a12 : Fou W2 w.heap.size 31 (.int .i64 0) (.string ⟨#[]⟩) (.slice none 0 0) (.slice none 0 0) := (b2.block _ hlt1).trans HA1.out
    have Q2 := Lib.hid (Q1.out.below b2)
    have F2 := Lib.hid (F1.out.trans (Fr.of_below (n₀ := B) b2))
    have HA2 := Lib.hid a2
    have HA12 := Lib.hid a12
    have HW2 := Lib.hid hW2
    have h62 := (b2.block rb hrb1).trans H6.out
    have H62 := Lib.hid h62
    have hlt2 : W1.heap.size < W2.heap.size := (Array.getElem?_eq_some_iff.1 a2).1
    have HL12 := Lib.hid hlt1
    clear hW2 a2 a12 b2 h62
    go_upto_region 3 with fail
    go_region
    go_upto_region 4 with fail
    rw [HW2.out]
    clear p0 p1 p2 p3 f0 f1 f2 f3 d0 d1 d2 d3 e0 e1 e2 e3 c0 c1 c2
    obtain ⟨⟨t0, t1, t2⟩, -⟩ := thr_of HA2.out
    by_cases hk : tk = 1
    · exact absurd (by rw [← HTT.out]; exact hk) HNK.out
    · have hk1 : ((tk : Int) == 1) = false := by simp only [beq_eq_false_iff_ne, ne_eq]; omega
      have HK := Lib.hid (show ¬ (hd s.ts).k = 1 by rw [← HTT.out]; exact hk)
      clear hk
      go_upto_region 7 with fail
      obtain ⟨W4, hW4⟩ : ∃ W4, W2.alloc (.cells #[.string ⟨#[105, 110, 116]⟩, .string ⟨#[98, 111, 111, 108]⟩, .string ⟨#[116, 101, 120, 116]⟩, .string ⟨#[63]⟩] 9) = W4 := ⟨_, rfl⟩
      have b4 : Below W2.heap.size W2 W4 := by rw [← hW4]; exact (Below.refl _ _).alloc (Nat.le_refl _) _
      have B4 := Lib.hid b4
      have HW4 := Lib.hid hW4
      have HC4 : Hid (W4.heap[W2.heap.size]? = some (.cells #[.string ⟨#[105, 110, 116]⟩, .string ⟨#[98, 111, 111, 108]⟩, .string ⟨#[116, 101, 120, 116]⟩, .string ⟨#[63]⟩] 9 (0, 0))) := by rw [← hW4]; exact heap_alloc_new W2 _
      have HL4 := Lib.hid (show W2.heap.size < W4.heap.size by rw [← hW4]; simp)
      have HA4 := Lib.hid ((b4.block _ (Array.getElem?_eq_some_iff.1 HA12.out).1).trans HA12.out)
      clear b4 hW4 t0 t1 t2 hk1 hlt2 n1 n2 hrb1
      go_upto_region 8 with fail
      rw [HW4.out]
      go_wp2_with fail
      go_loopw [7] (fun s7 wr => ∃ j : Nat, s7 = .int .i64 (j : Nat) ∧ j ≤ 4 ∧ Hid (Below W4.heap.size W4 wr) ∧ Hid (∀ m, m < j → s.is (wd4 m) = false)) (fun s7 _ => 4 - (intOf s7).toNat)
      case atStart => exact ⟨0, rfl, Nat.zero_le _, Lib.hid (Below.refl _ _), Lib.hid (fun m h => absurd h (Nat.not_lt_zero _))⟩
      case round =>
        obtain ⟨j, rfl, hj4, HB, HN⟩ := hrel
        have Q5 := Lib.hid ((Q2.out.below B4.out).below HB.out)
        have F5 := Lib.hid ((F2.out.below B4.out).below HB.out)
        have HA5 := Lib.hid ((HB.out.block _ (Array.getElem?_eq_some_iff.1 HA4.out).1).trans HA4.out)
        by_cases hlt : j < 4
        · have hd1 : decide ((j : Int) < 4) = true := by simp only [decide_eq_true_eq]; omega
          have hd2 : decide (j < 4) = true := by simp only [decide_eq_true_eq]; exact hlt
          have hcell : wr.cell? ⟨W2.heap.size, j, none⟩ = some (.string ⟨(wd4 j).toArray⟩) := by
            rw [HB.out.cell (p := ⟨W2.heap.size, j, none⟩) HL4.out]
            have h4 : j = 0 ∨ j = 1 ∨ j = 2 ∨ j = 3 := by omega
            rcases h4 with rfl | rfl | rfl | rfl <;> simp [World.cell?, HC4.out, wd4]
          have HI := Lib.hid (qis_any Q5.out (wd4 j))
          have HLT := Lib.hid hlt
          have hlt3 : (j : Int) < 4 := by omega
          cases hm : s.is (wd4 j) with
          | true =>
            rw [hm] at HI
            have HON := Lib.hid (show out = (.mk (j + 1) [] [] [], s.take (wd4 j)) by rw [HO.out, plain_word HBD.out.symm HK.out HLT.out hm])
            obtain ⟨wd, hwd⟩ : ∃ wd, wd = wd4 j := ⟨_, rfl⟩
            rw [← hwd] at hcell HI HON
            clear hm hwd
            go_wp2_with fail
            refine HI.out.mono ?_
            rintro e w6 ⟨rfl, b6⟩
            have HTK := Lib.hid (qtake_any hM (Q5.out.below b6) wd)
            have hcell := (b6.cell (p := ⟨W2.heap.size, j, none⟩) (Nat.lt_of_lt_of_le HL4.out HB.out.size)).trans hcell
            have F6 := Lib.hid (F5.out.below b6)
            have HA6 := Lib.hid ((b6.block _ (Array.getElem?_eq_some_iff.1 HA5.out).1).trans HA5.out)
            clear b6 HI
            go_wp2_with fail
            refine HTK.out.mono ?_
            rintro e w7 ⟨rfl, q7, f7⟩
            have hA7 : Fou w7 w.heap.size 31 _ _ _ _ := f7.cells HA6.out (by decide)
            obtain ⟨⟨d0, d1, d2, d3⟩, e0, e1, e2, e3⟩ := fou_of hA7
            have HA7 := Lib.hid hA7
            have Q7 := Lib.hid q7
            have F7 := Lib.hid (F6.out.trans f7)
            clear q7 f7 hA7 HTK hcell
            go_wp2_with fail
            rw [HON.out]
            exact endT rfl rfl rfl HA7.out F7.out Q7.out HRB.out (by simpa using bareT (fun b => w.heap.size < b) w7 (j + 1) [])
          | false =>
            rw [hm] at HI
            have HNN := Lib.hid (show ∀ m, m < j + 1 → s.is (wd4 m) = false from fun m h => (Nat.lt_succ_iff_lt_or_eq.1 h).elim (HN.out m) (fun e => e ▸ hm))
            obtain ⟨wd, hwd⟩ : ∃ wd, wd = wd4 j := ⟨_, rfl⟩
            rw [← hwd] at hcell HI
            clear hm hwd
            go_wp2_with fail
            refine HI.out.mono ?_
            rintro e w6 ⟨rfl, b6⟩
            have B6 := Lib.hid (HB.out.trans (b6.mono HB.out.size))
            clear b6 HI
            go_wp2_with fail
            exact ⟨⟨j + 1, by simp, by have := HLT.out; omega, B6, HNN⟩, by have := HLT.out; simp [intOf]; omega⟩
        · exfalso
          obtain ⟨m, hm1, hm2⟩ := HW0.out
          rw [HN.out m (by omega)] at hm2
          cases hm2
set_option maxHeartbeats 8000000 in
theorem qplain_paren {B M rb : Nat} {all : List Tk} (hM : M ≤ 10000000) (d : Nat) (hd64 : d ≤ 64) (qt : Q → PT × Q) (hqt : ∀ s, (qt s).2.ts.length ≤ s.ts.length) (HT : RdsT 45 B M rb all (d + 1) qt) (w : World) (s : Q) (h : QS B M w rb all s) (hb0 : s.bad = false) (hk0 : ¬ (hd s.ts).k = 1) (hw0 : ∀ m, m < 4 → s.is (wd4 m) = false) (hw1 : s.is [123] = false) :
    Calls Tryz.prog 134 #[.pointer (some ⟨rb, 0, none⟩), .int .i64 (d : Nat)] w (QPT B M w rb all (plainS qt s)) := by
  have HNB := Lib.hid (show ¬ s.bad = true by rw [hb0]; decide)
  have HNK := Lib.hid hk0
  have HW0 := Lib.hid hw0
  have HW1' := Lib.hid hw1
  clear hb0 hk0 hw0 hw1
  have HRB := Lib.hid h.lt
  have HLEN := Lib.hid h.len
  obtain ⟨W1, hW1⟩ : ∃ W1, zFou w = W1 := ⟨_, rfl⟩
  have a1 := zfou w
  rw [hW1] at a1
  have HA1 := Lib.hid a1
  have F1 := Lib.hid (show Fr B w W1 by rw [← hW1]; exact (Fr.refl B w).alloc _)
  have q1 := (show QS B M W1 rb all s by rw [← hW1]; exact h.alloc _)
  have Q1 := Lib.hid q1
  have HS1 := Lib.hid (show W1.heap.size = w.heap.size + 1 by rw [← hW1]; simp)
  obtain ⟨out, hout⟩ : ∃ out, out = plainS qt s := ⟨_, rfl⟩
  rw [← hout]
  have HO := Lib.hid hout
  have HW1 := Lib.hid (show w.alloc (.cells #[.int .i64 0, .string ⟨#[]⟩, .slice none 0 0, .slice none 0 0] 31) = W1 from hW1)
  obtain ⟨g, cap, i, vd, h6, hi, hb, hg, c0, c1, c2, -⟩ := q1.first
  obtain ⟨⟨p0, p1, p2, p3⟩, f0, f1, f2, f3⟩ := fou_of h6
  have H6 := Lib.hid h6
  have HT := Lib.hid HT
  have HQT := Lib.hid hqt
  obtain ⟨⟨tk, ta, tt⟩, ht⟩ : ∃ t, t = hd s.ts := ⟨_, rfl⟩
  rw [← ht] at c0 c1 c2
  have HTT := Lib.hid ht
  obtain ⟨bd, hbd⟩ : ∃ bd, bd = s.bad := ⟨_, rfl⟩
  rw [← hbd] at p3
  have HBD := Lib.hid hbd
  obtain ⟨⟨d0, d1, d2, d3⟩, e0, e1, e2, e3⟩ := fou_of a1
  have HRB1 := Lib.hid q1.lt
  have hrb1 : rb < W1.heap.size := q1.lt
  have n1 : ¬ rb = W1.heap.size := Nat.ne_of_lt hrb1
  have hlt1 : w.heap.size < W1.heap.size := (Array.getElem?_eq_some_iff.1 a1).1
  have n2 : ¬ w.heap.size = W1.heap.size := Nat.ne_of_lt hlt1
  simp only at c0 c1 c2
  have HD64 := Lib.hid hd64
  clear h hW1 a1 hout q1 h6 hbd ht hqt
  go_enter Tryz.func134, Tryz.ntmps134
  go_upto_region 1 with fail
  rw [HW1.out]
  cases bd with
  | true => exact absurd HBD.out.symm HNB.out
  | false =>
    obtain ⟨W2, hW2⟩ : ∃ W2, (W1.alloc (.cells #[.int .i64 (tk : Nat), .int .i64 (ta : Nat), .string ⟨tt.toArray⟩] 96)).drew = W2 := ⟨_, rfl⟩
    have b2 : Below W1.heap.size W1 W2 := by rw [← hW2]; exact ((Below.refl _ W1).alloc (Nat.le_refl _) _).drew
    have a2 : Thr W2 W1.heap.size 96 (.int .i64 (tk : Nat)) (.int .i64 (ta : Nat)) (.string ⟨tt.toArray⟩) := by rw [← hW2]; exact thr_new W1 _ _ _ _
    have a12 : Fou W2 w.heap.size 31 (.int .i64 0) (.string ⟨#[]⟩) (.slice none 0 0) (.slice none 0 0) := (b2.block _ hlt1).trans HA1.out
    have Q2 := Lib.hid (Q1.out.below b2)
    have F2 := Lib.hid (F1.out.trans (Fr.of_below (n₀ := B) b2))
    have HA2 := Lib.hid a2
    have HA12 := Lib.hid a12
    have HW2 := Lib.hid hW2
    have h62 := (b2.block rb hrb1).trans H6.out
    have H62 := Lib.hid h62
    have hlt2 : W1.heap.size < W2.heap.size := (Array.getElem?_eq_some_iff.1 a2).1
    have HL12 := Lib.hid hlt1
    clear hW2 a2 a12 b2 h62
    go_upto_region 3 with fail
    go_region
    go_upto_region 4 with fail
    rw [HW2.out]
    clear p0 p1 p2 p3 f0 f1 f2 f3 d0 d1 d2 d3 e0 e1 e2 e3 c0 c1 c2
    obtain ⟨⟨t0, t1, t2⟩, -⟩ := thr_of HA2.out
    by_cases hk : tk = 1
    · exact absurd (by rw [← HTT.out]; exact hk) HNK.out
    · have hk1 : ((tk : Int) == 1) = false := by simp only [beq_eq_false_iff_ne, ne_eq]; omega
      have HK := Lib.hid (show ¬ (hd s.ts).k = 1 by rw [← HTT.out]; exact hk)
      clear hk
      go_upto_region 7 with fail
      obtain ⟨W4, hW4⟩ : ∃ W4, W2.alloc (.cells #[.string ⟨#[105, 110, 116]⟩, .string ⟨#[98, 111, 111, 108]⟩, .string ⟨#[116, 101, 120, 116]⟩, .string ⟨#[63]⟩] 9) = W4 := ⟨_, rfl⟩
      have b4 : Below W2.heap.size W2 W4 := by rw [← hW4]; exact (Below.refl _ _).alloc (Nat.le_refl _) _
      have B4 := Lib.hid b4
      have HW4 := Lib.hid hW4
      have HC4 : Hid (W4.heap[W2.heap.size]? = some (.cells #[.string ⟨#[105, 110, 116]⟩, .string ⟨#[98, 111, 111, 108]⟩, .string ⟨#[116, 101, 120, 116]⟩, .string ⟨#[63]⟩] 9 (0, 0))) := by rw [← hW4]; exact heap_alloc_new W2 _
      have HL4 := Lib.hid (show W2.heap.size < W4.heap.size by rw [← hW4]; simp)
      have HA4 := Lib.hid ((b4.block _ (Array.getElem?_eq_some_iff.1 HA12.out).1).trans HA12.out)
      clear b4 hW4 t0 t1 t2 hk1 hlt2 n1 n2 hrb1
      go_upto_region 8 with fail
      rw [HW4.out]
      go_wp2_with fail
      go_loopw [7] (fun s7 wr => ∃ j : Nat, s7 = .int .i64 (j : Nat) ∧ j ≤ 4 ∧ Hid (Below W4.heap.size W4 wr) ∧ Hid (∀ m, m < j → s.is (wd4 m) = false)) (fun s7 _ => 4 - (intOf s7).toNat)
      case atStart => exact ⟨0, rfl, Nat.zero_le _, Lib.hid (Below.refl _ _), Lib.hid (fun m h => absurd h (Nat.not_lt_zero _))⟩
      case round =>
        obtain ⟨j, rfl, hj4, HB, HN⟩ := hrel
        have Q5 := Lib.hid ((Q2.out.below B4.out).below HB.out)
        have F5 := Lib.hid ((F2.out.below B4.out).below HB.out)
        have HA5 := Lib.hid ((HB.out.block _ (Array.getElem?_eq_some_iff.1 HA4.out).1).trans HA4.out)
        by_cases hlt : j < 4
        · have hd1 : decide ((j : Int) < 4) = true := by simp only [decide_eq_true_eq]; omega
          have hd2 : decide (j < 4) = true := by simp only [decide_eq_true_eq]; exact hlt
          have hcell : wr.cell? ⟨W2.heap.size, j, none⟩ = some (.string ⟨(wd4 j).toArray⟩) := by
            rw [HB.out.cell (p := ⟨W2.heap.size, j, none⟩) HL4.out]
            have h4 : j = 0 ∨ j = 1 ∨ j = 2 ∨ j = 3 := by omega
            rcases h4 with rfl | rfl | rfl | rfl <;> simp [World.cell?, HC4.out, wd4]
          have HI := Lib.hid (qis_any Q5.out (wd4 j))
          have HLT := Lib.hid hlt
          have hlt3 : (j : Int) < 4 := by omega
          have hm := HW0.out j hlt
          rw [hm] at HI
          have HNN := Lib.hid (show ∀ m, m < j + 1 → s.is (wd4 m) = false from fun m h => (Nat.lt_succ_iff_lt_or_eq.1 h).elim (HN.out m) (fun e => e ▸ hm))
          obtain ⟨wd, hwd⟩ : ∃ wd, wd = wd4 j := ⟨_, rfl⟩
          rw [← hwd] at hcell HI
          clear hm hwd
          go_wp2_with fail
          refine HI.out.mono ?_
          rintro e w6 ⟨rfl, b6⟩
          have B6 := Lib.hid (HB.out.trans (b6.mono HB.out.size))
          clear b6 HI
          go_wp2_with fail
          exact ⟨⟨j + 1, by simp, by have := HLT.out; omega, B6, HNN⟩, by have := HLT.out; simp [intOf]; omega⟩
        · have hd1 : decide ((j : Int) < 4) = false := by simp only [decide_eq_false_iff_not]; omega
          have hd2 : decide (j < 4) = false := by simp only [decide_eq_false_iff_not]; exact hlt
          have HON := Lib.hid (show out = if s.is [123] then recS qt (s.take [123]) else if (s.take [40]).bad then (qT0, s.take [40]) else ((qt (s.take [40])).1, (qt (s.take [40])).2.take [41]) by
            rw [HO.out, plain_rest HBD.out.symm HK.out (fun m h => HN.out m (by omega))])
          have HI := Lib.hid (qis_any Q5.out [123])
          have hlt3 : ¬ (j : Int) < 4 := by omega
          rw [HW1'.out] at HI HON
          simp only [Bool.false_eq_true, if_false] at HON
          go_wp2_with fail
          refine HI.out.mono ?_
          rintro e w6 ⟨rfl, b6⟩
          have HTK := Lib.hid (qtake_any hM (Q5.out.below b6) [40])
          have F6 := Lib.hid (F5.out.below b6)
          have HA6 := Lib.hid ((b6.block _ (Array.getElem?_eq_some_iff.1 HA5.out).1).trans HA5.out)
          clear b6 HI
          go_wp2_with fail
          refine HTK.out.mono ?_
          rintro e w7 ⟨rfl, q7, f7⟩
          obtain ⟨g, cap, i, vd, h7, -⟩ := q7.first
          obtain ⟨⟨p0, p1, p2, p3⟩, -⟩ := fou_of h7
          have hA7 : Fou w7 w.heap.size 31 _ _ _ _ := f7.cells HA6.out (by decide)
          obtain ⟨⟨d0, d1, d2, d3⟩, e0, e1, e2, e3⟩ := fou_of hA7
          have HA7 := Lib.hid hA7
          have Q7 := Lib.hid q7
          have F7 := Lib.hid (F6.out.trans f7)
          obtain ⟨s7, hs7⟩ : ∃ s7, s7 = s.take [40] := ⟨_, rfl⟩
          rw [← hs7] at p3 Q7 HON
          clear q7 f7 hA7 HTK h7
          cases hb7 : s7.bad with
          | true =>
            rw [hb7] at p3
            have HON := Lib.hid (show out = (qT0, s7) by rw [HON.out, hb7, if_pos rfl])
            clear hb7
            go_wp2_with fail
            rw [HON.out]
            exact endT rfl rfl rfl HA7.out F7.out Q7.out HRB.out (bareT _ _ 0 [])
          | false =>
            rw [hb7] at p3
            have HON := Lib.hid (show out = ((qt s7).1, (qt s7).2.take [41]) by rw [HON.out, hb7, if_neg (by decide)])
            obtain ⟨⟨u, s8⟩, hu⟩ : ∃ p, p = qt s7 := ⟨_, rfl⟩
            obtain ⟨uk, un, uns, ul⟩ := u
            have HTT2 := Lib.hid (rdsT_flat HT.out w7 s7 Q7.out uk un uns ul s8 hu)
            rw [← hu] at HON
            clear hb7 hu d0 d1 d2 d3 e0 e1 e2 e3
            go_wp2_with fail
            refine HTT2.out.mono ?_
            rintro e w8 ⟨a2', c2', a3', c3', rfl, f8, i8, q8⟩
            have hs7 : w.heap.size < w7.heap.size := (Array.getElem?_eq_some_iff.1 HA7.out).1
            have HU8 := Lib.hid (show IsCs (fun b => w.heap.size < b) w8 (encT 31 (.mk uk un uns ul)) [.int .i64 (uk : Nat), .string ⟨un.toArray⟩, .slice a2' uns.length c2', .slice a3' ul.length c3'] from i8.mono (fun b _ hb => by omega))
            have HA8 := Lib.hid (show Fou w8 w.heap.size 31 _ _ _ _ from f8.cells HA7.out (by decide))
            obtain ⟨W9, hW9⟩ : ∃ W9, w8.alloc (.cells #[.int .i64 (uk : Nat), .string ⟨un.toArray⟩, .slice a2' uns.length c2', .slice a3' ul.length c3'] 31) = W9 := ⟨_, rfl⟩
            have b9 : Below w8.heap.size w8 W9 := by rw [← hW9]; exact (Below.refl _ _).alloc (Nat.le_refl _) _
            have HX9 := Lib.hid (show Fou W9 w8.heap.size 31 (.int .i64 (uk : Nat)) (.string ⟨un.toArray⟩) (.slice a2' uns.length c2') (.slice a3' ul.length c3') by rw [← hW9]; exact heap_alloc_new w8 _)
            have Q9 := Lib.hid (q8.below b9)
            have F9 := Lib.hid ((F7.out.trans f8).below b9)
            have HA9 := Lib.hid ((b9.block _ (Array.getElem?_eq_some_iff.1 HA8.out).1).trans HA8.out)
            have HU9 := Lib.hid (HU8.out.below b9)
            have HTK := Lib.hid (qtake_any hM Q9.out [41])
            have HW9 := Lib.hid hW9
            clear i8 q8 f8 hW9 b9 p0 p1 p2 p3 HTT2 hs7
            go_upto_region 19 with fail
            rw [HW9.out]
            go_wp2_with fail
            refine HTK.out.mono ?_
            rintro e w10 ⟨rfl, q10, f10⟩
            have hX10 : Fou w10 w8.heap.size 31 _ _ _ _ := f10.cells HX9.out (by decide)
            have hA10 : Fou w10 w.heap.size 31 _ _ _ _ := f10.cells HA9.out (by decide)
            obtain ⟨⟨p0, p1, p2, p3⟩, -⟩ := fou_of hX10
            obtain ⟨⟨d0, d1, d2, d3⟩, e0, e1, e2, e3⟩ := fou_of hA10
            have HA10 := Lib.hid hA10
            have Q10 := Lib.hid q10
            have F10 := Lib.hid (F9.out.trans f10)
            have HU10 := Lib.hid (HU9.out.frA f10)
            clear q10 f10 hX10 hA10 HTK
            go_wp2_with fail
            rw [HON.out]
            exact endT rfl rfl rfl HA10.out F10.out Q10.out HRB.out HU10.out
end Go.Proofs.YtijnjoonbjdafaaGreatDoor
namespace Go.Proofs.YtijnjoonbjdafaaGreatDoor
set_option maxRecDepth 20000
open Go.RowKit Go.Shelf
set_option maxHeartbeats 8000000 in
theorem qplain_rec {B M rb : Nat} {all : List Tk} (hM : M ≤ 10000000) (d : Nat) (hd64 : d ≤ 64) (qt : Q → PT × Q) (hqt : ∀ s, (qt s).2.ts.length ≤ s.ts.length) (HT : RdsT 45 B M rb all (d + 1) qt) (w : World) (s : Q) (h : QS B M w rb all s) (hb0 : s.bad = false) (hk0 : ¬ (hd s.ts).k = 1) (hw0 : ∀ m, m < 4 → s.is (wd4 m) = false) (hw1 : s.is [123] = true) :
    Calls Tryz.prog 134 #[.pointer (some ⟨rb, 0, none⟩), .int .i64 (d : Nat)] w (QPT B M w rb all (plainS qt s)) := by
  have HNB := Lib.hid (show ¬ s.bad = true by rw [hb0]; decide)
  have HNK := Lib.hid hk0
  have HW0 := Lib.hid hw0
  have HW1' := Lib.hid hw1
  clear hb0 hk0 hw0 hw1
  have HRB := Lib.hid h.lt
  have HLEN := Lib.hid h.len
  obtain ⟨W1, hW1⟩ : ∃ W1, zFou w = W1 := ⟨_, rfl⟩
  have a1 := zfou w
  rw [hW1] at a1
  have HA1 := Lib.hid a1
  have F1 := Lib.hid (show Fr B w W1 by rw [← hW1]; exact (Fr.refl B w).alloc _)
  have q1 := (show QS B M W1 rb all s by rw [← hW1]; exact h.alloc _)
  have Q1 := Lib.hid q1
  have HS1 := Lib.hid (show W1.heap.size = w.heap.size + 1 by rw [← hW1]; simp)
  obtain ⟨out, hout⟩ : ∃ out, out = plainS qt s := ⟨_, rfl⟩
  rw [← hout]
  have HO := Lib.hid hout
  have HW1 := Lib.hid (show w.alloc (.cells #[.int .i64 0, .string ⟨#[]⟩, .slice none 0 0, .slice none 0 0] 31) = W1 from hW1)
  obtain ⟨g, cap, i, vd, h6, hi, hb, hg, c0, c1, c2, -⟩ := q1.first
  obtain ⟨⟨p0, p1, p2, p3⟩, f0, f1, f2, f3⟩ := fou_of h6
  have H6 := Lib.hid h6
  have HT := Lib.hid HT
  have HQT := Lib.hid hqt
  obtain ⟨⟨tk, ta, tt⟩, ht⟩ : ∃ t, t = hd s.ts := ⟨_, rfl⟩
  rw [← ht] at c0 c1 c2
  have HTT := Lib.hid ht
  obtain ⟨bd, hbd⟩ : ∃ bd, bd = s.bad := ⟨_, rfl⟩
  rw [← hbd] at p3
  have HBD := Lib.hid hbd
  obtain ⟨⟨d0, d1, d2, d3⟩, e0, e1, e2, e3⟩ := fou_of a1
  have HRB1 := Lib.hid q1.lt
  have hrb1 : rb < W1.heap.size := q1.lt
  have n1 : ¬ rb = W1.heap.size := Nat.ne_of_lt hrb1
  have hlt1 : w.heap.size < W1.heap.size := (Array.getElem?_eq_some_iff.1 a1).1
  have n2 : ¬ w.heap.size = W1.heap.size := Nat.ne_of_lt hlt1
  simp only at c0 c1 c2
  have HD64 := Lib.hid hd64
  clear h hW1 a1 hout q1 h6 hbd ht hqt
  go_enter Tryz.func134, Tryz.ntmps134
  go_upto_region 1 with fail
  rw [HW1.out]
  cases bd with
  | true => exact absurd HBD.out.symm HNB.out
  | false =>
    obtain ⟨W2, hW2⟩ : ∃ W2, (W1.alloc (.cells #[.int .i64 (tk : Nat), .int .i64 (ta : Nat), .string ⟨tt.toArray⟩] 96)).drew = W2 := ⟨_, rfl⟩
    have b2 : Below W1.heap.size W1 W2 := by rw [← hW2]; exact ((Below.refl _ W1).alloc (Nat.le_refl _) _).drew
    have a2 : Thr W2 W1.heap.size 96 (.int .i64 (tk : Nat)) (.int .i64 (ta : Nat)) (.string ⟨tt.toArray⟩) := by rw [← hW2]; exact thr_new W1 _ _ _ _
    have a12 : Fou W2 w.heap.size 31 (.int .i64 0) (.string ⟨#[]⟩) (.slice none 0 0) (.slice none 0 0) := (b2.block _ hlt1).trans HA1.out
    have Q2 := Lib.hid (Q1.out.below b2)
    have F2 := Lib.hid (F1.out.trans (Fr.of_below (n₀ := B) b2))
    have HA2 := Lib.hid a2
    have HA12 := Lib.hid a12
    have HW2 := Lib.hid hW2
    have h62 := (b2.block rb hrb1).trans H6.out
    have H62 := Lib.hid h62
    have hlt2 : W1.heap.size < W2.heap.size := (Array.getElem?_eq_some_iff.1 a2).1
    have HL12 := Lib.hid hlt1
    clear hW2 a2 a12 b2 h62
    go_upto_region 3 with fail
    go_region
    go_upto_region 4 with fail
    rw [HW2.out]
    clear p0 p1 p2 p3 f0 f1 f2 f3 d0 d1 d2 d3 e0 e1 e2 e3 c0 c1 c2
    obtain ⟨⟨t0, t1, t2⟩, -⟩ := thr_of HA2.out
    by_cases hk : tk = 1
    · exact absurd (by rw [← HTT.out]; exact hk) HNK.out
    · have hk1 : ((tk : Int) == 1) = false := by simp only [beq_eq_false_iff_ne, ne_eq]; omega
      have HK := Lib.hid (show ¬ (hd s.ts).k = 1 by rw [← HTT.out]; exact hk)
      clear hk
      go_upto_region 7 with fail
      obtain ⟨W4, hW4⟩ : ∃ W4, W2.alloc (.cells #[.string ⟨#[105, 110, 116]⟩, .string ⟨#[98, 111, 111, 108]⟩, .string ⟨#[116, 101, 120, 116]⟩, .string ⟨#[63]⟩] 9) = W4 := ⟨_, rfl⟩
      have b4 : Below W2.heap.size W2 W4 := by rw [← hW4]; exact (Below.refl _ _).alloc (Nat.le_refl _) _
      have B4 := Lib.hid b4
      have HW4 := Lib.hid hW4
      have HC4 : Hid (W4.heap[W2.heap.size]? = some (.cells #[.string ⟨#[105, 110, 116]⟩, .string ⟨#[98, 111, 111, 108]⟩, .string ⟨#[116, 101, 120, 116]⟩, .string ⟨#[63]⟩] 9 (0, 0))) := by rw [← hW4]; exact heap_alloc_new W2 _
      have HL4 := Lib.hid (show W2.heap.size < W4.heap.size by rw [← hW4]; simp)
      have HA4 := Lib.hid ((b4.block _ (Array.getElem?_eq_some_iff.1 HA12.out).1).trans HA12.out)
      clear b4 hW4 t0 t1 t2 hk1 hlt2 n1 n2 hrb1
      go_upto_region 8 with fail
      rw [HW4.out]
      go_wp2_with fail
      go_loopw [7] (fun s7 wr => ∃ j : Nat, s7 = .int .i64 (j : Nat) ∧ j ≤ 4 ∧ Hid (Below W4.heap.size W4 wr) ∧ Hid (∀ m, m < j → s.is (wd4 m) = false)) (fun s7 _ => 4 - (intOf s7).toNat)
      case atStart => exact ⟨0, rfl, Nat.zero_le _, Lib.hid (Below.refl _ _), Lib.hid (fun m h => absurd h (Nat.not_lt_zero _))⟩
      case round =>
        obtain ⟨j, rfl, hj4, HB, HN⟩ := hrel
        have Q5 := Lib.hid ((Q2.out.below B4.out).below HB.out)
        have F5 := Lib.hid ((F2.out.below B4.out).below HB.out)
        have HA5 := Lib.hid ((HB.out.block _ (Array.getElem?_eq_some_iff.1 HA4.out).1).trans HA4.out)
        by_cases hlt : j < 4
        · have hd1 : decide ((j : Int) < 4) = true := by simp only [decide_eq_true_eq]; omega
          have hd2 : decide (j < 4) = true := by simp only [decide_eq_true_eq]; exact hlt
          have hcell : wr.cell? ⟨W2.heap.size, j, none⟩ = some (.string ⟨(wd4 j).toArray⟩) := by
            rw [HB.out.cell (p := ⟨W2.heap.size, j, none⟩) HL4.out]
            have h4 : j = 0 ∨ j = 1 ∨ j = 2 ∨ j = 3 := by omega
            rcases h4 with rfl | rfl | rfl | rfl <;> simp [World.cell?, HC4.out, wd4]
          have HI := Lib.hid (qis_any Q5.out (wd4 j))
          have HLT := Lib.hid hlt
          have hlt3 : (j : Int) < 4 := by omega
          have hm := HW0.out j hlt
          rw [hm] at HI
          have HNN := Lib.hid (show ∀ m, m < j + 1 → s.is (wd4 m) = false from fun m h => (Nat.lt_succ_iff_lt_or_eq.1 h).elim (HN.out m) (fun e => e ▸ hm))
          obtain ⟨wd, hwd⟩ : ∃ wd, wd = wd4 j := ⟨_, rfl⟩
          rw [← hwd] at hcell HI
          clear hm hwd
          go_wp2_with fail
          refine HI.out.mono ?_
          rintro e w6 ⟨rfl, b6⟩
          have B6 := Lib.hid (HB.out.trans (b6.mono HB.out.size))
          clear b6 HI
          go_wp2_with fail
          exact ⟨⟨j + 1, by simp, by have := HLT.out; omega, B6, HNN⟩, by have := HLT.out; simp [intOf]; omega⟩
        · have hd1 : decide ((j : Int) < 4) = false := by simp only [decide_eq_false_iff_not]; omega
          have hd2 : decide (j < 4) = false := by simp only [decide_eq_false_iff_not]; exact hlt
          have HON := Lib.hid (show out = if s.is [123] then recS qt (s.take [123]) else if (s.take [40]).bad then (qT0, s.take [40]) else ((qt (s.take [40])).1, (qt (s.take [40])).2.take [41]) by
            rw [HO.out, plain_rest HBD.out.symm HK.out (fun m h => HN.out m (by omega))])
          have HI := Lib.hid (qis_any Q5.out [123])
          have hlt3 : ¬ (j : Int) < 4 := by omega
          rw [HW1'.out] at HI HON
          simp only [if_true] at HON
          go_wp2_with fail
          refine HI.out.mono ?_
          rintro e w6 ⟨rfl, b6⟩
          have HTK := Lib.hid (qtake_any hM (Q5.out.below b6) [123])
          have F6 := Lib.hid (F5.out.below b6)
          have HA6 := Lib.hid ((b6.block _ (Array.getElem?_eq_some_iff.1 HA5.out).1).trans HA5.out)
          clear b6 HI
          go_wp2_with fail
          refine HTK.out.mono ?_
          rintro e w7 ⟨rfl, q7, f7⟩
          have HA7 := Lib.hid (show Fou w7 w.heap.size 31 _ _ _ _ from f7.cells HA6.out (by decide))
          obtain ⟨s7, hs7⟩ : ∃ s7, s7 = s.take [123] := ⟨_, rfl⟩
          have HLS := Lib.hid (show s7.ts.length ≤ 1000000 by rw [hs7]; exact Nat.le_trans (take_le _ _) HLEN.out.1)
          have HQ7 := Lib.hid q7
          rw [← hs7] at HQ7 HON
          have F7 := Lib.hid (F6.out.trans f7)
          have HREC := Lib.hid (show recO qt s7.ts.length [] s7 = out by rw [HON.out, recS, if_neg HQ7.out.ne]; rfl)
          obtain ⟨W8, hW8⟩ : ∃ W8, w7.alloc (.cells #[.int .i64 5, .string ⟨#[]⟩, .slice none 0 0, .slice none 0 0] 31) = W8 := ⟨_, rfl⟩
          have HW8 := Lib.hid hW8
          have HX8 := Lib.hid (show Fou W8 w7.heap.size 31 (.int .i64 5) (.string ⟨#[]⟩) (.slice none 0 0) (.slice none 0 0) by rw [← hW8]; exact heap_alloc_new w7 _)
          have B8 := Lib.hid (show Below w7.heap.size w7 W8 by rw [← hW8]; exact (Below.refl _ _).alloc (Nat.le_refl _) _)
          have HWX := Lib.hid (show w.heap.size < w7.heap.size from (Array.getElem?_eq_some_iff.1 HA7.out).1)
          clear q7 f7 hs7 hW8 HTK
          go_upto_region 23 with fail
          rw [HW8.out]
          obtain ⟨hx, hhx⟩ : ∃ hx, hx = w7.heap.size := ⟨_, rfl⟩
          rw [← hhx] at HX8 HWX ⊢
          have HSTART : Hid (RcQ qt B M rb all w W8 hx out [] s7 s7 s7.ts.length none none 0 0) := Lib.hid ⟨HREC.out, Nat.le_refl _, by simpa using HLS.out, HQ7.out.below B8.out, F7.out.below B8.out, (B8.out.block _ (Array.getElem?_eq_some_iff.1 HA7.out).1).trans HA7.out, HX8.out, bareT _ _ 5 [], fun _ => ⟨rfl, rfl, rfl, rfl⟩, HRB.out, HWX.out⟩
          obtain ⟨i0, hi0, hz0, hz1, hz2⟩ := info_parts info142
          clear hhx
          go_loopw [] (fun wr => ∃ (fs : List (Bs × PT)) (sk : Q) (n : Nat) (a2 a3 : Option Addr) (c2 c3 : Nat), Hid (RcQ qt B M rb all w wr hx out fs sk sk n a2 a3 c2 c3)) (fun wr => left rb all wr)
          case atStart => exact ⟨[], s7, s7.ts.length, none, none, 0, 0, HSTART⟩
          case round =>
            obtain ⟨fs, sk, n', a2, a3, c2, c3, HR⟩ := hrel
            obtain ⟨g, cap, i, vd, h9, -⟩ := HR.out.qs.first
            obtain ⟨⟨p0, p1, p2, p3⟩, -⟩ := fou_of h9
            cases hb9 : sk.bad with
            | true =>
              rw [hb9] at p3
              have HE := Lib.hid (show out = (rowT fs, sk.take [125]) by rw [← HR.out.un, rec_end (.inl hb9)])
              have HTK := Lib.hid (qtake_any hM HR.out.qs [125])
              have HR9 := HR
              clear hb9 h9
              go_wp2_with fail
              refine HTK.out.mono ?_
              rintro e w10 ⟨rfl, q10, f10⟩
              clear p0 p1 p2 p3
              have hcx := HR9.out
              obtain ⟨hres, hown, hcs, hfr⟩ := RcQ.frm HR9.out f10
              obtain ⟨⟨d0, d1, d2, d3⟩, e0, e1, e2, e3⟩ := fou_of hres
              obtain ⟨⟨p0, p1, p2, p3⟩, -⟩ := fou_of hown
              have HRES := Lib.hid hres
              have HCS := Lib.hid (hcs.mono (A' := fun b => w.heap.size < b) (fun _ _ h => h.1))
              have HFR := Lib.hid hfr
              have Q10 := Lib.hid q10
              clear hres hown hcs hfr q10 f10 hcx HTK
              go_wp2_with fail
              rw [HE.out]
              exact endT rfl rfl rfl HRES.out HFR.out Q10.out HRB.out HCS.out
            | false =>
              rw [hb9] at p3
              have HI := Lib.hid (qis_any HR.out.qs [125])
              cases h5 : sk.is [125] with
              | true =>
                rw [h5] at HI
                have HE := Lib.hid (show out = (rowT fs, sk.take [125]) by rw [← HR.out.un, rec_end (.inr h5)])
                clear hb9 h9 h5
                go_wp2_with fail
                refine HI.out.mono ?_
                rintro e w9 ⟨rfl, b9⟩
                have HTK := Lib.hid (qtake_any hM (HR.out.qs.below b9) [125])
                have HR9 : Hid (RcQ qt B M rb all w w9 hx out fs sk sk n' a2 a3 c2 c3) := Lib.hid (HR.out.bel b9)
                clear p0 p1 p2 p3 b9 HI
                go_wp2_with fail
                refine HTK.out.mono ?_
                rintro e w10 ⟨rfl, q10, f10⟩
                have hcx := HR9.out
                obtain ⟨hres, hown, hcs, hfr⟩ := RcQ.frm HR9.out f10
                obtain ⟨⟨d0, d1, d2, d3⟩, e0, e1, e2, e3⟩ := fou_of hres
                obtain ⟨⟨p0, p1, p2, p3⟩, -⟩ := fou_of hown
                have HRES := Lib.hid hres
                have HCS := Lib.hid (hcs.mono (A' := fun b => w.heap.size < b) (fun _ _ h => h.1))
                have HFR := Lib.hid hfr
                have Q10 := Lib.hid q10
                clear hres hown hcs hfr q10 f10 hcx HTK
                go_wp2_with fail
                rw [HE.out]
                exact endT rfl rfl rfl HRES.out HFR.out Q10.out HRB.out HCS.out
              | false =>
                rw [h5] at HI
                have HB9 := Lib.hid hb9
                have H5 := Lib.hid h5
                clear hb9 h9 h5
                go_wp2_with fail
                refine HI.out.mono ?_
                rintro e w9 ⟨rfl, b9⟩
                have HNM := Lib.hid (qname_any hM (HR.out.qs.below b9))
                have F9 := Lib.hid (Fr.of_below (n₀ := B) b9)
                clear p0 p1 p2 p3 b9 HI
                go_wp2_with fail
                refine HNM.out.mono ?_
                rintro e w10 ⟨rfl, q10, f10⟩
                obtain ⟨⟨nk, na, nt⟩, hnm⟩ : ∃ t, t = sk.name.1 := ⟨_, rfl⟩
                rw [← hnm]
                unfold tokV
                obtain ⟨W11, hW11⟩ : ∃ W11, w10.alloc (.cells #[.int .i64 (nk : Nat), .int .i64 (na : Nat), .string ⟨nt.toArray⟩] 96) = W11 := ⟨_, rfl⟩
                have HW11 := Lib.hid hW11
                have b11 : Below w10.heap.size w10 W11 := by rw [← hW11]; exact (Below.refl _ _).alloc (Nat.le_refl _) _
                have HT11 := Lib.hid (show Thr W11 w10.heap.size 96 (.int .i64 (nk : Nat)) (.int .i64 (na : Nat)) (.string ⟨nt.toArray⟩) by rw [← hW11]; exact thr_new w10 _ _ _ _)
                have F11 := Lib.hid ((F9.out.trans f10).below b11)
                have Q11 := Lib.hid (q10.below b11)
                have HNMT := Lib.hid hnm
                have HTK := Lib.hid (qtake_any hM Q11.out [58])
                clear q10 f10 hW11 b11 hnm HNM
                go_upto_region 25 with fail
                rw [HW11.out]
                go_wp2_with fail
                refine HTK.out.mono ?_
                rintro e w12 ⟨rfl, q12, f12⟩
                obtain ⟨hd12, hhd⟩ : ∃ p, p = sk.head [58] := ⟨_, rfl⟩
                have q12 : QS B M w12 rb all hd12.2 := by rw [hhd]; exact q12
                have F12 := Lib.hid (F11.out.trans f12)
                have HT12 := Lib.hid (show Thr w12 w10.heap.size 96 _ _ _ from f12.cells HT11.out (by decide))
                obtain ⟨g, cap, i, vd, h9, -⟩ := q12.first
                obtain ⟨⟨p0, p1, p2, p3⟩, r0, r1, r2, r3⟩ := fou_of h9
                have Q12 := Lib.hid q12
                have HHD := Lib.hid hhd
                have H9 := Lib.hid h9
                clear q12 f12 hhd h9 HTK
                cases hh : hd12.2.bad with
                | true =>
                  rw [hh] at p3
                  have HN := Lib.hid (show n' ≠ 0 by have := HR.out.fuel; have := HR.out.qs.len.2; omega)
                  have HE := Lib.hid (show out = (qT0, hd12.2) by
                    obtain ⟨n'', rfl⟩ := Nat.exists_eq_succ_of_ne_zero HN.out
                    rw [← HR.out.un, HHD.out, rec_head HB9.out H5.out (by rw [← HHD.out]; exact hh)])
                  obtain ⟨hres, -, -, hfr⟩ := RcQ.frm HR.out F12.out
                  obtain ⟨⟨d0, d1, d2, d3⟩, e0, e1, e2, e3⟩ := fou_of hres
                  have HRES := Lib.hid hres
                  have HFR := Lib.hid hfr
                  clear hres hfr hh
                  go_wp2_with fail
                  rw [HE.out]
                  exact endT rfl rfl rfl HRES.out HFR.out Q12.out HRB.out (bareT _ _ 0 [])
                | false =>
                  rw [hh] at p3
                  have hok := head_ok HB9.out (by rw [← HHD.out]; exact hh)
                  have HHB := Lib.hid (show (sk.head [58]).2.bad = false by rw [← HHD.out]; exact hh)
                  have HOK := Lib.hid hok.1
                  have HOL := Lib.hid hok.2
                  have HNT := Lib.hid (show (sk.head [58]).1.t = nt by show sk.name.1.t = nt; rw [← HNMT.out])
                  have HLF := Lib.hid HR.out.qs.left
                  obtain ⟨n'', hn''⟩ : ∃ n'', n' = n'' + 1 := ⟨n' - 1, by have := HR.out.fuel; have := HR.out.qs.len.2; omega⟩
                  have HNN := Lib.hid hn''
                  have hd2 : hd12.2 = ⟨sk.ts.tail.tail, sk.nd, false⟩ := by rw [HHD.out, HOK.out]
                  have HD2 := Lib.hid hd2
                  obtain ⟨hres, hown, hcs, hfr⟩ := RcQ.frm HR.out F12.out
                  obtain ⟨⟨d0, d1, d2, d3⟩, -⟩ := fou_of hown
                  obtain ⟨⟨t0, t1, t2⟩, -⟩ := thr_of HT12.out
                  have HOWN := Lib.hid hown
                  have HCS := Lib.hid hcs
                  have HFS := Lib.hid (show fs.length ≤ 1000000 by have := HR.out.many; omega)
                  have HH := Lib.hid (has_any (fs.map (·.1)) (by rw [List.length_map]; exact HFS.out) nt _ w12 _ (RcQ.names hcs))
                  have HXL := Lib.hid (Array.getElem?_eq_some_iff.1 hown).1
                  have HWL := Lib.hid (Array.getElem?_eq_some_iff.1 hres).1
                  have HTL12 := Lib.hid (Array.getElem?_eq_some_iff.1 HT12.out).1
                  clear hok hn'' hd2 hres hown hcs hfr
                  obtain ⟨tw, htw⟩ : ∃ tw : Bool, tw = decide (nt ∈ fs.map (·.1)) := ⟨_, rfl⟩
                  rw [← htw] at HH
                  have HTW := Lib.hid htw
                  have H9F := Lib.hid (show Fou w12 rb 92 (.slice (some ⟨g, 0, none⟩) all.length cap) (.int .i64 (i : Nat)) vd (.bool false) by have := H9.out; rw [hh] at this; exact this)
                  obtain ⟨s13, hs13⟩ : ∃ s13, s13 = (if tw = true then hd12.2.more else hd12.2) := ⟨_, rfl⟩
                  have HS13 := Lib.hid hs13
                  have HTS13 := Lib.hid (show s13.ts = hd12.2.ts by rw [hs13]; cases tw <;> rfl)
                  obtain ⟨⟨u, s8⟩, hu⟩ : ∃ p, p = qt s13 := ⟨_, rfl⟩
                  obtain ⟨uk, un, uns, ul⟩ := u
                  have HLE8 := Lib.hid (show s8.ts.length + 2 ≤ sk.ts.length by
                    have h1 := HQT.out s13
                    rw [← hu, HTS13.out, HD2.out] at h1
                    have h2 := HOL.out
                    have h1 : s8.ts.length ≤ sk.ts.tail.tail.length := h1
                    omega)
                  have HU := Lib.hid hu
                  have HBM := Lib.hid (show hd12.2.nd + 1 + 2 * hd12.2.ts.length + 1 ≤ M by
                    have h1 := HR.out.qs.bd
                    have h2 := HOL.out
                    rw [HB9.out] at h1
                    rw [HD2.out]
                    simp only [Bool.false_eq_true, if_false] at h1 ⊢
                    omega)
                  have HHF := Lib.hid hh
                  clear htw hs13 hu hh
                  go_wp2_with fail
                  refine HH.out.mono ?_
                  rintro e w13 ⟨rfl, rfl⟩
                  go_upto_if 107 with fail
                  go_cut [] from 108 to 121 (fun wx => QS B M wx rb all s13 ∧ Fr B w12 wx)
                  case first =>
                    cases tw with
                    | false =>
                      have HSS := Lib.hid (show s13 = hd12.2 by rw [HS13.out]; rfl)
                      go_wp2_with fail
                      go_meet
                      exact ⟨by rw [HSS.out]; exact Q12.out, Fr.refl _ _⟩
                    | true =>
                      have HSS := Lib.hid (show s13 = hd12.2.more by rw [HS13.out]; rfl)
                      go_wp2_with fail
                      obtain ⟨vt, vd', i', xs, k6, -, k8, -⟩ := Q12.out.ex
                      rw [H9F.out] at k6
                      simp only [Option.some.injEq, Obj.cells.injEq, Array.mk.injEq, List.cons.injEq, and_true] at k6
                      obtain ⟨rfl, -, rfl, -⟩ := k6
                      obtain ⟨nd, hnd⟩ : ∃ nd, nd = hd12.2.nd := ⟨_, rfl⟩
                      rw [← hnd] at k8
                      have HBN := Lib.hid (show nd + 1 + 2 * hd12.2.ts.length + 1 ≤ M by rw [hnd]; exact HBM.out)
                      have R65 : Hid (∀ W : World, W.heap = (w12.alloc (.cells #[.int .i64 (na : Nat), .int .i64 4, .string ⟨nt.toArray⟩] 192)).heap → W.ownsRow B 192 3 vd nd xs) := fun W e => by
                        have := k8.alloc (.cells #[.int .i64 (na : Nat), .int .i64 4, .string ⟨nt.toArray⟩] 192)
                        refine ⟨this.1, ?_⟩
                        rw [e]
                        exact this.2
                      have hmx : nd + 1 ≤ maxLen := by have := HBN.out; unfold maxLen; omega
                      have hmb : (nd + 1) * 32 ≤ 140737488355328 := by have := HBN.out; omega
                      have HBS := Lib.hid (show B ≤ w12.heap.size + 1 by have := Q12.out.hi; omega)
                      have HN65 := Lib.hid (World.news_of_block (heap_alloc_new w12 (.cells #[.int .i64 (na : Nat), .int .i64 4, .string ⟨nt.toArray⟩] 192)))
                      have HPL := Lib.hid Q12.out.lt
                      have HNE := Lib.hid (show some rb ≠ vd.ownBlock from fun e => by
                        rcases k8.2 with ⟨rfl, _⟩ | ⟨g', cap', cur, rfl, _, hgg, _⟩
                        · cases e
                        · simp only [Value.ownBlock, Option.some.injEq] at e
                          subst e
                          rw [H9F.out] at hgg
                          cases hgg)
                      have hpl := HPL.out
                      have hrbn : ¬ rb = w12.heap.size := Nat.ne_of_lt hpl
                      have htn : ¬ w10.heap.size = w12.heap.size := Nat.ne_of_lt HTL12.out
                      have HND := Lib.hid hnd
                      clear k8 hnd
                      go_region_law (refine step_append_lies _ rfl (.tmp 112) (.tmp 118) 54 rfl B 192 i0 _ 3 32 Tryz.underlying54 hi0 hz0 hz1 hz2 rfl (by decide) vd nd xs rfl (R65.out _ rfl) ⟨w12.heap.size, 0, none⟩ 1 1 [.int .i64 (na : Nat), .int .i64 4, .string ⟨nt.toArray⟩] rfl rfl (fun j u hu => HN65.out j u hu) one3 (by decide) hmx hmb (by simpa using HBS.out) _ rfl ?_; intro g' cap' W5 hown5 hg5 hloc5 hlt5; (have hp5 : Fou W5 rb 92 (.slice (some ⟨g, 0, none⟩) all.length cap) (.int .i64 (i : Nat)) vd (.bool false) := (hg5.block rb (Nat.lt_succ_of_lt HPL.out |> fun h => by simpa using h) HNE.out).trans (blk_alloc H9F.out (.cells #[.int .i64 (na : Nat), .int .i64 4, .string ⟨nt.toArray⟩] 192))); obtain ⟨⟨e0, e1, e2, e3⟩, y0, y1, y2, y3⟩ := fou_of hp5; (have HO5 := Lib.hid hown5); (have HG5 := Lib.hid hg5); (have HL5 := Lib.hid hloc5); clear hown5 hg5 hloc5 hp5)
                      all_goals
                        go_wp2_with fail
                        go_meet
                        have hg6 : (w12.alloc (.cells #[.int .i64 (na : Nat), .int .i64 4, .string ⟨nt.toArray⟩] 192)).grownBy W5 vd.ownBlock := ⟨HG5.out.os, HG5.out.tape, HG5.out.output, HG5.out.size, HG5.out.block⟩
                        obtain ⟨a1, a2⟩ := (Q12.out.alloc (.cells #[.int .i64 (na : Nat), .int .i64 4, .string ⟨nt.toArray⟩] 192)).told (blk_alloc H9F.out _) hg6 (by rw [← HND.out]; exact HO5.out) rfl
                        rw [← HND.out] at a1 a2
                        refine ⟨?_, ((Fr.refl B w12).alloc _).trans a2⟩
                        rw [HSS.out]
                        refine a1.reM ?_
                        show hd12.2.nd + 1 + 2 * hd12.2.ts.length + (if hd12.2.bad = true then 0 else 1) ≤ M
                        have := HBM.out
                        rw [HHF.out]
                        simpa using this
                  case rest =>
                    obtain ⟨q13, f13⟩ := hcut
                    have HTY := Lib.hid (rdsT_flat HT.out wc s13 q13 uk un uns ul s8 HU.out)
                    have F13 := Lib.hid (F12.out.trans f13)
                    have HT13 := Lib.hid (show Thr wc w10.heap.size 96 _ _ _ from f13.cells HT12.out (by decide))
                    have HZ13 := Lib.hid f13.size
                    clear q13 f13 p0 p1 p2 p3 r0 r1 r2 r3 d0 d1 d2 d3 t0 t1 t2
                    go_wp2_with fail
                    refine HTY.out.mono ?_
                    rintro e w14 ⟨a2', c2', a3', c3', rfl, f14, i14, q14⟩
                    obtain ⟨W15, hW15⟩ : ∃ W15, w14.alloc (.cells #[.int .i64 (uk : Nat), .string ⟨un.toArray⟩, .slice a2' uns.length c2', .slice a3' ul.length c3'] 31) = W15 := ⟨_, rfl⟩
                    have b15 : Below w14.heap.size w14 W15 := by rw [← hW15]; exact (Below.refl _ _).alloc (Nat.le_refl _) _
                    have HX15 := Lib.hid (show Fou W15 w14.heap.size 31 (.int .i64 (uk : Nat)) (.string ⟨un.toArray⟩) (.slice a2' uns.length c2') (.slice a3' ul.length c3') by rw [← hW15]; exact heap_alloc_new w14 _)
                    have F15 := Lib.hid (F13.out.trans (f14.below b15))
                    have Q15 := Lib.hid (q14.below b15)
                    have HXC15 := Lib.hid ((i14.below b15).mono (A' := fun b => w.heap.size < b ∧ b ≠ hx) (fun b _ hb => by have := HXL.out; have := HWL.out; have := HZ13.out; omega))
                    obtain ⟨-, hown15, hcs15, -⟩ := RcQ.frm HR.out F15.out
                    have HT15 := Lib.hid (show Thr W15 w10.heap.size 96 _ _ _ from (f14.below b15).cells HT13.out (by decide))
                    have HOWN15 := Lib.hid hown15
                    have HCS15 := Lib.hid hcs15
                    have HW15 := Lib.hid hW15
                    clear f14 i14 q14 hW15 b15 hcs15 hown15 HTY HH
                    go_upto_region 32 with fail
                    rw [HW15.out]
                    cases tw with
                    | true =>
                      have HUN := Lib.hid (show recO qt n'' fs s8.comma = out by
                        rw [← HR.out.un, HNN.out, rec_twice HB9.out H5.out HHB.out (by rw [HNT.out]; simpa using HTW.out.symm), ← HHD.out, show hd12.2.more = s13 by rw [HS13.out]; rfl, ← HU.out])
                      obtain ⟨W17, hW17⟩ : ∃ W17, W17 = W15 := ⟨_, rfl⟩
                      have HR17 := Lib.hid (RcQ.twice HR.out F15.out Q15.out HUN.out HLE8.out HNN.out)
                      rw [← hW17] at HR17 ⊢
                      clear hW17
                      obtain ⟨q17, HQX⟩ : QS B M W17 rb all s8 ∧ True := ⟨HR17.out.qs, trivial⟩
                      have HI17 := Lib.hid (qis_any q17 [125])
                      have Q17 := Lib.hid q17
                      clear q17 HQX
                      cases h7 : s8.is [125] with
                      | true =>
                        rw [h7] at HI17
                        have HCM := Lib.hid (show s8 = s8.comma by unfold Q.comma; rw [h7, if_pos rfl])
                        clear h7
                        go_wp2_with fail
                        refine HI17.out.mono ?_
                        rintro e w18 ⟨rfl, b18⟩
                        have HF := Lib.hid (HR17.out.fin (Fr.of_below b18) (Q17.out.below b18) HCM.out)
                        clear b18 HI17
                        go_wp2_with fail
                        refine ⟨⟨_, _, _, _, _, _, _, HF⟩, ?_⟩
                        rw [HF.out.qs.left, HLF.out]
                        have := HLE8.out
                        omega
                      | false =>
                        rw [h7] at HI17
                        have H7 := Lib.hid h7
                        clear h7
                        go_wp2_with fail
                        refine HI17.out.mono ?_
                        rintro e w18 ⟨rfl, b18⟩
                        have HTK8 := Lib.hid (qtake_any hM (Q17.out.below b18) [44])
                        have F18 := Lib.hid (Fr.of_below (n₀ := B) b18)
                        clear b18 HI17
                        go_wp2_with fail
                        refine HTK8.out.mono ?_
                        rintro e w19 ⟨rfl, q19, f19⟩
                        have F19 := Lib.hid (F18.out.trans f19)
                        have HI19 := Lib.hid (qis_any q19 [125])
                        have Q19 := Lib.hid q19
                        clear q19 f19 HTK8
                        cases h8 : (s8.take [44]).is [125] with
                        | true =>
                          rw [h8] at HI19
                          have HCM := Lib.hid (show (s8.take [44]).give = s8.comma by unfold Q.comma; rw [H7.out, if_neg (by decide), h8, if_pos rfl])
                          clear h8
                          go_wp2_with fail
                          refine HI19.out.mono ?_
                          rintro e w20 ⟨rfl, b20⟩
                          have HGV := Lib.hid (qgive_any hM (Q19.out.below b20) 2)
                          have F20 := Lib.hid (F19.out.below b20)
                          clear b20 HI19
                          go_wp2_with fail
                          refine HGV.out.mono ?_
                          rintro e w21 ⟨rfl, q21, f21⟩
                          have HF := Lib.hid (HR17.out.fin (F20.out.trans f21) q21 HCM.out)
                          have HLC := Lib.hid (Nat.le_trans (Nat.le_of_eq (congrArg (fun z : Q => z.ts.length) HCM.out)) (comma_le s8))
                          clear q21 f21 HGV
                          go_wp2_with fail
                          refine ⟨⟨_, _, _, _, _, _, _, HF⟩, ?_⟩
                          rw [HF.out.qs.left, HLF.out]
                          have := HLE8.out
                          have := HLC.out
                          omega
                        | false =>
                          rw [h8] at HI19
                          have HCM := Lib.hid (show s8.take [44] = s8.comma by unfold Q.comma; rw [H7.out, if_neg (by decide), h8, if_neg (by decide)])
                          clear h8
                          go_wp2_with fail
                          refine HI19.out.mono ?_
                          rintro e w20 ⟨rfl, b20⟩
                          have HF := Lib.hid (HR17.out.fin (F19.out.below b20) (Q19.out.below b20) HCM.out)
                          have HLC := Lib.hid (Nat.le_trans (Nat.le_of_eq (congrArg (fun z : Q => z.ts.length) HCM.out)) (comma_le s8))
                          clear b20 HI19
                          go_wp2_with fail
                          refine ⟨⟨_, _, _, _, _, _, _, HF⟩, ?_⟩
                          rw [HF.out.qs.left, HLF.out]
                          have := HLE8.out
                          have := HLC.out
                          omega
                    | false =>
                      have HUN := Lib.hid (show recO qt n'' (insT fs nt (.mk uk un uns ul)) s8.comma = out by
                        rw [← HR.out.un, HNN.out, rec_once HB9.out H5.out HHB.out (by rw [HNT.out]; simpa using HTW.out.symm), ← HHD.out, show hd12.2 = s13 by rw [HS13.out]; rfl, ← HU.out, HHD.out, HNT.out])
                      have HINS := Lib.hid (insert_any fs HFS.out nt (.mk uk un uns ul) _ W15 a2 a3 c2 c3 _ HCS15.out HR.out.no HXC15.out)
                      obtain ⟨⟨d0, d1, d2, d3⟩, -⟩ := fou_of HOWN15.out
                      obtain ⟨⟨t0, t1, t2⟩, -⟩ := thr_of HT15.out
                      obtain ⟨⟨z0, z1, z2, z3⟩, -⟩ := fou_of HX15.out
                      go_wp2_with fail
                      refine HINS.out.mono ?_
                      rintro e w16 ⟨b16, b2, d2', b3, d3', rfl, i16⟩
                      have HR16 := Lib.hid (RcQ.once HR.out F15.out Q15.out HUN.out HLE8.out HNN.out b16 i16)
                      obtain ⟨⟨v0, v1, v2, v3⟩, f0, f1, f2, f3⟩ := fou_of (t := 31) ((b16.block _ (Array.getElem?_eq_some_iff.1 HOWN15.out).1).trans HOWN15.out)
                      obtain ⟨W17, hW17⟩ : ∃ W17, putL w16 hx [.int .i64 5, .string ⟨#[]⟩, .slice b2 (fs.length + 1) d2', .slice b3 (fs.length + 1) d3'] = W17 := ⟨_, rfl⟩
                      have HR17 := Lib.hid HR16.out
                      rw [hW17] at HR17
                      have HW17 := Lib.hid hW17
                      clear d0 d1 d2 d3 t0 t1 t2 z0 z1 z2 z3 i16 b16 hW17 HINS HR16
                      go_upto_region 34 with fail
                      have e17 := HW17.out
                      simp only [putL, World.setCells] at e17
                      rw [e17]
                      clear e17
                      obtain ⟨q17, HQX⟩ : QS B M W17 rb all s8 ∧ True := ⟨HR17.out.qs, trivial⟩
                      have HI17 := Lib.hid (qis_any q17 [125])
                      have Q17 := Lib.hid q17
                      clear q17 HQX
                      cases h7 : s8.is [125] with
                      | true =>
                        rw [h7] at HI17
                        have HCM := Lib.hid (show s8 = s8.comma by unfold Q.comma; rw [h7, if_pos rfl])
                        clear h7
                        go_wp2_with fail
                        refine HI17.out.mono ?_
                        rintro e w18 ⟨rfl, b18⟩
                        have HF := Lib.hid (HR17.out.fin (Fr.of_below b18) (Q17.out.below b18) HCM.out)
                        clear b18 HI17
                        go_wp2_with fail
                        refine ⟨⟨_, _, _, _, _, _, _, HF⟩, ?_⟩
                        rw [HF.out.qs.left, HLF.out]
                        have := HLE8.out
                        omega
                      | false =>
                        rw [h7] at HI17
                        have H7 := Lib.hid h7
                        clear h7
                        go_wp2_with fail
                        refine HI17.out.mono ?_
                        rintro e w18 ⟨rfl, b18⟩
                        have HTK8 := Lib.hid (qtake_any hM (Q17.out.below b18) [44])
                        have F18 := Lib.hid (Fr.of_below (n₀ := B) b18)
                        clear b18 HI17
                        go_wp2_with fail
                        refine HTK8.out.mono ?_
                        rintro e w19 ⟨rfl, q19, f19⟩
                        have F19 := Lib.hid (F18.out.trans f19)
                        have HI19 := Lib.hid (qis_any q19 [125])
                        have Q19 := Lib.hid q19
                        clear q19 f19 HTK8
                        cases h8 : (s8.take [44]).is [125] with
                        | true =>
                          rw [h8] at HI19
                          have HCM := Lib.hid (show (s8.take [44]).give = s8.comma by unfold Q.comma; rw [H7.out, if_neg (by decide), h8, if_pos rfl])
                          clear h8
                          go_wp2_with fail
                          refine HI19.out.mono ?_
                          rintro e w20 ⟨rfl, b20⟩
                          have HGV := Lib.hid (qgive_any hM (Q19.out.below b20) 2)
                          have F20 := Lib.hid (F19.out.below b20)
                          clear b20 HI19
                          go_wp2_with fail
                          refine HGV.out.mono ?_
                          rintro e w21 ⟨rfl, q21, f21⟩
                          have HF := Lib.hid (HR17.out.fin (F20.out.trans f21) q21 HCM.out)
                          have HLC := Lib.hid (Nat.le_trans (Nat.le_of_eq (congrArg (fun z : Q => z.ts.length) HCM.out)) (comma_le s8))
                          clear q21 f21 HGV
                          go_wp2_with fail
                          refine ⟨⟨_, _, _, _, _, _, _, HF⟩, ?_⟩
                          rw [HF.out.qs.left, HLF.out]
                          have := HLE8.out
                          have := HLC.out
                          omega
                        | false =>
                          rw [h8] at HI19
                          have HCM := Lib.hid (show s8.take [44] = s8.comma by unfold Q.comma; rw [H7.out, if_neg (by decide), h8, if_neg (by decide)])
                          clear h8
                          go_wp2_with fail
                          refine HI19.out.mono ?_
                          rintro e w20 ⟨rfl, b20⟩
                          have HF := Lib.hid (HR17.out.fin (F19.out.below b20) (Q19.out.below b20) HCM.out)
                          have HLC := Lib.hid (Nat.le_trans (Nat.le_of_eq (congrArg (fun z : Q => z.ts.length) HCM.out)) (comma_le s8))
                          clear b20 HI19
                          go_wp2_with fail
                          refine ⟨⟨_, _, _, _, _, _, _, HF⟩, ?_⟩
                          rw [HF.out.qs.left, HLF.out]
                          have := HLE8.out
                          have := HLC.out
                          omega
end Go.Proofs.YtijnjoonbjdafaaGreatDoor
namespace Go.Proofs.YtijnjoonbjdafaaGreatDoor
set_option maxRecDepth 20000
open Go.RowKit Go.Shelf
theorem qplain_any {B M rb : Nat} {all : List Tk} (hM : M ≤ 10000000) (d : Nat) (hd64 : d ≤ 64) (qt : Q → PT × Q) (hqt : ∀ s, (qt s).2.ts.length ≤ s.ts.length) (HT : RdsT 45 B M rb all (d + 1) qt) :
    RdsT 134 B M rb all d (plainS qt) := by
  intro w s h
  cases hb : s.bad with
  | true => exact qplain_name d qt w s h (.inl hb)
  | false =>
    by_cases hk : (hd s.ts).k = 1
    · exact qplain_name d qt w s h (.inr hk)
    · by_cases hw : ∃ m, m < 4 ∧ s.is (wd4 m) = true
      · exact qplain_word hM d hd64 qt hqt HT w s h hb hk hw
      · have hn : ∀ m, m < 4 → s.is (wd4 m) = false := fun m hm => by
          cases h1 : s.is (wd4 m) with
          | false => rfl
          | true => exact absurd ⟨m, hm, h1⟩ hw
        cases h5 : s.is [123] with
        | false => exact qplain_paren hM d hd64 qt hqt HT w s h hb hk hn h5
        | true => exact qplain_rec hM d hd64 qt hqt HT w s h hb hk hn h5
theorem qlv_any {B M rb : Nat} {all : List Tk} (hM : M ≤ 10000000) : ∀ (n d : Nat), n + d = 65 → RdsT 45 B M rb all d (qTyp n) ∧ (1 ≤ n → RdsT 84 B M rb all d (qArr n))
  | 0, d, h => by
    obtain rfl : d = 65 := by omega
    exact ⟨qtype_deep hM, fun h => absurd h (by decide)⟩
  | n + 1, d, h => by
    obtain ⟨h1, h2⟩ := qlv_any (B := B) (rb := rb) (all := all) hM n (d + 1) (by omega)
    have hp := qplain_any hM d (by omega) (qTyp n) (shr_of (rd_lv n).1 (lvT_shr n).1) h1
    have ha : RdsT 84 B M rb all d (qArr (n + 1)) := by
      have := qarrow_any hM d (by omega) (plainS (qTyp n)) (qArr n) hp (fun _ => h2 (by omega))
      have e : (d == 64) = (n == 0) := by
        by_cases hn : n = 0
        · subst hn; have : d = 64 := by omega
          subst this; rfl
        · have h1 : (n == 0) = false := by simpa using hn
          have h2 : (d == 64) = false := by simp; omega
          rw [h1, h2]
      rw [e] at this
      exact this
    refine ⟨?_, fun _ => ha⟩
    exact qtype_any hM d (by omega) (qArr (n + 1)) (shr_of (rd_lv (n + 1)).2 (lvT_shr (n + 1)).2) ha
end Go.Proofs.YtijnjoonbjdafaaGreatDoor

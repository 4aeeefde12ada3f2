/-
  The contracts of the readers of arrows and of whole types.
-/
import Derived.Test.YtijnjoonbjdafaaGreatDoorPlain
import Derived.Deep.RegionHeld3
import Derived.RegionDies
import Derived.Deep.RegionLaw
import Derived.Deep.AppendLies
namespace Go.Proofs.YtijnjoonbjdafaaGreatDoor
set_option maxRecDepth 20000
open Go.RowKit Go.Shelf
theorem row_lit {A : Nat → Prop} {w : World} {e : TypeId} {size n g : Nat} {l : List Dt} {cs : List Value} (he : stT e = false) (hg : w.heap.size = g) (hA : A g) (hn : n ≤ maxLen) (hl : cs.length = n * size) (h : IsCs A w l cs) :
    IsC A (w.alloc (.cells cs.toArray e)) (.row e size n l) (.slice (some ⟨g, 0, none⟩) n n) := by
  subst hg
  refine IsC.row (base := 0) (xs := cs) he ⟨hl, .inr ⟨w.heap.size, n, cs.toArray, rfl, Nat.zero_le _, heap_alloc_new w _, Nat.le_refl _, hn, by simpa using hl, ?_⟩⟩ (fun b hb => by cases hb; exact hA) (h.below ((Below.refl _ _).alloc (Nat.le_refl _) _))
  rw [← hl]; simp
set_option maxHeartbeats 4000000 in
theorem arrow_any {B M : Nat} {pb : Nat} {all : List Tk} (k d : Nat) (hd64 : d ≤ 64)
    (HP : ∀ w ts told, PS B M w pb all ts told → Calls Tryz.prog 128 #[.pointer (some ⟨pb, 0, none⟩), .int .i64 (d : Nat)] w (Post B M w pb all told (vT w.heap.size) (plainP (typ k) ts)))
    (HA : ∀ w ts told, PS B M w pb all ts told → Calls Tryz.prog 80 #[.pointer (some ⟨pb, 0, none⟩), .int .i64 ((d + 1 : Nat) : Int)] w (Post B M w pb all told (vT w.heap.size) (arr k ts)))
    (w : World) (ts : List Tk) (told : List Dn) (h : PS B M w pb all ts told) :
    Calls Tryz.prog 80 #[.pointer (some ⟨pb, 0, none⟩), .int .i64 (d : Nat)] w (Post B M w pb all told (vT w.heap.size) (arrowP (plainP (typ k)) (arr k) ts)) := by
  have HP := Lib.hid HP
  have HA := Lib.hid HA
  have HPB := Lib.hid h.lt
  have p0 := Lib.hid (h.alloc zT)
  have hA0 : (w.alloc zT).heap[w.heap.size]? = some zT := heap_alloc_new w _
  have hF0 : Fr B w (w.alloc zT) := (Fr.refl B w).alloc _
  have HD := Lib.hid (depth_ok (h.alloc zT) d hd64)
  clear h
  obtain ⟨res, hres⟩ : ∃ res, res = arrowP (plainP (typ k)) (arr k) ts := ⟨_, rfl⟩
  rw [← hres]
  have HQ := Lib.hid hres
  clear hres
  have hd1 : IntKind.i64.wrap ((d : Int) + 1) = ((d + 1 : Nat) : Int) := by rw [IntKind.wrap_i64]; omega
  have HD1 := Lib.hid hd1
  clear hd1
  go_enter Tryz.func80, Tryz.ntmps80
  go_wp2_with fail
  refine HD.out.mono ?_
  rintro e w1 ⟨rfl, rfl⟩
  go_wp2_with fail
  refine (HP.out _ _ _ p0.out).mono ?_
  rintro e w1 ⟨f1, h1⟩
  cases hr : plainP (typ k) ts with
  | bad y rest ds =>
    rw [hr] at h1
    obtain ⟨rfl, p1⟩ := h1
    go_wp2_with fail
    exact panics rfl (.bad (HQ.out.trans (by rw [arrowP, hr, R.bind_bad])) (hF0.trans f1) p1)
  | ok x rest ds =>
    have HW := Lib.hid (HQ.out.trans (by rw [arrowP, hr, R.bind_ok]))
    rw [hr] at h1
    obtain ⟨⟨cs, rfl, hcs⟩, p1⟩ := h1
    obtain ⟨tk, tn, a2, n2, c2, a3, n3, c3, rfl⟩ := cells_T hcs
    have hA1 := blk_alloc (f1.cells hA0 (by decide)) (.cells #[.int .i64 tk, .string tn, .slice a2 n2 c2, .slice a3 n3 c3] 26)
    have hF1 := (hF0.trans f1).alloc (.cells #[.int .i64 tk, .string tn, .slice a2 n2 c2, .slice a3 n3 c3] 26)
    have HL0 := Lib.hid (show w.heap.size < w1.heap.size by have := f1.size; simp at this; omega)
    have C1 := Lib.hid (hcs.below ((Below.refl _ _).alloc (Nat.le_refl _) (.cells #[.int .i64 tk, .string tn, .slice a2 n2 c2, .slice a3 n3 c3] 26)))
    have P1 := Lib.hid (p1.alloc (.cells #[.int .i64 tk, .string tn, .slice a2 n2 c2, .slice a3 n3 c3] 26))
    have hB1 : Fou (w1.alloc (.cells #[.int .i64 tk, .string tn, .slice a2 n2 c2, .slice a3 n3 c3] 26)) w1.heap.size 26 _ _ _ _ := fou_new w1 26 _ _ _ _
    clear hr f1 p1 hcs hF0 p0 hA0
    go_wp2_with fail
    refine (takes_any P1.out [45, 62]).mono ?_
    rintro e w2 ⟨rfl, p2, f2⟩
    have hA2 := f2.cells hA1 (by decide)
    have hB2 : Fou w2 w1.heap.size 26 _ _ _ _ := f2.cells hB1 (by decide)
    have hF2 := hF1.trans f2
    have C2 := Lib.hid (IsCs.fr f2 _ _ C1.out)
    clear hA1 hB1 hF1 C1 P1 f2
    cases hm : isM [45, 62] rest with
    | false =>
      rw [hm] at p2
      have hq : res = .ok x rest (ds ++ []) := by rw [HW.out, hm]; rfl
      have HW := Lib.hid hq
      have P := Lib.hid p2
      have F := Lib.hid hF2
      obtain ⟨⟨q0, q1, q2, q3⟩, u0, u1, u2, u3⟩ := fou_of (t := 26) hA2
      obtain ⟨⟨d0, d1, d2, d3⟩, -⟩ := fou_of hB2
      clear hm hq p2 hF2
      go_wp2_with fail
      refine ret39 rfl rfl rfl (putL_at hA2 (vs := [_, _, _, _]) rfl) (.ok HW.out (F.out.putL (Nat.le_refl _) [_, _, _, _]) ⟨_, rfl, (C2.out.mono (A' := fun b => w.heap.size ≤ b ∧ b ≠ w.heap.size) (fun b _ hb => by simp at hb; exact ⟨by omega, by omega⟩)).putL _ (fun k hk => hk.2) [_, _, _, _] |>.mono (fun b _ hb => hb.1)⟩ ?_)
      rw [List.append_nil]
      exact P.out.putL hA2 (by decide) HPB.out [_, _, _, _]
    | true =>
      rw [hm] at p2
      have hq : res = ((arr k rest.tail).bind fun u r => .ok (.mk 6 [] [] [x, u]) r []).tell ds := by rw [HW.out, hm]; rfl
      have HW := Lib.hid hq
      have P := Lib.hid (show PS B M w2 pb all rest.tail (told ++ ds) from p2)
      have F := Lib.hid hF2
      have HA2 := Lib.hid hA2
      have HB2 := Lib.hid hB2
      obtain ⟨⟨d0, d1, d2, d3⟩, -⟩ := fou_of hB2
      clear hm hq p2 hF2 hA2 hB2
      cases hr : arr k rest.tail with
      | bad y r2 d2 =>
        have HC : Hid (∀ W, Drawn w2 W → Calls Tryz.prog 80 #[.pointer (some ⟨pb, 0, none⟩), .int .i64 (IntKind.i64.wrap ((d : Int) + 1))] W fun e w' => e = .panicked [gv y] ∧ Fr B w2 w' ∧ PS B M w' pb all r2 (told ++ ds ++ d2)) := by
          rintro W ⟨e1, e2, e3, e4⟩
          rw [HD1.out]
          refine (HA.out W rest.tail (told ++ ds) (P.out.alike e1)).mono ?_
          rintro e w' ⟨f, h⟩
          rw [hr] at h
          exact ⟨h.1, ((Fr.refl B w2).alike e1 e2 e3 e4).trans f, h.2⟩
        have HW := Lib.hid (HW.out.trans (by rw [hr, R.bind_bad, R.tell_bad]))
        clear hr
        go_wp2_with fail
        go_region_dies
        all_goals
          refine (HC.out _ ?_).mono ?_
          · exact ⟨rfl, rfl, rfl, rfl⟩
          rintro e w3 ⟨rfl, f3, p3⟩
          exact panics rfl (.bad HW.out (F.out.trans f3) p3.assoc)
      | ok x2 r2 d2 =>
        have HC : Hid (∀ W, Drawn w2 W → Calls Tryz.prog 80 #[.pointer (some ⟨pb, 0, none⟩), .int .i64 (IntKind.i64.wrap ((d : Int) + 1))] W fun e w' => (∃ cs, e = .returned (.agg cs.toArray) ∧ IsCs (fun b => w2.heap.size ≤ b) w' (encT 26 x2) cs) ∧ Fr B w2 w' ∧ PS B M w' pb all r2 (told ++ ds ++ d2)) := by
          rintro W ⟨e1, e2, e3, e4⟩
          rw [HD1.out]
          refine (HA.out W rest.tail (told ++ ds) (P.out.alike e1)).mono ?_
          rintro e w' ⟨f, h⟩
          rw [hr] at h
          obtain ⟨⟨cs, h1, h2⟩, h3⟩ := h
          rw [e1] at h2
          exact ⟨⟨cs, h1, h2⟩, ((Fr.refl B w2).alike e1 e2 e3 e4).trans f, h3⟩
        have HW := Lib.hid (HW.out.trans (by rw [hr, R.bind_ok, R.tell_ok, R.tell_ok, List.append_nil]))
        have HL1 := Lib.hid (show w1.heap.size < w2.heap.size from (Array.getElem?_eq_some_iff.1 HB2.out).1)
        have hn0 : ¬ w.heap.size = w1.heap.size := by have := HL0.out; omega
        have hn0' : ¬ w1.heap.size = w.heap.size := by have := HL0.out; omega
        clear hr
        go_wp2_with fail
        go_region_held3 (fun w' => w'.cell? ⟨w1.heap.size, 0, none⟩ = some (.int .i64 tk) ∧ w'.cell? ⟨w1.heap.size, 1, none⟩ = some (.string tn) ∧ w'.cell? ⟨w1.heap.size, 2, none⟩ = some (.slice a2 n2 c2) ∧ w'.cell? ⟨w1.heap.size, 3, none⟩ = some (.slice a3 n3 c3)) (go_keep)
          (first | (go_at_call 80; refine (HC.out _ ?_).mono ?_; exact ⟨rfl, rfl, rfl, rfl⟩; rintro e w3 ⟨⟨cs, rfl, hcs⟩, f3, p3⟩; obtain ⟨tk', tn', a2', n2', c2', a3', n3', c3', rfl⟩ := cells_T hcs; obtain ⟨⟨s0, s1, s2, s3⟩, -⟩ := fou_of (show Fou w3 w1.heap.size 26 (.int .i64 tk) (.string tn) (.slice a2 n2 c2) (.slice a3 n3 c3) from f3.cells HB2.out (by decide)); (have hA3 := f3.cells HA2.out (by decide)); obtain ⟨⟨q0, q1, q2, q3⟩, u0, u1, u2, u3⟩ := fou_of (t := 26) hA3; (have HA3 := Lib.hid hA3); (have hn1 : ¬ w.heap.size = w3.heap.size := by have := f3.size; have := HL1.out; have := HL0.out; omega); (have hn2 : ¬ w1.heap.size = w3.heap.size := by have := f3.size; have := HL1.out; omega); (have hn3 : w.heap.size < w3.heap.size := by have := f3.size; have := HL1.out; have := HL0.out; omega); (have hn4 : w1.heap.size < w3.heap.size := by have := f3.size; have := HL1.out; omega); (have F3 := Lib.hid f3); (have P3 := Lib.hid p3); (have C3 := Lib.hid hcs); clear f3 p3 hcs hA3))
        all_goals
          go_wp2_with fail
          have CC : IsCs (fun b => w.heap.size < b) w3 (encTs 26 [x, x2]) [.int .i64 tk, .string tn, .slice a2 n2 c2, .slice a3 n3 c3, .int .i64 tk', .string tn', .slice a2' n2' c2', .slice a3' n3' c3'] := by
            have e1 := (IsCs.fr F3.out _ _ C2.out).mono (A' := fun b => w.heap.size < b) (fun b _ hb => by simp at hb; omega)
            have e2 := C3.out.mono (A' := fun b => w.heap.size < b) (fun b _ hb => by have := HL1.out; have := HL0.out; omega)
            have := e1.append _ _ _ _ e2
            simpa [encTs] using this
          have F4 : Fr B w ((putL w3 w.heap.size [.int .i64 6, .string ⟨#[]⟩, .slice none 0 0, .slice (some ⟨w3.heap.size, 0, none⟩) 2 2]).alloc (.cells #[.int .i64 tk, .string tn, .slice a2 n2 c2, .slice a3 n3 c3, .int .i64 tk', .string tn', .slice a2' n2' c2', .slice a3' n3' c3'] 26)) := ((F.out.trans F3.out).putL (Nat.le_refl _) _).alloc _
          have P4 : PS B M ((putL w3 w.heap.size [.int .i64 6, .string ⟨#[]⟩, .slice none 0 0, .slice (some ⟨w3.heap.size, 0, none⟩) 2 2]).alloc (.cells #[.int .i64 tk, .string tn, .slice a2 n2 c2, .slice a3 n3 c3, .int .i64 tk', .string tn', .slice a2' n2' c2', .slice a3' n3' c3'] 26)) pb all r2 (told ++ (ds ++ d2)) := ((P3.out.putL HA3.out (by decide) HPB.out _).alloc _).assoc
          have A4 : Fou ((putL w3 w.heap.size [.int .i64 6, .string ⟨#[]⟩, .slice none 0 0, .slice (some ⟨w3.heap.size, 0, none⟩) 2 2]).alloc (.cells #[.int .i64 tk, .string tn, .slice a2 n2 c2, .slice a3 n3 c3, .int .i64 tk', .string tn', .slice a2' n2' c2', .slice a3' n3' c3'] 26)) w.heap.size 26 _ _ _ _ := blk_alloc (putL_at (vs := [.int .i64 6, .string ⟨#[]⟩, .slice none 0 0, .slice (some ⟨w3.heap.size, 0, none⟩) 2 2]) HA3.out rfl) _
          have CC2 := row_lit (e := 26) (size := 4) (n := 2) (g := w3.heap.size) (by decide) (putL_same w.heap.size [.int .i64 6, .string ⟨#[]⟩, .slice none 0 0, .slice (some ⟨w3.heap.size, 0, none⟩) 2 2] 0 w3).2.2.2 hn3 (by decide) rfl (CC.putL w.heap.size (fun b hb => Nat.ne_of_gt hb) [.int .i64 6, .string ⟨#[]⟩, .slice none 0 0, .slice (some ⟨w3.heap.size, 0, none⟩) 2 2])
          have CC3 := IsCs.cons (IsC.num _ _ 6) (IsCs.cons (IsC.str _ _ []) (IsCs.cons (IsC.none _ _ 1 (e := 9) (by decide)) (IsCs.cons CC2 (IsCs.nil _ _))))
          have C4 : IsCs (fun b => w.heap.size ≤ b) ((putL w3 w.heap.size [.int .i64 6, .string ⟨#[]⟩, .slice none 0 0, .slice (some ⟨w3.heap.size, 0, none⟩) 2 2]).alloc (.cells #[.int .i64 tk, .string tn, .slice a2 n2 c2, .slice a3 n3 c3, .int .i64 tk', .string tn', .slice a2' n2' c2', .slice a3' n3' c3'] 26)) (encT 26 (.mk 6 [] [] [x, x2])) [.int .i64 6, .string ⟨#[]⟩, .slice none 0 0, .slice (some ⟨w3.heap.size, 0, none⟩) 2 2] := CC3.mono (fun b _ hb => Nat.le_of_lt hb)
          exact ret39 rfl rfl rfl A4 (.ok HW.out F4 ⟨_, rfl, C4⟩ P4)
end Go.Proofs.YtijnjoonbjdafaaGreatDoor

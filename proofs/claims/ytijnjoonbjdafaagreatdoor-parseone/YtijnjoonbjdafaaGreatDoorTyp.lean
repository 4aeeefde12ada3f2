/-
  The contract of the reader of whole types.
-/
import Derived.Test.YtijnjoonbjdafaaGreatDoorArrow
import Derived.Test.YtijnjoonbjdafaaGreatDoorGrM
namespace Go.Proofs.YtijnjoonbjdafaaGreatDoor
set_option maxRecDepth 20000
open Go.RowKit Go.Shelf
def left (pb : Nat) (all : List Tk) (w : World) : Nat := all.length - (intOf ((w.cell? ⟨pb, 1, none⟩).getD (.int .i64 0))).toNat
theorem PS.left {B M : Nat} {w : World} {pb : Nat} {all ts : List Tk} {told : List Dn} (h : PS B M w pb all ts told) : left pb all w = ts.length := by
  obtain ⟨h1, h2, h3, h4, h5, vt, vd, i, h6, h7, h8, h9, h10⟩ := h
  have : w.cell? ⟨pb, 1, none⟩ = some (.int .i64 (i : Nat)) := by simp [World.cell?, h6]
  unfold Go.Proofs.YtijnjoonbjdafaaGreatDoor.left
  rw [this, h9, List.length_drop]
  simp [intOf]
theorem PS.len {B M : Nat} {w : World} {pb : Nat} {all ts : List Tk} {told : List Dn} (h : PS B M w pb all ts told) : ts.length ≤ 1000000 ∧ 0 < ts.length := by
  obtain ⟨h1, h2, ⟨p, e, h3, h3'⟩, h4, h5, vt, vd, i, h6, h7, h8, h9, h10⟩ := h
  refine ⟨?_, by rw [h3]; simp⟩
  rw [h9, List.length_drop]; omega
theorem info39 : (Tryz.prog.info? 26).map (fun i => (i.zero, i.size, i.bytes)) = some (some (.agg #[.int .i64 0, .string ⟨#[]⟩, .slice none 0 0, .slice none 0 0]), 4, 72) := by kernel_rfl
theorem Fr.grownNew {n₀ : Nat} {w W W' : World} (h : Fr n₀ w W) {row : Option Nat} (hg : W.grownBy W' row) (ht : ∀ b, row = some b → w.heap.size ≤ b) : Fr n₀ w W' := by
  refine ⟨hg.os.trans h.os, hg.tape.trans h.tape, hg.output.trans h.output, Nat.le_trans h.size hg.size, fun k o hk hd => ?_⟩
  have hk' := h.block k o hk hd
  refine (hg.block k (Array.getElem?_eq_some_iff.1 hk').1 ?_).trans hk'
  intro e1
  have := ht k e1.symm
  have := (Array.getElem?_eq_some_iff.1 hk).1
  omega
theorem blk_grown {w w' : World} {row : Option Nat} {b : Nat} {o : Obj} (h : w.heap[b]? = some o) (hg : w.grownBy w' row) (hn : some b ≠ row) : w'.heap[b]? = some o := (hg.block b (Array.getElem?_eq_some_iff.1 h).1 hn).trans h
theorem tail_of {ts : List Tk} (h : 0 < ts.length) : ts.tail.length + 1 = ts.length := by rw [List.length_tail]; omega
theorem joinT_many {l : List PT} (h : ¬ l.length = 1) : joinT l = .mk 7 [] [] l := by
  match l with
  | [] => rfl
  | [t] => simp at h
  | t :: u :: r => rfl
set_option maxHeartbeats 4000000 in
theorem typ_any {B M : Nat} {pb : Nat} {all : List Tk} (k d : Nat)
    (HA : ∀ w ts told, PS B M w pb all ts told → Calls Tryz.prog 80 #[.pointer (some ⟨pb, 0, none⟩), .int .i64 (d : Nat)] w (Post B M w pb all told (vT w.heap.size) (arr k ts)))
    (w : World) (ts : List Tk) (told : List Dn) (h : PS B M w pb all ts told) :
    Calls Tryz.prog 43 #[.pointer (some ⟨pb, 0, none⟩), .int .i64 (d : Nat)] w (Post B M w pb all told (vT w.heap.size) (typP (arr k) ts)) := by
  obtain ⟨i0, hi, hz0, hz1, hz2⟩ := info_parts info39
  have HA := Lib.hid HA
  have HPB := Lib.hid h.lt
  have p0 := Lib.hid (h.alloc zT)
  have HL := Lib.hid h.len
  have hA0 : (w.alloc zT).heap[w.heap.size]? = some zT := heap_alloc_new w _
  have hF0 : Fr B w (w.alloc zT) := (Fr.refl B w).alloc _
  have HB := Lib.hid h.hi
  clear h
  obtain ⟨res, hres⟩ : ∃ res, res = typP (arr k) ts := ⟨_, rfl⟩
  rw [← hres]
  have HQ := Lib.hid hres
  clear hres
  go_enter Tryz.func43, Tryz.ntmps43
  go_wp2_with fail
  refine (HA.out _ _ _ p0.out).mono ?_
  rintro e w1 ⟨f1, h1⟩
  cases hr : arr k ts with
  | bad y rest ds =>
    rw [hr] at h1
    obtain ⟨rfl, p1⟩ := h1
    go_wp2_with fail
    exact panics rfl (.bad (HQ.out.trans (by rw [typP, hr, R.bind_bad])) (hF0.trans f1) p1)
  | ok x rest ds =>
    have HS := Lib.hid (show rest.length ≤ ts.length by have := (lvT_shr k).2 ts; rw [hr] at this; exact this)
    have HW := Lib.hid (HQ.out.trans (by rw [typP, hr, R.bind_ok]))
    rw [hr] at h1
    obtain ⟨⟨cs, rfl, hcs⟩, p1⟩ := h1
    obtain ⟨tk, tn, a2, n2, c2, a3, n3, c3, rfl⟩ := cells_T hcs
    have hA1 := blk_alloc (f1.cells hA0 (by decide)) (.cells #[.int .i64 tk, .string tn, .slice a2 n2 c2, .slice a3 n3 c3] 26)
    have HA1 := Lib.hid hA1
    have HF1 := Lib.hid ((hF0.trans f1).alloc (.cells #[.int .i64 tk, .string tn, .slice a2 n2 c2, .slice a3 n3 c3] 26))
    have HL0 := Lib.hid (show w.heap.size < w1.heap.size by have := f1.size; simp at this; omega)
    have C1 := Lib.hid ((hcs.below ((Below.refl _ _).alloc (Nat.le_refl _) (.cells #[.int .i64 tk, .string tn, .slice a2 n2 c2, .slice a3 n3 c3] 26))).mono (A' := fun b => w.heap.size < b) (fun b _ hb => by simp at hb; omega))
    have C1' := Lib.hid (hcs)
    have P1 := Lib.hid (p1.alloc (.cells #[.int .i64 tk, .string tn, .slice a2 n2 c2, .slice a3 n3 c3] 26))
    clear hr f1 p1 hcs hF0 p0 hA0 hA1
    go_wp2_with fail
    go_loopw [5] (fun s5 wr => ∃ (acc : List PT) (ts' : List Tk) (ds' : List Dn) (n : Nat) (xs : List Value) (g cap : Nat), s5 = .slice (some ⟨g, 0, none⟩) acc.length cap ∧ ts'.length ≤ n ∧ acc.length + ts'.length ≤ 1000001 ∧ 0 < acc.length ∧ PS B M wr pb all ts' (told ++ ds') ∧ Fr B w wr ∧ w.heap.size < g ∧ wr.ownsRow 0 26 4 s5 acc.length xs ∧ IsCs (fun b => w.heap.size < b ∧ b ≠ g) wr (encTs 26 acc) xs ∧ wr.heap[w.heap.size]? = some zT ∧ Hid (res = ((unionP (arr k) n acc ts').bind fun l r => .ok (joinT l) r []).tell ds')) (fun _ wr => left pb all wr)
    case atStart =>
      refine ⟨[x], rest, ds, rest.length, [.int .i64 tk, .string tn, .slice a2 n2 c2, .slice a3 n3 c3], w1.heap.size, 1, rfl, Nat.le_refl _, ?_, by simp, P1.out, HF1.out, HL0.out, ?_, ?_, HA1.out, HW.out⟩
      · have := HS.out; have := HL.out.1; simp; omega
      · exact World.ownsRow_lit w1 _ 1 (Nat.zero_le _) (by decide) rfl
      · have := (C1'.out.mono (A' := fun b => w.heap.size < b ∧ b ≠ w1.heap.size) (fun b hb hb' => by simp at hb'; exact ⟨by omega, by omega⟩)).below ((Below.refl _ _).alloc (Nat.le_refl _) (.cells #[.int .i64 tk, .string tn, .slice a2 n2 c2, .slice a3 n3 c3] 26))
        simpa [encTs] using this
    case round =>
      obtain ⟨acc, ts', ds', n, xs, g, cap, rfl, hn, hac, hpos, p, hF, hg, hrow, hcs, hA, hq⟩ := hrel
      have P := Lib.hid p
      have F := Lib.hid hF
      have HR := Lib.hid hrow
      have C := Lib.hid hcs
      have HAr := Lib.hid hA
      have HN := Lib.hid hn
      have HAC := Lib.hid hac
      have HG := Lib.hid hg
      have HLE := Lib.hid p.left
      have HL' := Lib.hid p.len
      clear p hF hrow hcs hA hn hac hg
      go_wp2_with fail
      refine (takes_any P.out [124]).mono ?_
      rintro e w2 ⟨rfl, p2, f2⟩
      have F2 := Lib.hid (F.out.trans f2)
      have R2 := Lib.hid (f2.row HR.out (by decide))
      have C2 := Lib.hid (IsCs.fr f2 _ _ C.out)
      have A2 := Lib.hid (f2.cells HAr.out (by decide))
      clear f2 F HR C HAr
      cases hm : isM [124] ts' with
      | true =>
        simp only [hm, if_true] at p2
        have P2 := Lib.hid p2
        obtain ⟨n', rfl⟩ : ∃ n', n = n' + 1 := ⟨n - 1, by have := HN.out; have := HL'.out.2; omega⟩
        have hq2 : res = (((arr k ts'.tail).bind fun t r => unionP (arr k) n' (acc ++ [t]) r).bind fun l r => .ok (joinT l) r []).tell ds' := by rw [hq.out, unionP, hm]; rfl
        have HQ2 := Lib.hid hq2
        have HT := Lib.hid (tail_of HL'.out.2)
        clear p2 hm hq2 hq
        go_wp2_with fail
        refine (HA.out _ _ _ P2.out).mono ?_
        rintro e w3 ⟨f3, h3⟩
        cases hr : arr k ts'.tail with
        | bad y r3 d3 =>
          rw [hr] at h3
          obtain ⟨rfl, p3⟩ := h3
          go_wp2_with fail
          exact panics rfl (.bad (HQ2.out.trans (by rw [hr, R.bind_bad, R.bind_bad, R.tell_bad])) (F2.out.trans f3) p3.assoc)
        | ok y r3 d3 =>
          have HS3 := Lib.hid (show r3.length ≤ ts'.tail.length by have := (lvT_shr k).2 ts'.tail; rw [hr] at this; exact this)
          rw [hr] at h3
          obtain ⟨⟨cs, rfl, hcs⟩, p3⟩ := h3
          obtain ⟨yk, yn, b2, m2, e2, b3, m3, e3, rfl⟩ := cells_T hcs
          have HQ3 := Lib.hid (show res = ((unionP (arr k) n' (acc ++ [y]) r3).bind fun l r => .ok (joinT l) r []).tell (ds' ++ d3) from HQ2.out.trans (by rw [hr, R.bind_ok, R.bind_tell, R.tell_tell]))
          have F3 := Lib.hid ((F2.out.trans f3).alloc (.cells #[.int .i64 yk, .string yn, .slice b2 m2 e2, .slice b3 m3 e3] 26))
          have R3 := Lib.hid ((f3.row R2.out (by decide)).alloc (.cells #[.int .i64 yk, .string yn, .slice b2 m2 e2, .slice b3 m3 e3] 26))
          have HGL := Lib.hid (show g < w2.heap.size from (R2.out.lt g rfl).2)
          have C3 := Lib.hid ((IsCs.fr f3 _ _ C2.out).below ((Below.refl _ _).alloc (Nat.le_refl _) (.cells #[.int .i64 yk, .string yn, .slice b2 m2 e2, .slice b3 m3 e3] 26)))
          have A3 := Lib.hid (blk_alloc (f3.cells A2.out (by decide)) (.cells #[.int .i64 yk, .string yn, .slice b2 m2 e2, .slice b3 m3 e3] 26))
          have P3 := Lib.hid (p3.alloc (.cells #[.int .i64 yk, .string yn, .slice b2 m2 e2, .slice b3 m3 e3] 26))
          have E3 := Lib.hid ((hcs.mono (A' := fun b => w.heap.size < b ∧ b ≠ g ∧ b ≠ w3.heap.size) (fun b hb hb' => by have := HGL.out; have := HG.out; exact ⟨by omega, by omega, by omega⟩)).below ((Below.refl _ _).alloc (Nat.le_refl _) (.cells #[.int .i64 yk, .string yn, .slice b2 m2 e2, .slice b3 m3 e3] 26)))
          have HSZ := Lib.hid (show w2.heap.size ≤ w3.heap.size from f3.size)
          have hnb := World.news_of_block (heap_alloc_new w3 (.cells #[.int .i64 yk, .string yn, .slice b2 m2 e2, .slice b3 m3 e3] 26))
          have HNB := Lib.hid hnb
          have HONE := Lib.hid (hcs.one)
          have hmx : acc.length + 1 ≤ maxLen := by have := HAC.out; unfold maxLen; omega
          have hmb : (acc.length + 1) * 72 ≤ 140737488355328 := by have := HAC.out; omega
          clear f3 p3 hcs hr hnb F2 R2 A2 P2 C2
          go_wp2_with (first | (at_builtin; refine wpList_append_lies _ rfl (.tmp 12) (.tmp 16) 24 rfl 0 26 i0 _ 4 72 Tryz.underlying24 hi hz0 hz1 hz2 rfl (by decide) (.slice (some ⟨g, 0, none⟩) acc.length cap) acc.length xs rfl R3.out ⟨w3.heap.size, 0, none⟩ 1 1 [.int .i64 yk, .string yn, .slice b2 m2 e2, .slice b3 m3 e3] rfl rfl HNB.out HONE.out (by decide) hmx hmb (Nat.zero_le _) (w3.heap.size + 1) (World.size_alloc _ _) ?_; intro g' cap' w4 hown4 hg4 hat4 hlt4))
          have hgg : w.heap.size < g' := by
            have := HG.out
            rcases hat4 with e | e
            · cases e; exact this
            · have := HSZ.out; have := HGL.out; omega
          have hP4 : PS B M w4 pb all r3 (told ++ (ds' ++ d3)) := (P3.out.grown R3.out (by decide) (fun b hb => by have e : g = b := Option.some.inj hb; have := HG.out; have := HPB.out; omega) hg4).assoc
          refine ⟨⟨acc ++ [y], r3, ds' ++ d3, n', xs ++ [.int .i64 yk, .string yn, .slice b2 m2 e2, .slice b3 m3 e3], g', cap', by simp, ?_, ?_, by simp, hP4, F3.out.grownNew hg4 (fun b hb => by cases hb; exact Nat.le_of_lt HG.out), hgg, by simpa using hown4, ?_, blk_grown A3.out hg4 (fun e => by cases e; exact absurd HG.out (Nat.lt_irrefl _)), HQ3⟩, ?_⟩
          · have := HS3.out; have := HT.out; have := HN.out; omega
          · have := HS3.out; have := HT.out; have := HAC.out; simp; omega
          · rw [encTs_append]
            have c1 := (C3.out.mono (A' := fun b => w.heap.size < b ∧ b ≠ g ∧ b < w3.heap.size + 1) (fun b hb hb' => ⟨hb'.1, hb'.2, by simpa using hb⟩)).grown hg4 (fun b hb e => by cases e; exact hb.2.1 rfl)
            have c2 := (E3.out.mono (A' := fun b => w.heap.size < b ∧ b ≠ g ∧ b < w3.heap.size + 1) (fun b hb hb' => ⟨hb'.1, hb'.2.1, by simpa using hb⟩)).grown hg4 (fun b hb e => by cases e; exact hb.2.1 rfl)
            have c3 : IsCs (fun b => w.heap.size < b ∧ b ≠ g ∧ b < w3.heap.size + 1) w4 (encTs 26 acc ++ encTs 26 [y]) (xs ++ [.int .i64 yk, .string yn, .slice b2 m2 e2, .slice b3 m3 e3]) := c1.append _ _ _ _ (by simpa [encTs] using c2)
            refine c3.mono (fun b _ hb => ⟨hb.1, ?_⟩)
            rcases hat4 with e | e
            · cases e; exact hb.2.1
            · omega
          · rw [hP4.left, HLE.out]
            have := HS3.out; have := HT.out; omega
      | false =>
        simp only [hm, Bool.false_eq_true, if_false] at p2
        have P2 := Lib.hid p2
        have hun : unionP (arr k) n acc ts' = .ok acc ts' [] := by
          cases n with
          | zero => rfl
          | succ n => rw [unionP, hm]; rfl
        have HQ2 := Lib.hid (show res = .ok (joinT acc) ts' (ds' ++ []) by rw [hq.out, hun]; rfl)
        obtain ⟨⟨q0, q1, q2, q3⟩, u0, u1, u2, u3⟩ := fou_of (t := 26) A2.out
        have HGL := Lib.hid (show g < w2.heap.size from (R2.out.lt g rfl).2)
        clear p2 hm hun hq
        by_cases h1 : acc.length = 1
        · obtain ⟨y, rfl⟩ : ∃ y, acc = [y] := List.length_eq_one_iff.1 h1
          have C2' := Lib.hid (show IsCs (fun b => w.heap.size < b ∧ b ≠ g) w2 (encT 26 y) xs by have := C2.out; simpa [encTs] using this)
          obtain ⟨yk, yn, b2, m2, e2, b3, m3, e3, rfl⟩ := cells_T C2'.out
          have r0 := R2.out.cellAt 0 (by simp)
          have r1 := R2.out.cellAt 1 (by simp)
          have r2 := R2.out.cellAt 2 (by simp)
          have r3 := R2.out.cellAt 3 (by simp)
          simp only [List.getElem?_cons_zero, List.getElem?_cons_succ] at r0 r1 r2 r3
          clear h1
          go_wp2_with fail
          exact ret39 rfl rfl rfl (putL_at (vs := [.int .i64 yk, .string yn, .slice b2 m2 e2, .slice b3 m3 e3]) A2.out rfl) (.ok HQ2.out (F2.out.putL (Nat.le_refl _) [_, _, _, _]) ⟨_, rfl, (C2'.out.putL w.heap.size (fun b hb => Nat.ne_of_gt hb.1) [.int .i64 yk, .string yn, .slice b2 m2 e2, .slice b3 m3 e3]).mono (fun b _ hb => Nat.le_of_lt hb.1)⟩ (by rw [List.append_nil]; exact P2.out.putL A2.out (by decide) HPB.out [.int .i64 yk, .string yn, .slice b2 m2 e2, .slice b3 m3 e3]))
        · have h1' : ((acc.length : Int) == 1) = false := by simp; omega
          have h1'' : ¬ (acc.length : Int) = 1 := by omega
          go_wp2_with fail
          have R3 : (putL w2 w.heap.size [.int .i64 7, .string ⟨#[]⟩, .slice none 0 0, .slice (some ⟨g, 0, none⟩) acc.length cap]).ownsRow 0 26 4 (.slice (some ⟨g, 0, none⟩) acc.length cap) acc.length xs :=
            row_kept (S := fun b => b = w.heap.size) R2.out (by rw [(putL_same w.heap.size [.int .i64 7, .string ⟨#[]⟩, .slice none 0 0, .slice (some ⟨g, 0, none⟩) acc.length cap] 0 w2).2.2.2]; exact Nat.le_refl _) (fun b _ hb => putL_far _ _ _ _ _ hb) (fun b hb => by cases hb; exact Nat.ne_of_gt HG.out)
          have C3 := C2.out.putL w.heap.size (fun b hb => Nat.ne_of_gt hb.1) [.int .i64 7, .string ⟨#[]⟩, .slice none 0 0, .slice (some ⟨g, 0, none⟩) acc.length cap]
          have C4 : IsCs (fun b => w.heap.size < b) (putL w2 w.heap.size [.int .i64 7, .string ⟨#[]⟩, .slice none 0 0, .slice (some ⟨g, 0, none⟩) acc.length cap]) (encT 26 (joinT acc)) [.int .i64 7, .string ⟨#[]⟩, .slice none 0 0, .slice (some ⟨g, 0, none⟩) acc.length cap] := by
            rw [joinT_many h1]
            simp only [encT, List.map_nil, List.length_nil]
            exact .cons (.num _ _ _) (.cons (.str _ _ _) (.cons (.none _ _ _ (by decide)) (.cons (.row (by decide) R3 (fun b hb => by cases hb; exact HG.out) (C3.mono (fun b _ hb => hb.1))) (.nil _ _))))
          exact ret39 rfl rfl rfl (putL_at (vs := [.int .i64 7, .string ⟨#[]⟩, .slice none 0 0, .slice (some ⟨g, 0, none⟩) acc.length cap]) A2.out rfl) (.ok HQ2.out (F2.out.putL (Nat.le_refl _) [_, _, _, _]) ⟨_, rfl, C4.mono (fun b _ hb => Nat.le_of_lt hb)⟩ (by rw [List.append_nil]; exact P2.out.putL A2.out (by decide) HPB.out [.int .i64 7, .string ⟨#[]⟩, .slice none 0 0, .slice (some ⟨g, 0, none⟩) acc.length cap]))
end Go.Proofs.YtijnjoonbjdafaaGreatDoor

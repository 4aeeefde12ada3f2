/-
  The contract of readFields, at types.
-/
import Derived.Test.YtijnjoonbjdafaaGreatDoorTyp
import Derived.Deep.CutRange
namespace Go.Proofs.YtijnjoonbjdafaaGreatDoor
set_option maxRecDepth 20000
open Go.RowKit Go.Shelf Go.Maps
def SetIs (w : World) (mb : Nat) (seen : List Bs) : Prop := ∃ D : DataW Unit, w.ownsMap Tryz.prog 9 unitElem mb seen.length D ∧ Maps.IsMap D ∧ ∀ s : Bs, Maps.has D (.string s) = decide (s ∈ seen)
theorem SetIs.made (w : World) : SetIs (w.alloc (.map #[] 0)) w.heap.size [] := ⟨.map [], World.ownsMap_made _ _ _ _, Maps.isMap_empty, fun s => by simp [Maps.has_eq]⟩
theorem SetIs.fr {n₀ : Nat} {w w' : World} {mb : Nat} {seen : List Bs} (h : SetIs w mb seen) (hF : Fr n₀ w w') : SetIs w' mb seen := by
  obtain ⟨D, ⟨es, clock, hb, r⟩, h2⟩ := h
  exact ⟨D, ⟨es, clock, hF.block mb _ hb (.inr fun _ _ _ e => by cases e), r⟩, h2⟩
theorem SetIs.alloc {w : World} {mb : Nat} {seen : List Bs} (h : SetIs w mb seen) (o : Obj) : SetIs (w.alloc o) mb seen := h.fr (n₀ := 0) ((Fr.refl _ _).alloc o)
theorem SetIs.put {w : World} {mb : Nat} {seen : List Bs} {D : DataW Unit} (h : w.ownsMap Tryz.prog 9 unitElem mb (seen.length + 1) D) {D0 : DataW Unit} (h0 : Maps.IsMap D0) (hs : ∀ s : Bs, Maps.has D0 (.string s) = decide (s ∈ seen)) (x : Bs) (hD : D = D0.put (.string x) (.agg [])) : SetIs w mb (x :: seen) := by
  subst hD
  refine ⟨_, h, h0.put _ _, fun s => ?_⟩
  by_cases e : s = x
  · subst e
    rw [Maps.has_put_same h0 (show WideAt.IsKeyLit (.string s) from trivial)]
    simp
  · rw [Maps.has_put_other (fun e' => e (by injection e')), hs]
    simp [e]
theorem SetIs.lt {w : World} {mb : Nat} {seen : List Bs} (h : SetIs w mb seen) : mb < w.heap.size := by
  obtain ⟨D, ⟨es, clock, hb, r⟩, h2⟩ := h
  exact (Array.getElem?_eq_some_iff.1 hb).1
theorem SetIs.grown {w w' : World} {mb : Nat} {seen : List Bs} (h : SetIs w mb seen) {row : Option Nat} (hg : w.grownBy w' row) (hn : some mb ≠ row) : SetIs w' mb seen := by
  obtain ⟨D, ⟨es, clock, hb, r⟩, h2⟩ := h
  exact ⟨D, ⟨es, clock, blk_grown hb hg hn, r⟩, h2⟩
theorem map_fr {n₀ : Nat} {w w' : World} {mb n : Nat} {D : DataW Unit} (h : w.ownsMap Tryz.prog 9 unitElem mb n D) (hF : Fr n₀ w w') : w'.ownsMap Tryz.prog 9 unitElem mb n D := by
  obtain ⟨es, clock, hb, r⟩ := h
  exact ⟨es, clock, hF.block mb _ hb (.inr fun _ _ _ e => by cases e), r⟩
theorem PS.told_eq {B M : Nat} {w : World} {pb : Nat} {all ts : List Tk} {t1 t2 : List Dn} (h : PS B M w pb all ts t1) (e : t1 = t2) : PS B M w pb all ts t2 := e ▸ h
theorem PS.hd_mem {B M : Nat} {w : World} {pb : Nat} {all ts : List Tk} {told : List Dn} (h : PS B M w pb all ts told) : hd ts ∈ all := by
  obtain ⟨-, -, h3, -, -, vt, vd, i, -, -, -, h9, -⟩ := h
  have : hd ts ∈ ts := by
    obtain ⟨p, e, h3, -⟩ := h3
    rw [h3]
    cases p <;> simp [hd]
  rw [h9] at this
  rw [h9]
  exact List.mem_of_mem_drop this
theorem law9 : Keyed Tryz.prog 9 := string_keyed Tryz.underlying9
theorem zero159 (w : World) : (zeroValue 139).run Tryz.prog w = .ok (.agg #[]) w := by kernel_rfl
theorem key9 {s : Bs} (h : s.length ≤ 1000000) : keyOf Tryz.prog 9 (.string ⟨s.toArray⟩) = some (.string s) := by
  have := WideMaps.keyOf_string_mk (P := Tryz.prog) (k := 9) Tryz.underlying9 (s := ⟨s.toArray⟩) (by unfold maxLen; rw [Lib.size_eq]; simp; omega)
  simpa using this
theorem info65 : (Tryz.prog.info? 153).map (fun i => (i.zero, i.size, i.bytes)) = some (some (.agg #[.int .i64 0, .int .i64 0, .string ⟨#[]⟩]), 3, 32) := by kernel_rfl
theorem PS.tells {B M : Nat} {w w' w'' : World} {pb : Nat} {all ts : List Tk} {told : List Dn} (h : PS B M w pb all ts told) (y : Dn) (hM : told.length + 1 + ts.length ≤ M) {v0 v1 v2 : Value} (hp : w.heap[pb]? = some (.cells #[v0, v1, v2] 112 (0, 0))) {g cap : Nat} (hg : w.grownBy w' v2.ownBlock) (hr : w'.ownsRow B 153 3 (.slice (some ⟨g, 0, none⟩) (told.length + 1) cap) (told.length + 1) (dnCells told ++ y.cells))
    (hv : v2.ownBlock = some g ∨ w.heap.size ≤ g) (hw : w'' = w'.setCell ⟨pb, 2, none⟩ (.slice (some ⟨g, 0, none⟩) (told.length + 1) cap)) : PS B M w'' pb all ts (told ++ [y]) ∧ Fr B w w'' := by
  subst hw
  obtain ⟨h1, h2, h3, h4, h5, vt, vd, i, h6, h7, h8, h9, h10⟩ := h
  have hpb := (Array.getElem?_eq_some_iff.1 hp).1
  rw [hp] at h6
  simp only [Option.some.injEq, Obj.cells.injEq, Array.mk.injEq, List.cons.injEq, and_true] at h6
  obtain ⟨rfl, rfl, rfl⟩ := h6
  have hF : Fr B w w' := (Fr.refl B w).grown h8 (.inl (by decide)) hg
  have hne : some pb ≠ v2.ownBlock := by
    intro e
    rcases h8.2 with ⟨rfl, _⟩ | ⟨g', cap', cur, rfl, _, hgg, _⟩
    · cases e
    · simp only [Value.ownBlock, Option.some.injEq] at e
      subst e
      rw [hp] at hgg
      cases hgg
  have hp' : w'.heap[pb]? = some (.cells #[v0, .int .i64 (i : Nat), v2] 112 (0, 0)) := (hg.block pb hpb hne).trans hp
  have hne2 : ∀ {base : Nat} {e : TypeId} {v : Value} {n : Nat} {xs : List Value}, w'.ownsRow base e 3 v n xs → e ≠ 112 → ∀ u, (w'.setCell ⟨pb, 2, none⟩ u).ownsRow base e 3 v n xs := by
    intro base e v n xs hr he u
    refine ⟨hr.1, ?_⟩
    rcases hr.2 with hn | ⟨g, cap, cur, hv, hg0, hg, rest⟩
    · exact .inl hn
    · refine .inr ⟨g, cap, cur, hv, hg0, (Below.heap_setCell w' ⟨pb, 2, none⟩ _ g ?_).trans hg, rest⟩
      rintro rfl
      rw [hp'] at hg
      cases hg
      exact he rfl
  refine ⟨⟨h1, by have := hg.size; simp [World.setCell]; omega, h3, by simp; omega, h5, v0, _, i, heap_setCell_same w' pb 2 _ _ _ hp', hne2 (hF.row h7 (by decide)) (by decide) _, ?_, h9, h10⟩, hF.setOwn hp' (by decide) h1 _⟩
  rw [dnCells_snoc, List.length_append]
  exact hne2 hr (by decide) _
theorem PS.mapped {B M : Nat} {w w' : World} {pb : Nat} {all ts : List Tk} {told : List Dn} (h : PS B M w pb all ts told) {mb : Nat} {seen : List Bs} (hs : SetIs w mb seen) (hg : w.grownBy w' (some mb)) (hlt : pb < mb) : PS B M w' pb all ts told := by
  obtain ⟨D, ⟨es, clock, hb, -⟩, -⟩ := hs
  refine h.other hg.size fun k o hk hd => (hg.block k (Array.getElem?_eq_some_iff.1 hk).1 ?_).trans hk
  intro e
  have e' : k = mb := Option.some.inj e
  subst e'
  rcases hd with hd | ⟨c, fz, rfl⟩
  · omega
  · rw [hb] at hk; cases hk
theorem wantName_ok {ts : List Tk} {nm : Tk} {r : List Tk} {d : List Dn} (h : wantName ts = .ok nm r d) : nm = hd ts ∧ r = ts.tail ∧ d = [] := by
  unfold wantName at h
  split at h
  · injection h with h1 h2 h3
    exact ⟨h1.symm, h2.symm, h3.symm⟩
  · cases h
def encFT (l : List (Bs × PT)) : List Dt := l.flatMap fun x => .str x.1 :: encT 26 x.2
theorem encFT_snoc (l : List (Bs × PT)) (x : Bs × PT) : encFT (l ++ [x]) = encFT l ++ (.str x.1 :: encT 26 x.2) := by simp [encFT]
def vFT (lo : Nat) (fs : List (Bs × PT)) (e : Ending) (w' : World) : Prop := ∃ v xs, e = .returned v ∧ w'.ownsRow 0 252 5 v fs.length xs ∧ (∀ b, v.ownBlock = some b → lo ≤ b) ∧ IsCs (fun b => lo ≤ b ∧ some b ≠ v.ownBlock) w' (encFT fs) xs
theorem info141 : (Tryz.prog.info? 252).map (fun i => (i.zero, i.size, i.bytes)) = some (some (.agg #[.string ⟨#[]⟩, .int .i64 0, .string ⟨#[]⟩, .slice none 0 0, .slice none 0 0]), 5, 88) := by kernel_rfl
set_option maxHeartbeats 8000000 in
theorem fields_T {B M : Nat} {pb : Nat} {all : List Tk} (hM : M ≤ 10000000) (hall : ∀ t ∈ all, t.t.length ≤ 1000000) (sign : Bs) (read : List Tk → R PT) (hshr : ∀ ts, Shr ts.length (read ts)) (b0 b1 : Nat) (Bx : World → Prop) (hBx : ∀ w w', Bx w → Fr B w w' → Bx w')
    (HC : ∀ w ts told, PS B M w pb all ts told → Bx w → Calls Tryz.prog 191 #[.pointer (some ⟨b0, 0, none⟩), .pointer (some ⟨b1, 0, none⟩)] w (Post B M w pb all told (vT w.heap.size) (read ts)))
    (w : World) (ts : List Tk) (told : List Dn) (h : PS B M w pb all ts told) (hb : Bx w) :
    Calls Tryz.prog 190 #[.pointer (some ⟨pb, 0, none⟩), .string ⟨sign.toArray⟩, .func (.func 191) #[] #[.pointer (some ⟨b0, 0, none⟩), .pointer (some ⟨b1, 0, none⟩)]] w (Post B M w pb all told (vFT w.heap.size) (readP sign read ts)) := by
  have hmm := @run_makeMap Tryz.prog
  obtain ⟨i0, hi, hz0, hz1, hz2⟩ := info_parts info141
  obtain ⟨j0, hj, hy0, hy1, hy2⟩ := info_parts info65
  have HC := Lib.hid HC
  have HSH := Lib.hid hshr
  have HALL := Lib.hid hall
  have HBX := Lib.hid hBx
  have HPB := Lib.hid h.lt
  have HL := Lib.hid h.len
  have HB0 := Lib.hid hb
  have HB := Lib.hid h.hi
  have P0 := Lib.hid h
  clear h hb hshr hall hBx
  obtain ⟨res, hres⟩ : ∃ res, res = readP sign read ts := ⟨_, rfl⟩
  rw [← hres]
  have HQ := Lib.hid hres
  clear hres
  go_enter Tryz.func190, Tryz.ntmps190
  go_wp2_with fail
  refine (takes_any P0.out [125]).mono ?_
  rintro e w1 ⟨rfl, p1, f1⟩
  cases hm : isM [125] ts with
  | true =>
    simp only [hm, if_true] at p1
    have hq : res = .ok [] ts.tail [] := by rw [HQ.out, readP, hm]; rfl
    have HW := Lib.hid hq
    clear hm hq
    go_wp2_with fail
    go_ret
    exact .ok HW.out f1 ⟨_, [], rfl, World.ownsRow_nil _ _ _ _, fun b hb => (by cases hb), IsCs.nil _ _⟩ p1.nil
  | false =>
    simp only [hm, Bool.false_eq_true, if_false] at p1
    have hq : res = fieldsP sign read ts.length [] [] ts := by rw [HQ.out, readP, hm]; rfl
    have HW := Lib.hid hq
    have P1 := Lib.hid p1
    have F1 := Lib.hid f1
    have B1 := Lib.hid (HBX.out _ _ HB0.out f1)
    clear hm hq p1 f1
    go_wp2_with fail
    go_loopw [7] (fun s7 wr => ∃ (seen : List Bs) (acc : List (Bs × PT)) (ts' : List Tk) (ds' : List Dn) (n : Nat) (xs : List Value), ts'.length ≤ n ∧ acc.length + ts'.length ≤ 1000000 ∧ seen.length + ts'.length ≤ 1000000 ∧ PS B M wr pb all ts' (told ++ ds') ∧ Fr B w wr ∧ SetIs wr w1.heap.size seen ∧ wr.ownsRow 0 252 5 s7 acc.length xs ∧ (∀ b, s7.ownBlock = some b → w1.heap.size < b) ∧ IsCs (fun b => w1.heap.size < b ∧ some b ≠ s7.ownBlock) wr (encFT acc) xs ∧ Hid (res = (fieldsP sign read n seen acc ts').tell ds')) (fun _ wr => left pb all wr)
    case atStart =>
      refine ⟨[], [], ts, [], ts.length, [], Nat.le_refl _, by simpa using HL.out.1, by simpa using HL.out.1, (P1.out.alloc _).nil, F1.out.alloc _, SetIs.made _, World.ownsRow_nil _ _ _ _, fun b hb => (by cases hb), IsCs.nil _ _, ?_⟩
      rw [HW.out, R.tell_nil]
      exact rfl
    case round =>
      obtain ⟨seen, acc, ts', ds', n, xs, hn, hac, hse, p, hF, hset, hrow, hown, hcs, hq⟩ := hrel
      have P := Lib.hid p
      have F := Lib.hid hF
      have S := Lib.hid hset
      have HR := Lib.hid hrow
      have HO := Lib.hid hown
      have C := Lib.hid hcs
      have HN := Lib.hid hn
      have HAC := Lib.hid hac
      have HSE := Lib.hid hse
      have HLE := Lib.hid p.left
      have HL' := Lib.hid p.len
      have HT := Lib.hid (tail_of p.len.2)
      have HMEM := Lib.hid (HALL.out _ p.hd_mem)
      have hbd := p.bd
      have HBD := Lib.hid hbd
      have HMB := Lib.hid hset.lt
      obtain ⟨n', rfl⟩ : ∃ n', n = n' + 1 := ⟨n - 1, by have := p.len.2; omega⟩
      clear p hF hset hrow hown hcs hn hac hse hbd
      go_wp2_with fail
      refine (wantName_any P.out).mono ?_
      rintro e w2 ⟨f2, h2⟩
      cases hr : wantName ts' with
      | bad y r2 d2 =>
        rw [hr] at h2
        obtain ⟨rfl, p2⟩ := h2
        go_wp2_with fail
        exact panics rfl (.bad (hq.out.trans (by rw [fieldsP, hr, R.bind_bad, R.tell_bad])) (F.out.trans f2) p2.assoc)
      | ok nm r2 d2 =>
        rw [hr] at h2
        obtain ⟨h2, p2⟩ := h2
        cases h2
        obtain ⟨e1, rfl, rfl⟩ := wantName_ok hr
        have hk : nm.t.length ≤ 1000000 := by rw [e1]; exact HMEM.out
        have HKEY := Lib.hid (key9 hk)
        rw [List.append_nil] at p2
        have TK := Lib.hid (show (w2.alloc (.cells #[.int .i64 (nm.k : Nat), .int .i64 (nm.a : Nat), .string ⟨nm.t.toArray⟩] 105)).heap[w2.heap.size]? = _ from heap_alloc_new w2 _)
        have P2 := Lib.hid (p2.alloc (.cells #[.int .i64 (nm.k : Nat), .int .i64 (nm.a : Nat), .string ⟨nm.t.toArray⟩] 105))
        have F2 := Lib.hid ((F.out.trans f2).alloc (.cells #[.int .i64 (nm.k : Nat), .int .i64 (nm.a : Nat), .string ⟨nm.t.toArray⟩] 105))
        have S2 := Lib.hid ((S.out.fr f2).alloc (.cells #[.int .i64 (nm.k : Nat), .int .i64 (nm.a : Nat), .string ⟨nm.t.toArray⟩] 105))
        have R2 := Lib.hid ((f2.row HR.out (by decide)).alloc (.cells #[.int .i64 (nm.k : Nat), .int .i64 (nm.a : Nat), .string ⟨nm.t.toArray⟩] 105))
        have C2 := Lib.hid ((IsCs.fr f2 _ _ C.out).below ((Below.refl _ _).alloc (Nat.le_refl _) (.cells #[.int .i64 (nm.k : Nat), .int .i64 (nm.a : Nat), .string ⟨nm.t.toArray⟩] 105)))
        have HSZ2 := Lib.hid (show wr.heap.size ≤ w2.heap.size from f2.size)
        have HQ2 := Lib.hid (hq.out.trans (by rw [fieldsP, hr, R.bind_ok, R.tell_nil]))
        clear hr p2 f2 e1 hk S HR C F P hq
        obtain ⟨D, hmo, hmi, hms⟩ := S2.out
        have MO := Lib.hid hmo
        have MS := Lib.hid hms
        have MI := Lib.hid hmi
        clear hmo hms hmi
        unfold tokV
        obtain ⟨tw, htw⟩ : ∃ tw : Bool, tw = decide (nm.t ∈ seen) := ⟨_, rfl⟩
        have hhas : Maps.has D (.string nm.t) = tw := by rw [MS.out, htw]
        have HTW := Lib.hid htw
        clear htw
        go_upto_if 25 with (first
            | (at_lookup; refine wpList_lookup_own_unit _ rfl _ _ 135 rfl 9 139 law9 Tryz.underlying135 (zero159 _) w1.heap.size _ D rfl MO.out _ _ rfl HKEY.out ?_; rw [hhas]))
        obtain ⟨W3, hW3⟩ : ∃ W3, (w2.alloc (.cells #[.int .i64 (nm.k : Nat), .int .i64 (nm.a : Nat), .string ⟨nm.t.toArray⟩] 105)).alloc (.cells #[] 139) = W3 := ⟨_, rfl⟩
        have P3 := Lib.hid (show PS B M W3 pb all ts'.tail (told ++ ds') by rw [← hW3]; exact P2.out.alloc _)
        have F3 := Lib.hid (show Fr B w W3 by rw [← hW3]; exact F2.out.alloc _)
        have M3 := Lib.hid (show W3.ownsMap Tryz.prog 9 unitElem w1.heap.size seen.length D by rw [← hW3]; exact MO.out.alloc _)
        have R3 := Lib.hid (show W3.ownsRow 0 252 5 u7 acc.length xs by rw [← hW3]; exact R2.out.alloc _)
        have C3 := Lib.hid (show IsCs (fun b => w1.heap.size < b ∧ some b ≠ u7.ownBlock) W3 (encFT acc) xs by rw [← hW3]; exact C2.out.below ((Below.refl _ _).alloc (Nat.le_refl _) _))
        have hT3 : Thr W3 w2.heap.size 105 (.int .i64 (nm.k : Nat)) (.int .i64 (nm.a : Nat)) (.string ⟨nm.t.toArray⟩) := by rw [← hW3]; exact blk_alloc TK.out _
        have HSZ3 := Lib.hid (show W3.heap.size = w2.heap.size + 2 by rw [← hW3]; simp)
        rw [hW3]
        clear hW3 P2 F2 R2 C2 TK MO
        go_cut [] from 16 to 60 (fun wx => PS B M wx pb all ts'.tail (told ++ ds' ++ (if tw then [⟨nm.a, 4, nm.t⟩] else [])) ∧ Fr B W3 wx)
        case first =>
          cases tw with
          | false =>
            go_wp2_with fail
            go_meet
            exact ⟨by simpa using P3.out, Fr.refl _ _⟩
          | true =>
            go_wp2_with fail
            obtain ⟨vt, vd, i3, h6, -, h8, -⟩ := P3.out.ex
            obtain ⟨⟨c0, c1, c2⟩, u0, u1, u2⟩ := thr_of h6
            obtain ⟨⟨t0, t1, t2⟩, -⟩ := thr_of hT3
            have H6 := Lib.hid h6
            have R65 : Hid (∀ W : World, W.heap = (W3.alloc (.cells #[.int .i64 (nm.a : Nat), .int .i64 4, .string ⟨nm.t.toArray⟩] 153)).heap → W.ownsRow B 153 3 vd (told ++ ds').length (dnCells (told ++ ds'))) := fun W e => by
              have := h8.alloc (.cells #[.int .i64 (nm.a : Nat), .int .i64 4, .string ⟨nm.t.toArray⟩] 153)
              refine ⟨this.1, ?_⟩
              rw [e]
              exact this.2
            have hmx : (told ++ ds').length + 1 ≤ maxLen := by have := HBD.out; unfold maxLen; omega
            have hmb : ((told ++ ds').length + 1) * 32 ≤ 140737488355328 := by have := HBD.out; omega
            have HBS := Lib.hid (show B ≤ W3.heap.size + 1 by have := P3.out.hi; omega)
            have HN65 := Lib.hid (World.news_of_block (heap_alloc_new W3 (.cells #[.int .i64 (nm.a : Nat), .int .i64 4, .string ⟨nm.t.toArray⟩] 153)))
            have HPL := Lib.hid P3.out.lt
            have HV := Lib.hid h8
            have HNE := Lib.hid (show some pb ≠ vd.ownBlock from fun e => by
              rcases h8.2 with ⟨rfl, _⟩ | ⟨g', cap', cur, rfl, _, hgg, _⟩
              · cases e
              · simp only [Value.ownBlock, Option.some.injEq] at e
                subst e
                rw [H6.out] at hgg
                cases hgg)
            clear h6 h8
            have hpl := P3.out.lt
            have HBT := Lib.hid (show (told ++ ds').length + 1 + ts'.tail.length ≤ M by have := HBD.out; have := HT.out; omega)
            go_region_law (refine step_append_lies _ rfl (.tmp 30) (.tmp 36) 50 rfl B 153 j0 _ 3 32 Tryz.underlying50 hj hy0 hy1 hy2 rfl (by decide) vd (told ++ ds').length (dnCells (told ++ ds')) rfl (R65.out _ rfl) ⟨W3.heap.size, 0, none⟩ 1 1 [.int .i64 (nm.a : Nat), .int .i64 4, .string ⟨nm.t.toArray⟩] rfl rfl (fun j u hu => HN65.out j u hu) one3 (by decide) hmx hmb (by simpa using HBS.out) _ rfl ?_; intro g cap W5 hown5 hg5 hloc5 hlt5; (have hp5 : Thr W5 pb 112 vt (.int .i64 (i3 : Nat)) vd := (hg5.block pb (Nat.lt_succ_of_lt HPL.out |> fun h => by simpa using h) HNE.out).trans (blk_alloc H6.out (.cells #[.int .i64 (nm.a : Nat), .int .i64 4, .string ⟨nm.t.toArray⟩] 153))); obtain ⟨⟨e0, e1, e2⟩, y0, y1, y2⟩ := thr_of hp5; (have HO5 := Lib.hid hown5); (have HG5 := Lib.hid hg5); (have HL5 := Lib.hid hloc5); clear hown5 hg5 hloc5 hp5)
            all_goals
              go_wp2_with fail
              go_meet
              have hL : vd.ownBlock = some g ∨ (W3.alloc (.cells #[.int .i64 (nm.a : Nat), .int .i64 4, .string ⟨nm.t.toArray⟩] 153)).heap.size ≤ g := HL5.out.imp id (fun e => by rw [e]; exact Nat.le_refl _)
              have hg6 : (W3.alloc (.cells #[.int .i64 (nm.a : Nat), .int .i64 4, .string ⟨nm.t.toArray⟩] 153)).grownBy W5 vd.ownBlock := ⟨HG5.out.os, HG5.out.tape, HG5.out.output, HG5.out.size, HG5.out.block⟩
              obtain ⟨a1, a2⟩ := (P3.out.alloc (.cells #[.int .i64 (nm.a : Nat), .int .i64 4, .string ⟨nm.t.toArray⟩] 153)).tells ⟨nm.a, 4, nm.t⟩ HBT.out (blk_alloc H6.out _) hg6 HO5.out hL rfl
              simp only [List.length_append] at a1 a2
              exact ⟨a1, ((Fr.refl B W3).alloc _).trans a2⟩
        case rest =>
          obtain ⟨p4, f4⟩ := hcut
          obtain ⟨dd, hdd⟩ : ∃ dd : List Dn, dd = (if tw = true then [⟨nm.a, 4, nm.t⟩] else []) := ⟨_, rfl⟩
          rw [← hdd] at p4
          have HDD := Lib.hid (show dd = (if nm.t ∈ seen then [⟨nm.a, 4, nm.t⟩] else []) by rw [hdd, HTW.out]; by_cases e : nm.t ∈ seen <;> simp [e])
          have HQ3 := Lib.hid (show res = R.tell ds' (R.tell dd ((want sign ts'.tail).bind fun _ r => (read r).bind fun v r =>
            if isM [44] r = true then fieldsP sign read n' (nm.t :: seen) (if nm.t ∈ seen then acc else acc ++ [(nm.t, v)]) r.tail
            else (want [125] r).bind fun _ r => R.ok (if nm.t ∈ seen then acc else acc ++ [(nm.t, v)]) r [])) by rw [HDD.out]; exact HQ2.out)
          have P4 := Lib.hid p4
          have F4 := Lib.hid (F3.out.trans f4)
          have M4 := Lib.hid (map_fr M3.out f4)
          have R4 := Lib.hid (f4.row R3.out (by decide))
          have C4 := Lib.hid (IsCs.fr f4 _ _ C3.out)
          have HT4 := Lib.hid (f4.cells hT3 (by decide))
          have HSZ4 := Lib.hid (show w2.heap.size < wc.heap.size by have := f4.size; have := HSZ3.out; omega)
          obtain ⟨⟨t0, t1, t2⟩, -⟩ := thr_of (show Thr wc w2.heap.size 105 (.int .i64 (nm.k : Nat)) (.int .i64 (nm.a : Nat)) (.string ⟨nm.t.toArray⟩) from HT4.out)
          clear p4 f4 hdd HQ2 P3 F3 M3 R3 C3 hT3 S2 HSZ3 hhas
          go_wp2_with (first | (at_mapUpdate; refine wpList_mapUpdate_own _ rfl _ _ _ 135 rfl 9 139 law9 Tryz.underlying135 _ w1.heap.size seen.length D rfl M4.out (by have := HSE.out; unfold maxLen; omega) _ _ _ rfl rfl HKEY.out _ [] unitElem_mk ?_; intro w5 hown5 hg5))
          have S5 := Lib.hid (SetIs.put hown5 MI.out MS.out nm.t rfl)
          have P5 := Lib.hid (P4.out.mapped ⟨D, M4.out, MI.out, MS.out⟩ hg5 (by have := HPB.out; have := F1.out.size; omega))
          have F5 := Lib.hid (F4.out.grownNew hg5 (fun b hb => by cases hb; exact F1.out.size))
          have T5 := Lib.hid (blk_grown HT4.out hg5 (fun e => by have e' := Option.some.inj e; have := HMB.out; have := HSZ2.out; omega))
          have R5 := Lib.hid (row_kept (S := fun b => b = w1.heap.size) R4.out hg5.size (fun b hb hn => hg5.block b hb (fun e => hn (by cases e; rfl))) (fun b hb e => by subst e; exact absurd (HO.out _ hb) (Nat.lt_irrefl _)))
          have C5 := Lib.hid (C4.out.grown hg5 (fun b hb e => by cases e; exact absurd hb.1 (Nat.lt_irrefl _)))
          have HSZ5 := Lib.hid (show w2.heap.size < w5.heap.size by have := hg5.size; have := HSZ4.out; omega)
          clear hown5 hg5 P4 F4 M4 R4 C4 HT4 t0 t1 t2 MI MS HKEY
          refine (want_any P5.out sign).mono ?_
          rintro e w6 ⟨f6, h6⟩
          cases hr : want sign ts'.tail with
          | bad y r6 d6 =>
            rw [hr] at h6
            obtain ⟨rfl, p6⟩ := h6
            go_wp2_with fail
            exact panics rfl (.bad (HQ3.out.trans (by rw [hr, R.bind_bad, R.tell_bad, R.tell_bad])) (F5.out.trans f6) (p6.told_eq (by simp)))
          | ok x6 r6 d6 =>
            have HS6 := Lib.hid (show r6.length ≤ ts'.tail.length by have := want_shr sign ts'.tail; rw [hr] at this; exact this)
            rw [hr] at h6
            obtain ⟨h6, p6⟩ := h6
            cases h6
            have HQ6 := Lib.hid (HQ3.out.trans (by rw [hr, R.bind_ok, R.tell_tell]))
            have P6 := Lib.hid p6
            have F6 := Lib.hid (F5.out.trans f6)
            have S6 := Lib.hid (S5.out.fr f6)
            have T6 := Lib.hid (f6.cells T5.out (by decide))
            have R6 := Lib.hid (f6.row R5.out (by decide))
            have C6 := Lib.hid (IsCs.fr f6 _ _ C5.out)
            have B6 := Lib.hid (HBX.out _ _ HB0.out F6.out)
            have HSZ6 := Lib.hid (show w2.heap.size < w6.heap.size by have := f6.size; have := HSZ5.out; omega)
            clear f6 p6 hr P5 F5 S5 T5 R5 C5 HQ3 HSZ5
            go_wp2_with fail
            refine (HC.out _ _ _ P6.out B6.out).mono ?_
            rintro e w7 ⟨f7, h7⟩
            cases hr : read r6 with
            | bad y r7 d7 =>
              rw [hr] at h7
              obtain ⟨rfl, p7⟩ := h7
              go_wp2_with fail
              exact panics rfl (.bad (HQ6.out.trans (by rw [hr, R.bind_bad, R.tell_bad, R.tell_bad])) (F6.out.trans f7) (p7.told_eq (by simp)))
            | ok v r7 d7 =>
              have HS7 := Lib.hid (show r7.length ≤ r6.length by have := HSH.out r6; rw [hr] at this; exact this)
              rw [hr] at h7
              obtain ⟨⟨cs, rfl, hcs⟩, p7⟩ := h7
              obtain ⟨tk, tn, a2, n2, c2, a3, n3, c3, rfl⟩ := cells_T hcs
              obtain ⟨acc', hacc'⟩ : ∃ acc', acc' = (if nm.t ∈ seen then acc else acc ++ [(nm.t, v)]) := ⟨_, rfl⟩
              have HQ7 := Lib.hid (show res = R.tell (ds' ++ dd ++ d6 ++ d7) (if isM [44] r7 = true then fieldsP sign read n' (nm.t :: seen) acc' r7.tail else (want [125] r7).bind fun _ r => R.ok acc' r []) from HQ6.out.trans (by rw [hr, R.bind_ok, hacc']; simp only [R.tell_tell, List.append_assoc]))
              have HACC := Lib.hid (show acc' = (if tw = true then acc else acc ++ [(nm.t, v)]) by rw [hacc', HTW.out]; by_cases e : nm.t ∈ seen <;> simp [e])
              have P7 := Lib.hid ((p7.told_eq (show _ = told ++ (ds' ++ dd ++ d6 ++ d7) by simp)).alloc (.cells #[.int .i64 tk, .string tn, .slice a2 n2 c2, .slice a3 n3 c3] 26))
              have F7 := Lib.hid ((F6.out.trans f7).alloc (.cells #[.int .i64 tk, .string tn, .slice a2 n2 c2, .slice a3 n3 c3] 26))
              have S7 := Lib.hid ((S6.out.fr f7).alloc (.cells #[.int .i64 tk, .string tn, .slice a2 n2 c2, .slice a3 n3 c3] 26))
              have T7 := Lib.hid (blk_alloc (f7.cells T6.out (by decide)) (.cells #[.int .i64 tk, .string tn, .slice a2 n2 c2, .slice a3 n3 c3] 26))
              have R7 := Lib.hid ((f7.row R6.out (by decide)).alloc (.cells #[.int .i64 tk, .string tn, .slice a2 n2 c2, .slice a3 n3 c3] 26))
              have C7 := Lib.hid ((IsCs.fr f7 _ _ C6.out).below ((Below.refl _ _).alloc (Nat.le_refl _) (.cells #[.int .i64 tk, .string tn, .slice a2 n2 c2, .slice a3 n3 c3] 26)))
              have V7 := Lib.hid (hcs.below ((Below.refl _ _).alloc (Nat.le_refl _) (.cells #[.int .i64 tk, .string tn, .slice a2 n2 c2, .slice a3 n3 c3] 26)))
              have N7 := Lib.hid (show (w7.alloc (.cells #[.int .i64 tk, .string tn, .slice a2 n2 c2, .slice a3 n3 c3] 26)).heap[w7.heap.size]? = _ from heap_alloc_new w7 _)
              have HSZ7 := Lib.hid (show w6.heap.size ≤ w7.heap.size from f7.size)
              have HRL := Lib.hid (show ∀ b, u7.ownBlock = some b → b < w6.heap.size from fun b hb => (R6.out.lt b hb).2)
              clear f7 p7 hr hcs hacc' P6 F6 S6 T6 R6 C6 B6 HQ6
              go_upto_if 50 with fail
              obtain ⟨W8, hW8⟩ : ∃ W8, w7.alloc (.cells #[.int .i64 tk, .string tn, .slice a2 n2 c2, .slice a3 n3 c3] 26) = W8 := ⟨_, rfl⟩
              have HS8 := Lib.hid (show W8.heap.size = w7.heap.size + 1 by rw [← hW8]; simp)
              rw [hW8] at P7 F7 S7 T7 R7 C7 V7 N7
              rw [hW8]
              clear hW8
              go_cut [7] from 16 to 60 (fun s7 wx => ∃ xs', wx.ownsRow 0 252 5 s7 acc'.length xs' ∧ (∀ b, s7.ownBlock = some b → w1.heap.size < b) ∧ IsCs (fun b => w1.heap.size < b ∧ some b ≠ s7.ownBlock) wx (encFT acc') xs' ∧ PS B M wx pb all r7 (told ++ (ds' ++ dd ++ d6 ++ d7)) ∧ Fr B w wx ∧ SetIs wx w1.heap.size (nm.t :: seen))
              case first =>
                cases tw with
                | true =>
                  go_wp2_with fail
                  go_meet
                  obtain rfl : acc' = acc := by simpa using HACC.out
                  exact ⟨xs, R7.out, HO.out, C7.out, P7.out, F7.out, S7.out⟩
                | false =>
                  obtain ⟨⟨t0, t1, t2⟩, -⟩ := thr_of (show Thr W8 w2.heap.size 105 (.int .i64 (nm.k : Nat)) (.int .i64 (nm.a : Nat)) (.string ⟨nm.t.toArray⟩) from T7.out)
                  obtain ⟨⟨q0, q1, q2, q3⟩, -⟩ := fou_of (t := 26) N7.out
                  have R8 := Lib.hid (R7.out.alloc (.cells #[.string ⟨nm.t.toArray⟩, .int .i64 tk, .string tn, .slice a2 n2 c2, .slice a3 n3 c3] 252))
                  have HNB := Lib.hid (World.news_of_block (heap_alloc_new W8 (.cells #[.string ⟨nm.t.toArray⟩, .int .i64 tk, .string tn, .slice a2 n2 c2, .slice a3 n3 c3] 252)))
                  have HONE := Lib.hid (show ∀ u ∈ [Value.string ⟨nm.t.toArray⟩, .int .i64 tk, .string tn, .slice a2 n2 c2, .slice a3 n3 c3], u.oneCell' = true from List.forall_mem_cons.2 ⟨rfl, V7.out.one⟩)
                  have hmx : acc.length + 1 ≤ maxLen := by have := HAC.out; unfold maxLen; omega
                  have hmb : (acc.length + 1) * 88 ≤ 140737488355328 := by have := HAC.out; omega
                  go_wp2_with (first | (at_builtin; refine wpList_append_lies _ rfl (.tmp 51) (.tmp 56) 248 rfl 0 252 i0 _ 5 88 Tryz.underlying248 hi hz0 hz1 hz2 rfl (by decide) u7 acc.length xs rfl R8.out ⟨W8.heap.size, 0, none⟩ 1 1 [.string ⟨nm.t.toArray⟩, .int .i64 tk, .string tn, .slice a2 n2 c2, .slice a3 n3 c3] rfl rfl HNB.out HONE.out (by decide) hmx hmb (Nat.zero_le _) (W8.heap.size + 1) (World.size_alloc _ _) ?_; intro g' cap' w9 hown9 hg9 hat9 hlt9))
                  go_meet
                  obtain rfl : acc' = acc ++ [(nm.t, v)] := by simpa using HACC.out
                  have hgg : w1.heap.size < g' := by
                    rcases hat9 with e | e
                    · exact HO.out g' e
                    · have := HMB.out; have := HSZ2.out; have := HSZ6.out; have := HSZ7.out; have := HS8.out; omega
                  have hP9 := ((P7.out.alloc (.cells #[.string ⟨nm.t.toArray⟩, .int .i64 tk, .string tn, .slice a2 n2 c2, .slice a3 n3 c3] 252)).grown R8.out (by decide) (fun b hb => by have := HO.out b hb; have := HPB.out; have := F1.out.size; omega) hg9)
                  have hS9 := (S7.out.alloc (.cells #[.string ⟨nm.t.toArray⟩, .int .i64 tk, .string tn, .slice a2 n2 c2, .slice a3 n3 c3] 252)).grown hg9 (fun e => by have := HO.out _ e.symm; omega)
                  refine ⟨xs ++ [.string ⟨nm.t.toArray⟩, .int .i64 tk, .string tn, .slice a2 n2 c2, .slice a3 n3 c3], by simpa using hown9, fun b hb => (by cases hb; exact hgg), ?_, hP9, (F7.out.alloc _).grownNew hg9 (fun b hb => by have := HO.out b hb; have := F1.out.size; omega), hS9⟩
                  rw [encFT_snoc]
                  have c1 := ((C7.out.below ((Below.refl _ _).alloc (Nat.le_refl _) (.cells #[.string ⟨nm.t.toArray⟩, .int .i64 tk, .string tn, .slice a2 n2 c2, .slice a3 n3 c3] 252))).mono (A' := fun b => w1.heap.size < b ∧ some b ≠ u7.ownBlock ∧ b < W8.heap.size + 1) (fun b hb hb' => ⟨hb'.1, hb'.2, by simpa using hb⟩)).grown hg9 (fun b hb => hb.2.1)
                  have c2 := ((V7.out.mono (A' := fun b => w1.heap.size < b ∧ some b ≠ u7.ownBlock ∧ b < W8.heap.size + 1) (fun b hb hb' => ⟨by have := HMB.out; have := HSZ2.out; have := HSZ6.out; omega, fun e => by have := HRL.out b e.symm; omega, by omega⟩)).below ((Below.refl _ _).alloc (Nat.le_refl _) (.cells #[.string ⟨nm.t.toArray⟩, .int .i64 tk, .string tn, .slice a2 n2 c2, .slice a3 n3 c3] 252))).grown hg9 (fun b hb => hb.2.1)
                  have c3 := c1.append _ _ _ _ (.cons (.str _ _ nm.t) c2)
                  refine c3.mono (fun b _ hb => ⟨hb.1, fun e => ?_⟩)
                  have e' : b = g' := by cases e; rfl
                  subst e'
                  rcases hat9 with e | e
                  · exact hb.2.1 e.symm
                  · omega
              case rest =>
                obtain ⟨xs', hr9, ho9, hc9, hp9, hf9, hs9⟩ := hcut
                have HACL := Lib.hid (show acc'.length ≤ acc.length + 1 by rw [HACC.out]; split <;> simp)
                have P9 := Lib.hid hp9
                have F9 := Lib.hid hf9
                have S9 := Lib.hid hs9
                have R9 := Lib.hid hr9
                have O9 := Lib.hid ho9
                have C9 := Lib.hid hc9
                clear hr9 ho9 hc9 hp9 hf9 hs9 P7 F7 S7 T7 R7 C7 V7 N7 HACC HDD HTW
                go_wp2_with fail
                refine (takes_any P9.out [44]).mono ?_
                rintro e w10 ⟨rfl, p10, f10⟩
                have F10 := Lib.hid (F9.out.trans f10)
                have S10 := Lib.hid (S9.out.fr f10)
                have R10 := Lib.hid (f10.row R9.out (by decide))
                have C10 := Lib.hid (IsCs.fr f10 _ _ C9.out)
                clear f10
                cases hm : isM [44] r7 with
                | true =>
                  simp only [hm, if_true] at p10
                  have P10 := Lib.hid p10
                  have HQ10 := Lib.hid (show res = R.tell (ds' ++ dd ++ d6 ++ d7) (fieldsP sign read n' (nm.t :: seen) acc' r7.tail) by rw [HQ7.out, hm]; rfl)
                  have HTL := Lib.hid (tail_le r7)
                  clear p10 hm HQ7
                  go_wp2_with fail
                  refine ⟨⟨nm.t :: seen, acc', r7.tail, ds' ++ dd ++ d6 ++ d7, n', xs', ?_, ?_, ?_, P10.out, F10.out, S10.out, R10.out, O9.out, C10.out, HQ10⟩, ?_⟩
                  · have := HTL.out; have := HS7.out; have := HS6.out; have := HT.out; have := HN.out; omega
                  · have := HTL.out; have := HS7.out; have := HS6.out; have := HT.out; have := HAC.out; have := HACL.out; omega
                  · have := HTL.out; have := HS7.out; have := HS6.out; have := HT.out; have := HSE.out; simp; omega
                  · rw [P10.out.left, HLE.out]
                    have := HTL.out; have := HS7.out; have := HS6.out; have := HT.out; omega
                | false =>
                  simp only [hm, Bool.false_eq_true, if_false] at p10
                  have P10 := Lib.hid p10
                  have HQ10 := Lib.hid (show res = R.tell (ds' ++ dd ++ d6 ++ d7) ((want [125] r7).bind fun _ r => R.ok acc' r []) by rw [HQ7.out, hm]; rfl)
                  clear p10 hm HQ7
                  go_wp2_with fail
                  refine (want_any P10.out [125]).mono ?_
                  rintro e w11 ⟨f11, h11⟩
                  cases hr : want [125] r7 with
                  | bad y r11 d11 =>
                    rw [hr] at h11
                    obtain ⟨rfl, p11⟩ := h11
                    go_wp2_with fail
                    exact panics rfl (.bad (HQ10.out.trans (by rw [hr, R.bind_bad, R.tell_bad])) (F10.out.trans f11) p11.assoc)
                  | ok x11 r11 d11 =>
                    rw [hr] at h11
                    obtain ⟨h11, p11⟩ := h11
                    cases h11
                    have HQ11 := Lib.hid (HQ10.out.trans (by rw [hr, R.bind_ok, R.tell_ok, R.tell_ok, List.append_nil]))
                    have R11 := Lib.hid (f11.row R10.out (by decide))
                    have C11 := Lib.hid (IsCs.fr f11 _ _ C10.out)
                    have F11 := Lib.hid (F10.out.trans f11)
                    have P11 := Lib.hid p11
                    clear hr f11 p11
                    go_wp2_with fail
                    go_ret
                    exact .ok HQ11.out F11.out ⟨_, xs', rfl, R11.out, fun b hb => (by have := O9.out b hb; have := F1.out.size; omega), C11.out.mono (fun b _ hb => ⟨by have := hb.1; have := F1.out.size; omega, hb.2⟩)⟩ P11.out.assoc
end Go.Proofs.YtijnjoonbjdafaaGreatDoor

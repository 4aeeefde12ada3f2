/-
  The contracts of the reader's small functions: now, sees, pass, takes, want, wantName, unwanted, checkDepth.
-/
import Derived.Test.YtijnjoonbjdafaaGreatDoorMem
namespace Go.Proofs.YtijnjoonbjdafaaGreatDoor
set_option maxRecDepth 20000
open Go.RowKit Go.Shelf
def Thr (w : World) (b : Nat) (t : TypeId) (v0 v1 v2 : Value) : Prop := w.heap[b]? = some (.cells #[v0, v1, v2] t (0, 0))
theorem thr_of {w : World} {b : Nat} {t : TypeId} {v0 v1 v2 : Value} (h : Thr w b t v0 v1 v2) :
    (w.cell? ⟨b, 0, none⟩ = some v0 ∧ w.cell? ⟨b, 1, none⟩ = some v1 ∧ w.cell? ⟨b, 2, none⟩ = some v2) ∧
    w.frozen? ⟨b, 0, none⟩ = false ∧ w.frozen? ⟨b, 1, none⟩ = false ∧ w.frozen? ⟨b, 2, none⟩ = false := by
  unfold Thr at h
  simp [World.cell?, World.frozen?, h]
abbrev put3 (w : World) (b : Nat) (u0 u1 u2 : Value) : World := ((w.setCell ⟨b, 0, none⟩ u0).setCell ⟨b, 1, none⟩ u1).setCell ⟨b, 2, none⟩ u2
theorem thr_set {w : World} {b : Nat} {t : TypeId} {v0 v1 v2 : Value} (h : Thr w b t v0 v1 v2) (u0 u1 u2 : Value) : Thr (put3 w b u0 u1 u2) b t u0 u1 u2 := by
  unfold Thr at *
  have h0 := heap_setCell_same w b 0 _ _ u0 h
  have h1 := heap_setCell_same _ b 1 _ _ u1 h0
  exact heap_setCell_same _ b 2 _ _ u2 h1
theorem below_put3 {n b : Nat} {w w' : World} (h : Below n w w') (hb : n ≤ b) (u0 u1 u2 : Value) : Below n w (put3 w' b u0 u1 u2) :=
  ((h.setCell (p := ⟨b, 0, none⟩) hb u0).setCell (p := ⟨b, 1, none⟩) hb u1).setCell (p := ⟨b, 2, none⟩) hb u2
theorem ret72 {f : Func} {R : Ending → World → Prop} {a : Act} {w : World} {b : Nat} {u0 u1 u2 : Value} (hf : f.results = #[.cell 2 105]) (ht : a.eval (.tmp 2) = .pointer (some ⟨b, 0, none⟩)) (hd : a.defers = [])
    (h : Thr w b 105 u0 u1 u2) (hR : R (.returned (.agg #[u0, u1, u2])) w) : bodyPost Tryz.prog f R Exit.ret a w := by
  obtain ⟨⟨c0, c1, c2⟩, -⟩ := thr_of h
  refine bodyPost_ret ?_ hd hR
  simp [Act.eval] at ht
  simp [results, hf, go_sem, c0, c1, c2, ht]
theorem ret103 {f : Func} {R : Ending → World → Prop} {a : Act} {w : World} {b : Nat} {u0 u1 u2 : Value} (hf : f.results = #[.cell 2 155]) (ht : a.eval (.tmp 2) = .pointer (some ⟨b, 0, none⟩)) (hd : a.defers = [])
    (h : Thr w b 155 u0 u1 u2) (hR : R (.returned (.agg #[u0, u1, u2])) w) : bodyPost Tryz.prog f R Exit.ret a w := by
  obtain ⟨⟨c0, c1, c2⟩, -⟩ := thr_of h
  refine bodyPost_ret ?_ hd hR
  simp [Act.eval] at ht
  simp [results, hf, go_sem, c0, c1, c2, ht]
theorem thr_new (w : World) (t : TypeId) (v0 v1 v2 : Value) : Thr (w.alloc (.cells #[v0, v1, v2] t)) w.heap.size t v0 v1 v2 := heap_alloc_new w _
theorem blk_alloc {w : World} {b : Nat} {o : Obj} (h : w.heap[b]? = some o) (x : Obj) : (w.alloc x).heap[b]? = some o := (Below.heap_alloc _ _ _ (Array.getElem?_eq_some_iff.1 h).1).trans h
def tokV (t : Tk) : Value := .agg #[.int .i64 (t.k : Nat), .int .i64 (t.a : Nat), .string ⟨t.t.toArray⟩]
set_option maxHeartbeats 1000000 in
theorem now_any {B M : Nat} {w : World} {pb : Nat} {all ts : List Tk} {told : List Dn} (h : PS B M w pb all ts told) :
    Calls Tryz.prog 53 #[.pointer (some ⟨pb, 0, none⟩)] w fun e w' => e = .returned (tokV (hd ts)) ∧ Below w.heap.size w w' := by
  obtain ⟨g, cap, i, vd, h6, hi, hb, hg, c0, c1, c2, -⟩ := h.first
  obtain ⟨⟨p0, p1, p2⟩, -⟩ := thr_of h6
  have hpb := h.lt
  go_enter Tryz.func53, Tryz.ntmps53
  go_wp2_with fail
  go_region
  go_wp2_with fail
  exact ret72 rfl rfl rfl (thr_new w 105 _ _ _) ⟨rfl, ((Below.refl _ w).alloc (Nat.le_refl _) _).drew⟩
theorem mark_lit {m : Bs} {ts : List Tk} : isM m ts = ((((hd ts).k : Int) == 2 || ((hd ts).k : Int) == 5) && ((hd ts).t == m)) := by
  unfold isM
  have h2 : (((hd ts).k : Int) == 2) = ((hd ts).k == 2) := by rw [Bool.eq_iff_iff]; simp; omega
  have h5 : (((hd ts).k : Int) == 5) = ((hd ts).k == 5) := by rw [Bool.eq_iff_iff]; simp; omega
  rw [h2, h5]
theorem isM_k {m : Bs} {ts : List Tk} (h : isM m ts = true) : (hd ts).k ≠ 6 ∧ (hd ts).k ≠ 1 ∧ (hd ts).k ≠ 3 ∧ (hd ts).k ≠ 4 ∧ (hd ts).t = m := by
  simp only [isM, Bool.and_eq_true, Bool.or_eq_true, beq_iff_eq] at h
  obtain ⟨h1 | h1, h2⟩ := h <;> refine ⟨by omega, by omega, by omega, by omega, h2⟩
set_option maxHeartbeats 1000000 in
theorem sees_any {B M : Nat} {w : World} {pb : Nat} {all ts : List Tk} {told : List Dn} (h : PS B M w pb all ts told) (m : Bs) :
    Calls Tryz.prog 129 #[.pointer (some ⟨pb, 0, none⟩), .string ⟨m.toArray⟩] w fun e w' => e = .returned (.bool (isM m ts)) ∧ Below w.heap.size w w' := by
  have hN := Lib.hid (now_any h)
  have HM := Lib.hid (mark_lit (m := m) (ts := ts))
  go_enter Tryz.func129, Tryz.ntmps129
  go_wp2_with fail
  refine hN.out.mono ?_
  rintro e w1 ⟨rfl, b1⟩
  unfold tokV
  obtain ⟨⟨tk, ta, tt⟩, ht⟩ : ∃ t, t = hd ts := ⟨_, rfl⟩
  rw [← ht] at HM ⊢
  clear ht
  simp only at HM ⊢
  go_wp2_with fail
  all_goals
    go_ret
    refine ⟨?_, b1.alloc b1.size _⟩
    rw [HM.out]
    simp_all
def gv (y : Dn) : PanicEntry := { v := .iface 155 (.agg #[.int .i64 (y.a : Nat), .int .i64 (y.d : Nat), .string ⟨y.n.toArray⟩]), recovered := false }
def Post {α : Type} (B M : Nat) (w : World) (pb : Nat) (all : List Tk) (told : List Dn) (val : α → Ending → World → Prop) (r : R α) (e : Ending) (w' : World) : Prop :=
  Fr B w w' ∧ match r with
  | .ok x rest d => val x e w' ∧ PS B M w' pb all rest (told ++ d)
  | .bad y rest d => e = .panicked [gv y] ∧ PS B M w' pb all rest (told ++ d)
def vUnit (_ : Unit) (e : Ending) (_ : World) : Prop := e = .returned (.tuple #[])
def vTok (t : Tk) (e : Ending) (_ : World) : Prop := e = .returned (tokV t)
theorem PS.pass {B M : Nat} {w : World} {pb : Nat} {all ts : List Tk} {told : List Dn} (h : PS B M w pb all ts told) (hk : (hd ts).k ≠ 6) {v0 v2 : Value} {i : Nat} (hp : w.heap[pb]? = some (.cells #[v0, .int .i64 (i : Nat), v2] 112 (0, 0))) :
    PS B M (w.setCell ⟨pb, 1, none⟩ (.int .i64 ((i : Int) + 1))) pb all ts.tail told ∧ Fr B w (w.setCell ⟨pb, 1, none⟩ (.int .i64 ((i : Int) + 1))) := by
  rw [show (i : Int) + 1 = ((i + 1 : Nat) : Int) by omega]
  have hF : Fr B w (w.setCell ⟨pb, 1, none⟩ (.int .i64 ((i + 1 : Nat) : Int))) := (Fr.refl B w).setOwn hp (by decide) h.lo _
  obtain ⟨h1, h2, ⟨p, e, h3, h3'⟩, h4, h5, vt, vd, j, h6, h7, h8, h9, h10⟩ := h
  rw [hp] at h6
  simp only [Option.some.injEq, Obj.cells.injEq, Array.mk.injEq, List.cons.injEq, and_true, true_and, Value.int.injEq] at h6
  obtain ⟨rfl, hij, rfl⟩ := h6
  have hij' : i = j := by omega
  subst hij'
  have hs := heap_setCell_same w pb 1 _ _ (.int .i64 ((i + 1 : Nat) : Int)) hp
  have hne : ∀ {base : Nat} {e : TypeId} {v : Value} {n : Nat} {xs : List Value}, w.ownsRow base e 3 v n xs → e ≠ 112 → (w.setCell ⟨pb, 1, none⟩ (.int .i64 ((i + 1 : Nat) : Int))).ownsRow base e 3 v n xs := by
    intro base e v n xs hr he
    refine ⟨hr.1, ?_⟩
    rcases hr.2 with hn | ⟨g, cap, cur, hv, hg0, hg, rest⟩
    · exact .inl hn
    · refine .inr ⟨g, cap, cur, hv, hg0, (Below.heap_setCell w ⟨pb, 1, none⟩ _ g ?_).trans hg, rest⟩
      rintro rfl
      rw [hp] at hg
      cases hg
      exact he rfl
  refine ⟨⟨h1, by simpa [World.setCell] using h2, ?_, ?_, h5, v0, v2, i + 1, hs, hne h7 (by decide), hne h8 (by decide), ?_, h10⟩, hF⟩
  · cases p with
    | nil => simp at h3; subst h3; exact absurd h3' hk
    | cons x r => exact ⟨r, e, by rw [h3]; rfl, h3'⟩
  · rw [List.length_tail]; omega
  · rw [h9, List.tail_drop]
set_option maxHeartbeats 1000000 in
theorem pass_any {B M : Nat} {w : World} {pb : Nat} {all ts : List Tk} {told : List Dn} (h : PS B M w pb all ts told) (hk : (hd ts).k ≠ 6) :
    Calls Tryz.prog 99 #[.pointer (some ⟨pb, 0, none⟩)] w fun e w' => e = .returned (.tuple #[]) ∧ PS B M w' pb all ts.tail told ∧ Fr B w w' := by
  obtain ⟨g, cap, i, vd, h6, hi, hb, -⟩ := h.first
  obtain ⟨⟨p0, p1, p2⟩, f0, f1, f2⟩ := thr_of h6
  have HP := Lib.hid (h.pass hk h6)
  clear h hk h6
  go_enter Tryz.func99, Tryz.ntmps99
  go_wp2_with fail
  go_end0
  exact ⟨rfl, HP.out.1, HP.out.2⟩
set_option maxHeartbeats 1000000 in
theorem takes_any {B M : Nat} {w : World} {pb : Nat} {all ts : List Tk} {told : List Dn} (h : PS B M w pb all ts told) (m : Bs) :
    Calls Tryz.prog 81 #[.pointer (some ⟨pb, 0, none⟩), .string ⟨m.toArray⟩] w fun e w' => e = .returned (.bool (isM m ts)) ∧ PS B M w' pb all (if isM m ts then ts.tail else ts) told ∧ Fr B w w' := by
  have HS := Lib.hid (sees_any h m)
  have H := Lib.hid h
  clear h
  cases hm : isM m ts with
  | true =>
    have HK := Lib.hid (isM_k hm).1
    rw [hm] at HS
    clear hm
    go_enter Tryz.func81, Tryz.ntmps81
    go_wp2_with fail
    refine HS.out.mono ?_
    rintro e w1 ⟨rfl, b1⟩
    go_wp2_with fail
    refine (pass_any (H.out.below b1) HK.out).mono ?_
    rintro e w2 ⟨rfl, p2, f2⟩
    go_wp2_with fail
    go_ret
    exact ⟨rfl, p2, (Fr.of_below b1).trans f2⟩
  | false =>
    rw [hm] at HS
    clear hm
    go_enter Tryz.func81, Tryz.ntmps81
    go_wp2_with fail
    refine HS.out.mono ?_
    rintro e w1 ⟨rfl, b1⟩
    go_wp2_with fail
    go_ret
    exact ⟨rfl, H.out.below b1, Fr.of_below b1⟩
def gvV (y : Dn) : Value := .agg #[.int .i64 (y.a : Nat), .int .i64 (y.d : Nat), .string ⟨y.n.toArray⟩]
set_option maxHeartbeats 1000000 in
theorem unwanted_any {B M : Nat} {w : World} {pb : Nat} {all ts : List Tk} {told : List Dn} (h : PS B M w pb all ts told) :
    Calls Tryz.prog 79 #[.pointer (some ⟨pb, 0, none⟩)] w fun e w' => e = .returned (gvV (syn ts)) ∧ Below w.heap.size w w' := by
  have HN := Lib.hid (now_any (h.alloc (.cells #[.int .i64 0, .int .i64 0, .string ⟨#[]⟩] 155)))
  clear h
  go_enter Tryz.func79, Tryz.ntmps79
  go_wp2_with fail
  refine HN.out.mono ?_
  rintro e w1 ⟨rfl, b1⟩
  have h3 : Thr w1 w.heap.size 155 (.int .i64 0) (.int .i64 0) (.string ⟨#[]⟩) := (b1.block _ (by simp)).trans (thr_new w 155 _ _ _)
  obtain ⟨⟨c0, c1, c2⟩, f0, f1, f2⟩ := thr_of h3
  have hlt : w.heap.size < w1.heap.size := by have := b1.size; simp at this; omega
  have hne : ¬ w.heap.size = w1.heap.size := by omega
  have B1 := Lib.hid b1
  clear b1
  unfold tokV
  go_wp2_with fail
  have b2 : Below w.heap.size w w1 := (((Below.refl _ w).alloc (Nat.le_refl _) _).trans (B1.out.mono (by simp)))
  exact ret103 rfl rfl rfl (blk_alloc (thr_set h3 _ _ _) _) ⟨rfl, (below_put3 b2 (Nat.le_refl _) _ _ _).alloc (by simpa [World.setCell] using b2.size) _⟩
theorem panics {f : Func} {R : Ending → World → Prop} {ch : List PanicEntry} {a : Act} {w : World} (hd : a.defers = []) (h : R (.panicked ch) w) : bodyPost Tryz.prog f R (.panic ch) a w := ⟨hd, h⟩
set_option maxHeartbeats 1000000 in
theorem want_any {B M : Nat} {w : World} {pb : Nat} {all ts : List Tk} {told : List Dn} (h : PS B M w pb all ts told) (m : Bs) :
    Calls Tryz.prog 98 #[.pointer (some ⟨pb, 0, none⟩), .string ⟨m.toArray⟩] w (Post B M w pb all told vUnit (want m ts)) := by
  have HT := Lib.hid (takes_any h m)
  have H := Lib.hid h
  clear h
  cases hm : isM m ts with
  | true =>
    have hw : want m ts = .ok () ts.tail [] := by simp [want, hm]
    rw [hw]
    rw [hm, if_pos rfl] at HT
    clear hm hw
    go_enter Tryz.func98, Tryz.ntmps98
    go_wp2_with fail
    refine HT.out.mono ?_
    rintro e w1 ⟨rfl, p1, f1⟩
    go_wp2_with fail
    go_end0
    exact ⟨f1, rfl, by rw [List.append_nil]; exact p1⟩
  | false =>
    have hw : want m ts = .bad (syn ts) ts [] := by simp [want, hm]
    rw [hw]
    rw [hm, if_neg (by decide)] at HT
    clear hm hw
    go_enter Tryz.func98, Tryz.ntmps98
    go_wp2_with fail
    refine HT.out.mono ?_
    rintro e w1 ⟨rfl, p1, f1⟩
    go_wp2_with fail
    refine (unwanted_any p1).mono ?_
    rintro e w2 ⟨rfl, b2⟩
    unfold gvV
    go_wp2_with fail
    exact panics rfl ⟨f1.below b2, rfl, by rw [List.append_nil]; exact p1.below b2⟩
set_option maxHeartbeats 1000000 in
theorem wantName_any {B M : Nat} {w : World} {pb : Nat} {all ts : List Tk} {told : List Dn} (h : PS B M w pb all ts told) :
    Calls Tryz.prog 136 #[.pointer (some ⟨pb, 0, none⟩)] w (Post B M w pb all told vTok (wantName ts)) := by
  have HN := Lib.hid (now_any (h.alloc (.cells #[.int .i64 0, .int .i64 0, .string ⟨#[]⟩] 105)))
  have H := Lib.hid (h.alloc (.cells #[.int .i64 0, .int .i64 0, .string ⟨#[]⟩] 105))
  have HPB := Lib.hid h.lt
  clear h
  have hd6 : (hd ts).k = 1 → (hd ts).k ≠ 6 := by omega
  obtain ⟨t, ht⟩ : ∃ t, t = hd ts := ⟨_, rfl⟩
  by_cases hk : (hd ts).k = 1
  · have hw : wantName ts = .ok (hd ts) ts.tail [] := by simp [wantName, hk]
    have HK := Lib.hid (hd6 hk)
    rw [hw]
    rw [← ht] at HN hk ⊢
    have HT := Lib.hid ht
    clear hw hd6 ht
    have hk1 : (t.k : Int) = 1 := by omega
    have hk2 : ((t.k : Int) == 1) = true := by simpa using hk1
    go_enter Tryz.func136, Tryz.ntmps136
    go_wp2_with fail
    refine HN.out.mono ?_
    rintro e w1 ⟨rfl, b1⟩
    have h3 : Thr w1 w.heap.size 105 (.int .i64 0) (.int .i64 0) (.string ⟨#[]⟩) := (b1.block _ (by simp)).trans (thr_new w 105 _ _ _)
    have hlt : w.heap.size < w1.heap.size := by have := b1.size; simp at this; omega
    have B1 := Lib.hid b1
    clear b1
    unfold tokV
    go_wp2_with fail
    refine (pass_any ((H.out.below B1.out).alloc _) HK.out).mono ?_
    rintro e w2 ⟨rfl, p2, f2⟩
    have g1 : Thr w2 w.heap.size 105 (.int .i64 0) (.int .i64 0) (.string ⟨#[]⟩) := f2.cells (blk_alloc h3 _) (by decide)
    have g2 : Thr w2 w1.heap.size 105 _ _ _ := f2.cells (thr_new w1 105 _ _ _) (by decide)
    obtain ⟨⟨c0, c1, c2⟩, u0, u1, u2⟩ := thr_of g1
    obtain ⟨⟨d0, d1, d2⟩, -⟩ := thr_of g2
    have hF : Fr B w w2 := ((Fr.of_below (((Below.refl w.heap.size w).alloc (Nat.le_refl _) _).trans (B1.out.mono (by simp)))).alloc _).trans f2
    have P2 := Lib.hid p2
    have F := Lib.hid hF
    clear p2 f2 hF
    go_wp2_with fail
    refine ret72 rfl rfl rfl (thr_set g1 _ _ _) ⟨F.out.putL (Nat.le_refl _) [_, _, _], ?_, ?_⟩
    · show _ = _
      rw [tokV, hk1]
    · rw [List.append_nil]
      exact P2.out.putL g1 (by decide) HPB.out [_, _, _]
  · have hw : wantName ts = .bad (syn ts) ts [] := by simp [wantName, hk]
    rw [hw]
    rw [← ht] at HN hk
    clear hw hd6 ht
    have hk1 : ¬ (t.k : Int) = 1 := by omega
    have hk2 : ((t.k : Int) == 1) = false := by simpa using hk1
    go_enter Tryz.func136, Tryz.ntmps136
    go_wp2_with fail
    refine HN.out.mono ?_
    rintro e w1 ⟨rfl, b1⟩
    have B1 := Lib.hid b1
    clear b1
    unfold tokV
    go_wp2_with fail
    refine (unwanted_any ((H.out.below B1.out).alloc _)).mono ?_
    rintro e w2 ⟨rfl, b2⟩
    unfold gvV
    have P2 := Lib.hid (((H.out.below B1.out).alloc _).below b2)
    have F := Lib.hid (((Fr.of_below (n₀ := B) (((Below.refl w.heap.size w).alloc (Nat.le_refl _) _).trans (B1.out.mono (by simp)))).alloc _).below b2)
    clear b2
    go_wp2_with fail
    exact panics rfl ⟨F.out, rfl, by rw [List.append_nil]; exact P2.out⟩
theorem fld72_0 (x0 x1 x2 : Value) (w : World) : (Instr.field 105 (.agg #[x0, x1, x2]) 0).run Tryz.prog w = .ok x0 w := by kernel_rfl
theorem fld72_1 (x0 x1 x2 : Value) (w : World) : (Instr.field 105 (.agg #[x0, x1, x2]) 1).run Tryz.prog w = .ok x1 w := by kernel_rfl
set_option maxHeartbeats 1000000 in
theorem depth_ok {B M : Nat} {w : World} {pb : Nat} {all ts : List Tk} {told : List Dn} (_h : PS B M w pb all ts told) (d : Nat) (hd : d ≤ 64) :
    Calls Tryz.prog 88 #[.pointer (some ⟨pb, 0, none⟩), .int .i64 (d : Nat)] w fun e w' => e = .returned (.tuple #[]) ∧ w' = w := by
  have h1 : decide ((64 : Int) < (d : Int)) = false := by simp; omega
  go_enter Tryz.func88, Tryz.ntmps88
  go_wp2_with fail
  go_end0
  exact ⟨rfl, rfl⟩
set_option maxHeartbeats 1000000 in
theorem depth_bad {B M : Nat} {w : World} {pb : Nat} {all ts : List Tk} {told : List Dn} (h : PS B M w pb all ts told) (d : Nat) (hd : 64 < d) :
    Calls Tryz.prog 88 #[.pointer (some ⟨pb, 0, none⟩), .int .i64 (d : Nat)] w fun e w' => e = .panicked [gv (deep ts)] ∧ Below w.heap.size w w' := by
  have h1 : decide ((64 : Int) < (d : Int)) = true := by simp; omega
  have HN := Lib.hid (now_any h)
  have hfl := fld72_1
  clear h hd
  go_enter Tryz.func88, Tryz.ntmps88
  go_wp2_with fail
  refine HN.out.mono ?_
  rintro e w1 ⟨rfl, b1⟩
  unfold tokV
  go_wp2_with fail
  exact panics rfl ⟨rfl, b1⟩
end Go.Proofs.YtijnjoonbjdafaaGreatDoor

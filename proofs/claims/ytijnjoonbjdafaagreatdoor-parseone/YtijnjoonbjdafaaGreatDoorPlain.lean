/-
  The contracts of the readers of types: plain ones, arrows, whole ones, by induction on how deep they may be.
-/
import Derived.Test.YtijnjoonbjdafaaGreatDoorTok
namespace Go.Proofs.YtijnjoonbjdafaaGreatDoor
set_option maxRecDepth 20000
open Go.RowKit Go.Shelf
def Fou (w : World) (b : Nat) (t : TypeId) (v0 v1 v2 v3 : Value) : Prop := w.heap[b]? = some (.cells #[v0, v1, v2, v3] t (0, 0))
theorem fou_of {w : World} {b : Nat} {t : TypeId} {v0 v1 v2 v3 : Value} (h : Fou w b t v0 v1 v2 v3) :
    (w.cell? ⟨b, 0, none⟩ = some v0 ∧ w.cell? ⟨b, 1, none⟩ = some v1 ∧ w.cell? ⟨b, 2, none⟩ = some v2 ∧ w.cell? ⟨b, 3, none⟩ = some v3) ∧
    w.frozen? ⟨b, 0, none⟩ = false ∧ w.frozen? ⟨b, 1, none⟩ = false ∧ w.frozen? ⟨b, 2, none⟩ = false ∧ w.frozen? ⟨b, 3, none⟩ = false := by
  unfold Fou at h
  simp [World.cell?, World.frozen?, h]
theorem fou_new (w : World) (t : TypeId) (v0 v1 v2 v3 : Value) : Fou (w.alloc (.cells #[v0, v1, v2, v3] t)) w.heap.size t v0 v1 v2 v3 := heap_alloc_new w _
theorem ret39 {f : Func} {R : Ending → World → Prop} {a : Act} {w : World} {b : Nat} {u0 u1 u2 u3 : Value} (hf : f.results = #[.cell 4 26]) (ht : a.eval (.tmp 4) = .pointer (some ⟨b, 0, none⟩)) (hd : a.defers = [])
    (h : Fou w b 26 u0 u1 u2 u3) (hR : R (.returned (.agg #[u0, u1, u2, u3])) w) : bodyPost Tryz.prog f R Exit.ret a w := by
  obtain ⟨⟨c0, c1, c2, c3⟩, -⟩ := fou_of h
  refine bodyPost_ret ?_ hd hR
  simp [Act.eval] at ht
  simp [results, hf, go_sem, c0, c1, c2, c3, ht]
def vT (lo : Nat) (t : PT) (e : Ending) (w' : World) : Prop := ∃ cs, e = .returned (.agg cs.toArray) ∧ IsCs (fun b => lo ≤ b) w' (encT 26 t) cs
theorem vT_bare (A : Nat → Prop) (w : World) (k : Nat) (n : Bs) : IsCs A w (encT 26 (.mk k n [] [])) [.int .i64 (k : Nat), .string ⟨n.toArray⟩, .slice none 0 0, .slice none 0 0] := by
  simp only [encT, encTs, List.map_nil, List.length_nil]
  exact .cons (.num _ _ _) (.cons (.str _ _ _) (.cons (.none _ _ _ (by decide)) (.cons (.none _ _ _ (by decide)) (.nil _ _))))
theorem slice_form {A : Nat → Prop} {w : World} {e : TypeId} {size n : Nat} {l : List Dt} {v : Value} (h : IsC A w (.row e size n l) v) : ∃ a c, v = .slice a n c := by
  obtain ⟨xs, h1, -⟩ := h.unrow
  rcases h1.2 with ⟨rfl, rfl⟩ | ⟨g, cap, cur, rfl, _⟩
  · exact ⟨_, _, rfl⟩
  · exact ⟨_, _, rfl⟩
theorem cells_T {A : Nat → Prop} {w : World} {t : PT} {cs : List Value} (h : IsCs A w (encT 26 t) cs) : ∃ (k : Int) (n : ByteArray) (a2 : Option Addr) (n2 c2 : Nat) (a3 : Option Addr) (n3 c3 : Nat), cs = [.int .i64 k, .string n, .slice a2 n2 c2, .slice a3 n3 c3] := by
  obtain ⟨k, n, ns, l⟩ := t
  simp only [encT] at h
  obtain ⟨x0, ys, rfl, h0, h⟩ := h.uncons
  obtain ⟨x1, ys, rfl, h1, h⟩ := h.uncons
  obtain ⟨x2, ys, rfl, h2, h⟩ := h.uncons
  obtain ⟨x3, ys, rfl, h3, h⟩ := h.uncons
  simp only [IsCs] at h
  subst h
  simp only [IsC] at h0 h1
  subst h0 h1
  obtain ⟨a2, c2, rfl⟩ := slice_form h2
  obtain ⟨a3, c3, rfl⟩ := slice_form h3
  exact ⟨_, _, _, _, _, _, _, _, rfl⟩
abbrev zT : Obj := .cells #[.int .i64 0, .string ⟨#[]⟩, .slice none 0 0, .slice none 0 0] 26
theorem Post.ok {α : Type} {B M : Nat} {w : World} {pb : Nat} {all : List Tk} {told : List Dn} {val : α → Ending → World → Prop} {res : R α} {e : Ending} {w' : World} {x : α} {r : List Tk} {d : List Dn} (hq : res = .ok x r d) (hF : Fr B w w') (hv : val x e w') (hp : PS B M w' pb all r (told ++ d)) : Post B M w pb all told val res e w' := by
  subst hq; exact ⟨hF, hv, hp⟩
theorem Post.bad {α : Type} {B M : Nat} {w : World} {pb : Nat} {all : List Tk} {told : List Dn} {val : α → Ending → World → Prop} {res : R α} {w' : World} {y : Dn} {r : List Tk} {d : List Dn} (hq : res = .bad y r d) (hF : Fr B w w') (hp : PS B M w' pb all r (told ++ d)) : Post B M w pb all told val res (.panicked [gv y]) w' := by
  subst hq; exact ⟨hF, rfl, hp⟩
theorem PS.alike {B M : Nat} {w w' : World} {pb : Nat} {all ts : List Tk} {told : List Dn} (h : PS B M w pb all ts told) (e : w'.heap = w.heap) : PS B M w' pb all ts told :=
  h.other (by rw [e]; exact Nat.le_refl _) fun k o hk _ => by rw [e]; exact hk
theorem PS.nil {B M : Nat} {w : World} {pb : Nat} {all ts : List Tk} {told : List Dn} (h : PS B M w pb all ts told) : PS B M w pb all ts (told ++ []) := by rw [List.append_nil]; exact h
theorem PS.assoc {B M : Nat} {w : World} {pb : Nat} {all ts : List Tk} {told d e : List Dn} (h : PS B M w pb all ts (told ++ d ++ e)) : PS B M w pb all ts (told ++ (d ++ e)) := by rw [← List.append_assoc]; exact h
theorem Post.tell {α : Type} {B M : Nat} {w w1 : World} {pb : Nat} {all : List Tk} {told d : List Dn} {val : α → Ending → World → Prop} {r : R α} {e : Ending} {w' : World} (h : Post B M w1 pb all (told ++ d) val r e w') (hF : Fr B w w1) : Post B M w pb all told val (r.tell d) e w' := by
  obtain ⟨h1, h2⟩ := h
  refine ⟨hF.trans h1, ?_⟩
  cases r with
  | ok x rest d' => exact ⟨h2.1, by rw [← List.append_assoc]; exact h2.2⟩
  | bad y rest d' => exact ⟨h2.1, by rw [← List.append_assoc]; exact h2.2⟩
set_option maxHeartbeats 4000000 in
theorem plain_any {B M : Nat} {pb : Nat} {all : List Tk} (k d : Nat) (hd64 : d ≤ 65)
    (HT : ∀ w ts told, PS B M w pb all ts told → Calls Tryz.prog 43 #[.pointer (some ⟨pb, 0, none⟩), .int .i64 ((d + 1 : Nat) : Int)] w (Post B M w pb all told (vT w.heap.size) (typ k ts)))
    (HR : ∀ w ts told, PS B M w pb all ts told → Calls Tryz.prog 166 #[.pointer (some ⟨pb, 0, none⟩), .int .i64 (d : Nat)] w (Post B M w pb all told (vT w.heap.size) ((readP [58] (typ k) ts).bind fun fs r => .ok (recT fs) r [])))
    (w : World) (ts : List Tk) (told : List Dn) (h : PS B M w pb all ts told) :
    Calls Tryz.prog 128 #[.pointer (some ⟨pb, 0, none⟩), .int .i64 (d : Nat)] w (Post B M w pb all told (vT w.heap.size) (plainP (typ k) ts)) := by
  have HT := Lib.hid HT
  have HR := Lib.hid HR
  have HPB := Lib.hid h.lt
  have HN := Lib.hid (now_any (h.alloc zT))
  have p0 := Lib.hid (h.alloc zT)
  have hA0 : (w.alloc zT).heap[w.heap.size]? = some zT := heap_alloc_new w _
  have hF0 : Fr B w (w.alloc zT) := (Fr.refl B w).alloc _
  clear h
  obtain ⟨res, hres⟩ : ∃ res, res = plainP (typ k) ts := ⟨_, rfl⟩
  rw [← hres]
  have HQ := Lib.hid hres
  clear hres
  obtain ⟨t, ht⟩ : ∃ t, t = hd ts := ⟨_, rfl⟩
  by_cases hk : (hd ts).k = 1
  · have hw : res = .ok (.mk 8 (hd ts).t [] []) ts.tail [] := by rw [HQ.out]; simp [plainP, hk]
    rw [← ht] at hw
    have HW := Lib.hid hw
    have HK := Lib.hid (show (hd ts).k ≠ 6 by omega)
    rw [← ht] at HN hk
    clear hw ht
    have hk1 : (t.k : Int) = 1 := by omega
    have hk2 : ((t.k : Int) == 1) = true := by simpa using hk1
    go_enter Tryz.func128, Tryz.ntmps128
    go_wp2_with fail
    refine HN.out.mono ?_
    rintro e w1 ⟨rfl, b1⟩
    have hA1 := (b1.block _ (by simp)).trans hA0
    have hF1 := hF0.below b1
    have p1 := Lib.hid (p0.out.below b1)
    clear b1 hA0 hF0 p0
    unfold tokV
    go_wp2_with fail
    refine (pass_any (p1.out.alloc _) HK.out).mono ?_
    rintro e w2 ⟨rfl, p2, f2⟩
    have hA2 := f2.cells (blk_alloc hA1 _) (by decide)
    have hB2 : Thr w2 w1.heap.size 105 _ _ _ := f2.cells (thr_new w1 105 _ _ _) (by decide)
    have F2 := Lib.hid ((hF1.alloc _).trans f2)
    obtain ⟨⟨q0, q1, q2, q3⟩, u0, u1, u2, u3⟩ := fou_of (t := 26) hA2
    obtain ⟨⟨d0, d1, d2⟩, -⟩ := thr_of hB2
    have P2 := Lib.hid p2
    clear p2 f2 hA1 hF1 p1
    go_wp2_with fail
    exact ret39 rfl rfl rfl (putL_at hA2 (vs := [_, _, _, _]) rfl) (.ok HW.out (F2.out.putL (Nat.le_refl _) [_, _, _, _]) ⟨_, rfl, vT_bare _ _ 8 t.t⟩ (P2.out.putL hA2 (by decide) HPB.out [_, _, _, _]).nil)
  · have HK := Lib.hid hk
    rw [← ht] at HN hk
    have hk1 : ¬ (t.k : Int) = 1 := by omega
    have hk2 : ((t.k : Int) == 1) = false := by simpa using hk1
    clear ht hk
    go_enter Tryz.func128, Tryz.ntmps128
    go_wp2_with fail
    refine HN.out.mono ?_
    rintro e w1 ⟨rfl, b1⟩
    have hA1 := blk_alloc ((b1.block _ (by simp)).trans hA0) (.cells #[.int .i64 (t.k : Nat), .int .i64 (t.a : Nat), .string ⟨t.t.toArray⟩] 105)
    have hF1 := (hF0.below b1).alloc (.cells #[.int .i64 (t.k : Nat), .int .i64 (t.a : Nat), .string ⟨t.t.toArray⟩] 105)
    have p1 := Lib.hid ((p0.out.below b1).alloc (.cells #[.int .i64 (t.k : Nat), .int .i64 (t.a : Nat), .string ⟨t.t.toArray⟩] 105))
    clear b1 hA0 hF0 p0 hk1 HN
    unfold tokV
    have hk3 := hk2
    go_wp2_with fail
    clear hk2 hk3
    refine (takes_any p1.out [105, 110, 116]).mono ?_
    rintro e w2 ⟨rfl, p2, f2⟩
    have hA2 := f2.cells hA1 (by decide)
    have hF2 := hF1.trans f2
    clear f2 hA1 hF1 p1
    cases hm2 : isM [105, 110, 116] ts with
    | true =>
      simp only [hm2, if_true] at p2
      have hq : res = .ok tInt ts.tail [] := by rw [HQ.out]; simp [plainP, HK.out, hm2]
      have HW := Lib.hid hq
      have P := Lib.hid p2
      have F := Lib.hid hF2
      obtain ⟨⟨q0, q1, q2, q3⟩, u0, u1, u2, u3⟩ := fou_of (t := 26) hA2
      clear p2 hF2 hm2 hq
      go_wp2_with fail
      exact ret39 rfl rfl rfl (putL_at hA2 (vs := [_, _, _, _]) rfl) (.ok HW.out (F.out.putL (Nat.le_refl _) [_, _, _, _]) ⟨_, rfl, vT_bare _ _ 1 []⟩ (P.out.putL hA2 (by decide) HPB.out [_, _, _, _]).nil)
    | false =>
    simp only [hm2, Bool.false_eq_true, if_false] at p2
    have p2 := Lib.hid p2
    have HM2 := Lib.hid hm2
    clear hm2
    go_wp2_with fail
    refine (takes_any p2.out [98, 111, 111, 108]).mono ?_
    rintro e w3 ⟨rfl, p3, f3⟩
    have hA3 := f3.cells hA2 (by decide)
    have hF3 := hF2.trans f3
    clear f3 hA2 hF2 p2
    cases hm3 : isM [98, 111, 111, 108] ts with
    | true =>
      simp only [hm3, if_true] at p3
      have hq : res = .ok tBool ts.tail [] := by rw [HQ.out]; simp [plainP, HK.out, HM2.out, hm3]
      have HW := Lib.hid hq
      have P := Lib.hid p3
      have F := Lib.hid hF3
      obtain ⟨⟨q0, q1, q2, q3⟩, u0, u1, u2, u3⟩ := fou_of (t := 26) hA3
      clear p3 hF3 hm3 hq
      go_wp2_with fail
      exact ret39 rfl rfl rfl (putL_at hA3 (vs := [_, _, _, _]) rfl) (.ok HW.out (F.out.putL (Nat.le_refl _) [_, _, _, _]) ⟨_, rfl, vT_bare _ _ 2 []⟩ (P.out.putL hA3 (by decide) HPB.out [_, _, _, _]).nil)
    | false =>
    simp only [hm3, Bool.false_eq_true, if_false] at p3
    have p3 := Lib.hid p3
    have HM3 := Lib.hid hm3
    clear hm3
    go_wp2_with fail
    refine (takes_any p3.out [116, 101, 120, 116]).mono ?_
    rintro e w4 ⟨rfl, p4, f4⟩
    have hA4 := f4.cells hA3 (by decide)
    have hF4 := hF3.trans f4
    clear f4 hA3 hF3 p3
    cases hm4 : isM [116, 101, 120, 116] ts with
    | true =>
      simp only [hm4, if_true] at p4
      have hq : res = .ok tText ts.tail [] := by rw [HQ.out]; simp [plainP, HK.out, HM2.out, HM3.out, hm4]
      have HW := Lib.hid hq
      have P := Lib.hid p4
      have F := Lib.hid hF4
      obtain ⟨⟨q0, q1, q2, q3⟩, u0, u1, u2, u3⟩ := fou_of (t := 26) hA4
      clear p4 hF4 hm4 hq
      go_wp2_with fail
      exact ret39 rfl rfl rfl (putL_at hA4 (vs := [_, _, _, _]) rfl) (.ok HW.out (F.out.putL (Nat.le_refl _) [_, _, _, _]) ⟨_, rfl, vT_bare _ _ 3 []⟩ (P.out.putL hA4 (by decide) HPB.out [_, _, _, _]).nil)
    | false =>
    simp only [hm4, Bool.false_eq_true, if_false] at p4
    have p4 := Lib.hid p4
    have HM4 := Lib.hid hm4
    clear hm4
    go_wp2_with fail
    refine (takes_any p4.out [63]).mono ?_
    rintro e w5 ⟨rfl, p5, f5⟩
    have hA5 := f5.cells hA4 (by decide)
    have hF5 := hF4.trans f5
    clear f5 hA4 hF4 p4
    cases hm5 : isM [63] ts with
    | true =>
      simp only [hm5, if_true] at p5
      have hq : res = .ok tDyn ts.tail [] := by rw [HQ.out]; simp [plainP, HK.out, HM2.out, HM3.out, HM4.out, hm5]
      have HW := Lib.hid hq
      have P := Lib.hid p5
      have F := Lib.hid hF5
      obtain ⟨⟨q0, q1, q2, q3⟩, u0, u1, u2, u3⟩ := fou_of (t := 26) hA5
      clear p5 hF5 hm5 hq
      go_wp2_with fail
      exact ret39 rfl rfl rfl (putL_at hA5 (vs := [_, _, _, _]) rfl) (.ok HW.out (F.out.putL (Nat.le_refl _) [_, _, _, _]) ⟨_, rfl, vT_bare _ _ 4 []⟩ (P.out.putL hA5 (by decide) HPB.out [_, _, _, _]).nil)
    | false =>
    simp only [hm5, Bool.false_eq_true, if_false] at p5
    have p5 := Lib.hid p5
    have HM5 := Lib.hid hm5
    clear hm5
    go_wp2_with fail
    refine (takes_any p5.out [123]).mono ?_
    rintro e w6 ⟨rfl, p6, f6⟩
    have hA6 := f6.cells hA5 (by decide)
    have hF6 := hF5.trans f6
    clear f6 hA5 hF5 p5
    cases hm6 : isM [123] ts with
    | true =>
      simp only [hm6, if_true] at p6
      have hq : res = ((readP [58] (typ k) ts.tail).bind fun fs r => R.ok (recT fs) r []) := by rw [HQ.out]; simp [plainP, HK.out, HM2.out, HM3.out, HM4.out, HM5.out, hm6]
      have HW := Lib.hid hq
      clear hm6 hq
      go_wp2_with fail
      refine (HR.out _ _ _ p6).mono ?_
      rintro e w9 ⟨f9, h9⟩
      cases hr : ((readP [58] (typ k) ts.tail).bind fun fs r => R.ok (recT fs) r []) with
      | bad y rest ds =>
        rw [hr] at h9
        obtain ⟨rfl, p9⟩ := h9
        go_wp2_with fail
        exact panics rfl (.bad (HW.out.trans hr) (hF6.trans f9) p9)
      | ok x rest ds =>
        have HW := Lib.hid (HW.out.trans hr)
        rw [hr] at h9
        obtain ⟨⟨cs, rfl, hcs⟩, p9⟩ := h9
        obtain ⟨tk, tn, a2, n2, c2, a3, n3, c3, rfl⟩ := cells_T hcs
        have hA9 := f9.cells hA6 (by decide)
        have hs9 := hF6.size
        have HLT := Lib.hid (Array.getElem?_eq_some_iff.1 hA6).1
        have F := Lib.hid (hF6.trans f9)
        have P := Lib.hid p9
        have C := Lib.hid hcs
        obtain ⟨⟨q0, q1, q2, q3⟩, u0, u1, u2, u3⟩ := fou_of (t := 26) hA9
        clear hr f9 p9 hcs p6 hF6 hA6
        go_wp2_with fail
        exact ret39 rfl rfl rfl (putL_at hA9 (vs := [_, _, _, _]) rfl) (.ok HW.out (F.out.putL (Nat.le_refl _) [_, _, _, _]) ⟨[.int .i64 tk, .string tn, .slice a2 n2 c2, .slice a3 n3 c3], rfl, (C.out.mono (A' := fun b => w.heap.size ≤ b ∧ b ≠ w.heap.size) (fun b _ hb => by have := HLT.out; exact ⟨by omega, by omega⟩)).putL _ (fun k hk => hk.2) [_, _, _, _] |>.mono (fun b _ hb => hb.1)⟩ (P.out.putL hA9 (by decide) HPB.out [_, _, _, _]))
    | false =>
    simp only [hm6, Bool.false_eq_true, if_false] at p6
    have p6 := Lib.hid p6
    have HM6 := Lib.hid hm6
    clear hm6
    go_wp2_with fail
    refine (takes_any p6.out [40]).mono ?_
    rintro e w7 ⟨rfl, p7, f7⟩
    have hA7 := f7.cells hA6 (by decide)
    have hF7 := hF6.trans f7
    clear f7 hA6 hF6 p6
    cases hm7 : isM [40] ts with
    | true =>
      simp only [hm7, if_true] at p7
      have hq : res = ((typ k ts.tail).bind fun t r => (want [41] r).bind fun _ r => .ok t r []) := by rw [HQ.out]; simp [plainP, HK.out, HM2.out, HM3.out, HM4.out, HM5.out, HM6.out, hm7]
      have HW := Lib.hid hq
      clear hm7 hq
      have hd1 : ((d : Int) + 1) = ((d + 1 : Nat) : Int) := by omega
      have HD := Lib.hid hd1
      clear hd1
      go_wp2_with fail
      rw [HD.out]
      refine (HT.out _ _ _ p7).mono ?_
      rintro e w9 ⟨f9, h9⟩
      cases hr : typ k ts.tail with
      | bad y rest ds =>
        rw [hr] at h9
        obtain ⟨rfl, p9⟩ := h9
        go_wp2_with fail
        exact panics rfl (.bad (HW.out.trans (by rw [hr, R.bind_bad])) (hF7.trans f9) p9)
      | ok x rest ds =>
        have HW := Lib.hid (HW.out.trans (by rw [hr, R.bind_ok]))
        rw [hr] at h9
        obtain ⟨⟨cs, rfl, hcs⟩, p9⟩ := h9
        obtain ⟨tk, tn, a2, n2, c2, a3, n3, c3, rfl⟩ := cells_T hcs
        have hA9 := f9.cells hA7 (by decide)
        have HLT := Lib.hid (Array.getElem?_eq_some_iff.1 hA7).1
        have F := Lib.hid (hF7.trans f9)
        have P := Lib.hid p9
        have C := Lib.hid hcs
        clear hr f9 p9 hcs p7 hF7 hA7
        go_wp2_with fail
        refine (want_any (P.out.alloc _) [41]).mono ?_
        rintro e w10 ⟨f10, h10⟩
        cases hr : want [41] rest with
        | bad y r2 d2 =>
          rw [hr] at h10
          obtain ⟨rfl, p10⟩ := h10
          go_wp2_with fail
          exact panics rfl (.bad (HW.out.trans (by rw [hr, R.bind_bad, R.tell_bad])) ((F.out.alloc _).trans f10) p10.assoc)
        | ok x2 r2 d2 =>
          rw [hr] at h10
          obtain ⟨h10, p10⟩ := h10
          cases h10
          have HW := Lib.hid (HW.out.trans (by rw [hr, R.bind_ok, R.tell_ok, R.tell_ok, List.append_nil]))
          have hA10 := f10.cells (blk_alloc hA9 _) (by decide)
          have hB10 : Fou w10 w9.heap.size 26 _ _ _ _ := f10.cells (fou_new w9 26 _ _ _ _) (by decide)
          have C10 := Lib.hid (IsCs.fr f10 _ _ (C.out.below ((Below.refl _ _).alloc (Nat.le_refl _) (.cells #[.int .i64 tk, .string tn, .slice a2 n2 c2, .slice a3 n3 c3] 26))))
          have F10 := Lib.hid ((F.out.alloc _).trans f10)
          have P10 := Lib.hid p10
          obtain ⟨⟨q0, q1, q2, q3⟩, u0, u1, u2, u3⟩ := fou_of (t := 26) hA10
          obtain ⟨⟨d0, d1, d2', d3⟩, -⟩ := fou_of hB10
          clear hr f10 p10 hA9 hB10
          go_wp2_with fail
          exact ret39 rfl rfl rfl (putL_at hA10 (vs := [_, _, _, _]) rfl) (.ok HW.out (F10.out.putL (Nat.le_refl _) [_, _, _, _]) ⟨[.int .i64 tk, .string tn, .slice a2 n2 c2, .slice a3 n3 c3], rfl, (C10.out.mono (A' := fun b => w.heap.size ≤ b ∧ b ≠ w.heap.size) (fun b _ hb => by have := HLT.out; exact ⟨by omega, by omega⟩)).putL _ (fun k hk => hk.2) [_, _, _, _] |>.mono (fun b _ hb => hb.1)⟩ (P10.out.putL hA10 (by decide) HPB.out [_, _, _, _]).assoc)
    | false =>
    simp only [hm7, Bool.false_eq_true, if_false] at p7
    have hq : res = .bad (syn ts) ts [] := by rw [HQ.out]; simp [plainP, HK.out, HM2.out, HM3.out, HM4.out, HM5.out, HM6.out, hm7]
    have HW := Lib.hid hq
    clear hm7 hq
    go_wp2_with fail
    refine (unwanted_any p7).mono ?_
    rintro e w9 ⟨rfl, b9⟩
    unfold gvV
    go_wp2_with fail
    exact panics rfl (.bad HW.out (hF7.below b9) (p7.below b9).nil)
end Go.Proofs.YtijnjoonbjdafaaGreatDoor

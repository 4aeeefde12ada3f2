/-
  The contract of Same of package lex: the same kinds and texts, wherever they stand.
-/
import Derived.Test.YtiblndmblchhmaaIs
namespace Go.Proofs.Ytiblndmblchhmaa
open Go.RowKit Go.Shelf

/-- A token without its place. -/
def Tk.kt (t : Tk) : Nat × Bs := (t.k, t.t)
def sameT (a b : List Tk) : Bool := a.map Tk.kt == b.map Tk.kt

theorem Tris.at {W : World} {a0 : Option Addr} {L : List Tk} (h : Tris W a0 (L.map Tk.tri)) {i : Nat} {t : Tk} (ht : L[i]? = some t) :
    ∃ g o, a0 = some ⟨g, o, none⟩ ∧ g < W.heap.size ∧ W.cell? ⟨g, o + i * 3, none⟩ = some (.int .i64 t.k) ∧ W.cell? ⟨g, o + i * 3 + 1, none⟩ = some (.int .i64 t.a) ∧ W.cell? ⟨g, o + i * 3 + 2, none⟩ = some (.string ⟨t.t.toArray⟩) := by
  obtain ⟨g, o, h1, h2, h3, h4, h5⟩ := h i (t.tri) (by simp [ht])
  rw [Nat.mul_comm] at h3 h4 h5
  exact ⟨g, o, h1, h2, h3, h4, h5⟩

theorem arr_eq (x y : Bs) : ((⟨x.toArray⟩ : ByteArray).toList == (⟨y.toArray⟩ : ByteArray).toList) = (x == y) := by
  rw [ByteArray.toList_eq, ByteArray.toList_eq]

set_option maxHeartbeats 1000000 in
theorem same1_any (k a k' a' : Nat) (t t' : Bs) (w : World) :
    Calls Try.prog 23 #[.agg #[.int .i64 k, .int .i64 a, .string ⟨t.toArray⟩], .agg #[.int .i64 k', .int .i64 a', .string ⟨t'.toArray⟩]] w fun e w' => e = .returned (.bool (k == k' && t == t')) ∧ Below w.heap.size w w' := by
  have hB : ∀ o o', Below w.heap.size w ((w.alloc o).alloc o') := fun o o' => ((Below.refl _ w).alloc (Nat.le_refl _) o).alloc (by simp) o'
  have he := arr_eq t t'
  by_cases hk : k = k'
  · subst hk
    go_enter Try.func23, Try.ntmps23
    go_wp2
    go_ret
    exact ⟨by simp, hB _ _⟩
  · have hk1 : ((k : Int) == (k' : Int)) = false := by simp; omega
    have hk2 : ¬ (k : Int) = (k' : Int) := by omega
    have hk3 : (k == k') = false := by simpa using hk
    go_enter Try.func23, Try.ntmps23
    go_wp2
    go_ret
    exact ⟨by simp [hk3], hB _ _⟩

theorem sameT_take {a b : List Tk} (hl : a.length = b.length) (h : ∀ i, i < a.length → ∀ x y, a[i]? = some x → b[i]? = some y → x.kt = y.kt) : sameT a b = true := by
  rw [sameT, beq_iff_eq]
  apply List.ext_getElem?
  intro i
  rw [List.getElem?_map, List.getElem?_map]
  by_cases hi : i < a.length
  · rw [List.getElem?_eq_getElem hi, List.getElem?_eq_getElem (by omega : i < b.length)]
    simp only [Option.map_some]
    rw [h i hi _ _ (List.getElem?_eq_getElem hi) (List.getElem?_eq_getElem (by omega))]
  · rw [List.getElem?_eq_none (by omega), List.getElem?_eq_none (by omega)]

theorem sameT_not {a b : List Tk} {i : Nat} {x y : Tk} (hx : a[i]? = some x) (hy : b[i]? = some y) (h : x.kt ≠ y.kt) : sameT a b = false := by
  rw [sameT, Bool.eq_false_iff]
  intro e
  have e1 := beq_iff_eq.1 e
  have e2 := congrArg (fun l => l[i]?) e1
  simp only [List.getElem?_map, hx, hy, Option.map_some, Option.some.injEq] at e2
  exact h e2
theorem sameT_len {a b : List Tk} (h : a.length ≠ b.length) : sameT a b = false := by
  rw [sameT, Bool.eq_false_iff]
  intro e
  have e1 := congrArg List.length (beq_iff_eq.1 e)
  simp at e1
  exact h e1

set_option maxHeartbeats 2000000 in
theorem eqfunc_any (a0 b0 : Option Addr) (ca cb : Nat) (La Lb : List Tk) (_hla : La.length ≤ 2000000) (hlb : Lb.length ≤ 2000000) (w : World) (ha : Tris w a0 (La.map Tk.tri)) (hb : Tris w b0 (Lb.map Tk.tri)) :
    Calls Try.prog 22 #[.slice a0 La.length ca, .slice b0 Lb.length cb, .func (.func 23) #[] #[]] w fun e w' => e = .returned (.bool (sameT La Lb)) ∧ Below w.heap.size w w' := by
  by_cases hl : La.length = Lb.length
  · have HL := Lib.hid hl
    rw [hl]
    clear hl
    go_enter Try.func22, Try.ntmps22
    go_wp2_with fail
    go_loopw [17] (fun s17 wr => ∃ i : Nat, s17 = .int .i64 (i : Int) ∧ i ≤ Lb.length ∧ (∀ j, j < i → ∀ x y, La[j]? = some x → Lb[j]? = some y → x.kt = y.kt) ∧ Below w.heap.size w wr) (fun s17 _ => Lb.length - (intOf s17).toNat)
    case atStart => exact ⟨0, rfl, Nat.zero_le _, fun j hj => by omega, Below.refl _ _⟩
    case round =>
      obtain ⟨i, rfl, hi, hall, hB⟩ := hrel
      by_cases hlt : i < Lb.length
      · obtain ⟨x, hx⟩ : ∃ x, La[i]? = some x := ⟨_, List.getElem?_eq_getElem (by rw [HL.out]; exact hlt)⟩
        obtain ⟨y, hy⟩ : ∃ y, Lb[i]? = some y := ⟨_, List.getElem?_eq_getElem hlt⟩
        obtain ⟨g, o, rfl, hg, p0, p1, p2⟩ := ha.at hx
        obtain ⟨g', o', rfl, hg', q0, q1, q2⟩ := hb.at hy
        have r0 := (hB.cell (p := ⟨g, _, none⟩) hg).trans p0
        have r1 := (hB.cell (p := ⟨g, _, none⟩) hg).trans p1
        have r2 := (hB.cell (p := ⟨g, _, none⟩) hg).trans p2
        have u0 := (hB.cell (p := ⟨g', _, none⟩) hg').trans q0
        have u1 := (hB.cell (p := ⟨g', _, none⟩) hg').trans q1
        have u2 := (hB.cell (p := ⟨g', _, none⟩) hg').trans q2
        have HX := Lib.hid hx
        have HY := Lib.hid hy
        have HALL := Lib.hid hall
        have hgw : g < wr.heap.size := Nat.lt_of_lt_of_le hg hB.size
        have hgw' : g' < wr.heap.size := Nat.lt_of_lt_of_le hg' hB.size
        have ng : ¬ g = wr.heap.size := by omega
        have ng' : ¬ g' = wr.heap.size := by omega
        clear p0 p1 p2 q0 q1 q2 hx hy hall
        obtain ⟨xk, xa, xt⟩ := x
        obtain ⟨yk, ya, yt⟩ := y
        simp only at r0 r1 r2 u0 u1 u2
        go_wp2_with fail
        refine (same1_any _ _ _ _ _ _ _).mono ?_
        rintro e w1 ⟨rfl, hB1⟩
        have hB2 : Below w.heap.size w w1 := hB.trans ((((Below.refl wr.heap.size wr).alloc (Nat.le_refl _) _).alloc (by simp) _).trans (hB1.mono (by simp; omega)) |>.mono hB.size)
        have HB2 := Lib.hid hB2
        clear hB1 hB2
        cases hs : (xk == yk && xt == yt) with
        | true =>
          have he : (⟨xk, xa, xt⟩ : Tk).kt = (⟨yk, ya, yt⟩ : Tk).kt := by
            simp at hs
            simp [Tk.kt, hs.1, hs.2]
          have HE := Lib.hid he
          clear hs he
          go_wp2_with fail
          go_roundw
          case rel =>
            refine ⟨i + 1, by go_num, by omega, ?_, HB2.out⟩
            intro j hj x y hx hy
            by_cases hji : j = i
            · subst hji
              rw [HX.out] at hx
              rw [HY.out] at hy
              cases hx
              cases hy
              exact HE.out
            · exact HALL.out j (by omega) x y hx hy
          case measure => simp [intOf]; omega
        | false =>
          have he : (⟨xk, xa, xt⟩ : Tk).kt ≠ (⟨yk, ya, yt⟩ : Tk).kt := by
            intro e
            simp only [Tk.kt, Prod.mk.injEq] at e
            simp [e.1, e.2] at hs
          have HE := Lib.hid (sameT_not HX.out HY.out he)
          clear hs he
          go_wp2_with fail
          go_ret
          exact ⟨by rw [HE.out]; rfl, HB2.out⟩
      · have hil : i = Lb.length := by omega
        have HS := Lib.hid (sameT_take HL.out (fun j hj => hall j (by rw [HL.out] at hj; omega)))
        clear hall
        go_wp2_with fail
        go_ret
        exact ⟨by rw [HS.out]; rfl, hB⟩
  · have HS := Lib.hid (sameT_len hl)
    have hl1 : ((La.length : Int) == (Lb.length : Int)) = false := by simp; omega
    have hl2 : ¬ (La.length : Int) = (Lb.length : Int) := by omega
    clear hl
    go_enter Try.func22, Try.ntmps22
    go_wp2_with fail
    go_ret
    exact ⟨by rw [HS.out]; rfl, Below.refl _ _⟩

theorem same_any (a0 b0 : Option Addr) (ca cb : Nat) (La Lb : List Tk) (hla : La.length ≤ 2000000) (hlb : Lb.length ≤ 2000000) (w : World) (ha : Tris w a0 (La.map Tk.tri)) (hb : Tris w b0 (Lb.map Tk.tri)) :
    Calls Try.prog 15 #[.slice a0 La.length ca, .slice b0 Lb.length cb] w fun e w' => e = .returned (.bool (sameT La Lb)) ∧ Below w.heap.size w w' := by
  have HC := Lib.hid (eqfunc_any a0 b0 ca cb La Lb hla hlb w ha hb)
  go_enter Try.func15, Try.ntmps15
  go_wp2_with fail
  refine HC.out.mono ?_
  rintro e w1 ⟨rfl, hB⟩
  go_wp2_with fail
  go_ret
  exact ⟨rfl, hB⟩

end Go.Proofs.Ytiblndmblchhmaa

/-
  LexNumbers returns true for every two numbers and every slice of bytes, and leaves it as it was. No condition beside the form's own.
-/
import Derived.Test.YtiblndmblchhmaaNums
import Derived.Test.YtiblndmblchhmaaJoinsP
namespace Go.Proofs.Ytiblndmblchhmaa
open Go.ChangeShapes Go.WideShapes Go.ChangeAt Go.RowKit

theorem laidOut : laidOutB Try.prog = true := by kernel_rfl
theorem cells5 : Try.prog.cellsOf 5 = 1 := by kernel_rfl

/-- What the walk is told of a slice of integers that came in: its elements are zs, and each lies in its cell, below block B. -/
structure Ints (k : IntKind) (w : World) (B : Nat) (a : Option Addr) (zs : List Int) : Prop where
  cell : ∀ (i : Nat) (z : Int), zs[i]? = some z → ∃ b off, a = some ⟨b, off, none⟩ ∧ b < B ∧ w.cell? ⟨b, off + i, none⟩ = some (.int k z)
  wf : ∀ (i : Nat) (z : Int), zs[i]? = some z → (Lit.int k z).wf = true
  len : zs.length ≤ 9223372036854775807

/-- A slice of integers that was read, as the walk is told of it. -/
theorem ints_of {H : Type} {enc : TypeId × Value → H} {W : World} {a0 : Option Addr} {len cap : Nat} {d : DataW H} {p : List MemPlace} {t e : TypeId} {k : IntKind} (ht : Try.prog.underlying t = some (.slice e)) (he : Try.prog.underlying e = some (.int k)) (hc : Try.prog.cellsOf e = 1)
    (h : DataW.Trod enc Try.prog W 0 (fun _ => true) true t (.slice a0 len cap) d p)
    (hlt : ∀ x ∈ p, x.block < W.heap.size) : ∃ zs : List Int, zs.length = len ∧ Ints k W W.heap.size a0 zs := by
  obtain ⟨fuel, hf⟩ := h
  rcases open_ints ht he hc hf with ⟨hcs, hx⟩ | ⟨a, len', cap', zs, hcs, _, hl, hm, hz, hx, hcell, hwf⟩
  · simp [Value.cells] at hcs
    obtain ⟨rfl, rfl, rfl⟩ := hcs
    exact ⟨[], rfl, ⟨fun i s hs => by simp at hs, fun i s hs => by simp at hs, by simp⟩⟩
  · simp [Value.cells] at hcs
    obtain ⟨rfl, rfl, rfl⟩ := hcs
    simp only [Prod.mk.injEq] at hx
    obtain ⟨rfl, rfl⟩ := hx
    simp only [if_true] at hz
    have hlen : (zs.take len).length = len := by rw [List.length_take]; omega
    refine ⟨zs.take len, hlen, ⟨fun i s hs => ?_, fun i s hs => ?_, ?_⟩⟩
    · have hi : i < len := by have := (List.getElem?_eq_some_iff.1 hs).1; omega
      have hs' : zs.getD i 0 = s := by
        rw [List.getElem?_take, if_pos hi] at hs
        simp [List.getD, hs]
      obtain ⟨b, off, rfl, hcell'⟩ := ints_at hcell (by omega)
      have hc := hcell' i (by omega)
      rw [hs'] at hc
      exact ⟨b, off, rfl, hlt (.cell b off) (MemPlace.mem_row.2 ⟨0, by omega, by simp⟩), hc⟩
    · exact hwf s (List.mem_of_mem_take (List.mem_of_getElem? hs))
    · rw [hlen]; simp only [maxLen] at hm; omega


theorem byts_of {W : World} {a0 : Option Addr} {zs : List Int} (h : Ints .u8 W W.heap.size a0 zs) : ∃ l : Bs, l.map (fun c : UInt8 => (c.toNat : Int)) = zs ∧ Byts W a0 l := by
  have hz : ∀ z ∈ zs, 0 ≤ z ∧ z ≤ 255 := by
    intro z hz
    obtain ⟨i, hi⟩ := List.mem_iff_getElem?.1 hz
    exact bounds_u8 (h.wf i z hi)
  refine ⟨zs.map (fun z => UInt8.ofNat z.toNat), ?_, ?_⟩
  · rw [List.map_map]
    conv => rhs; rw [← List.map_id zs]
    apply List.map_congr_left
    intro z hm
    have := hz z hm
    simp only [Function.comp, UInt8.toNat_ofNat', id]
    omega
  · refine ⟨fun i c hc => ?_⟩
    rw [List.getElem?_map] at hc
    obtain ⟨z, hz1, rfl⟩ := Option.map_eq_some_iff.1 hc
    obtain ⟨b, off, h1, h2, h3⟩ := h.cell i z hz1
    refine ⟨b, off, h1, h2, ?_⟩
    rw [h3]
    have := hz z (List.mem_of_getElem? hz1)
    have e : ((UInt8.ofNat z.toNat).toNat : Int) = z := by
      simp only [UInt8.toNat_ofNat']
      omega
    rw [e]

theorem byts_in {H : Type} {enc : TypeId × Value → H} {W : World} {a0 : Option Addr} {len cap : Nat} {d : DataW H} {p : List MemPlace}
    (h : DataW.Trod enc Try.prog W 0 (fun _ => true) true 43 (.slice a0 len cap) d p) (hlt : ∀ x ∈ p, x.block < W.heap.size) : ∃ l : Bs, l.length = len ∧ l.length ≤ 9223372036854775807 ∧ Byts W a0 l := by
  obtain ⟨zs, h1, hzs⟩ := ints_of Try.underlying43 Try.underlying5 cells5 h hlt
  obtain ⟨l, h2, hbl⟩ := byts_of hzs
  have h3 : l.length = zs.length := by rw [← h2, List.length_map]
  have h4 := hzs.len
  exact ⟨l, h3.trans h1, by omega, hbl⟩

set_option maxRecDepth 100000 in
theorem nums_lifted (os : Os) (started : os.Started) (H : Type) (enc : TypeId × Value → H) :
    ReturnsInHanded {} Try.checked os 7 .any (Rows.lexNumbersSpec.pre6 enc Try.prog Try.f7 Rows.lexNumbersRow.domain false) (Rows.lexNumbersSpec.post enc Try.prog Try.f7 false true false false) := by
  refine returnsInHanded_of_change (C := Try.checked) own started (by kernel_rfl) Try.func7
    (ChangeSpec.witness6 (enc := enc) (C := Try.checked) false ⟨#[], #[.int .u8 0, .int .u8 0, .slice none 0 0], []⟩ 8 (by kernel_rfl) (by kernel_rfl) (by kernel_rfl) (by kernel_rfl)) ?_
  intro W base args ds gs before hval0 hW _ _
  have hval : ∀ (j : Nat) t v, Try.f7.params[j]? = some t → args[j]? = some v → Value.okWide Try.prog W .any base t v := hval0
  have hW' := hW
  obtain ⟨p, q, hA0, hV, rfl, _, _⟩ := hW
  have hA : DataW.TrodAll enc Try.prog W 0 (fun _ => true) true Try.f7.params.toList args.toList ds p := hA0
  rw [Try.params7] at hA hval
  obtain ⟨v0, vs0, d0, ds0, p0, q0, hargs, rfl, rfl, h0, r0⟩ := trodAll_cons hA
  obtain ⟨v1, vs1, d1, ds1, p1, q1, rfl, rfl, rfl, h1, r1⟩ := trodAll_cons r0
  obtain ⟨v2, vs2, d2, ds2, p2, q2, rfl, rfl, rfl, h2, r2⟩ := trodAll_cons r1
  obtain ⟨rfl, rfl, rfl⟩ := trodAll_nil r2
  obtain rfl : args = #[v0, v1, v2] := by cases args; simp_all
  obtain ⟨rfl, rfl⟩ := trodVars_none hV
  obtain ⟨a0, rfl, rfl, rfl, w0⟩ := open_int Try.underlying5 (hval 0 5 v0 rfl rfl) h0
  obtain ⟨a1, rfl, rfl, rfl, w1⟩ := open_int Try.underlying5 (hval 1 5 v1 rfl rfl) h1
  obtain ⟨ad, len, cap, rfl⟩ := okWide_slice Try.underlying43 (hval 2 43 v2 rfl rfl)
  have hlt : ∀ x ∈ p2, x.block < W.heap.size := by obtain ⟨m, hm⟩ := h2; exact DataW.trod_lt m _ _ _ hm
  obtain ⟨l, rfl, hlm, hbl⟩ := byts_in h2 hlt
  clear hA0 hval0
  have n0 := bounds_u8 w0
  have n1 := bounds_u8 w1
  obtain ⟨k0, rfl⟩ : ∃ k : Nat, a0 = (k : Int) := ⟨a0.toNat, by omega⟩
  obtain ⟨k1, rfl⟩ : ∃ k : Nat, a1 = (k : Int) := ⟨a1.toNat, by omega⟩
  refine (nums_walk k0 k1 (by omega) (by omega) ad cap l hlm W hbl).mono fun e W' ⟨he, bel⟩ => ?_
  subst he
  exact ⟨_, rfl, _, _, _, [], _, [], hW', trodAll_mk1 (shut_bool Try.underlying4 _), (trodAll_cons_mk (shut_int Try.underlying5 w0) (trodAll_cons_mk (shut_int Try.underlying5 w1) (trodAll_cons_mk (Below.trod laidOut (by kernel_rfl) (of_decide_eq_true (by kernel_rfl)) h2 bel hlt) trodAll_mk0))), rfl, bel.frame _, fun h => by cases h⟩

theorem lexNumbers_holds : Rows.LexNumbersSaid :=
  OpenClaim.holds_of_wide 7 Try.f7 rfl rfl rfl rfl rfl rfl rfl ⟨rfl, rfl, rfl, rfl, rfl⟩ rfl rfl rfl rfl rfl (by kernel_rfl) Try.func7 (by kernel_rfl)
    (of_decide_eq_true (by kernel_rfl)) (by unfold Func.isWrapper; first | (rw [if_pos (by decide +kernel)]; kernel_rfl) | (rw [if_neg (by decide +kernel)]; exact ⟨rfl, rfl⟩))
    (fun os started H enc _ => nums_lifted os started H enc)

#print axioms lexNumbers_holds

end Go.Proofs.Ytiblndmblchhmaa

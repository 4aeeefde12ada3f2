/-
  The contracts of package lru as a caller with one list meets them.
-/
import Derived.Test.YthnmnohhhakjbaaIBut
namespace Go.Proofs.Ythnmnohhhakjbaa.I
open Go.RowKit Go.Maps

/-- Block b is a list with the keys ks, all of whose memory lies from block B on. -/
def IsL (B b : Nat) (w : World) (ks : List Int) (N : Nat) : Prop := ∃ l : Lst, l.b = b ∧ l.At w ks N ∧ ∀ i, l.foot i → B ≤ i

theorem IsL.below {B b : Nat} {w w' : World} {ks : List Int} {N : Nat} (h : IsL B b w ks N) (hb : Below w.heap.size w w') : IsL B b w' ks N := by
  obtain ⟨l, h1, h2, h3⟩ := h
  exact ⟨l, h1, h2.kept (KeptBut.of_below hb (fun _ => False)) (fun _ _ e => e), h3⟩
theorem IsL.nodup {B b : Nat} {w : World} {ks : List Int} {N : Nat} (h : IsL B b w ks N) : ks.Nodup := by
  obtain ⟨l, h1, h2, h3⟩ := h
  exact h2.nodup
theorem IsL.ok {B b : Nat} {w : World} {ks : List Int} {N : Nat} (h : IsL B b w ks N) : ∀ k ∈ ks, kok k := by
  obtain ⟨l, h1, h2, h3⟩ := h
  exact h2.ok
theorem IsL.le {B b : Nat} {w : World} {ks : List Int} {N : Nat} (h : IsL B b w ks N) : ks.length ≤ N := by
  obtain ⟨l, h1, h2, h3⟩ := h
  exact h2.le
theorem IsL.mono {B b : Nat} {w : World} {ks : List Int} {N N' : Nat} (h : IsL B b w ks N) (hN : N ≤ N') : IsL B b w ks N' := by
  obtain ⟨l, h1, h2, h3⟩ := h
  exact ⟨l, h1, h2.mono hN, h3⟩
theorem IsL.base {B B' b : Nat} {w : World} {ks : List Int} {N : Nat} (h : IsL B b w ks N) (hB : B' ≤ B) : IsL B' b w ks N := by
  obtain ⟨l, h1, h2, h3⟩ := h
  exact ⟨l, h1, h2, fun i hi => Nat.le_trans hB (h3 i hi)⟩
theorem IsL.lt {B b : Nat} {w : World} {ks : List Int} {N : Nat} (h : IsL B b w ks N) : b < w.heap.size := by
  obtain ⟨l, rfl, h2, h3⟩ := h
  exact h2.lt _ (.inl rfl)
theorem IsL.seen {B b : Nat} {w : World} {ks : List Int} {N : Nat} (h : IsL B b w ks N) (hN : N < 1000) : Seen w.heap.size w (some ⟨b, 0, none⟩) ks := by
  obtain ⟨l, rfl, h2, h3⟩ := h
  exact .inr ⟨l, N, rfl, hN, h2, h2.lt⟩

theorem Turned.is {l : Lst} {w w' : World} {ks : List Int} {N B : Nat} (h : Turned l w ks N w') (hB : B ≤ w.heap.size) (hf : ∀ i, l.foot i → B ≤ i) : IsL B l.b w' ks N ∧ Below B w w' := by
  obtain ⟨l', h1, h2, h3, h4⟩ := h
  refine ⟨⟨l', h1, h2, fun i hi => ?_⟩, h3.below hB hf⟩
  rcases h4 i hi with e | e
  · exact hf i e
  · exact Nat.le_trans hB e

theorem new_l (w : World) : Calls Try.prog 9 #[] w fun e w' => e = .returned (.pointer (some ⟨w.heap.size, 0, none⟩)) ∧ IsL w.heap.size w.heap.size w' [] 0 ∧ Below w.heap.size w w' := by
  refine (new_any w).mono ?_
  rintro e w' ⟨rfl, rfl⟩
  refine ⟨rfl, ⟨⟨w.heap.size, none⟩, rfl, At_new w 0, fun i hi => Nat.le_of_eq (Lst.foot_none.1 hi).symm⟩, (Below.refl _ _).alloc (Nat.le_refl _) _⟩

theorem use_l (B b : Nat) (ks : List Int) (N : Nat) (k : Int) (w : World) (h : IsL B b w ks N) (hB : B ≤ w.heap.size) (hk : kok k) (hN : N < 900) :
    Calls Try.prog 10 #[.pointer (some ⟨b, 0, none⟩), (Value.int .i64) k] w fun e w' => e = .returned (.tuple #[]) ∧ IsL B b w' (k :: ks.erase k) (N + 1) ∧ Below B w w' := by
  obtain ⟨l, rfl, h2, h3⟩ := h
  refine (use_any l w ks N k h2 hk hN).mono ?_
  rintro e w' ⟨rfl, ht⟩
  exact ⟨rfl, ht.is hB h3⟩

theorem drop_l (B b : Nat) (ks : List Int) (N : Nat) (k : Int) (w : World) (h : IsL B b w ks N) (hB : B ≤ w.heap.size) (hk : kok k) :
    Calls Try.prog 12 #[.pointer (some ⟨b, 0, none⟩), (Value.int .i64) k] w fun e w' => e = .returned (.bool (decide (k ∈ ks))) ∧ IsL B b w' (ks.erase k) N ∧ Below B w w' := by
  obtain ⟨l, rfl, h2, h3⟩ := h
  refine (drop_any l w ks N k h2 hk).mono ?_
  rintro e w' ⟨rfl, ht⟩
  exact ⟨rfl, ht.is hB h3⟩

theorem len_l (B b : Nat) (ks : List Int) (N : Nat) (w : World) (h : IsL B b w ks N) :
    Calls Try.prog 17 #[.pointer (some ⟨b, 0, none⟩)] w fun e w' => e = .returned (.int .i64 (ks.length : Nat)) ∧ w = w' := by
  obtain ⟨l, rfl, h2, h3⟩ := h
  exact len_any l w ks N h2

theorem keys_l (B b : Nat) (ks : List Int) (N : Nat) (w : World) (h : IsL B b w ks N) (hN : N < 1000) :
    Calls Try.prog 16 #[.pointer (some ⟨b, 0, none⟩)] w fun e w' => ∃ v, e = .returned v ∧ w'.ownsRow w.heap.size 3 1 v ks.length (ks.map (Value.int .i64)) ∧ IsL B b w' ks N ∧ Below w.heap.size w w' := by
  have h0 := h
  obtain ⟨l, rfl, h2, h3⟩ := h
  refine (keys_any l w ks N h2 hN).mono ?_
  rintro e w' ⟨v, rfl, h5, h6⟩
  exact ⟨v, rfl, h5, h0.below h6, h6⟩

theorem has_l (B b : Nat) (ks : List Int) (N : Nat) (k : Int) (w : World) (h : IsL B b w ks N) (hk : kok k) :
    Calls Try.prog 18 #[.pointer (some ⟨b, 0, none⟩), (Value.int .i64) k] w fun e w' => e = .returned (.bool (decide (k ∈ ks))) ∧ w = w' := by
  obtain ⟨l, rfl, h2, h3⟩ := h
  exact has_any l w ks N k h2 hk

theorem last_l (B b : Nat) (ks : List Int) (N : Nat) (w : World) (h : IsL B b w ks N) (hN : N < 1000) :
    Calls Try.prog 19 #[.pointer (some ⟨b, 0, none⟩)] w fun e w' => ∃ r ok, e = .returned (.tuple #[(Value.int .i64) r, .bool ok]) ∧ ((ok = true ∧ ks.getLast? = some r) ∨ (ok = false ∧ ks = [] ∧ r = (0 : Int))) ∧ IsL B b w' ks N ∧ Below w.heap.size w w' := by
  refine (last_in (some ⟨b, 0, none⟩) ks w (h.seen hN) h.ok).mono ?_
  rintro e w' ⟨r, ok, rfl, h1, h2⟩
  exact ⟨r, ok, rfl, h1, h.below h2, h2⟩

end Go.Proofs.Ythnmnohhhakjbaa.I

/-
  The contracts of package words as a caller with one table meets them; and of the first law file's 'alive': it returns true; of what was there nothing has turned.
-/
import Derived.Test.YtgflncpigeppfaaAdd
namespace Go.Proofs.Ytgflncpigeppfaa
open Go.RowKit Go.Maps

theorem At_new (w : World) : Tab.At ⟨w.heap.size, none, .slice none 0 0⟩ (w.alloc (.cells #[.map none, .slice none 0 0] 40)) [] :=
  ⟨heap_alloc_new w _, World.ownsRow_nil _ _ _ _, rfl⟩

/-- Block b is a table of the texts L, all of whose memory lies from block B on. -/
def IsTab (B b : Nat) (w : World) (L : List ByteArray) : Prop := ∃ τ : Tab, τ.b = b ∧ τ.At w L ∧ ∀ k, τ.foot k → B ≤ k

theorem IsTab.mono {B B' b : Nat} {w : World} {L : List ByteArray} (h : IsTab B b w L) (hB : B' ≤ B) : IsTab B' b w L := by
  obtain ⟨τ, h1, h2, h3⟩ := h
  exact ⟨τ, h1, h2, fun k hk => Nat.le_trans hB (h3 k hk)⟩

theorem new_tab (w : World) : Calls Try.prog 9 #[] w fun e w' => e = .returned (.pointer (some ⟨w.heap.size, 0, none⟩)) ∧ IsTab w.heap.size w.heap.size w' [] ∧ Below w.heap.size w w' := by
  refine (new_any w).mono ?_
  rintro e w' ⟨rfl, rfl⟩
  refine ⟨rfl, ⟨⟨w.heap.size, none, .slice none 0 0⟩, rfl, At_new w, ?_⟩, (Below.refl _ _).alloc (Nat.le_refl _) _⟩
  rintro k (e | e | e)
  · exact Nat.le_of_eq e.symm
  · cases e
  · cases e

theorem of_tab (B b : Nat) (L : List ByteArray) (s : ByteArray) (w : World) (h : IsTab B b w L) (hB : B ≤ w.heap.size) (hs : s.size ≤ 281474976710656) (hlen : L.length < 1000) :
    Calls Try.prog 11 #[.pointer (some ⟨b, 0, none⟩), .string s] w fun e w' => e = .returned (.int .i64 (num (put L s) s : Nat)) ∧ IsTab B b w' (put L s) ∧ Below B w w' := by
  obtain ⟨τ, rfl, h2, h3⟩ := h
  refine (of_any τ L s w h2 hs hlen).mono ?_
  rintro e w' ⟨rfl, τ', hb, hA, hk, hf⟩
  refine ⟨rfl, ⟨τ', hb, hA, fun k hk' => ?_⟩, hk.below hB h3⟩
  rcases hf k hk' with e | e
  · exact h3 k e
  · exact Nat.le_trans hB e

theorem len_tab (B b : Nat) (L : List ByteArray) (w : World) (h : IsTab B b w L) : Calls Try.prog 12 #[.pointer (some ⟨b, 0, none⟩)] w fun e w' => e = .returned (.int .i64 (L.length : Nat)) ∧ w = w' := by
  obtain ⟨τ, rfl, h2, h3⟩ := h
  exact len_any τ L w h2

theorem known_tab (B b : Nat) (L : List ByteArray) (s : ByteArray) (w : World) (h : IsTab B b w L) (hs : s.size ≤ maxLen) :
    Calls Try.prog 13 #[.pointer (some ⟨b, 0, none⟩), .string s] w fun e w' => e = .returned (.tuple #[.int .i64 (num L s : Nat), .bool (has L s)]) ∧ w = w' := by
  obtain ⟨τ, rfl, h2, h3⟩ := h
  exact known_any τ L s w h2 hs

theorem text_tab_none (B b : Nat) (L : List ByteArray) (n : Int) (w : World) (h : IsTab B b w L) (hn : n < 1 ∨ (L.length : Int) < n) :
    Calls Try.prog 14 #[.pointer (some ⟨b, 0, none⟩), .int .i64 n] w fun e w' => e = .returned (.tuple #[.string ⟨#[]⟩, .int .i64 3]) ∧ w = w' := by
  obtain ⟨τ, rfl, h2, h3⟩ := h
  exact text_none τ L n w h2 hn

theorem text_tab_some (B b : Nat) (L : List ByteArray) (n : Nat) (s : ByteArray) (i : Int) (w : World) (h : IsTab B b w L) (hs : L[n]? = some s) (hi : i = (n : Int) + 1) :
    Calls Try.prog 14 #[.pointer (some ⟨b, 0, none⟩), .int .i64 i] w fun e w' => e = .returned (.tuple #[.string s, .int .i64 0]) ∧ w = w' := by
  obtain ⟨τ, rfl, h2, h3⟩ := h
  subst hi
  exact text_some τ L n s w h2 hs

set_option maxHeartbeats 400000 in
theorem alive_any (w : World) : Calls Try.prog 8 #[] w fun e w' => e = .returned (.bool true) ∧ Below w.heap.size w w' := by
  go_enter Try.func8, Try.ntmps8
  go_wp2_with fail
  refine (new_tab _).mono ?_
  rintro e w1 ⟨rfl, h1, b1⟩
  go_wp2_with fail
  refine (of_tab _ _ [] _ _ h1 b1.size (by decide) (by decide)).mono ?_
  rintro e w2 ⟨rfl, h2, b2⟩
  have s2 : w.heap.size ≤ w2.heap.size := Nat.le_trans b1.size b2.size
  have e1 : num (put [] ⟨#[97]⟩) ⟨#[97]⟩ = 1 := by decide
  go_wp2_with fail
  refine (of_tab _ _ _ _ _ h2 s2 (by decide) (by decide)).mono ?_
  rintro e w3 ⟨rfl, h3, b3⟩
  have s3 : w.heap.size ≤ w3.heap.size := Nat.le_trans s2 b3.size
  have e2 : num (put (put [] ⟨#[97]⟩) ⟨#[98]⟩) ⟨#[98]⟩ = 2 := by decide
  go_wp2_with fail
  refine (of_tab _ _ _ _ _ h3 s3 (by decide) (by decide)).mono ?_
  rintro e w4 ⟨rfl, h4, b4⟩
  have e3 : num (put (put (put [] ⟨#[97]⟩) ⟨#[98]⟩) ⟨#[97]⟩) ⟨#[97]⟩ = 1 := by decide
  go_wp2_with fail
  refine (text_tab_none _ _ _ _ _ h4 (by decide)).mono ?_
  rintro e w5 ⟨rfl, rfl⟩
  go_wp2
  go_ret
  exact ⟨rfl, ((b1.trans b2).trans b3).trans b4⟩

end Go.Proofs.Ytgflncpigeppfaa

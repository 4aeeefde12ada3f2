/-
  The contracts of words.New, Len, Known, Text and strings.Clone.
-/
import Derived.Test.YtgflncpigeppfaaTab
import Derived.Lib.Strings
import Derived.Lib.Walk
import Derived.Lib.BufferWrite
import Derived.Lib.UnsafeStr
import Derived.Laws.MakeOwn
namespace Go.Proofs.Ytgflncpigeppfaa
open Go.RowKit Go.Maps

set_option maxHeartbeats 400000 in
theorem new_any (w : World) : Calls Try.prog 9 #[] w fun e w' => e = .returned (.pointer (some ⟨w.heap.size, 0, none⟩)) ∧ w' = w.alloc (.cells #[.map none, .slice none 0 0] 40) := by
  go_enter Try.func9, Try.ntmps9
  go_wp2
  go_ret
  exact ⟨rfl, rfl⟩

set_option maxHeartbeats 400000 in
theorem len_any (τ : Tab) (L : List ByteArray) (w : World) (h : τ.At w L) : Calls Try.prog 12 #[.pointer (some ⟨τ.b, 0, none⟩)] w fun e w' => e = .returned (.int .i64 (L.length : Nat)) ∧ w = w' := by
  have c1 := cell1 h
  rcases row_cases h with ⟨hv, rfl⟩ | ⟨g, cap, hv, h1, h2, h3⟩
  · rw [hv] at c1
    clear hv h
    go_enter Try.func12, Try.ntmps12
    go_wp2
    go_ret
    exact ⟨rfl, rfl⟩
  · rw [hv] at c1
    clear hv h h3
    go_enter Try.func12, Try.ntmps12
    go_wp2
    go_ret
    exact ⟨rfl, rfl⟩


/-- What a map's entry reads as, laid out. -/
theorem lit_int_inj {H : Type} {a b : Int} (h : (DataW.lit (.int .i64 a) : DataW H) = .lit (.int .i64 b)) : a = b := by
  injection h with h; injection h

set_option maxHeartbeats 400000 in
theorem known_any (τ : Tab) (L : List ByteArray) (s : ByteArray) (w : World) (h : τ.At w L) (hs : s.size ≤ maxLen) :
    Calls Try.prog 13 #[.pointer (some ⟨τ.b, 0, none⟩), .string s] w fun e w' => e = .returned (.tuple #[.int .i64 (num L s : Nat), .bool (has L s)]) ∧ w = w' := by
  have c0 := cell0 h
  have hm := h.map
  have hkey := WideMaps.keyOf_string_mk Try.underlying9 hs
  obtain ⟨b, m, v⟩ := τ
  clear h
  cases m with
  | none =>
    obtain rfl : L = [] := hm
    have hrun := look_nil (w := w) true law9 Try.underlying38 (zero3 _) hkey
    clear hkey
    have e1 : has [] s = false := by simp [has, num]
    rw [e1]
    show Calls Try.prog 13 #[.pointer (some ⟨b, 0, none⟩), .string s] w fun e w' => e = .returned (.tuple #[.int .i64 0, .bool false]) ∧ w = w'
    go_enter Try.func13, Try.ntmps13
    go_wp2
    go_ret2
    exact ⟨rfl, rfl⟩
  | some bm =>
    obtain ⟨D, hown, hD⟩ := hm
    obtain ⟨h1, h2⟩ := hD s
    have H1 := Lib.hid h1
    have H2 := Lib.hid h2
    clear h1 h2 hD
    have HK := Lib.hid hkey
    clear hkey
    go_enter Try.func13, Try.ntmps13
    go_wp2_with (first
      | (at_lookup; refine wpList_lookup_own_ok_int _ rfl _ _ 38 rfl 9 3 .i64 law9 Try.underlying38 Try.underlying3 (zero3 _) bm _ D rfl hown _ _ rfl HK.out ?_; intro c hat hwc; rw [H2.out] at hat; obtain rfl := lit_int_inj hat; clear hat)
      | go_in)
    go_ret2
    rw [H1.out]
    exact ⟨rfl, rfl⟩

set_option maxHeartbeats 400000 in
theorem text_none (τ : Tab) (L : List ByteArray) (n : Int) (w : World) (h : τ.At w L) (hn : n < 1 ∨ (L.length : Int) < n) :
    Calls Try.prog 14 #[.pointer (some ⟨τ.b, 0, none⟩), .int .i64 n] w fun e w' => e = .returned (.tuple #[.string ⟨#[]⟩, .int .i64 3]) ∧ w = w' := by
  have c1 := cell1 h
  rcases row_cases h with ⟨hv, rfl⟩ | ⟨g, cap, hv, h1, h2, h3⟩
  all_goals
    rw [hv] at c1
    clear hv h
    by_cases hlt : n < 1
    · clear hn
      go_enter Try.func14, Try.ntmps14
      go_wp2
      go_ret2
      exact ⟨rfl, rfl⟩
    · simp only [hlt, false_or] at hn
      go_enter Try.func14, Try.ntmps14
      go_wp2
      go_ret2
      exact ⟨rfl, rfl⟩

set_option maxHeartbeats 400000 in
theorem text_some (τ : Tab) (L : List ByteArray) (n : Nat) (s : ByteArray) (w : World) (h : τ.At w L) (hs : L[n]? = some s) :
    Calls Try.prog 14 #[.pointer (some ⟨τ.b, 0, none⟩), .int .i64 ((n : Int) + 1)] w fun e w' => e = .returned (.tuple #[.string s, .int .i64 0]) ∧ w = w' := by
  have c1 := cell1 h
  have hlt : n < L.length := (List.getElem?_eq_some_iff.1 hs).1
  rcases row_cases h with ⟨hv, rfl⟩ | ⟨g, cap, hv, h1, h2, h3⟩
  · simp at hlt
  · rw [hv] at c1
    have c2 := h3 n s hs
    clear hv h h3 hs
    unfold maxLen at h2
    have a1 : ¬ ((n : Int) + 1 < 1) := by omega
    have a2 : ¬ ((L.length : Int) < (n : Int) + 1) := by omega
    go_enter Try.func14, Try.ntmps14
    go_wp2
    go_ret2
    exact ⟨rfl, rfl⟩

end Go.Proofs.Ytgflncpigeppfaa

/-
  The contract of the document's Find; and a table beside a row of the caller's own.
-/
import Derived.Test.YtgflncpigeppfaaOrder
namespace Go.Proofs.Ytgflncpigeppfaa
open Go.RowKit Go.Maps

theorem num_mid : ∀ (A r : List ByteArray) (s : ByteArray), num A s = 0 → num (A ++ s :: r) s = A.length + 1
  | [], r, s, _ => by simp [num]
  | x :: A, r, s, h => by
    by_cases hx : x = s
    · simp [num, hx] at h
    · have hr : num A s = 0 := by
        by_cases hr : num A s = 0
        · exact hr
        · simp [num, hx, hr] at h
      simp [num, hx, num_mid A r s hr]

theorem num_take_hit {M : List ByteArray} {k : Nat} {s : ByteArray} (h0 : num (M.take k) s = 0) (hs : M[k]? = some s) : num M s = k + 1 := by
  obtain ⟨hk, rfl⟩ := List.getElem?_eq_some_iff.1 hs
  have := num_mid (M.take k) (M.drop (k + 1)) M[k] h0
  rw [← List.drop_eq_getElem_cons hk, List.take_append_drop, List.length_take] at this
  omega

theorem num_take_miss {M : List ByteArray} {k : Nat} {s x : ByteArray} (h0 : num (M.take k) s = 0) (hx : M[k]? = some x) (hne : x ≠ s) : num (M.take (k + 1)) s = 0 := by
  obtain ⟨hk, rfl⟩ := List.getElem?_eq_some_iff.1 hx
  rw [List.take_succ_eq_append_getElem hk, num_snoc_other _ _ _ hne]
  exact h0

/-- What a slice of texts holds. -/
def Cells (w : World) (ma : Option Addr) (M : List ByteArray) : Prop := ∀ (i : Nat) (s : ByteArray), M[i]? = some s → ∃ g, ma = some ⟨g, 0, none⟩ ∧ w.cell? ⟨g, i, none⟩ = some (.string s)

theorem cells_of_row {w : World} {B n : Nat} {ma : Option Addr} {cap : Nat} {M : List ByteArray} (h : w.ownsRow B 9 1 (.slice ma n cap) M.length (M.map Value.string)) : Cells w ma M := by
  intro i s hs
  rcases h.2 with ⟨hv, hn⟩ | ⟨g, c, cur, hv, _, hg, _⟩
  · obtain rfl := List.eq_nil_of_length_eq_zero hn
    simp at hs
  · injection hv with e1 _ _
    subst e1
    refine ⟨g, rfl, ?_⟩
    have := h.cells (g := g) rfl i (.string s) (by simp [hs])
    have e : (⟨g, 0, none⟩ : Addr).add i = ⟨g, i, none⟩ := by unfold Addr.add; split <;> simp_all
    rw [e] at this
    exact this

set_option maxHeartbeats 1000000 in
theorem find_any (ma : Option Addr) (M : List ByteArray) (cap : Nat) (s : ByteArray) (w : World) (h : Cells w ma M) (hl : M.length < 1000) :
    Calls Try.prog 10 #[.slice ma M.length cap, .string s] w fun e w' => e = .returned (.int .i64 (num M s : Nat)) ∧ w = w' := by
  have HC := Lib.hid h
  clear h
  go_enter Try.func10, Try.ntmps10
  go_wp2_with fail
  go_loop [5] (fun i => ∃ k : Nat, k ≤ M.length ∧ i = .int .i64 k ∧ num (M.take k) s = 0) (fun i => M.length - (intOf i).toNat)
  case atStart => exact ⟨0, Nat.zero_le _, rfl, rfl⟩
  case round =>
    obtain ⟨k, hk, rfl, h0⟩ := hrel
    have H0 := Lib.hid h0
    clear h0
    by_cases hlt : k < M.length
    · obtain ⟨x, hx⟩ : ∃ x, M[k]? = some x := ⟨_, List.getElem?_eq_getElem hlt⟩
      obtain ⟨g, rfl, hc⟩ := HC.out k x hx
      by_cases hxs : x = s
      · subst hxs
        have hxx := str_eq x
        have hn := num_take_hit H0.out hx
        have HN := Lib.hid hn
        clear hn hx
        go_wp2_with fail
        go_ret
        rw [HN.out]
        exact ⟨by simp, rfl⟩
      · have hne := str_ne hxs
        have hm := num_take_miss H0.out hx hxs
        have HM := Lib.hid hm
        clear hm hx hxs
        go_wp2_with fail
        go_round
        case rel => exact ⟨k + 1, by omega, by go_num, HM.out⟩
        case measure => simp [intOf]; omega
    · have hkl : k = M.length := by omega
      subst hkl
      have h1 := H0.out
      rw [List.take_length] at h1
      have H1 := Lib.hid h1
      clear h1
      go_wp2_with fail
      go_ret
      rw [H1.out]
      exact ⟨rfl, rfl⟩

/-- A table of the texts L, and apart from it a row of the texts M. -/
def Play (B b : Nat) (w : World) (v : Value) (L M : List ByteArray) : Prop :=
  ∃ τ : Tab, τ.b = b ∧ τ.At w L ∧ (∀ k, τ.foot k → B ≤ k) ∧ w.ownsRow B 9 1 v M.length (M.map Value.string) ∧ ∀ k, v.ownBlock = some k → ¬ τ.foot k

theorem Play.tab {B b : Nat} {w : World} {v : Value} {L M : List ByteArray} (h : Play B b w v L M) : IsTab B b w L := by
  obtain ⟨τ, h1, h2, h3, _⟩ := h
  exact ⟨τ, h1, h2, h3⟩
theorem Play.row {B b : Nat} {w : World} {v : Value} {L M : List ByteArray} (h : Play B b w v L M) : w.ownsRow B 9 1 v M.length (M.map Value.string) := by
  obtain ⟨τ, h1, h2, h3, h4, _⟩ := h
  exact h4
theorem Play.below {B b : Nat} {w w' : World} {v : Value} {L M : List ByteArray} (h : Play B b w v L M) (hb : Below w.heap.size w w') : Play B b w' v L M := by
  obtain ⟨τ, h1, h2, h3, h4, h5⟩ := h
  have k := KeptBut.of_below hb (fun _ => False)
  exact ⟨τ, h1, h2.kept k (fun _ _ e => e), h3, ownsRow_kept h4 k (fun _ _ e => e), h5⟩

theorem play_of {B b : Nat} {w : World} {v : Value} {L M : List ByteArray} (s : ByteArray) (h : Play B b w v L M) (hB : B ≤ w.heap.size) (hs : s.size ≤ 281474976710656) (hl : L.length < 1000) :
    Calls Try.prog 11 #[.pointer (some ⟨b, 0, none⟩), .string s] w fun e w' => e = .returned (.int .i64 (num (put L s) s : Nat)) ∧ Play B b w' v (put L s) M ∧ Below B w w' := by
  obtain ⟨τ, rfl, h2, h3, h4, h5⟩ := h
  refine (of_any τ L s w h2 hs hl).mono ?_
  rintro e w' ⟨rfl, τ', hb, hA, hk, hf⟩
  refine ⟨rfl, ⟨τ', hb, hA, fun k hk' => ?_, ownsRow_kept h4 hk (fun k hk' e => h5 k hk' e), fun k hk' hf' => ?_⟩, hk.below hB h3⟩
  · rcases hf k hk' with e | e
    · exact h3 k e
    · omega
  · rcases hf k hf' with e | e
    · exact h5 k hk' e
    · have := (h4.lt k hk').2
      omega

/-- Behind an append to the row. -/
theorem Play.appended {B b : Nat} {w w' : World} {o : Obj} {v v' : Value} {L M : List ByteArray} {s : ByteArray} (h : Play B b w v L M) (hB : B ≤ w.heap.size)
    (hown : w'.ownsRow B 9 1 v' (M.length + 1) (M.map Value.string ++ [.string s])) (hg : (w.alloc o).grownBy w' v.ownBlock) (hloc : v'.ownBlock = v.ownBlock ∨ v'.ownBlock = some (w.alloc o).heap.size) : Play B b w' v' L (M ++ [s]) ∧ Below B w w' := by
  obtain ⟨τ, h1, h2, h3, h4, h5⟩ := h
  have k : KeptBut (fun k => some k = v.ownBlock) w w' := (KeptBut.alloc _ w o).trans (KeptBut.of_grown hg) (fun i e => .inl e)
  refine ⟨⟨τ, h1, h2.kept k (fun k hk e => h5 k e.symm hk), h3, by simpa using hown, fun k hk hf => ?_⟩, k.below hB (fun i e => (h4.lt i e.symm).1)⟩
  rcases hloc with e | e
  · exact h5 k (e ▸ hk) hf
  · have := h2.lt k hf
    rw [hk] at e
    simp at e
    omega

theorem row_slice {w : World} {B : Nat} {v : Value} {n : Nat} {xs : List Value} (h : w.ownsRow B 9 1 v n xs) : ∃ ma cap, v = .slice ma n cap := by
  rcases h.2 with ⟨hv, hn⟩ | ⟨g, cap, cur, hv, _⟩
  · exact ⟨none, 0, by rw [hv, hn]⟩
  · exact ⟨_, cap, hv⟩

end Go.Proofs.Ytgflncpigeppfaa

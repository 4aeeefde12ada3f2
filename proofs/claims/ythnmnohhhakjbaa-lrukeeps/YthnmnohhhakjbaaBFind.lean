/-
  A list of package lru in memory with its map, and the contracts of find, Len, Has.
-/
import Derived.Test.YthnmnohhhakjbaaBMem
namespace Go.Proofs.Ythnmnohhhakjbaa.B
open Go.RowKit Go.Maps

/-- A key as a map reads it. -/
abbrev kl (k : Int) : Lit := .int .u8 k
def kok (k : Int) : Prop := 0 ≤ k ∧ k ≤ 255
theorem key_of {k : Int} (h : kok k) : keyOf Try.prog 5 (.int .u8 k) = some (kl k) := keyOf_int_mk Try.underlying5 (WalkArith.wf_u8 h)
theorem law : Keyed Try.prog 5 := int_keyed Try.underlying5
theorem kl_ne {k u : Int} (h : u ≠ k) : kl u ≠ kl k := fun e => h (by injection e)
theorem kl_lit (k : Int) : WideAt.IsKeyLit (kl k) := trivial

/-- The map holds each key's place, and nothing else. -/
def MapIs (w : World) (m N n : Nat) (M : Int → Nat) : Prop :=
  ∃ (D : DataW Unit) (c : Nat), c ≤ N ∧ w.ownsMap Try.prog 5 (plainElem Try.prog 3) m c D ∧ Maps.size D = n ∧
    ∀ k, kok k → Maps.has D (kl k) = decide (M k ≠ 0) ∧ D.atKey (kl k) (.lit (.int .i64 0)) = .lit (.int .i64 (M k : Nat))

theorem MapIs.kept {S : Nat → Prop} {w w' : World} {m N n : Nat} {M : Int → Nat} (h : MapIs w m N n M) (hk : KeptBut S w w') (hn : ¬ S m) : MapIs w' m N n M := by
  obtain ⟨D, c, h1, h2, h3⟩ := h
  exact ⟨D, c, h1, ownsMap_kept h2 hk hn, h3⟩
theorem MapIs.lt {w : World} {m N n : Nat} {M : Int → Nat} (h : MapIs w m N n M) : m < w.heap.size := by
  obtain ⟨D, c, h1, h2, h3⟩ := h
  exact h2.lt
theorem MapIs.ne_b {w : World} {m N n : Nat} {M : Int → Nat} (h : MapIs w m N n M) {τ : Loc} {P : List (Pl Int)} {sp : Int} (hc : τ.Cells w P sp) : m ≠ τ.b := by
  rintro rfl
  obtain ⟨D, c, h1, ⟨es, clock, hb, _⟩, h3⟩ := h
  rw [hc.blk] at hb
  cases hb
theorem MapIs.ne_g {w : World} {m N n : Nat} {M : Int → Nat} (h : MapIs w m N n M) {τ : Loc} {P : List (Pl Int)} {sp : Int} (hc : τ.Cells w P sp) : m ≠ τ.g := by
  obtain ⟨D, c, h1, h2, h3⟩ := h
  exact fun e => map_ne_row h2 hc.row (by rw [e]; rfl)

theorem catch_idle (w : World) : CallsD Try.prog 59 #[] .returning w fun e u' w' => e = .returned (.tuple #[]) ∧ u' = .returning ∧ w' = w := by
  refine callsD_of_wpS Try.func59 rfl fun c₀ cs hu => ?_
  apply wpS_region
  simp [wpOpsS, go_sem, recoverD, hu, Try.ntmps59, bodyPostS, results, Try.results59]
  cases c₀
  simp_all

set_option maxHeartbeats 1000000 in
theorem find_made (b m N n : Nat) (M : Int → Nat) (k : Int) (w : World) (c0 : w.cell? ⟨b, 0, none⟩ = some (.map (some m))) (h : MapIs w m N n M) (hk : kok k) :
    Calls Try.prog 50 #[.pointer (some ⟨b, 0, none⟩), (Value.int .u8) k] w fun e w' => e = .returned (.tuple #[.int .i64 (M k : Nat), .bool true]) ∧ w = w' := by
  obtain ⟨D, c, h1, hown, h3, h4⟩ := h
  obtain ⟨_, h6⟩ := h4 k hk
  have H6 := Lib.hid h6
  have HK := Lib.hid (key_of hk)
  clear h4 h6 h1 h3 hk
  go_enter_defers Try.func50, Try.ntmps50
  go_wp2_with (at_lookup; refine wpList_lookup_own_int _ rfl _ _ 81 rfl 5 3 .i64 law Try.underlying81 Try.underlying3 (zero3 _) m _ D rfl hown _ _ rfl HK.out ?_; intro c hat hwc; rw [H6.out] at hat; obtain rfl := lit_int_inj hat; clear hat)
  refine leaves_cons (f := 59) (args := #[]) (by simp) (by simp [go_sem]) ?_
  refine (catch_idle _).mono ?_
  rintro e u' w'' ⟨rfl, rfl, rfl⟩
  simp [Leaves, settle, results, Try.results50, go_sem]

set_option maxHeartbeats 1000000 in
theorem find_none (b : Nat) (k : Int) (w : World) (c0 : w.cell? ⟨b, 0, none⟩ = some (.map none)) (hk : kok k) :
    Calls Try.prog 50 #[.pointer (some ⟨b, 0, none⟩), (Value.int .u8) k] w fun e w' => e = .returned (.tuple #[.int .i64 0, .bool true]) ∧ w = w' := by
  have hrun := look_nil (w := w) false law Try.underlying81 (zero3 _) (key_of hk)
  clear hk
  go_enter_defers Try.func50, Try.ntmps50
  go_wp2
  refine leaves_cons (f := 59) (args := #[]) (by simp) (by simp [go_sem]) ?_
  refine (catch_idle _).mono ?_
  rintro e u' w'' ⟨rfl, rfl, rfl⟩
  simp [Leaves, settle, results, Try.results50, go_sem]

set_option maxHeartbeats 400000 in
theorem len_made (b m N n : Nat) (M : Int → Nat) (w : World) (c0 : w.cell? ⟨b, 0, none⟩ = some (.map (some m))) (h : MapIs w m N n M) :
    Calls Try.prog 37 #[.pointer (some ⟨b, 0, none⟩)] w fun e w' => e = .returned (.int .i64 (n : Nat)) ∧ w = w' := by
  obtain ⟨D, c, h1, hown, rfl, h4⟩ := h
  clear h4 h1
  go_enter Try.func37, Try.ntmps37
  go_wp2_with (at_len; refine wpList_len_own _ rfl _ 81 rfl 5 3 Try.underlying81 _ m _ D rfl hown ?_)
  go_ret
  exact ⟨rfl, rfl⟩

set_option maxHeartbeats 400000 in
theorem len_none (b : Nat) (w : World) (c0 : w.cell? ⟨b, 0, none⟩ = some (.map none)) :
    Calls Try.prog 37 #[.pointer (some ⟨b, 0, none⟩)] w fun e w' => e = .returned (.int .i64 0) ∧ w = w' := by
  have hrun := Maps.len_nil (P := Try.prog) (w := w) Try.underlying81
  go_enter Try.func37, Try.ntmps37
  go_wp2
  go_ret
  exact ⟨rfl, rfl⟩

set_option maxHeartbeats 400000 in
theorem len_nil (w : World) : Calls Try.prog 37 #[.pointer none] w fun e w' => e = .returned (.int .i64 0) ∧ w = w' := by
  go_enter Try.func37, Try.ntmps37
  go_wp2
  go_ret
  exact ⟨rfl, rfl⟩

end Go.Proofs.Ythnmnohhhakjbaa.B

/-
  What a table of package words is in memory, and what its plain list says: definitions and small laws, no walk.
-/
import Derived.Test.YtgflncpigeppfaaRows
import Derived.WalkKit
import Derived.WalkSpells
import Derived.WalkLawsBesides
import Derived.Maps.OwnSet
import Derived.Maps.AppendAt
import Derived.Lib.Hide
namespace Go.Proofs.Ytgflncpigeppfaa
open Go.RowKit Go.Maps

/-- The number of a text in a list, from 1 on; 0 of one that is not there. -/
def num : List ByteArray → ByteArray → Nat
  | [], _ => 0
  | x :: r, s => if x = s then 1 else if num r s = 0 then 0 else num r s + 1

def has (L : List ByteArray) (s : ByteArray) : Bool := decide (num L s ≠ 0)

theorem num_le : ∀ (L : List ByteArray) (s : ByteArray), num L s ≤ L.length
  | [], _ => Nat.le_refl _
  | x :: r, s => by
    have := num_le r s
    simp only [num, List.length_cons]
    split
    · omega
    · split <;> omega

theorem num_snoc_same : ∀ (L : List ByteArray) (s : ByteArray), num L s = 0 → num (L ++ [s]) s = L.length + 1
  | [], s, _ => by simp [num]
  | x :: r, s, h => by
    by_cases hx : x = s
    · simp [num, hx] at h
    · have hr : num r s = 0 := by
        by_cases hr : num r s = 0
        · exact hr
        · simp [num, hx, hr] at h
      have := num_snoc_same r s hr
      simp [num, hx, this]

theorem num_snoc_other : ∀ (L : List ByteArray) (s u : ByteArray), u ≠ s → num (L ++ [u]) s = num L s
  | [], s, u, h => by simp [num, h]
  | x :: r, s, u, h => by simp [num, num_snoc_other r s u h]

theorem num_snoc_there : ∀ (L : List ByteArray) (s u : ByteArray), num L s ≠ 0 → num (L ++ [u]) s = num L s
  | [], s, u, h => by simp [num] at h
  | x :: r, s, u, h => by
    by_cases hx : x = s
    · simp [num, hx]
    · have hr : num r s ≠ 0 := by
        intro hr
        simp [num, hx, hr] at h
      simp [num, hx, num_snoc_there r s u hr]

/-- The number leads back. -/
theorem num_get : ∀ (L : List ByteArray) (s : ByteArray), num L s ≠ 0 → L[num L s - 1]? = some s
  | [], s, h => by simp [num] at h
  | x :: r, s, h => by
    by_cases hx : x = s
    · simp [num, hx]
    · by_cases hr : num r s = 0
      · simp [num, hx, hr] at h
      · have := num_get r s hr
        simp only [num, if_neg hx, if_neg hr]
        obtain ⟨k, hk⟩ : ∃ k, num r s = k + 1 := ⟨num r s - 1, by omega⟩
        rw [hk] at this ⊢
        simpa using this

/-- A text behind the list, if it is not there already. -/
def put (L : List ByteArray) (s : ByteArray) : List ByteArray := if num L s = 0 then L ++ [s] else L

theorem put_length (L : List ByteArray) (s : ByteArray) : (put L s).length ≤ L.length + 1 ∧ L.length ≤ (put L s).length := by
  unfold put; split <;> simp

theorem num_put (L : List ByteArray) (s : ByteArray) : num (put L s) s = if num L s = 0 then L.length + 1 else num L s := by
  unfold put
  split
  · rename_i h; exact num_snoc_same L s h
  · rfl

theorem num_put_there (L : List ByteArray) (s u : ByteArray) (h : num L u ≠ 0) : num (put L s) u = num L u := by
  unfold put
  split
  · exact num_snoc_there L u s h
  · rfl

theorem str_ne {x s : ByteArray} (h : x ≠ s) : (x.toList == s.toList) = false := by
  rw [Bool.eq_false_iff]
  intro e
  have e1 : x.toList = s.toList := by simpa using e
  rw [ByteArray.toList_eq, ByteArray.toList_eq] at e1
  exact h (ByteArray.ext (Array.toList_inj.1 e1))

theorem str_eq (x : ByteArray) : (x.toList == x.toList) = true := by simp

/-- Where a table lies: its own block, its map's, its row's value. -/
structure Tab where
  b : Nat
  m : Option Nat
  v : Value

def Tab.foot (τ : Tab) (k : Nat) : Prop := k = τ.b ∨ some k = τ.m ∨ some k = τ.v.ownBlock

/-- The map of a table holds the number of each text of the list, and nothing else. -/
def MapAt (w : World) (m : Option Nat) (L : List ByteArray) : Prop :=
  match m with
  | none => L = []
  | some b => ∃ D : DataW Unit, w.ownsMap Try.prog 9 (plainElem Try.prog 3) b L.length D ∧
      ∀ s : ByteArray, Maps.has D (.string s.data.toList) = has L s ∧ D.atKey (.string s.data.toList) (.lit (.int .i64 0)) = .lit (.int .i64 (num L s : Nat))

/-- What lies there is a table whose texts are L, in their order. -/
structure Tab.At (τ : Tab) (w : World) (L : List ByteArray) : Prop where
  blk : w.heap[τ.b]? = some (.cells #[.map τ.m, τ.v] 40 (0, 0))
  row : w.ownsRow 0 9 1 τ.v L.length (L.map Value.string)
  map : MapAt w τ.m L

/-- Of what was there nothing has turned but the blocks that S names. -/
structure KeptBut (S : Nat → Prop) (w w' : World) : Prop where
  os : w'.os = w.os
  tape : w'.tape = w.tape
  output : w'.output = w.output
  size : w.heap.size ≤ w'.heap.size
  block : ∀ k, k < w.heap.size → ¬ S k → w'.heap[k]? = w.heap[k]?

theorem KeptBut.refl (S : Nat → Prop) (w : World) : KeptBut S w w := ⟨rfl, rfl, rfl, Nat.le_refl _, fun _ _ _ => rfl⟩
theorem KeptBut.trans {S S' : Nat → Prop} {a b c : World} (h : KeptBut S a b) (k : KeptBut S' b c) (hs : ∀ i, S' i → S i ∨ a.heap.size ≤ i) : KeptBut S a c :=
  ⟨k.os.trans h.os, k.tape.trans h.tape, k.output.trans h.output, Nat.le_trans h.size k.size, fun i hi hn =>
    (k.block i (Nat.lt_of_lt_of_le hi h.size) (fun e => by rcases hs i e with e | e; exact hn e; omega)).trans (h.block i hi hn)⟩
theorem KeptBut.of_below {w w' : World} (h : Below w.heap.size w w') (S : Nat → Prop) : KeptBut S w w' := ⟨h.os, h.tape, h.output, h.size, fun i hi _ => h.block i hi⟩
theorem KeptBut.of_grown {w w' : World} {row : Option Nat} (h : w.grownBy w' row) : KeptBut (fun k => some k = row) w w' := ⟨h.os, h.tape, h.output, h.size, fun i hi hn => h.block i hi hn⟩
theorem KeptBut.alloc (S : Nat → Prop) (w : World) (o : Obj) : KeptBut S w (w.alloc o) := ⟨rfl, rfl, rfl, by simp, fun k hk _ => Below.heap_alloc w o k hk⟩
theorem KeptBut.setCell (w : World) (a : Addr) (u : Value) : KeptBut (fun k => k = a.block) w (w.setCell a u) := ⟨rfl, rfl, rfl, by simp [World.setCell], fun k _ hn => Below.heap_setCell w a u k hn⟩
theorem KeptBut.mono {S S' : Nat → Prop} {w w' : World} (h : KeptBut S w w') (hs : ∀ i, S i → S' i) : KeptBut S' w w' := ⟨h.os, h.tape, h.output, h.size, fun i hi hn => h.block i hi (fun e => hn (hs i e))⟩
theorem KeptBut.below {S : Nat → Prop} {w w' : World} (h : KeptBut S w w') {B : Nat} (hB : B ≤ w.heap.size) (hs : ∀ i, S i → B ≤ i) : Below B w w' :=
  ⟨h.os, h.tape, h.output, h.size, fun i hi => h.block i (by omega) (fun e => by have := hs i e; omega)⟩

theorem MapAt.kept {S : Nat → Prop} {w w' : World} {m : Option Nat} {L : List ByteArray} (h : MapAt w m L) (k : KeptBut S w w') (hn : ∀ b, m = some b → ¬ S b) : MapAt w' m L := by
  unfold MapAt at h ⊢
  cases m with
  | none => exact h
  | some b =>
    obtain ⟨D, hown, hD⟩ := h
    have hlt := hown.lt
    obtain ⟨es, clock, hb, r⟩ := hown
    exact ⟨D, ⟨es, clock, (k.block b hlt (hn b rfl)).trans hb, r⟩, hD⟩

theorem ownsRow_kept {S : Nat → Prop} {w w' : World} {base : Nat} {e : TypeId} {size : Nat} {v : Value} {n : Nat} {xs : List Value} (h : w.ownsRow base e size v n xs) (k : KeptBut S w w') (hn : ∀ b, v.ownBlock = some b → ¬ S b) : w'.ownsRow base e size v n xs := by
  refine ⟨h.1, ?_⟩
  rcases h.2 with hn' | ⟨g, cap, cur, rfl, hb, hgg, rest⟩
  · exact .inl hn'
  · exact .inr ⟨g, cap, cur, rfl, hb, (k.block g (Array.getElem?_eq_some_iff.1 hgg).1 (hn g rfl)).trans hgg, rest⟩

/-- A table stays what it is while nothing of its own is written. -/
theorem Tab.At.kept {S : Nat → Prop} {τ : Tab} {w w' : World} {L : List ByteArray} (h : τ.At w L) (k : KeptBut S w w') (hn : ∀ b, τ.foot b → ¬ S b) : τ.At w' L :=
  ⟨(k.block τ.b (Array.getElem?_eq_some_iff.1 h.blk).1 (hn _ (.inl rfl))).trans h.blk, ownsRow_kept h.row k (fun b hb => hn b (.inr (.inr hb.symm))), h.map.kept k (fun b hb => hn b (.inr (.inl hb.symm)))⟩

theorem Tab.At.lt {τ : Tab} {w : World} {L : List ByteArray} (h : τ.At w L) : ∀ k, τ.foot k → k < w.heap.size := by
  intro k hk
  rcases hk with rfl | hk | hk
  · exact (Array.getElem?_eq_some_iff.1 h.blk).1
  · have hm := h.map
    unfold MapAt at hm
    rw [← hk] at hm
    obtain ⟨D, hown, _⟩ := hm
    exact hown.lt
  · exact (h.row.lt k hk.symm).2

theorem Tab.At.m_ne {τ : Tab} {w : World} {L : List ByteArray} (h : τ.At w L) : τ.m ≠ some τ.b := by
  intro e
  have hm := h.map
  unfold MapAt at hm
  rw [e] at hm
  obtain ⟨D, ⟨es, clock, hb, _⟩, _⟩ := hm
  rw [h.blk] at hb
  cases hb

theorem Tab.At.v_ne {τ : Tab} {w : World} {L : List ByteArray} (h : τ.At w L) : τ.v.ownBlock ≠ some τ.b := by
  intro e
  rcases h.row.2 with ⟨hv, _⟩ | ⟨g, cap, cur, hv, _, hg, _⟩
  · rw [hv] at e; cases e
  · rw [hv] at e
    simp only [Value.ownBlock, Option.some.injEq] at e
    subst e
    rw [h.blk] at hg
    cases hg

theorem cell0 {τ : Tab} {w : World} {L : List ByteArray} (h : τ.At w L) : w.cell? ⟨τ.b, 0, none⟩ = some (.map τ.m) := by simp [World.cell?, h.blk]
theorem cell1 {τ : Tab} {w : World} {L : List ByteArray} (h : τ.At w L) : w.cell? ⟨τ.b, 1, none⟩ = some τ.v := by simp [World.cell?, h.blk]
theorem frozen0 {τ : Tab} {w : World} {L : List ByteArray} (h : τ.At w L) : w.frozen? ⟨τ.b, 0, none⟩ = false := by simp [World.frozen?, h.blk]
theorem frozen1 {τ : Tab} {w : World} {L : List ByteArray} (h : τ.At w L) : w.frozen? ⟨τ.b, 1, none⟩ = false := by simp [World.frozen?, h.blk]

/-- The row's value: nil, or a slice over a row that holds the texts. -/
theorem row_cases {τ : Tab} {w : World} {L : List ByteArray} (h : τ.At w L) :
    (τ.v = .slice none 0 0 ∧ L = []) ∨ ∃ g cap, τ.v = .slice (some ⟨g, 0, none⟩) L.length cap ∧ L.length ≤ cap ∧ cap ≤ maxLen ∧ ∀ i s, L[i]? = some s → w.cell? ⟨g, i, none⟩ = some (.string s) := by
  rcases h.row.2 with ⟨hv, hn⟩ | ⟨g, cap, cur, hv, _, hg, hn, hm, hs, ht⟩
  · exact .inl ⟨hv, List.eq_nil_of_length_eq_zero hn⟩
  · refine .inr ⟨g, cap, hv, hn, hm, fun i s hi => ?_⟩
    have := h.row.cells (g := g) (by rw [hv]; rfl) i (.string s) (by simp [hi])
    have e : (⟨g, 0, none⟩ : Addr).add i = ⟨g, i, none⟩ := by unfold Addr.add; split <;> simp_all
    rw [e] at this
    exact this

theorem law9 : Keyed Try.prog 9 := string_keyed Try.underlying9
theorem zero3 (w : World) : (zeroValue 3).run Try.prog w = .ok (.int .i64 0) w := by kernel_rfl

end Go.Proofs.Ytgflncpigeppfaa

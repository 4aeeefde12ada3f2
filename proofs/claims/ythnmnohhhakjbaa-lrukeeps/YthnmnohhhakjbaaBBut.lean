/-
  The contract of LastBut of package lru, for whatever function it is handed; and of Last.
-/
import Derived.Test.YthnmnohhhakjbaaBIter
namespace Go.Proofs.Ythnmnohhhakjbaa.B
open Go.RowKit Go.Maps Go.Shelf
attribute [local go_sem] Oper.semAt_some

/-- What a call of keep may turn: nothing below n₀, no place, no pointer to a list, none of the four blocks from s on, nothing but cells. -/
structure KeepFrame (n₀ s : Nat) (W W' : World) : Prop where
  others : KeepsOthers W W'
  kp : Kp n₀ W W'
  near : ∀ i, s ≤ i → i < s + 4 → W'.heap[i]? = W.heap[i]?

theorem KeepFrame.of_below {n₀ s : Nat} {W W' : World} (h : Below W.heap.size W W') (hn : n₀ ≤ W.heap.size) (hs : s + 4 ≤ W.heap.size) : KeepFrame n₀ s W W' :=
  ⟨⟨h.size, fun k _ hk _ => (h.block k (Array.getElem?_eq_some_iff.1 hk).1).trans hk⟩, Kp.of_below h hn, fun i _ h2 => h.block i (by omega)⟩

/-- The last one of those that are refused, and those that were asked of. -/
def Told (ks : List Int) (dec : Int → Bool) (asked : List Int) (r : Int) (ok : Bool) : Prop :=
  (ok = true ∧ ∃ pre, asked = pre ++ [r] ∧ asked <+: ks.reverse ∧ (∀ y ∈ pre, dec y = true) ∧ dec r = false) ∨ (ok = false ∧ r = (0 : Int) ∧ asked = ks.reverse ∧ ∀ y ∈ ks, dec y = true)

/-- What stands in LastBut's own blocks between two rounds. -/
structure Mine (s : Nat) (f : Value) (W : World) : Prop where
  keep : W.heap[s]? = some (.cells #[f] 56 (0, 0))
  res : W.heap[s + 1]? = some (.cells #[(Value.int .u8) (0 : Int)] 5 (0, 0))
  ok : W.heap[s + 2]? = some (.cells #[.bool false] 4 (0, 0))
  room : s + 4 ≤ W.heap.size

theorem block_kept {W W' : World} {row : Option Nat} {b : Nat} {c : Array Value} {t : TypeId} {fz : Nat × Nat} (h : W.heap[b]? = some (.cells c t fz)) (hg : W.grownBy W' row) (hrow : ∀ r, row = some r → ∃ o : Obj, W.heap[r]? = some o ∧ o.isCells = false) : W'.heap[b]? = some (.cells c t fz) := by
  refine (hg.block b (Array.getElem?_eq_some_iff.1 h).1 ?_).trans h
  intro e
  obtain ⟨o, ho, hc⟩ := hrow b e.symm
  rw [h] at ho
  cases ho
  simp [Obj.isCells] at hc

theorem Mine.own (s : Nat) (f : Value) {β : Type} : Own (fun (_ : β) W => Mine s f W) := fun _ _ _ _ hs hg hr =>
  ⟨block_kept hs.keep hg hr, block_kept hs.res hg hr, block_kept hs.ok hg hr, Nat.le_trans hs.room hg.size⟩

theorem Mine.framed {n₀ s : Nat} {f : Value} {W W' : World} (h : Mine s f W) (k : KeepFrame n₀ s W W') : Mine s f W' :=
  ⟨(k.near s (Nat.le_refl _) (by omega)).trans h.keep, (k.near (s + 1) (by omega) (by omega)).trans h.res, (k.near (s + 2) (by omega) (by omega)).trans h.ok, Nat.le_trans h.room k.others.size⟩

theorem cell_other (W : World) {a b : Addr} (v : Value) (h : a ≠ b) : (W.setCell a v).cell? b = W.cell? b := by
  first | exact World.cell?_setCell_other W h | exact World.cell?_setCell_other h | exact World.cell?_setCell_other W a b v h | exact World.cell?_setCell_other W _ h | simp [h]

theorem neq_nil_in (d kf : Nat) (cap : Array Value) (W : World) : (Op.equalIn (d + 1) 56 (Value.func (Fn.func kf) #[] cap) Value.nilFunc).run Try.prog W = .ok false W := by
  simp [Op.equalIn, run_underlying Try.underlying56]

theorem neq_nil (kf : Nat) (cap : Array Value) (W : World) : Sem.run Try.prog (binOp BinOp.neq 56 (Value.func (Fn.func kf) #[] cap) Value.nilFunc) W = Result.ok (.bool true) W := by
  have h := neq_nil_in 9999 kf cap W
  simp only [binOp]
  simp [show Op.equal 56 (Value.func (Fn.func kf) #[] cap) Value.nilFunc = Op.equalIn (9999 + 1) 56 (Value.func (Fn.func kf) #[] cap) Value.nilFunc from rfl, h]

set_option maxRecDepth 100000 in
set_option maxHeartbeats 4000000 in
theorem lastbut_any (kf : Nat) (heg : ∀ args w, (callFunc kf args).run Try.prog w = .ok (.enter kf args) w) (cap : Array Value) (p : Option Addr) (ks : List Int) (n₀ : Nat) (w : World) (hn₀ : n₀ ≤ w.heap.size) (hr : Seen n₀ w p ks) (hok : ∀ k ∈ ks, kok k) (dec : Int → Bool)
    (Jk : List Int → World → Prop) (hown : Own Jk) (hset : ∀ s A i u, (i = w.heap.size + 1 ∨ i = w.heap.size + 2) → Jk s A → Jk s (A.setCell ⟨i, 0, none⟩ u)) (h0 : Jk [] w)
    (hkeep : ∀ pre x W, kok x → Jk pre W → pre.length < ks.length → w.heap.size + 4 ≤ W.heap.size → Calls Try.prog kf (#[(Value.int .u8) x] ++ cap) W fun e W' => e = .returned (.bool (dec x)) ∧ Jk (pre ++ [x]) W' ∧ KeepFrame n₀ w.heap.size W W') :
    Calls Try.prog 34 #[.pointer p, .func (.func kf) #[] cap] w fun e W' => ∃ asked r ok, e = .returned (.tuple #[(Value.int .u8) r, .bool ok]) ∧ Told ks dec asked r ok ∧ Jk asked W' ∧ Below n₀ w W' := by
  obtain ⟨kα, hα⟩ := lift_keys ks.reverse (fun k hk => hok k (by simpa using hk))
  rw [← callsIn_wide (n := 5)]
  have hff : Fence.wide.fn 54 := trivial
  have hnn := neq_nil kf cap
  have hfk : Fence.wide.fn kf := trivial
  refine callsIn_of_wp_marks Try.func34 rfl trivial ?_ rfl
  simp only [Try.ntmps34, List.size_toArray, List.length_cons, List.length_nil, Nat.reduceAdd, Nat.reduceSub, Array.replicate_succ, Array.replicate_zero, List.push_toArray, List.append_toArray, List.nil_append, List.cons_append]
  gi_wp2_with (gi_at_call 54; refine (from_in _ _ _).mono ?_; rintro e w' ⟨rfl, rfl⟩)
  obtain ⟨W0, hW0⟩ : ∃ W0, (((w.alloc (.cells #[.func (.func kf) #[] cap] 56)).alloc (.cells #[(Value.int .u8) (0 : Int)] 5)).alloc (.cells #[.bool false] 4)).alloc (.cells #[.pointer p] 50) = W0 := ⟨_, rfl⟩
  have hs0 : W0.heap.size = w.heap.size + 4 := by rw [← hW0]; simp
  have hM0 : Mine w.heap.size (.func (.func kf) #[] cap) W0 := by
    refine ⟨?_, ?_, ?_, by omega⟩
    · rw [← hW0]; exact (((Below.heap_alloc _ _ _ (by simp; omega)).trans (Below.heap_alloc _ _ _ (by simp; omega))).trans (Below.heap_alloc _ _ _ (by simp))).trans (World.alloc_heap_new w _)
    · rw [← hW0]; refine ((Below.heap_alloc _ _ _ (by simp)).trans (Below.heap_alloc _ _ _ (by simp))).trans ?_
      have := World.alloc_heap_new (w.alloc (.cells #[.func (.func kf) #[] cap] 56)) (.cells #[(Value.int .u8) (0 : Int)] 5); rwa [World.size_alloc] at this
    · rw [← hW0]; refine (Below.heap_alloc _ _ _ (by simp)).trans ?_
      have := World.alloc_heap_new ((w.alloc (.cells #[.func (.func kf) #[] cap] 56)).alloc (.cells #[(Value.int .u8) (0 : Int)] 5)) (.cells #[.bool false] 4); rwa [World.size_alloc, World.size_alloc] at this
  have hP0 : W0.heap[w.heap.size + 1 + 1 + 1]? = some (.cells #[.pointer p] 50 (0, 0)) := by
    rw [← hW0]; have := World.alloc_heap_new (((w.alloc (.cells #[.func (.func kf) #[] cap] 56)).alloc (.cells #[(Value.int .u8) (0 : Int)] 5)).alloc (.cells #[.bool false] 4)) (.cells #[.pointer p] 50); rwa [World.size_alloc, World.size_alloc, World.size_alloc] at this
  have hBW : Below w.heap.size w W0 := by rw [← hW0]; exact ((((Below.refl _ w).alloc (Nat.le_refl _) _).alloc (by simp) _).alloc (by simp; omega) _).alloc (by simp; omega) _
  have hJ0 : Jk [] W0 := by rw [← hW0]; exact Own.alloc hown _ (Own.alloc hown _ (Own.alloc hown _ (Own.alloc hown _ h0)))
  rw [hW0]
  clear hW0
  refine wpIn_rangeFunc_ownF rfl (by omega) (gf := 60) (lb := #[.pointer (some ⟨w.heap.size + 1 + 1 + 1, 0, none⟩)]) rfl trivial (enters_of Try.func60 (by kernel_rfl) rfl)
    (from_stops 4 (by omega) (w.heap.size + 1 + 1 + 1) n₀ p ks kα hα W0 hP0 (by omega) (hr.below (hBW.mono hn₀))) (fun h k => Kp.trans h k) (fun W l o o' h1 h2 h3 h4 => Kp.put (w := W0) (by omega) W l o o' h1 h2 h3 h4) (Below.refl _ _) (fun _ => rfl)
    (fun pre W => ((∀ y ∈ pre.map Subtype.val, dec y = true) ∧ Jk (pre.map Subtype.val) W ∧ Mine w.heap.size (.func (.func kf) #[] cap) W) ∧ Below n₀ w W)
    (fun c pre W => (c = .ret ∧ ∃ (pre' : List KK) (x : KK), pre = pre' ++ [x] ∧ (∀ y ∈ pre'.map Subtype.val, dec y = true) ∧ dec x.1 = false ∧ Jk (pre.map Subtype.val) W ∧ W.cell? ⟨w.heap.size + 1, 0, none⟩ = some ((Value.int .u8) x.1) ∧ W.cell? ⟨w.heap.size + 2, 0, none⟩ = some (.bool true)) ∧ Below n₀ w W)
    (OwnFrom.and (Own.from (fun s A B row hs hg hr => ⟨hs.1, hown _ A B row hs.2.1 hg hr, Mine.own _ _ s A B row hs.2.2 hg hr⟩) _) (ownFrom_below (by omega) (by omega)))
    (fun c => OwnFrom.and (Own.from (fun s A B row hs hg hr => by obtain ⟨h1, pre', x, h2, h3, h4, h5, h6, h7⟩ := hs; exact ⟨h1, pre', x, h2, h3, h4, hown _ A B row h5 hg hr, cell_kept h6 hg hr, cell_kept h7 hg hr⟩) _) (ownFrom_below (by omega) (by omega)))
    ⟨⟨by simp, hJ0, hM0⟩, hBW.mono hn₀⟩
    (fun x => { tmps := #[.pointer p, .func (.func kf) #[] cap, undef, .pointer (some ⟨w.heap.size, 0, none⟩), .pointer (some ⟨w.heap.size + 1, 0, none⟩), .pointer (some ⟨w.heap.size + 1 + 1, 0, none⟩), (Value.int .u8) x.1, undef, .func (.func kf) #[] cap, .bool true, .pointer p, .func (.func 60) #[] #[.pointer (some ⟨w.heap.size + 1 + 1 + 1, 0, none⟩)], (Value.int .u8) x.1, undef, undef, undef, undef, undef, undef], defers := [] }) ?assign ?body ?done ?stop
  case assign =>
    intro l x W K hK
    gi_wp2
    exact hK
  case body =>
    rintro l pre x W ⟨⟨hall, hJ, hM⟩, hB⟩ hlt
    have hck := (cell_of_block hM.keep).1
    have hcr := cell_of_block hM.res
    have hco := cell_of_block hM.ok
    have hkx := hkeep (pre.map Subtype.val) x.1 W x.2 hJ (by simpa using hlt) hM.room
    have HKX := Lib.hid hkx
    clear hkx
    by_cases hd : dec x.1 = true
    · rw [hd] at HKX
      gi_wp2_with (gi_at_fn kf; refine (CallsIn.inRound l (callsIn_wide.2 HKX.out)).mono ?_; rintro e W1 ⟨rfl, hJ1, hF1⟩)
      refine ⟨hF1.others, hF1.kp, ⟨?_, by simpa using hJ1, hM.framed hF1⟩, hB.trans hF1.kp.below⟩
      intro y hy
      simp only [List.map_append, List.mem_append, List.map_cons, List.map_nil, List.mem_singleton] at hy
      rcases hy with hy | rfl
      · exact hall y hy
      · exact hd
    · have hd' : dec x.1 = false := by simpa using hd
      rw [hd'] at HKX
      gi_wp2_with (gi_at_fn kf; refine (CallsIn.inRound l (callsIn_wide.2 HKX.out)).mono ?_; rintro e W1 ⟨rfl, hJ1, hF1⟩; have hM1 := hM.framed hF1; have hcr1 := cell_of_block hM1.res; have hco1 := cell_of_block hM1.ok; obtain ⟨q1, q2⟩ := hcr1; obtain ⟨q3, q4⟩ := hco1; have HF1 := Lib.hid hF1; have HJ1 := Lib.hid hJ1; clear hF1 hJ1 hM1)
      refine ⟨(HF1.out.others.trans (KeepsOthers.setCell _ _ _)).trans (KeepsOthers.setCell _ _ _), ⟨rfl, pre, x, rfl, hall, hd', ?_, ?_, ?_⟩, ?_⟩
      · exact hset _ _ _ _ (.inr rfl) (hset _ _ _ _ (.inl rfl) (by simpa using HJ1.out))
      · rw [cell_other _ _ (by simp)]
        exact World.cell?_setCell_same' _ _ _ (by rw [q1]; rfl)
      · refine World.cell?_setCell_same' _ _ _ ?_
        rw [cell_other _ _ (by simp), q3]; rfl
      · exact ((hB.trans HF1.out.kp.below).setCell (p := ⟨w.heap.size + 1, 0, none⟩) (by simp; omega) _).setCell (p := ⟨w.heap.size + 1 + 1, 0, none⟩) (by simp; omega) _
  case done =>
    rintro D ys W hD rfl ⟨⟨hall, hJ, hM⟩, hB⟩ hK
    obtain ⟨q1, q2⟩ := cell_of_block hM.res
    obtain ⟨q3, q4⟩ := cell_of_block hM.ok
    gi_wp2
    have hK' := (KeepsOthers.setCell _ ⟨w.heap.size + 1 + 1, 0, none⟩ (.bool false)).same D _ ((KeepsOthers.setCell W ⟨w.heap.size + 1, 0, none⟩ ((Value.int .u8) (0 : Int))).same D _ hK rfl) rfl
    refine ⟨by simp, .inl ⟨_, _, rfl, run_takeDeferred hK', ?_⟩⟩
    have e1 : ((W.setCell ⟨w.heap.size + 1, 0, none⟩ ((Value.int .u8) (0 : Int))).setCell ⟨w.heap.size + 1 + 1, 0, none⟩ (.bool false)).cell? ⟨w.heap.size + 1, 0, none⟩ = some ((Value.int .u8) (0 : Int)) := by
      rw [cell_other _ _ (by simp)]
      exact World.cell?_setCell_same' _ _ _ (by rw [q1]; rfl)
    have e2 : ((W.setCell ⟨w.heap.size + 1, 0, none⟩ ((Value.int .u8) (0 : Int))).setCell ⟨w.heap.size + 1 + 1, 0, none⟩ (.bool false)).cell? ⟨w.heap.size + 1 + 1, 0, none⟩ = some (.bool false) := by
      refine World.cell?_setCell_same' _ _ _ ?_
      rw [cell_other _ _ (by simp), q3]; rfl
    have hc5 := cell_kept e1 (grownBy_putObj' _ D (.deferred none)) (fun r e => by cases e; exact ⟨_, hK', rfl⟩)
    have hc6 := cell_kept e2 (grownBy_putObj' _ D (.deferred none)) (fun r e => by cases e; exact ⟨_, hK', rfl⟩)
    have hJ2 : Jk (ys.map Subtype.val) ((W.setCell ⟨w.heap.size + 1, 0, none⟩ ((Value.int .u8) (0 : Int))).setCell ⟨w.heap.size + 1 + 1, 0, none⟩ (.bool false)) := hset _ _ _ _ (.inr rfl) (hset _ _ _ _ (.inl rfl) hJ)
    refine ⟨.tuple #[(Value.int .u8) (0 : Int), .bool false], by simp [results, Try.f34, go_sem, hc5, hc6], ys.map Subtype.val, (0 : Int), false, rfl, .inr ⟨rfl, rfl, hα, fun y hy => hall y (by rw [hα]; simpa using hy)⟩, ?_, ?_⟩
    · exact Own.putObj hown _ hJ2 hK' rfl
    · exact ((hB.setCell (p := ⟨w.heap.size + 1, 0, none⟩) (by simp; omega) _).setCell (p := ⟨w.heap.size + 1 + 1, 0, none⟩) (by simp; omega) _).trans (belowK_b (w := W0) (by omega) _ D _ _ hD hK' rfl rfl)
  case stop =>
    rintro D c pre W hD hpre ⟨⟨rfl, pre', x, rfl, hall, hd, hJ, q1, q2⟩, hB⟩ hK
    gi_wp2
    refine ⟨by simp, .inl ⟨_, _, rfl, run_takeDeferred hK, ?_⟩⟩
    have hc5 := cell_kept q1 (grownBy_putObj' _ D (.deferred none)) (fun r e => by cases e; exact ⟨_, hK, rfl⟩)
    have hc6 := cell_kept q2 (grownBy_putObj' _ D (.deferred none)) (fun r e => by cases e; exact ⟨_, hK, rfl⟩)
    refine ⟨.tuple #[(Value.int .u8) x.1, .bool true], by simp [results, Try.f34, go_sem, hc5, hc6], ((pre' ++ [x]).map Subtype.val), x.1, true, rfl, .inl ⟨rfl, pre'.map Subtype.val, by simp, ?_, hall, hd⟩, ?_, ?_⟩
    · rw [← hα]; exact List.IsPrefix.map _ hpre
    · exact Own.putObj hown _ hJ hK rfl
    · exact hB.trans (belowK_b (w := W0) (by omega) W D _ _ hD hK rfl rfl)


end Go.Proofs.Ythnmnohhhakjbaa.B

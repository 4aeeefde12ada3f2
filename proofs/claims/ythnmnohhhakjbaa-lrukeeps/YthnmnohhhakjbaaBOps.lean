/-
  The contracts of New, Use, Drop, Has and Len of package lru: a list as the keys that it has, the first one first.
-/
import Derived.Test.YthnmnohhhakjbaaBAdd
namespace Go.Proofs.Ythnmnohhhakjbaa.B
open Go.RowKit Go.Maps

/-- Where a list lies: its own block and, once it has had a key, its map's block, its row's, that one's capacity. -/
structure Lst where
  b : Nat
  rest : Option (Nat × Nat × Nat)

def Lst.foot (l : Lst) (i : Nat) : Prop := i = l.b ∨ ∃ m g cap, l.rest = some (m, g, cap) ∧ (i = m ∨ i = g)

/-- What lies there is a list with the keys ks; N: a bound on its places. -/
def Lst.At (l : Lst) (w : World) (ks : List Int) (N : Nat) : Prop :=
  match l.rest with
  | none => w.heap[l.b]? = some (.cells #[.map none, .slice none 0 0, .int .i64 0] 84 (0, 0)) ∧ ks = []
  | some (m, g, cap) => ∃ (P : List (Pl Int)) (sp : Int) (M : Int → Nat) (ix fr : List Nat), Loc.Cells ⟨l.b, m, g, cap⟩ w P sp ∧ MapIs w m N ks.length M ∧ Inv P sp ks M ix fr ∧ P.length ≤ N + 1 ∧ ∀ k ∈ ks, kok k

theorem Lst.At.lt {l : Lst} {w : World} {ks : List Int} {N : Nat} (h : l.At w ks N) : ∀ i, l.foot i → i < w.heap.size := by
  obtain ⟨b, rest⟩ := l
  cases rest with
  | none =>
    rintro i (rfl | ⟨m, g, cap, e, _⟩)
    · exact (Array.getElem?_eq_some_iff.1 h.1).1
    · cases e
  | some r =>
    obtain ⟨m, g, cap⟩ := r
    obtain ⟨P, sp, M, ix, fr, h1, h2, _⟩ := h
    rintro i (rfl | ⟨m', g', cap', e, e'⟩)
    · exact h1.blt
    · simp only [Option.some.injEq, Prod.mk.injEq] at e
      obtain ⟨rfl, rfl, rfl⟩ := e
      rcases e' with rfl | rfl
      · exact h2.lt
      · exact h1.glt

theorem Lst.At.kept {S : Nat → Prop} {l : Lst} {w w' : World} {ks : List Int} {N : Nat} (h : l.At w ks N) (k : KeptBut S w w') (hn : ∀ i, l.foot i → ¬ S i) : l.At w' ks N := by
  have hlt := h.lt
  obtain ⟨b, rest⟩ := l
  cases rest with
  | none => exact ⟨(k.block b (hlt b (.inl rfl)) (hn b (.inl rfl))).trans h.1, h.2⟩
  | some r =>
    obtain ⟨m, g, cap⟩ := r
    obtain ⟨P, sp, M, ix, fr, h1, h2, h3⟩ := h
    exact ⟨P, sp, M, ix, fr, h1.kept k (hn b (.inl rfl)) (hn g (.inr ⟨m, g, cap, rfl, .inr rfl⟩)), h2.kept k (hn m (.inr ⟨m, g, cap, rfl, .inl rfl⟩)), h3⟩

theorem Lst.At.nodup {l : Lst} {w : World} {ks : List Int} {N : Nat} (h : l.At w ks N) : ks.Nodup := by
  obtain ⟨b, rest⟩ := l
  cases rest with
  | none => rw [h.2]; exact List.nodup_nil
  | some r =>
    obtain ⟨P, sp, M, ix, fr, h1, h2, h3, _⟩ := h
    exact h3.ndk
theorem Lst.At.ok {l : Lst} {w : World} {ks : List Int} {N : Nat} (h : l.At w ks N) : ∀ k ∈ ks, kok k := by
  obtain ⟨b, rest⟩ := l
  cases rest with
  | none => rw [h.2]; simp
  | some r =>
    obtain ⟨P, sp, M, ix, fr, h1, h2, h3, _, h4⟩ := h
    exact h4

theorem MapIs.mono {w : World} {m N N' n : Nat} {M : Int → Nat} (h : MapIs w m N n M) (hN : N ≤ N') : MapIs w m N' n M := by
  obtain ⟨D, c, h1, h2⟩ := h
  exact ⟨D, c, Nat.le_trans h1 hN, h2⟩
theorem Lst.At.mono {l : Lst} {w : World} {ks : List Int} {N N' : Nat} (h : l.At w ks N) (hN : N ≤ N') : l.At w ks N' := by
  obtain ⟨b, rest⟩ := l
  cases rest with
  | none => exact h
  | some r =>
    obtain ⟨P, sp, M, ix, fr, h1, h2, h3, h4, h5⟩ := h
    exact ⟨P, sp, M, ix, fr, h1, h2.mono hN, h3, by omega, h5⟩

theorem new_any (w : World) : Calls Try.prog 31 #[] w fun e w' => e = .returned (.pointer (some ⟨w.heap.size, 0, none⟩)) ∧ w' = w.alloc (.cells #[.map none, .slice none 0 0, .int .i64 0] 84) := by
  go_enter Try.func31, Try.ntmps31
  go_wp2
  go_ret
  exact ⟨rfl, rfl⟩

theorem At_new (w : World) (N : Nat) : Lst.At ⟨w.heap.size, none⟩ (w.alloc (.cells #[.map none, .slice none 0 0, .int .i64 0] 84)) [] N := ⟨heap_alloc_new w _, rfl⟩

/-- What comes of a change: the list is another one; nothing else has turned. -/
def Turned (l : Lst) (w : World) (ks : List Int) (N : Nat) (w' : World) : Prop :=
  ∃ l' : Lst, l'.b = l.b ∧ l'.At w' ks N ∧ KeptBut l.foot w w' ∧ ∀ i, l'.foot i → l.foot i ∨ w.heap.size ≤ i

theorem Turned.mono {l : Lst} {w : World} {ks : List Int} {N N' : Nat} {w' : World} (h : Turned l w ks N w') (hN : N ≤ N') : Turned l w ks N' w' := by
  obtain ⟨l', h1, h2, h3, h4⟩ := h
  exact ⟨l', h1, h2.mono hN, h3, h4⟩

theorem Lst.foot_made {b m g cap i : Nat} : Lst.foot ⟨b, some (m, g, cap)⟩ i ↔ i = b ∨ i = m ∨ i = g := by
  unfold Lst.foot
  constructor
  · rintro (e | ⟨m', g', cap', e, e'⟩)
    · exact .inl e
    · simp only [Option.some.injEq, Prod.mk.injEq] at e
      obtain ⟨rfl, rfl, rfl⟩ := e
      exact .inr e'
  · rintro (e | e)
    · exact .inl e
    · exact .inr ⟨m, g, cap, rfl, e⟩
theorem Lst.foot_none {b i : Nat} : Lst.foot ⟨b, none⟩ i ↔ i = b := by
  unfold Lst.foot
  simp

/-- Behind add comes linkFirst. -/
theorem link_added (l : Lst) (w w1 : World) (S : Nat → Prop) (hS : ∀ i, S i ↔ l.foot i) (N : Nat) (ks : List Int) (k : Int) (P : List (Pl Int)) (sp : Int) (M : Int → Nat) (ix fr : List Nat) (a : Nat) (e : Ending)
    (hd : Det P sp ks M ix fr a k) (h : Added S w l.b N (ks.length + 1) P sp M a e w1) (hN : P.length ≤ N + 1) (hok : ∀ u ∈ k :: ks, kok u) :
    Calls Try.prog 53 #[.pointer (some ⟨l.b, 0, none⟩), .int .i64 (a : Nat)] w1 fun e w' => e = .returned (.tuple #[]) ∧ Turned l w (k :: ks) N w' := by
  obtain ⟨_, τ, hb, hc, hm, hk, hf⟩ := h
  obtain ⟨f, f1, f2, f3⟩ := hd.link
  rw [← hb]
  refine (link_any τ P sp w1 hc a f (keyAt_lt hd.own) f1 f2).mono ?_
  rintro e w' ⟨rfl, hc', hk'⟩
  have hS' : ∀ i, i = τ.g → l.foot i ∨ w.heap.size ≤ i := fun i e => (hf i (.inr e)).imp (fun e => (hS i).1 e) id
  refine ⟨rfl, ⟨τ.b, some (τ.m, τ.g, τ.cap)⟩, hb, ⟨_, _, M, _, _, hc', hm.kept hk' (hm.ne_g hc), f3, by simpa using hN, hok⟩, (hk.mono (fun i e => (hS i).1 e)).trans hk' hS', ?_⟩
  intro i hi
  rcases Lst.foot_made.1 hi with e | e
  · exact .inl (.inl (e.trans hb))
  · exact (hf i e).imp (fun e => (hS i).1 e) id

set_option maxHeartbeats 1000000 in
theorem use_any (l : Lst) (w : World) (ks : List Int) (N : Nat) (k : Int) (h : l.At w ks N) (hk : kok k) (hN : N < 900) :
    Calls Try.prog 32 #[.pointer (some ⟨l.b, 0, none⟩), (Value.int .u8) k] w fun e w' => e = .returned (.tuple #[]) ∧ Turned l w (k :: ks.erase k) (N + 1) w' := by
  obtain ⟨b, rest⟩ := l
  cases rest with
  | none =>
    obtain ⟨hb, rfl⟩ := h
    have hfind := find_none b k w (by simp [World.cell?, show w.heap[b]? = _ from hb]) hk
    have hadd := add_first b k w hb hk
    have HF := Lib.hid hfind
    have HA := Lib.hid hadd
    have hd : Det [⟨(0 : Int), 0, 0⟩, ⟨k, 0, 0⟩] 0 [] (upd (fun _ => 0) k 1) [] [] 1 k := (Inv.start (K := Int) (0 : Int)).grow (by simp)
    have HD := Lib.hid hd
    have HO : Hid (∀ u ∈ [k], kok u) := by intro u hu; simp at hu; subst hu; exact hk
    clear hfind hadd hd hb hk
    go_enter Try.func32, Try.ntmps32
    go_wp2_with (first
      | (go_at_call 50; refine HF.out.mono ?_; rintro e w' ⟨rfl, rfl⟩)
      | (go_at_call 51; refine HA.out.mono ?_; intro e w1 hadd1; have he := hadd1.1; subst he; have HA1 := Lib.hid hadd1; clear hadd1)
      | (go_at_call 53; refine (link_added ⟨b, none⟩ w w1 (fun i => i = b) (fun i => Lst.foot_none.symm) 1 [] k _ 0 _ [] [] 1 _ HD.out HA1.out (by simp) HO.out).mono ?_; rintro e w2 ⟨rfl, ht⟩))
    go_end0
    exact ⟨rfl, ht.mono (by omega)⟩
  | some r =>
    obtain ⟨m, g, cap⟩ := r
    obtain ⟨P, sp, M, ix, fr, hc, hm, hi, hpl, hok⟩ := h
    simp only
    have hfind := find_made b m N ks.length M k w hc.cell0 hm hk
    have HF := Lib.hid hfind
    clear hfind
    by_cases hin : k ∈ ks
    · have hpos := (hi.pos k).1 hin
      obtain ⟨x, y, ix', hp, hx, hy, hd⟩ := hi.unlink hin
      have hun := unlink_any ⟨b, m, g, cap⟩ P sp w hc (M k) x y k hp hx hy
      have hle : ks.length = (ks.erase k).length + 1 := by rw [List.length_erase_of_mem hin]; have := List.length_pos_of_mem hin; omega
      have HO : Hid (∀ u ∈ k :: ks.erase k, kok u) := by
        intro u hu
        simp at hu
        rcases hu with rfl | hu
        · exact hk
        · exact hok u (List.mem_of_mem_erase hu)
      rw [hle] at hm
      have HM := Lib.hid hm
      have HMG : Hid (m ≠ g) := hm.ne_g hc
      have HU := Lib.hid hun
      have HD := Lib.hid hd
      have HL : Hid ((setAh (setBh P x y) y x).length ≤ N + 1) := by show (setAh (setBh P x y) y x).length ≤ N + 1; simpa using hpl
      obtain ⟨a, ha⟩ : ∃ a, a = M k := ⟨_, rfl⟩
      rw [← ha] at HF HU HD hpos
      have ha0 : ¬ (a : Int) = 0 := by omega
      clear hun hd hm hc hi hp hok hk hpl hle ha
      go_enter Try.func32, Try.ntmps32
      go_wp2_with (first
        | (go_at_call 50; refine HF.out.mono ?_; rintro e w' ⟨rfl, rfl⟩)
        | (go_at_call 52; refine HU.out.mono ?_; rintro e w1 ⟨rfl, hc1, hk1⟩; have HC1 := Lib.hid hc1; have HK1 := Lib.hid hk1; clear hc1 hk1)
        | (go_at_call 53; refine (link_added ⟨b, some (m, g, cap)⟩ w w1 (fun i => i = b ∨ i = m ∨ i = g) (fun i => Lst.foot_made.symm) N (ks.erase k) k _ sp M ix' fr a (.returned (.int .i64 (a : Nat))) HD.out ⟨rfl, ⟨b, m, g, cap⟩, rfl, HC1.out, HM.out.kept HK1.out HMG.out, HK1.out.mono (fun i e => .inr (.inr e)), fun i e => .inl (.inr e)⟩ HL.out HO.out).mono ?_; rintro e w2 ⟨rfl, ht⟩))
      go_end0
      exact ⟨rfl, ht.mono (by omega)⟩
    · have hz := hi.none k hin
      have he : ks.erase k = ks := List.erase_of_not_mem hin
      rw [hz] at HF
      rw [he]
      have HO : Hid (∀ u ∈ k :: ks, kok u) := by
        intro u hu
        simp at hu
        rcases hu with rfl | hu
        · exact hk
        · exact hok u hu
      have hp0 : 0 < P.length := Lnk_lt _ hi.lnk 0 (by rw [← List.cons_append, List.dropLast_concat]; simp)
      obtain ⟨a, P', sp', M', fr', hA, hd, hl⟩ : ∃ (a : Nat) (P' : List (Pl Int)) (sp' : Int) (M' : Int → Nat) (fr' : List Nat), Hid (Calls Try.prog 51 #[.pointer (some ⟨b, 0, none⟩), (Value.int .u8) k] w (Added (fun i => i = b ∨ i = m ∨ i = g) w b (N + 1) (ks.length + 1) P' sp' M' a)) ∧ Hid (Det P' sp' ks M' ix fr' a k) ∧ Hid (P'.length ≤ N + 1 + 1) := by
        by_cases hsp : sp = 0
        · subst hsp
          exact ⟨P.length, _, 0, _, fr, add_grow ⟨b, m, g, cap⟩ P N ks.length M k w hc hm hk hz hp0 (by omega) (by omega), hi.grow hin, by show (P ++ [_]).length ≤ _; simp; omega⟩
        · obtain ⟨a, s, fr', e1, e2, e3, e4, e5⟩ := hi.again hin hsp
          subst e1
          exact ⟨a, _, s, _, fr', add_spare ⟨b, m, g, cap⟩ P N ks.length a s M k w hc hm hk hz e2 e3 e4 (by omega) (by omega), e5, by show (setKey P a k).length ≤ _; simp; omega⟩
      clear hc hm hi hpl hok hk hz he hp0 hin
      go_enter Try.func32, Try.ntmps32
      go_wp2_with (first
        | (go_at_call 50; refine HF.out.mono ?_; rintro e w' ⟨rfl, rfl⟩)
        | (go_at_call 51; refine hA.out.mono ?_; intro e w1 hadd1; have he := hadd1.1; subst he; have HA1 := Lib.hid hadd1; clear hadd1)
        | (go_at_call 53; refine (link_added ⟨b, some (m, g, cap)⟩ w w1 (fun i => i = b ∨ i = m ∨ i = g) (fun i => Lst.foot_made.symm) (N + 1) ks k P' sp' M' ix fr' a _ hd.out HA1.out hl.out HO.out).mono ?_; rintro e w2 ⟨rfl, ht⟩))
      go_end0
      exact ⟨rfl, ht⟩

theorem use_nil (w : World) (k : Int) : Calls Try.prog 32 #[.pointer none, (Value.int .u8) k] w fun e w' => e = .returned (.tuple #[]) ∧ w = w' := by
  go_enter Try.func32, Try.ntmps32
  go_wp2
  first | go_end0 | refine bodyPost_ret (results_none rfl _ _ _) rfl ?_
  exact ⟨rfl, rfl⟩

theorem map_del {D : DataW Unit} {M : Int → Nat} {k : Int} (hk : kok k) (hD : Tidy D) (h : ∀ u, kok u → Maps.has D (kl u) = decide (M u ≠ 0) ∧ D.atKey (kl u) (.lit (.int .i64 0)) = .lit (.int .i64 (M u : Nat))) (hold : M k ≠ 0) :
    Maps.size (D.del (kl k)) + 1 = Maps.size D ∧
    ∀ u, kok u → Maps.has (D.del (kl k)) (kl u) = decide (upd M k 0 u ≠ 0) ∧ (D.del (kl k)).atKey (kl u) (.lit (.int .i64 0)) = .lit (.int .i64 (upd M k 0 u : Nat)) := by
  have hf : Maps.has D (kl k) = true := by rw [(h k hk).1]; simp [hold]
  refine ⟨by have := size_del (k := kl k) hD; rw [hf] at this; simpa using this, ?_⟩
  intro u hu
  by_cases e : u = k
  · subst e
    rw [has_del_same, atKey_del_same, upd_same]
    exact ⟨by simp, rfl⟩
  · rw [has_del_other (kl_ne e), atKey_del_other (kl_ne e), upd_other M 0 e]
    exact h u hu

/-- A place is left. -/
theorem Loc.Cells.setPl {τ : Loc} {w : World} {P : List (Pl Int)} {sp : Int} (h : τ.Cells w P sp) (i : Nat) (p : Pl Int) :
    τ.Cells (((w.setCell ⟨τ.g, i * 3, none⟩ ((Value.int .u8) p.key)).setCell ⟨τ.g, i * 3 + 1, none⟩ (.int .i64 p.ah)).setCell ⟨τ.g, i * 3 + 2, none⟩ (.int .i64 p.bh)) (P.set i p) sp := by
  have h1 : ∀ j u, (w.setCell ⟨τ.g, j, none⟩ u).ownsRow 0 88 3 (.slice (some ⟨τ.g, 0, none⟩) P.length τ.cap) P.length ((flat (Value.int .u8) P).set j u) := fun j u => (h.row.stored j u).1
  refine ⟨?_, ?_⟩
  · rw [heap_setCell_other _ ⟨τ.g, i * 3 + 2, none⟩ τ.b _ h.ne, heap_setCell_other _ ⟨τ.g, i * 3 + 1, none⟩ τ.b _ h.ne, heap_setCell_other _ ⟨τ.g, i * 3, none⟩ τ.b _ h.ne, h.blk]
    simp
  · rw [flat_set, List.length_set]
    exact (((h.row.stored _ _).1.stored _ _).1.stored _ _).1

set_option maxHeartbeats 2000000 in
theorem drop_any (l : Lst) (w : World) (ks : List Int) (N : Nat) (k : Int) (h : l.At w ks N) (hk : kok k) :
    Calls Try.prog 36 #[.pointer (some ⟨l.b, 0, none⟩), (Value.int .u8) k] w fun e w' => e = .returned (.bool (decide (k ∈ ks))) ∧ Turned l w (ks.erase k) N w' := by
  have hsame : Turned l w ks N w := ⟨l, rfl, h, KeptBut.refl _ _, fun i e => .inl e⟩
  have HS := Lib.hid hsame
  clear hsame
  obtain ⟨b, rest⟩ := l
  cases rest with
  | none =>
    obtain ⟨hb, rfl⟩ := h
    have hfind := find_none b k w (by simp [World.cell?, show w.heap[b]? = _ from hb]) hk
    have HF := Lib.hid hfind
    clear hfind hb hk
    go_enter Try.func36, Try.ntmps36
    go_wp2_with (go_at_call 50; refine HF.out.mono ?_; rintro e w' ⟨rfl, rfl⟩)
    go_ret
    exact ⟨rfl, HS.out⟩
  | some r =>
    obtain ⟨m, g, cap⟩ := r
    obtain ⟨P, sp, M, ix, fr, hc, hm, hi, hpl, hok⟩ := h
    simp only
    have hfind := find_made b m N ks.length M k w hc.cell0 hm hk
    have HF := Lib.hid hfind
    clear hfind
    by_cases hin : k ∈ ks
    · have hpos := (hi.pos k).1 hin
      obtain ⟨x, y, ix', hp, hx, hy, hd⟩ := hi.unlink hin
      have hun := unlink_any ⟨b, m, g, cap⟩ P sp w hc (M k) x y k hp hx hy
      have hle : ks.length = (ks.erase k).length + 1 := by rw [List.length_erase_of_mem hin]; have := List.length_pos_of_mem hin; omega
      have HO : Hid (∀ u ∈ ks.erase k, kok u) := fun u hu => hok u (List.mem_of_mem_erase hu)
      have HM := Lib.hid hm
      have hmg := hm.ne_g hc
      have hmb := hm.ne_b hc
      have HU := Lib.hid hun
      have HD := Lib.hid hd
      have hal : M k < P.length := (List.getElem?_eq_some_iff.1 hp).1
      obtain ⟨a, ha⟩ : ∃ a, a = M k := ⟨_, rfl⟩
      have HAP : Hid (M k ≠ 0) := hpos
      rw [← ha] at HF HU HD hpos hal
      have ha0 : ¬ (a : Int) = 0 := by omega
      have hla : (a : Int) < (P.length : Int) := by omega
      have hne : b ≠ g := hc.ne
      have hne' := Ne.symm hne
      have e0 : decide (k ∈ ks) = true := by simp [hin]
      rw [e0]
      clear hun hd hm hc hi hp hok ha e0 hin
      go_enter Try.func36, Try.ntmps36
      go_wp2_with (first
        | (go_at_call 50; refine HF.out.mono ?_; rintro e w' ⟨rfl, rfl⟩)
        | (go_at_call 52; refine HU.out.mono ?_; rintro e w1 ⟨rfl, hc1, hk1⟩; have d0 := hc1.cell0; simp only at d0; have HC1 := Lib.hid hc1; have HK1 := Lib.hid hk1; clear hc1 hk1)
        | (at_delete; go_must (obtain ⟨D, c, hcN, hown, hsz, hD⟩ := HM.out; have hown1 := ownsMap_kept hown HK1.out hmg; refine wpList_delete_own _ rfl _ _ 81 5 rfl 3 law Try.underlying81 _ m c D rfl hown1 _ _ rfl (key_of hk) ?_; intro w2 hown2 hturn)))
      have k2 : KeptBut (fun i => i = m) w1 w2 := (KeptBut.of_grown hturn.grown).mono (fun i e => by simpa using e)
      have hc2 := HC1.out.kept k2 (Ne.symm hmb) (Ne.symm hmg)
      have u1 := hc2.cell1
      simp only [length_setAh, length_setBh] at u1
      have u2 := hc2.cell2
      simp only at u2
      have hal' : a < (setAh (setBh P x y) y x).length := by simpa using hal
      obtain ⟨pa, hpa⟩ : ∃ pa, (setAh (setBh P x y) y x)[a]? = some pa := ⟨_, List.getElem?_eq_getElem hal'⟩
      obtain ⟨v0, v1, v2⟩ := hc2.place hpa
      have g0 := hc2.frozenAt (a * 3)
      have g1 := hc2.frozenAt (a * 3 + 1)
      have g2 := hc2.frozenAt (a * 3 + 2)
      simp only at v0 v1 v2 g0 g1 g2
      have hmp := map_del hk (hown.tidy law) hD HAP.out
      have HC2 := Lib.hid hc2
      have HK2 := Lib.hid k2
      have HW2 := Lib.hid hown2
      have HMP := Lib.hid hmp
      clear hc2 k2 hpa hown2 hmp hD hown hown1 hturn d0
      go_region
      all_goals
        obtain ⟨w3, hw3⟩ : ∃ w3, w3 = (((w2.setCell ⟨g, a * 3, none⟩ ((Value.int .u8) (0 : Int))).setCell ⟨g, a * 3 + 1, none⟩ (.int .i64 (-1))).setCell ⟨g, a * 3 + 2, none⟩ (.int .i64 sp)).drew := ⟨_, rfl⟩
        rw [← hw3]
        have hc3 : Loc.Cells ⟨b, m, g, cap⟩ w3 ((setAh (setBh P x y) y x).set a ⟨(0 : Int), -1, sp⟩) sp := by rw [hw3]; exact (HC2.out.setPl a ⟨(0 : Int), -1, sp⟩).alike rfl
        have k3 : KeptBut (fun i => i = g) w2 w3 := by
          rw [hw3]
          exact (((KeptBut.setCell w2 ⟨g, a * 3, none⟩ _).trans (KeptBut.setCell _ ⟨g, a * 3 + 1, none⟩ _) (fun _ e => .inl e)).trans (KeptBut.setCell _ ⟨g, a * 3 + 2, none⟩ _) (fun _ e => .inl e)).alike rfl rfl rfl rfl
        have x2 := hc3.cell2
        have y2 := hc3.frozen 2
        simp only at x2 y2
        have HC3 := Lib.hid hc3
        have HK3 := Lib.hid k3
        clear hc3 k3 hw3 u1 u2 v0 v1 v2 g0 g1 g2
        go_wp2
        go_ret
        have k4 : KeptBut (fun i => i = b) w3 (w3.setCell ⟨b, 2, none⟩ (.int .i64 (a : Nat))) := KeptBut.setCell w3 ⟨b, 2, none⟩ _
        refine ⟨rfl, ⟨b, some (m, g, cap)⟩, rfl, ⟨_, _, upd M k 0, ix', a :: fr, HC3.out.setSp (a : Nat), ?_, HD.out.drop (0 : Int), by simpa using hpl, HO.out⟩, ?_, fun i e => .inl e⟩
        · refine ⟨D.del (kl k), c, hcN, ownsMap_kept (ownsMap_kept HW2.out HK3.out hmg) k4 hmb, ?_, HMP.out.2⟩
          have := HMP.out.1
          omega
        · refine (((HK1.out.mono ?_).trans HK2.out ?_).trans HK3.out ?_).trans k4 ?_
          · exact fun i e => Lst.foot_made.2 (.inr (.inr e))
          · exact fun i e => .inl (Lst.foot_made.2 (.inr (.inl e)))
          · exact fun i e => .inl (Lst.foot_made.2 (.inr (.inr e)))
          · exact fun i e => .inl (Lst.foot_made.2 (.inl e))
    · have hz := hi.none k hin
      have he : ks.erase k = ks := List.erase_of_not_mem hin
      have e0 : decide (k ∈ ks) = false := by simp [hin]
      rw [hz] at HF
      rw [he, e0]
      clear hc hm hi hpl hok hk hz he hin e0
      go_enter Try.func36, Try.ntmps36
      go_wp2_with (go_at_call 50; refine HF.out.mono ?_; rintro e w' ⟨rfl, rfl⟩)
      go_ret
      exact ⟨rfl, HS.out⟩

theorem len_any (l : Lst) (w : World) (ks : List Int) (N : Nat) (h : l.At w ks N) :
    Calls Try.prog 37 #[.pointer (some ⟨l.b, 0, none⟩)] w fun e w' => e = .returned (.int .i64 (ks.length : Nat)) ∧ w = w' := by
  obtain ⟨b, rest⟩ := l
  cases rest with
  | none =>
    obtain ⟨hb, rfl⟩ := h
    exact len_none b w (by simp [World.cell?, show w.heap[b]? = _ from hb])
  | some r =>
    obtain ⟨m, g, cap⟩ := r
    obtain ⟨P, sp, M, ix, fr, hc, hm, hi, hpl, hok⟩ := h
    exact len_made b m N ks.length M w hc.cell0 hm

end Go.Proofs.Ythnmnohhhakjbaa.B

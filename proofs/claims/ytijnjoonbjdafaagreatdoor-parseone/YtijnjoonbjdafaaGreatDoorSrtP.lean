/-
  Sorting by names as plain lists: a permutation that is in order is the one that is made by insertion; the names of read fields are all unlike. No walk.
-/
import Derived.Test.YtijnjoonbjdafaaGreatDoorGrM
namespace Go.Proofs.YtijnjoonbjdafaaGreatDoor
theorem bsLt_irrefl : ∀ a : Bs, bsLt a a = false
  | [] => rfl
  | a :: r => by rw [bsLt, if_neg (Nat.lt_irrefl _), if_neg (Nat.lt_irrefl _)]; exact bsLt_irrefl r
theorem bsLt_trans : ∀ a b c : Bs, bsLt a b = true → bsLt b c = true → bsLt a c = true
  | [], [], _, h, _ => by simp [bsLt] at h
  | [], _ :: _, [], _, h => by simp [bsLt] at h
  | [], _ :: _, _ :: _, _, _ => rfl
  | _ :: _, [], _, h, _ => by simp [bsLt] at h
  | _ :: _, _ :: _, [], _, h => by simp [bsLt] at h
  | a :: r, b :: s, c :: t, h, k => by
    simp only [bsLt] at h k ⊢
    by_cases h1 : a.toNat < b.toNat
    · by_cases k1 : b.toNat < c.toNat
      · rw [if_pos (by omega)]
      · rw [if_neg k1] at k
        by_cases k2 : c.toNat < b.toNat
        · rw [if_pos k2] at k; cases k
        · rw [if_pos (by omega)]
    · rw [if_neg h1] at h
      by_cases h2 : b.toNat < a.toNat
      · rw [if_pos h2] at h; cases h
      · rw [if_neg h2] at h
        by_cases k1 : b.toNat < c.toNat
        · rw [if_pos (by omega)]
        · rw [if_neg k1] at k
          by_cases k2 : c.toNat < b.toNat
          · rw [if_pos k2] at k; cases k
          · rw [if_neg k2] at k
            rw [if_neg (by omega), if_neg (by omega)]
            exact bsLt_trans r s t h k
theorem bsLt_total : ∀ a b : Bs, bsLt a b = false → bsLt b a = false → a = b
  | [], [], _, _ => rfl
  | [], _ :: _, h, _ => by simp [bsLt] at h
  | _ :: _, [], _, h => by simp [bsLt] at h
  | a :: r, b :: s, h, k => by
    simp only [bsLt] at h k
    by_cases h1 : a.toNat < b.toNat
    · rw [if_pos h1] at h; cases h
    · by_cases h2 : b.toNat < a.toNat
      · rw [if_pos h2] at k; cases k
      · rw [if_neg h1, if_neg h2] at h
        rw [if_neg h2, if_neg h1] at k
        rw [bsLt_total r s h k, UInt8.toNat_inj.1 (by omega : a.toNat = b.toNat)]
section
variable {α : Type}
theorem insF_perm (x : Bs × α) : ∀ l : List (Bs × α), (insF x l).Perm (x :: l)
  | [] => .refl _
  | y :: r => by
    unfold insF; split
    · exact ((insF_perm x r).cons y).trans (.swap _ _ _)
    · exact .refl _
theorem sortF_perm : ∀ l : List (Bs × α), (sortF l).Perm l
  | [] => .refl _
  | x :: r => (insF_perm x _).trans ((sortF_perm r).cons x)
def InOrd (l : List (Bs × α)) : Prop := l.Pairwise fun x y => bsLt y.1 x.1 = false
theorem nle_trans {a b c : Bs} (h : bsLt b a = false) (k : bsLt c b = false) : bsLt c a = false := by
  cases e : bsLt c a with
  | false => rfl
  | true =>
    exfalso
    cases e2 : bsLt a b with
    | true => rw [bsLt_trans c a b e e2] at k; cases k
    | false =>
      have := bsLt_total a b e2 h
      subst this
      rw [e] at k; cases k
theorem insF_ord (x : Bs × α) : ∀ l : List (Bs × α), InOrd l → InOrd (insF x l)
  | [], _ => List.pairwise_singleton _ _
  | y :: r, h => by
    obtain ⟨h1, h2⟩ := List.pairwise_cons.1 h
    unfold insF; split
    next e =>
      refine List.pairwise_cons.2 ⟨fun z hz => ?_, insF_ord x r h2⟩
      rcases List.mem_cons.1 ((insF_perm x r).mem_iff.1 hz) with rfl | hz
      · cases e3 : bsLt z.1 y.1 with
        | false => rfl
        | true => have := bsLt_trans _ _ _ e e3; rw [bsLt_irrefl] at this; cases this
      · exact h1 z hz
    next e =>
      have e' : bsLt y.1 x.1 = false := by simpa using e
      refine List.pairwise_cons.2 ⟨fun z hz => ?_, h⟩
      rcases List.mem_cons.1 hz with rfl | hz
      · exact e'
      · exact nle_trans e' (h1 z hz)
theorem sortF_ord : ∀ l : List (Bs × α), InOrd (sortF l)
  | [] => .nil
  | x :: r => insF_ord x _ (sortF_ord r)
theorem ord_uniq : ∀ l m : List (Bs × α), l.Perm m → InOrd l → InOrd m → (l.map (·.1)).Nodup → l = m
  | [], m, hp, _, _, _ => (List.nil_perm.1 hp).symm
  | x :: r, [], hp, _, _, _ => absurd hp.length_eq (by simp)
  | x :: r, y :: s, hp, hl, hm, hn => by
    obtain ⟨l1, l2⟩ := List.pairwise_cons.1 hl
    obtain ⟨m1, m2⟩ := List.pairwise_cons.1 hm
    have hx : x = y := by
      have a1 : x ∈ y :: s := hp.mem_iff.1 (List.mem_cons_self)
      have a2 : y ∈ x :: r := hp.mem_iff.2 (List.mem_cons_self)
      rcases List.mem_cons.1 a1 with h | h
      · exact h
      rcases List.mem_cons.1 a2 with h' | h'
      · exact h'.symm
      exfalso
      have e : x.1 = y.1 := bsLt_total _ _ (m1 x h) (l1 y h')
      simp only [List.map_cons, List.nodup_cons] at hn
      exact hn.1 (e ▸ List.mem_map_of_mem h')
    subst hx
    simp only [List.map_cons, List.nodup_cons] at hn
    rw [ord_uniq r s (List.perm_cons _ |>.1 hp) l2 m2 hn.2]
theorem sortF_is {l m : List (Bs × α)} (hp : m.Perm l) (hm : InOrd m) (hn : (l.map (·.1)).Nodup) : sortF l = m :=
  ord_uniq _ _ ((sortF_perm l).trans hp.symm) (sortF_ord l) hm (((sortF_perm l).map _).nodup_iff.2 hn)
theorem sortF_length (l : List (Bs × α)) : (sortF l).length = l.length := (sortF_perm l).length_eq
theorem fields_nodup (sign : Bs) (read : List Tk → R α) : ∀ (n : Nat) (seen : List Bs) (acc : List (Bs × α)) (ts : List Tk) (l : List (Bs × α)) (r : List Tk) (d : List Dn), (acc.map (·.1)).Nodup → (∀ x ∈ acc, x.1 ∈ seen) → fieldsP sign read n seen acc ts = .ok l r d → (l.map (·.1)).Nodup
  | 0, seen, acc, ts, l, r, d, h1, h2, h => by simp only [fieldsP] at h; cases h; exact h1
  | n + 1, seen, acc, ts, l, r, d, h1, h2, h => by
    simp only [fieldsP] at h
    cases e1 : wantName ts with
    | bad y r1 d1 => rw [e1, R.bind_bad] at h; cases h
    | ok nm r1 d1 =>
      rw [e1, R.bind_ok] at h
      have hacc : ∀ v : α, ((if nm.t ∈ seen then acc else acc ++ [(nm.t, v)]).map (·.1)).Nodup := by
        intro v
        split
        · exact h1
        next hs =>
          rw [List.map_append, List.nodup_append]
          refine ⟨h1, by simp, ?_⟩
          intro a ha b hb e
          simp at hb
          subst hb
          obtain ⟨x, hx, ex⟩ := List.mem_map.1 ha
          exact hs (by rw [← e, ← ex]; exact h2 x hx)
      have hseen : ∀ v : α, ∀ x ∈ (if nm.t ∈ seen then acc else acc ++ [(nm.t, v)]), x.1 ∈ nm.t :: seen := by
        intro v x hx
        split at hx
        · exact List.mem_cons_of_mem _ (h2 x hx)
        · rcases List.mem_append.1 hx with hx | hx
          · exact List.mem_cons_of_mem _ (h2 x hx)
          · simp at hx; rw [hx]; exact List.mem_cons_self
      cases e2 : want sign r1 with
      | bad y r2 d2 => rw [e2, R.bind_bad, R.tell_bad, R.tell_bad] at h; cases h
      | ok _ r2 d2 =>
        rw [e2, R.bind_ok] at h
        cases e3 : read r2 with
        | bad y r3 d3 => rw [e3, R.bind_bad, R.tell_bad, R.tell_bad, R.tell_bad] at h; cases h
        | ok v r3 d3 =>
          rw [e3, R.bind_ok] at h
          simp only [R.tell_tell] at h
          cases e4 : isM [44] r3 with
          | true =>
            rw [e4, if_pos rfl] at h
            cases e5 : fieldsP sign read n (nm.t :: seen) (if nm.t ∈ seen then acc else acc ++ [(nm.t, v)]) r3.tail with
            | bad y r5 d5 => rw [e5, R.tell_bad] at h; cases h
            | ok l5 r5 d5 =>
              rw [e5, R.tell_ok] at h
              cases h
              exact fields_nodup sign read n _ _ _ _ _ _ (hacc v) (hseen v) e5
          | false =>
            simp only [e4, Bool.false_eq_true, if_false] at h
            cases e5 : want [125] r3 with
            | bad y r5 d5 => rw [e5, R.bind_bad, R.tell_bad] at h; cases h
            | ok _ r5 d5 =>
              rw [e5, R.bind_ok, R.tell_ok, R.tell_ok] at h
              cases h
              exact hacc v
theorem read_nodup {sign : Bs} {read : List Tk → R α} {ts : List Tk} {l : List (Bs × α)} {r : List Tk} {d : List Dn} (h : readP sign read ts = .ok l r d) : (l.map (·.1)).Nodup := by
  unfold readP at h
  split at h
  · cases h; simp
  · exact fields_nodup sign read _ _ _ _ _ _ _ (by simp) (by simp) h
theorem fields_len (sign : Bs) (read : List Tk → R α) (hshr : ∀ ts, Shr ts.length (read ts)) : ∀ (n : Nat) (seen : List Bs) (acc : List (Bs × α)) (ts : List Tk) (l : List (Bs × α)) (r : List Tk) (d : List Dn), ts.length ≤ n → fieldsP sign read n seen acc ts = .ok l r d → l.length ≤ acc.length + n
  | 0, seen, acc, ts, l, r, d, _, h => by simp only [fieldsP] at h; cases h; omega
  | n + 1, seen, acc, ts, l, r, d, hn, h => by
    simp only [fieldsP] at h
    cases e1 : wantName ts with
    | bad y r1 d1 => rw [e1, R.bind_bad] at h; cases h
    | ok nm r1 d1 =>
      rw [e1, R.bind_ok] at h
      have s1 : r1.length ≤ ts.length := by have := wantName_shr ts; rw [e1] at this; exact this
      have hacc : ∀ v : α, (if nm.t ∈ seen then acc else acc ++ [(nm.t, v)]).length ≤ acc.length + 1 := by
        intro v; split <;> simp
      cases e2 : want sign r1 with
      | bad y r2 d2 => rw [e2, R.bind_bad, R.tell_bad, R.tell_bad] at h; cases h
      | ok _ r2 d2 =>
        rw [e2, R.bind_ok] at h
        have s2 : r2.length ≤ r1.length := by have := want_shr sign r1; rw [e2] at this; exact this
        cases e3 : read r2 with
        | bad y r3 d3 => rw [e3, R.bind_bad, R.tell_bad, R.tell_bad, R.tell_bad] at h; cases h
        | ok v r3 d3 =>
          rw [e3, R.bind_ok] at h
          have s3 : r3.length ≤ r2.length := by have := hshr r2; rw [e3] at this; exact this
          simp only [R.tell_tell] at h
          have ha := hacc v
          cases e4 : isM [44] r3 with
          | true =>
            rw [e4, if_pos rfl] at h
            cases e5 : fieldsP sign read n (nm.t :: seen) (if nm.t ∈ seen then acc else acc ++ [(nm.t, v)]) r3.tail with
            | bad y r5 d5 => rw [e5, R.tell_bad] at h; cases h
            | ok l5 r5 d5 =>
              rw [e5, R.tell_ok] at h
              cases h
              have hp : 0 < r3.length := by
                cases r3 with
                | nil => simp [isM, hd] at e4
                | cons x r => simp
              have := fields_len sign read hshr n _ _ _ _ _ _ (by rw [List.length_tail]; omega) e5
              omega
          | false =>
            simp only [e4, Bool.false_eq_true, if_false] at h
            cases e5 : want [125] r3 with
            | bad y r5 d5 => rw [e5, R.bind_bad, R.tell_bad] at h; cases h
            | ok _ r5 d5 =>
              rw [e5, R.bind_ok, R.tell_ok, R.tell_ok] at h
              cases h
              omega
theorem read_len' {sign : Bs} {read : List Tk → R α} (hshr : ∀ ts, Shr ts.length (read ts)) {ts : List Tk} {l : List (Bs × α)} {r : List Tk} {d : List Dn} (h : readP sign read ts = .ok l r d) : l.length ≤ ts.length := by
  unfold readP at h
  split at h
  · cases h; simp
  · have := fields_len sign read hshr _ _ _ _ _ _ _ (Nat.le_refl _) h
    simpa using this
theorem perm_rel {β : Type} {Q : α → β → Prop} {d d' : List β} (hp : d.Perm d') : ∀ l : List α, l.length = d.length → (∀ i (h1 : i < l.length) (h2 : i < d.length), Q l[i] d[i]) → ∃ l', l.Perm l' ∧ l'.length = d'.length ∧ ∀ i (h1 : i < l'.length) (h2 : i < d'.length), Q l'[i] d'[i] := by
  induction hp with
  | nil => exact fun l hl hq => ⟨l, .refl _, hl, hq⟩
  | cons x p ih =>
    intro l hl hq
    cases l with
    | nil => simp at hl
    | cons a l =>
      obtain ⟨l', h1, h2, h3⟩ := ih l (by simpa using hl) (fun i a1 a2 => hq (i + 1) (by simpa using a1) (by simpa using a2))
      refine ⟨a :: l', h1.cons a, by simpa using h2, fun i b1 b2 => ?_⟩
      cases i with
      | zero => exact hq 0 (by simp) (by simp)
      | succ i => exact h3 i (by simpa using b1) (by simpa using b2)
  | swap x y s =>
    intro l hl hq
    match l, hl with
    | a :: b :: l, hl =>
      refine ⟨b :: a :: l, .swap _ _ _, by simpa using hl, fun i b1 b2 => ?_⟩
      match i with
      | 0 => exact hq 1 (by simp) (by simp)
      | 1 => exact hq 0 (by simp) (by simp)
      | i + 2 => exact hq (i + 2) (by simpa using b1) (by simpa using b2)
  | trans p q ih1 ih2 =>
    intro l hl hq
    obtain ⟨l1, a1, a2, a3⟩ := ih1 l hl hq
    obtain ⟨l2, b1, b2, b3⟩ := ih2 l1 a2 a3
    exact ⟨l2, a1.trans b1, b2, b3⟩
end
end Go.Proofs.YtijnjoonbjdafaaGreatDoor

/-
  Places that are linked by numbers, as plain lists: what it means that they hold keys in an order, and what linking, unlinking, adding and dropping do to that. No walk.
-/
import Derived.Test.YthnmnohhhakjbaaRows
namespace Go.Proofs.Ythnmnohhhakjbaa

/-- A place: its key, the place ahead, the place behind. -/
structure Pl (K : Type) where
  key : K
  ah : Int
  bh : Int

variable {K : Type}

def bhAt (P : List (Pl K)) (i : Nat) : Option Int := (P[i]?).map Pl.bh
def ahAt (P : List (Pl K)) (i : Nat) : Option Int := (P[i]?).map Pl.ah
def keyAt (P : List (Pl K)) (i : Nat) : Option K := (P[i]?).map Pl.key

def setBh : List (Pl K) → Nat → Int → List (Pl K)
  | [], _, _ => []
  | p :: r, 0, v => { p with bh := v } :: r
  | p :: r, i + 1, v => p :: setBh r i v
def setAh : List (Pl K) → Nat → Int → List (Pl K)
  | [], _, _ => []
  | p :: r, 0, v => { p with ah := v } :: r
  | p :: r, i + 1, v => p :: setAh r i v
def setKey : List (Pl K) → Nat → K → List (Pl K)
  | [], _, _ => []
  | p :: r, 0, v => { p with key := v } :: r
  | p :: r, i + 1, v => p :: setKey r i v

@[simp] theorem length_setBh : ∀ (P : List (Pl K)) (i : Nat) (v : Int), (setBh P i v).length = P.length
  | [], _, _ => rfl
  | p :: r, 0, v => rfl
  | p :: r, i + 1, v => by simp [setBh, length_setBh r i v]
@[simp] theorem length_setAh : ∀ (P : List (Pl K)) (i : Nat) (v : Int), (setAh P i v).length = P.length
  | [], _, _ => rfl
  | p :: r, 0, v => rfl
  | p :: r, i + 1, v => by simp [setAh, length_setAh r i v]
@[simp] theorem length_setKey : ∀ (P : List (Pl K)) (i : Nat) (v : K), (setKey P i v).length = P.length
  | [], _, _ => rfl
  | p :: r, 0, v => rfl
  | p :: r, i + 1, v => by simp [setKey, length_setKey r i v]

theorem get_setBh : ∀ (P : List (Pl K)) (i : Nat) (v : Int) (j : Nat), (setBh P i v)[j]? = if i = j then (P[j]?).map (fun p => { p with bh := v }) else P[j]?
  | [], i, v, j => by simp [setBh]
  | p :: r, 0, v, 0 => by simp [setBh]
  | p :: r, 0, v, j + 1 => by simp [setBh]
  | p :: r, i + 1, v, 0 => by simp [setBh]
  | p :: r, i + 1, v, j + 1 => by simp [setBh, get_setBh r i v j]
theorem get_setAh : ∀ (P : List (Pl K)) (i : Nat) (v : Int) (j : Nat), (setAh P i v)[j]? = if i = j then (P[j]?).map (fun p => { p with ah := v }) else P[j]?
  | [], i, v, j => by simp [setAh]
  | p :: r, 0, v, 0 => by simp [setAh]
  | p :: r, 0, v, j + 1 => by simp [setAh]
  | p :: r, i + 1, v, 0 => by simp [setAh]
  | p :: r, i + 1, v, j + 1 => by simp [setAh, get_setAh r i v j]
theorem get_setKey : ∀ (P : List (Pl K)) (i : Nat) (v : K) (j : Nat), (setKey P i v)[j]? = if i = j then (P[j]?).map (fun p => { p with key := v }) else P[j]?
  | [], i, v, j => by simp [setKey]
  | p :: r, 0, v, 0 => by simp [setKey]
  | p :: r, 0, v, j + 1 => by simp [setKey]
  | p :: r, i + 1, v, 0 => by simp [setKey]
  | p :: r, i + 1, v, j + 1 => by simp [setKey, get_setKey r i v j]

theorem bhAt_setBh (P : List (Pl K)) (i : Nat) (v : Int) (j : Nat) : bhAt (setBh P i v) j = if i = j then (bhAt P j).map (fun _ => v) else bhAt P j := by
  unfold bhAt; rw [get_setBh]; split <;> simp [Function.comp_def]
@[simp] theorem ahAt_setBh (P : List (Pl K)) (i : Nat) (v : Int) (j : Nat) : ahAt (setBh P i v) j = ahAt P j := by
  unfold ahAt; rw [get_setBh]; split <;> simp [Function.comp_def]
@[simp] theorem keyAt_setBh (P : List (Pl K)) (i : Nat) (v : Int) (j : Nat) : keyAt (setBh P i v) j = keyAt P j := by
  unfold keyAt; rw [get_setBh]; split <;> simp [Function.comp_def]
theorem ahAt_setAh (P : List (Pl K)) (i : Nat) (v : Int) (j : Nat) : ahAt (setAh P i v) j = if i = j then (ahAt P j).map (fun _ => v) else ahAt P j := by
  unfold ahAt; rw [get_setAh]; split <;> simp [Function.comp_def]
@[simp] theorem bhAt_setAh (P : List (Pl K)) (i : Nat) (v : Int) (j : Nat) : bhAt (setAh P i v) j = bhAt P j := by
  unfold bhAt; rw [get_setAh]; split <;> simp [Function.comp_def]
@[simp] theorem keyAt_setAh (P : List (Pl K)) (i : Nat) (v : Int) (j : Nat) : keyAt (setAh P i v) j = keyAt P j := by
  unfold keyAt; rw [get_setAh]; split <;> simp [Function.comp_def]
theorem keyAt_setKey (P : List (Pl K)) (i : Nat) (v : K) (j : Nat) : keyAt (setKey P i v) j = if i = j then (keyAt P j).map (fun _ => v) else keyAt P j := by
  unfold keyAt; rw [get_setKey]; split <;> simp [Function.comp_def]
@[simp] theorem bhAt_setKey (P : List (Pl K)) (i : Nat) (v : K) (j : Nat) : bhAt (setKey P i v) j = bhAt P j := by
  unfold bhAt; rw [get_setKey]; split <;> simp [Function.comp_def]
@[simp] theorem ahAt_setKey (P : List (Pl K)) (i : Nat) (v : K) (j : Nat) : ahAt (setKey P i v) j = ahAt P j := by
  unfold ahAt; rw [get_setKey]; split <;> simp [Function.comp_def]

/-- One behind the other: each place's 'behind' is the next one, whose 'ahead' is the place. -/
def Lnk (P : List (Pl K)) : List Nat → Prop
  | x :: y :: r => bhAt P x = some (y : Int) ∧ ahAt P y = some (x : Int) ∧ Lnk P (y :: r)
  | _ => True

theorem Lnk_split (P : List (Pl K)) : ∀ (A : List Nat) (x : Nat) (B : List Nat), Lnk P (A ++ x :: B) ↔ Lnk P (A ++ [x]) ∧ Lnk P (x :: B)
  | [], x, B => by simp [Lnk]
  | [a], x, B => by simp [Lnk, and_assoc]
  | a :: b :: A, x, B => by
    have := Lnk_split P (b :: A) x B
    simp only [List.cons_append, Lnk] at this ⊢
    rw [this]
    simp only [and_assoc]

theorem Lnk_congr {P P' : List (Pl K)} : ∀ (l : List Nat), (∀ x ∈ l.dropLast, bhAt P' x = bhAt P x) → (∀ x ∈ l.tail, ahAt P' x = ahAt P x) → Lnk P l → Lnk P' l
  | [], _, _, _ => trivial
  | [_], _, _, _ => trivial
  | x :: y :: r, hb, ha, h => by
    obtain ⟨h1, h2, h3⟩ := h
    refine ⟨(hb x (by simp)).trans h1, (ha y (by simp)).trans h2, Lnk_congr (y :: r) ?_ ?_ h3⟩
    · intro z hz; exact hb z (by simp [hz])
    · intro z hz; exact ha z (by simp at hz ⊢; exact .inr hz)

theorem Lnk_lt {P : List (Pl K)} : ∀ (l : List Nat), Lnk P l → ∀ x ∈ l.dropLast, x < P.length
  | [], _, _, h => by simp at h
  | [_], _, _, h => by simp at h
  | x :: y :: r, h, z, hz => by
    obtain ⟨h1, _, h3⟩ := h
    simp at hz
    rcases hz with rfl | hz
    · unfold bhAt at h1
      rcases hp : P[z]? with _ | p
      · rw [hp] at h1; simp at h1
      · exact (List.getElem?_eq_some_iff.1 hp).1
    · exact Lnk_lt (y :: r) h3 z hz

/-- The places without a key, from the first one on. -/
def Fre (P : List (Pl K)) : Int → List Nat → Prop
  | sp, [] => sp = 0
  | sp, x :: r => sp = x ∧ ∃ s, bhAt P x = some s ∧ Fre P s r

theorem Fre_congr {P P' : List (Pl K)} : ∀ (sp : Int) (fr : List Nat), (∀ x ∈ fr, bhAt P' x = bhAt P x) → Fre P sp fr → Fre P' sp fr
  | _, [], _, h => h
  | sp, x :: r, hb, ⟨h1, s, h2, h3⟩ => ⟨h1, s, (hb x (by simp)).trans h2, Fre_congr s r (fun z hz => hb z (by simp [hz])) h3⟩

section

def upd [DecidableEq K] (M : K → Nat) (k : K) (a : Nat) : K → Nat := fun x => if x = k then a else M x
theorem upd_same [DecidableEq K] (M : K → Nat) (k : K) (a : Nat) : upd M k a k = a := by simp [upd]
theorem upd_other [DecidableEq K] (M : K → Nat) {k x : K} (a : Nat) (h : x ≠ k) : upd M k a x = M x := by simp [upd, h]

/-- The places hold the keys ks, in their order; M tells each key's place. -/
structure Inv (P : List (Pl K)) (sp : Int) (ks : List K) (M : K → Nat) (ix fr : List Nat) : Prop where
  lnk : Lnk P (0 :: (ix ++ [0]))
  keys : ix.map (keyAt P) = ks.map some
  nd : (0 :: (ix ++ fr)).Nodup
  ndk : ks.Nodup
  free : Fre P sp fr
  num : ∀ x ∈ ix, ∀ k, keyAt P x = some k → M k = x
  none : ∀ k, k ∉ ks → M k = 0

/-- The same, with one place beside that holds the key k and is not linked. -/
structure Det (P : List (Pl K)) (sp : Int) (ks : List K) (M : K → Nat) (ix fr : List Nat) (a : Nat) (k : K) : Prop where
  lnk : Lnk P (0 :: (ix ++ [0]))
  keys : ix.map (keyAt P) = ks.map some
  nd : (0 :: a :: (ix ++ fr)).Nodup
  ndk : (k :: ks).Nodup
  free : Fre P sp fr
  num : ∀ x ∈ ix, ∀ k, keyAt P x = some k → M k = x
  none : ∀ k', k' ∉ ks → k' ≠ k → M k' = 0
  own : keyAt P a = some k
  tell : M k = a

theorem keyAt_lt {P : List (Pl K)} {a : Nat} {k : K} (h : keyAt P a = some k) : a < P.length := by
  unfold keyAt at h
  rcases hp : P[a]? with _ | p
  · rw [hp] at h; simp at h
  · exact (List.getElem?_eq_some_iff.1 hp).1

theorem lookup_split {P : List (Pl K)} : ∀ {ix : List Nat} {ks : List K} {k : K}, ix.map (keyAt P) = ks.map some → k ∈ ks →
    ∃ p a q kp kq, ix = p ++ a :: q ∧ ks = kp ++ k :: kq ∧ keyAt P a = some k ∧ p.map (keyAt P) = kp.map some ∧ q.map (keyAt P) = kq.map some ∧ k ∉ kp
  | [], [], _, _, h => by simp at h
  | [], _ :: _, _, h, _ => by simp at h
  | _ :: _, [], _, h, _ => by simp at h
  | x :: ix, y :: ks, k, h, hk => by
    simp only [List.map_cons, List.cons.injEq] at h
    by_cases e : k = y
    · subst e
      exact ⟨[], x, ix, [], ks, rfl, rfl, h.1, rfl, h.2, by simp⟩
    · have hk' : k ∈ ks := by simpa [e] using hk
      obtain ⟨p, a, q, kp, kq, h1, h2, h3, h4, h5, h6⟩ := lookup_split h.2 hk'
      refine ⟨x :: p, a, q, y :: kp, kq, by rw [h1]; rfl, by rw [h2]; rfl, h3, by simp [h.1, h4], h5, ?_⟩
      simp [e, h6]

theorem Inv.pos {P : List (Pl K)} {sp : Int} {ks : List K} {M : K → Nat} {ix fr : List Nat} (h : Inv P sp ks M ix fr) (k : K) : k ∈ ks ↔ M k ≠ 0 := by
  constructor
  · intro hk
    obtain ⟨p, a, q, kp, kq, h1, _, h3, _⟩ := lookup_split h.keys hk
    have ha : a ∈ ix := by rw [h1]; simp
    rw [h.num a ha k h3]
    rintro rfl
    have := h.nd
    simp at this
    exact this.1.1 ha
  · intro hn
    exact Classical.byContradiction fun hk => hn (h.none k hk)

theorem Inv.length {P : List (Pl K)} {sp : Int} {ks : List K} {M : K → Nat} {ix fr : List Nat} (h : Inv P sp ks M ix fr) : ix.length = ks.length := by
  have := congrArg List.length h.keys
  simpa using this

theorem head_split (q : List Nat) : ∃ y B, q ++ [0] = y :: B ∧ (y = 0 ∨ y ∈ q) ∧ q = (y :: B).dropLast := by
  cases q with
  | nil => exact ⟨0, [], rfl, .inl rfl, rfl⟩
  | cons y r => exact ⟨y, r ++ [0], rfl, .inr (by simp), by simp [List.dropLast_cons_of_ne_nil]⟩

theorem last_split : ∀ (p : List Nat), ∃ A x, 0 :: p = A ++ [x] ∧ (x = 0 ∨ x ∈ p) := by
  intro p
  rcases List.eq_nil_or_concat p with rfl | ⟨r, x, rfl⟩
  · exact ⟨[], 0, rfl, .inl rfl⟩
  · exact ⟨0 :: r, x, by simp, .inr (by simp)⟩

/-- A place between its two neighbours is taken out. -/
theorem Inv.unlink [DecidableEq K] {P : List (Pl K)} {sp : Int} {ks : List K} {M : K → Nat} {ix fr : List Nat} (h : Inv P sp ks M ix fr) {k : K} (hk : k ∈ ks) :
    ∃ (x y : Nat) (ix' : List Nat), P[M k]? = some ⟨k, x, y⟩ ∧ x < P.length ∧ y < P.length ∧ Det (setAh (setBh P x y) y x) sp (ks.erase k) M ix' fr (M k) k := by
  obtain ⟨p, a, q, kp, kq, h1, h2, h3, h4, h5, h6⟩ := lookup_split h.keys hk
  have ha : M k = a := h.num a (by rw [h1]; simp) k h3
  obtain ⟨A, x, hA, hx⟩ := last_split p
  obtain ⟨y, B, hB, hy, hq⟩ := head_split q
  have hl := h.lnk
  have hnd := h.nd
  rw [h1] at hl hnd
  have e1 : (0 :: (p ++ a :: q ++ [0])) = A ++ x :: (a :: y :: B) := by
    have : 0 :: (p ++ a :: q ++ [0]) = (0 :: p) ++ a :: (q ++ [0]) := by simp
    rw [this, hA, hB]; simp
  rw [e1, Lnk_split] at hl
  obtain ⟨l1, l2, l3, l4, l5, l6⟩ := hl
  have hlt := Lnk_lt _ h.lnk
  have hmem : ∀ z, z ∈ (0 :: (ix ++ [0])).dropLast ↔ z = 0 ∨ z ∈ ix := by
    intro z
    have : (0 :: (ix ++ [0])).dropLast = 0 :: ix := by
      rw [← List.cons_append, List.dropLast_concat]
    rw [this]; simp
  have hxl : x < P.length := hlt x ((hmem x).2 (hx.imp id (fun e => by rw [h1]; simp [e])))
  have hyl : y < P.length := hlt y ((hmem y).2 (hy.imp id (fun e => by rw [h1]; simp [e])))
  have hal : a < P.length := keyAt_lt h3
  simp only [List.nodup_cons, List.nodup_append, List.mem_append, List.mem_cons, not_or] at hnd
  have nd0 : 0 ∉ p ∧ 0 ≠ a ∧ 0 ∉ q ∧ 0 ∉ fr := ⟨hnd.1.1.1, hnd.1.1.2.1, hnd.1.1.2.2, hnd.1.2⟩
  have ndA : x ∉ A := by
    have h0 : (0 :: p).Nodup := by simp [nd0.1, hnd.2.1.1]
    rw [hA] at h0
    simp [List.nodup_append] at h0
    exact fun e => h0.2 x e rfl
  have ndB : y ∉ B := by
    have h0 : (q ++ [0]).Nodup := by
      have := hnd.2.1.2.1.2
      simp [List.nodup_append, this]
      intro z hz e
      subst e
      exact nd0.2.2.1 hz
    rw [hB] at h0
    simp at h0
    exact h0.1
  refine ⟨x, y, p ++ q, ?_, hxl, hyl, ?_⟩
  · rw [ha]
    obtain ⟨pl, hpl⟩ : ∃ pl, P[a]? = some pl := ⟨_, List.getElem?_eq_getElem hal⟩
    unfold keyAt at h3
    unfold bhAt at l4
    unfold ahAt at l3
    rw [hpl] at h3 l3 l4
    simp at h3 l3 l4
    rw [hpl]
    obtain ⟨kk, aa, bb⟩ := pl
    simp_all
  · have hdis : ∀ z, z ∈ p → z ∉ q := fun z hz hq' => hnd.2.1.2.2 z hz z (.inr hq') rfl
    have hap : a ∉ p := fun e => hnd.2.1.2.2 a e a (.inl rfl) rfl
    have haq : a ∉ q := hnd.2.1.2.1.1
    have hfx : ∀ z ∈ fr, z ≠ x := by
      rintro z hz rfl
      rcases hx with rfl | hx
      · exact nd0.2.2.2 hz
      · exact hnd.2.2.2 z (.inl hx) z hz rfl
    refine ⟨?_, ?_, ?_, ?_, ?_, ?_, ?_, ?_, rfl⟩
    · have e2 : (0 :: (p ++ q ++ [0])) = A ++ x :: (y :: B) := by
        have : 0 :: (p ++ q ++ [0]) = (0 :: p) ++ (q ++ [0]) := by simp
        rw [this, hA, hB]; simp
      rw [e2, Lnk_split]
      refine ⟨Lnk_congr _ ?_ ?_ l1, ?_, ?_, Lnk_congr _ ?_ ?_ l6⟩
      · intro z hz
        simp at hz
        rw [bhAt_setAh, bhAt_setBh, if_neg (fun e : x = z => ndA (e ▸ hz))]
      · intro z hz
        have hzp : z ∈ p := by rw [← hA] at hz; simpa using hz
        rw [ahAt_setAh, ahAt_setBh, if_neg]
        rintro rfl
        rcases hy with rfl | hy
        · exact nd0.1 hzp
        · exact hdis _ hzp hy
      · rw [bhAt_setAh, bhAt_setBh, if_pos rfl, l2]; rfl
      · rw [ahAt_setAh, ahAt_setBh, if_pos rfl, l5]; rfl
      · intro z hz
        rw [← hq] at hz
        rw [bhAt_setAh, bhAt_setBh, if_neg]
        rintro rfl
        rcases hx with rfl | hx
        · exact nd0.2.2.1 hz
        · exact hdis _ hx hz
      · intro z hz
        simp at hz
        rw [ahAt_setAh, ahAt_setBh, if_neg (fun e : y = z => ndB (e ▸ hz))]
    · have he : ks.erase k = kp ++ kq := by rw [h2, List.erase_append_right _ h6]; simp
      rw [he, List.map_append, List.map_append, ← h4, ← h5]
      congr 1 <;> exact List.map_congr_left (fun z _ => by simp)
    · simp only [List.nodup_cons, List.nodup_append, List.mem_append, List.mem_cons, not_or]
      refine ⟨⟨by rw [ha]; exact nd0.2.1, ⟨nd0.1, nd0.2.2.1⟩, nd0.2.2.2⟩, ⟨⟨by rw [ha]; exact hap, by rw [ha]; exact haq⟩, ?_⟩, ⟨hnd.2.1.1, hnd.2.1.2.1.2, fun z hz u hu => hnd.2.1.2.2 z hz u (.inr hu)⟩, hnd.2.2.1, ?_⟩
      · rw [ha]; exact fun e => hnd.2.2.2 a (.inr (.inl rfl)) a e rfl
      · intro z hz u hu
        exact hnd.2.2.2 z (hz.imp id .inr) u hu
    · have := h.ndk
      simp [List.nodup_cons, this.erase, this.not_mem_erase]
    · refine Fre_congr sp fr (fun z hz => ?_) h.free
      rw [bhAt_setAh, bhAt_setBh, if_neg (fun e => hfx z hz e.symm)]
    · intro z hz k' hk'
      simp only [keyAt_setAh, keyAt_setBh] at hk'
      refine h.num z ?_ k' hk'
      rw [h1]
      simp at hz ⊢
      exact hz.imp id .inr
    · intro k' hk' hne
      refine h.none k' (fun e => hk' ?_)
      exact (List.mem_erase_of_ne hne).2 e
    · simp [ha, h3]

/-- A place that is not linked is linked at the front. -/
theorem Det.link {P : List (Pl K)} {sp : Int} {ks : List K} {M : K → Nat} {ix fr : List Nat} {a : Nat} {k : K} (h : Det P sp ks M ix fr a k) :
    ∃ f : Nat, f < P.length ∧ bhAt P 0 = some (f : Int) ∧ Inv (setAh (setBh (setBh (setAh P a 0) a f) 0 a) f a) sp (k :: ks) M (a :: ix) fr := by
  obtain ⟨f, B, hB, hf, hq⟩ := head_split ix
  have hl := h.lnk
  have hnd := h.nd
  have hlt := Lnk_lt _ h.lnk
  rw [hB] at hl hlt
  obtain ⟨l1, l2, l3⟩ := hl
  simp only [List.nodup_cons, List.nodup_append, List.mem_append, List.mem_cons, not_or] at hnd
  obtain ⟨⟨n1, n2, n3⟩, ⟨n4, n5⟩, n6, n7, n8⟩ := hnd
  have hfa : f ≠ a := by
    rintro rfl
    rcases hf with rfl | hf
    · exact n1 rfl
    · exact n4 hf
  have hfl : f < P.length := by
    rcases hf with rfl | hf
    · exact hlt 0 (by simp)
    · refine hlt f ?_
      rw [List.dropLast_cons_of_ne_nil (by simp), ← hq]
      simp [hf]
  have hal : a < P.length := keyAt_lt h.own
  obtain ⟨pa, hpa⟩ : ∃ pa, P[a]? = some pa := ⟨_, List.getElem?_eq_getElem hal⟩
  have ndB : f ∉ B := by
    have h0 : (ix ++ [0]).Nodup := by
      simp [List.nodup_append, n6]
      intro z hz e
      subst e
      exact n2 hz
    rw [hB] at h0
    simp at h0
    exact h0.1
  refine ⟨f, hfl, l1, ?_⟩
  have hkey : ∀ z, keyAt (setAh (setBh (setBh (setAh P a 0) a f) 0 a) f a) z = keyAt P z := by intro z; simp
  have hbh : ∀ z, z ≠ 0 → z ≠ a → bhAt (setAh (setBh (setBh (setAh P a 0) a f) 0 a) f a) z = bhAt P z := by
    intro z h0 ha
    rw [bhAt_setAh, bhAt_setBh, if_neg (Ne.symm h0), bhAt_setBh, if_neg (Ne.symm ha), bhAt_setAh]
  refine ⟨?_, ?_, ?_, h.ndk, ?_, ?_, ?_⟩
  · show Lnk _ (0 :: a :: (ix ++ [0]))
    rw [hB]
    refine ⟨?_, ?_, ?_, ?_, Lnk_congr _ ?_ ?_ l3⟩
    · rw [bhAt_setAh, bhAt_setBh, if_pos rfl, bhAt_setBh, if_neg (Ne.symm n1), bhAt_setAh, l1]; rfl
    · rw [ahAt_setAh, if_neg hfa, ahAt_setBh, ahAt_setBh, ahAt_setAh, if_pos rfl]
      simp [ahAt, hpa]
    · rw [bhAt_setAh, bhAt_setBh, if_neg n1, bhAt_setBh, if_pos rfl, bhAt_setAh]
      simp [bhAt, hpa]
    · rw [ahAt_setAh, if_pos rfl, ahAt_setBh, ahAt_setBh, ahAt_setAh, if_neg (Ne.symm hfa), l2]; rfl
    · intro z hz
      rw [← hq] at hz
      exact hbh z (fun e => n2 (e ▸ hz)) (fun e => n4 (e ▸ hz))
    · intro z hz
      simp at hz
      have hza : z ≠ a := by
        rintro rfl
        have : z ∈ ix ++ [0] := by rw [hB]; simp [hz]
        simp at this
        rcases this with e | e
        · exact n4 e
        · exact n1 e.symm
      rw [ahAt_setAh, if_neg (fun e : f = z => ndB (e ▸ hz)), ahAt_setBh, ahAt_setBh, ahAt_setAh, if_neg (Ne.symm hza)]
  · have e : (a :: ix).map (keyAt (setAh (setBh (setBh (setAh P a 0) a f) 0 a) f a)) = (a :: ix).map (keyAt P) := List.map_congr_left (fun z _ => hkey z)
    rw [e]
    simp [h.own, h.keys]
  · exact h.nd
  · refine Fre_congr sp fr (fun z hz => hbh z ?_ ?_) h.free
    · rintro rfl; exact n3 hz
    · rintro rfl; exact n5 hz
  · intro z hz k' hk'
    rw [hkey] at hk'
    simp at hz
    rcases hz with rfl | hz
    · rw [h.own] at hk'
      injection hk' with e
      subst e
      exact h.tell
    · exact h.num z hz k' hk'
  · intro k' hk'
    simp at hk'
    exact h.none k' hk'.2 hk'.1

/-- A new place for a key that has none. -/
theorem Inv.grow [DecidableEq K] {P : List (Pl K)} {ks : List K} {M : K → Nat} {ix fr : List Nat} (h : Inv P 0 ks M ix fr) {k : K} (hk : k ∉ ks) :
    Det (P ++ [⟨k, 0, 0⟩]) 0 ks (upd M k P.length) ix fr P.length k := by
  have hlt := Lnk_lt _ h.lnk
  have hmem : ∀ z, z ∈ (0 :: (ix ++ [0])).dropLast ↔ z = 0 ∨ z ∈ ix := by
    intro z
    have : (0 :: (ix ++ [0])).dropLast = 0 :: ix := by rw [← List.cons_append, List.dropLast_concat]
    rw [this]; simp
  have hfr : fr = [] := by
    cases fr with
    | nil => rfl
    | cons x r =>
      obtain ⟨e, _⟩ := h.free
      have := h.nd
      simp at this
      omega
  subst hfr
  have h0 : 0 < P.length := hlt 0 ((hmem 0).2 (.inl rfl))
  have hix : ∀ z ∈ ix, z < P.length := fun z hz => hlt z ((hmem z).2 (.inr hz))
  have hg : ∀ z, z < P.length → (P ++ [⟨k, 0, 0⟩])[z]? = P[z]? := fun z hz => List.getElem?_append_left hz
  refine ⟨?_, ?_, ?_, ?_, rfl, ?_, ?_, ?_, upd_same M k _⟩
  · refine Lnk_congr _ ?_ ?_ h.lnk
    · intro z hz
      rcases (hmem z).1 hz with rfl | hz <;> simp only [bhAt]
      · rw [hg _ h0]
      · rw [hg _ (hix z hz)]
    · intro z hz
      simp at hz
      simp only [ahAt]
      rcases hz with hz | rfl
      · rw [hg _ (hix z hz)]
      · rw [hg _ h0]
  · rw [← h.keys]
    exact List.map_congr_left (fun z hz => by simp only [keyAt]; rw [hg _ (hix z hz)])
  · have := h.nd
    simp at this ⊢
    refine ⟨⟨by omega, this.1⟩, fun e => ?_, this.2⟩
    have := hix _ e
    omega
  · simp [hk, h.ndk]
  · intro z hz k' hk'
    simp only [keyAt] at hk'
    rw [hg _ (hix z hz)] at hk'
    have hk'' : keyAt P z = some k' := hk'
    have hkk : k' ∈ ks := by
      have : some k' ∈ ks.map some := by rw [← h.keys, ← hk'']; exact List.mem_map.2 ⟨z, hz, rfl⟩
      simpa using this
    rw [upd_other M _ (fun e : k' = k => hk (e ▸ hkk))]
    exact h.num z hz k' hk''
  · intro k' h1 h2
    rw [upd_other M _ h2]
    exact h.none k' h1
  · simp [keyAt]

/-- A place that was left for a key that has none. -/
theorem Inv.again [DecidableEq K] {P : List (Pl K)} {sp : Int} {ks : List K} {M : K → Nat} {ix fr : List Nat} (h : Inv P sp ks M ix fr) {k : K} (hk : k ∉ ks) (hsp : sp ≠ 0) :
    ∃ (a : Nat) (s : Int) (fr' : List Nat), sp = a ∧ a ≠ 0 ∧ a < P.length ∧ bhAt P a = some s ∧ Det (setKey P a k) s ks (upd M k a) ix fr' a k := by
  cases hfr : fr with
  | nil => rw [hfr] at h; exact absurd h.free hsp
  | cons a fr' =>
    rw [hfr] at h
    obtain ⟨e, s, hs, hf⟩ := h.free
    have hnd := h.nd
    simp only [List.nodup_cons, List.nodup_append, List.mem_append, List.mem_cons, not_or] at hnd
    obtain ⟨⟨n1, n2, n3⟩, n4, ⟨n5, n6⟩, n7⟩ := hnd
    have hal : a < P.length := by
      unfold bhAt at hs
      rcases hp : P[a]? with _ | p
      · rw [hp] at hs; simp at hs
      · exact (List.getElem?_eq_some_iff.1 hp).1
    have haix : a ∉ ix := fun e => n7 a e a (.inl rfl) rfl
    have hkey : ∀ z ∈ ix, keyAt (setKey P a k) z = keyAt P z := fun z hz => by
      rw [keyAt_setKey, if_neg (fun e : a = z => haix (e ▸ hz))]
    refine ⟨a, s, fr', e, Ne.symm n2, hal, hs, ?_, ?_, ?_, ?_, ?_, ?_, ?_, ?_, upd_same M k _⟩
    · exact Lnk_congr _ (fun z _ => bhAt_setKey _ _ _ _) (fun z _ => ahAt_setKey _ _ _ _) h.lnk
    · rw [← h.keys]
      exact List.map_congr_left hkey
    · simp only [List.nodup_cons, List.nodup_append, List.mem_append, List.mem_cons, not_or]
      exact ⟨⟨n2, n1, n3⟩, ⟨haix, n5⟩, n4, n6, fun z hz u hu => n7 z hz u (.inr hu)⟩
    · simp [hk, h.ndk]
    · exact Fre_congr _ _ (fun z _ => bhAt_setKey _ _ _ _) hf
    · intro z hz k' hk'
      rw [hkey z hz] at hk'
      have hkk : k' ∈ ks := by
        have : some k' ∈ ks.map some := by rw [← h.keys, ← hk']; exact List.mem_map.2 ⟨z, hz, rfl⟩
        simpa using this
      rw [upd_other M _ (fun e : k' = k => hk (e ▸ hkk))]
      exact h.num z hz k' hk'
    · intro k' h1 h2
      rw [upd_other M _ h2]
      exact h.none k' h1
    · obtain ⟨pa, hpa⟩ : ∃ pa, P[a]? = some pa := ⟨_, List.getElem?_eq_getElem hal⟩
      rw [keyAt_setKey, if_pos rfl]
      simp [keyAt, hpa]

/-- A place that is not linked is left for another key. -/
theorem Det.drop [DecidableEq K] {P : List (Pl K)} {sp : Int} {ks : List K} {M : K → Nat} {ix fr : List Nat} {a : Nat} {k : K} (h : Det P sp ks M ix fr a k) (z : K) :
    Inv (P.set a ⟨z, -1, sp⟩) a ks (upd M k 0) ix (a :: fr) := by
  have hnd := h.nd
  simp only [List.nodup_cons, List.nodup_append, List.mem_append, List.mem_cons, not_or] at hnd
  obtain ⟨⟨n1, n2, n3⟩, ⟨n4, n5⟩, n6, n7, n8⟩ := hnd
  have hal : a < P.length := keyAt_lt h.own
  have hget : ∀ x, x ≠ a → (P.set a ⟨z, -1, sp⟩)[x]? = P[x]? := fun x hx => List.getElem?_set_ne (Ne.symm hx)
  have hix : ∀ x ∈ ix, x ≠ a := fun x hx e => n4 (e ▸ hx)
  have hk : k ∉ ks := by have := h.ndk; simp at this; exact this.1
  refine ⟨?_, ?_, ?_, ?_, ?_, ?_, ?_⟩
  · refine Lnk_congr _ ?_ ?_ h.lnk
    · intro x hx
      have : (0 :: (ix ++ [0])).dropLast = 0 :: ix := by rw [← List.cons_append, List.dropLast_concat]
      rw [this] at hx
      simp only [bhAt]
      rw [hget]
      simp at hx
      rcases hx with rfl | hx
      · exact n1
      · exact hix x hx
    · intro x hx
      simp at hx
      simp only [ahAt]
      rw [hget]
      rcases hx with hx | rfl
      · exact hix x hx
      · exact n1
  · rw [← h.keys]
    exact List.map_congr_left (fun x hx => by simp only [keyAt]; rw [hget x (hix x hx)])
  · simp only [List.nodup_cons, List.nodup_append, List.mem_append, List.mem_cons, not_or]
    refine ⟨⟨n2, n1, n3⟩, n6, ⟨n5, n7⟩, ?_⟩
    intro x hx u hu
    rcases hu with rfl | hu
    · exact hix x hx
    · exact n8 x hx u hu
  · have := h.ndk; simp at this; exact this.2
  · refine ⟨rfl, sp, by simp [bhAt, hal], Fre_congr _ _ (fun x hx => ?_) h.free⟩
    simp only [bhAt]
    rw [hget x (fun e => n5 (e ▸ hx))]
  · intro x hx k' hk'
    simp only [keyAt] at hk'
    rw [hget x (hix x hx)] at hk'
    have hk'' : keyAt P x = some k' := hk'
    have hkk : k' ∈ ks := by
      have : some k' ∈ ks.map some := by rw [← h.keys, ← hk'']; exact List.mem_map.2 ⟨x, hx, rfl⟩
      simpa using this
    rw [upd_other M _ (fun e : k' = k => hk (e ▸ hkk))]
    exact h.num x hx k' hk''
  · intro k' hk'
    by_cases e : k' = k
    · subst e; exact upd_same M _ _
    · rw [upd_other M _ e]; exact h.none k' hk' e

/-- One place, that joins the ends: no keys. -/
theorem Inv.start (z : K) : Inv [⟨z, 0, 0⟩] 0 [] (fun _ => 0) [] [] := by
  refine ⟨⟨rfl, rfl, trivial⟩, rfl, by simp, by simp, rfl, by simp, fun _ _ => rfl⟩

end

/-- The cells of the places, one behind the other. -/
def flat (kv : K → Value) : List (Pl K) → List Value
  | [] => []
  | p :: r => kv p.key :: .int .i64 p.ah :: .int .i64 p.bh :: flat kv r

theorem flat_length (kv : K → Value) : ∀ P : List (Pl K), (flat kv P).length = P.length * 3
  | [] => rfl
  | p :: r => by simp [flat, flat_length kv r]; omega
theorem flat_append (kv : K → Value) : ∀ P Q : List (Pl K), flat kv (P ++ Q) = flat kv P ++ flat kv Q
  | [], Q => rfl
  | p :: r, Q => by simp [flat, flat_append kv r Q]
theorem flat_get (kv : K → Value) : ∀ (P : List (Pl K)) (i : Nat) (p : Pl K), P[i]? = some p →
    (flat kv P)[i * 3]? = some (kv p.key) ∧ (flat kv P)[i * 3 + 1]? = some (.int .i64 p.ah) ∧ (flat kv P)[i * 3 + 2]? = some (.int .i64 p.bh)
  | [], i, p, h => by simp at h
  | q :: r, 0, p, h => by
    simp at h; subst h; exact ⟨rfl, rfl, rfl⟩
  | q :: r, i + 1, p, h => by
    have := flat_get kv r i p (by simpa using h)
    simpa [flat, Nat.succ_mul] using this
theorem flat_setBh (kv : K → Value) : ∀ (P : List (Pl K)) (i : Nat) (v : Int), flat kv (setBh P i v) = (flat kv P).set (i * 3 + 2) (.int .i64 v)
  | [], i, v => by simp [flat, setBh]
  | q :: r, 0, v => by simp [flat, setBh]
  | q :: r, i + 1, v => by simp [flat, setBh, Nat.succ_mul, flat_setBh kv r i v]
theorem flat_setAh (kv : K → Value) : ∀ (P : List (Pl K)) (i : Nat) (v : Int), flat kv (setAh P i v) = (flat kv P).set (i * 3 + 1) (.int .i64 v)
  | [], i, v => by simp [flat, setAh]
  | q :: r, 0, v => by simp [flat, setAh]
  | q :: r, i + 1, v => by simp [flat, setAh, Nat.succ_mul, flat_setAh kv r i v]
theorem flat_setKey (kv : K → Value) : ∀ (P : List (Pl K)) (i : Nat) (v : K), flat kv (setKey P i v) = (flat kv P).set (i * 3) (kv v)
  | [], i, v => by simp [flat, setKey]
  | q :: r, 0, v => by simp [flat, setKey]
  | q :: r, i + 1, v => by simp [flat, setKey, Nat.succ_mul, flat_setKey kv r i v]
theorem flat_set (kv : K → Value) : ∀ (P : List (Pl K)) (i : Nat) (p : Pl K), flat kv (P.set i p) = (((flat kv P).set (i * 3) (kv p.key)).set (i * 3 + 1) (.int .i64 p.ah)).set (i * 3 + 2) (.int .i64 p.bh)
  | [], i, v => by simp [flat]
  | q :: r, 0, v => by simp [flat]
  | q :: r, i + 1, v => by simp [flat, Nat.succ_mul, flat_set kv r i v]

end Go.Proofs.Ythnmnohhhakjbaa

/-
  What is printed, as tokens. No walk.
  A type that was read is read so of its tokens, at so many levels and at more; how long its text is. No walk.
  An expression, a declaration that was read is read so of its tokens; how long its text is. No walk.
  Declarations: what is told of a source is told so of its text; the tokens of a source; how long its text is. No walk.
  A source that is just one type, or one expression: its text is told so; within others too. No walk.
-/
import Derived.Test.YthpoffklhpbdoaaGreatDoorPurX
import Derived.Test.YthpoffklhpbdoaaGreatDoorPrtO
import Derived.Test.YthpoffklhpbdoaaGreatDoorWhM
namespace Go.Proofs.YthpoffklhpbdoaaGreatDoor
set_option maxRecDepth 100000

/-! The same as tokens. -/
def wK (w : Bs) : Tk := ⟨2, 0, w⟩
def sK (s : Bs) : Tk := ⟨5, 0, s⟩
def nK (n : Bs) : Tk := ⟨1, 0, n⟩
def bodyTK (k : Nat) (n : Bs) (ns : List Bs) (l0 l1 l2 : List (List Tk)) : List Tk :=
  if k = 1 then [wK [105, 110, 116]] else if k = 2 then [wK [98, 111, 111, 108]] else if k = 3 then [wK [116, 101, 120, 116]] else if k = 4 then [sK [63]]
  else if k = 8 then [nK n]
  else if k = 5 then sK [123] :: (joinL [sK [44]] (pairL [sK [58]] (ns.map fun n => [nK n]) l0) ++ [sK [125]])
  else if k = 6 then l2.headD [] ++ (sK [45, 62] :: l1.tail.headD [])
  else if k = 7 then (if l1 = [] then [nK [110, 101, 118, 101, 114]] else joinL [sK [124]] l1)
  else []
def markTK (q k : Nat) (b : List Tk) : List Tk := if lvlT k < q then sK [40] :: (b ++ [sK [41]]) else b
mutual
def uT : Nat → PT → List Tk
  | q, .mk k n ns l => markTK q k (bodyTK k n ns (uTs 0 l) (uTs 1 l) (uTs 2 l))
def uTs : Nat → List PT → List (List Tk)
  | _, [] => []
  | q, t :: r => uT q t :: uTs q r
end
theorem uTs_map (q : Nat) : ∀ l, uTs q l = l.map (uT q)
  | [] => by rw [uTs]; rfl
  | t :: r => by rw [uTs, uTs_map q r]; rfl
theorem uT_mk (q k : Nat) (n : Bs) (ns : List Bs) (l : List PT) : uT q (.mk k n ns l) = markTK q k (bodyTK k n ns (l.map (uT 0)) (l.map (uT 1)) (l.map (uT 2))) := by rw [uT, uTs_map, uTs_map, uTs_map]
def bodyEK (k : Nat) (n : Bs) (m : Nat) (ns : List Bs) (e0 e2 t0 : List (List Tk)) : List Tk :=
  if k = 1 then [⟨3, 0, dig m⟩] else if k = 2 then [⟨4, 0, n⟩] else if k = 3 then (if m = 1 then [wK [116, 114, 117, 101]] else [wK [102, 97, 108, 115, 101]])
  else if k = 4 then [nK n]
  else if k = 5 then sK [123] :: (joinL [sK [44]] (pairL [sK [61]] (ns.map fun n => [nK n]) e0) ++ [sK [125]])
  else if k = 6 then e2.headD [] ++ [sK [46], nK n]
  else if k = 7 then e2.headD [] ++ sK [40] :: (e0.tail.headD [] ++ [sK [41]])
  else if k = 8 then wK [102, 117, 110] :: sK [40] :: nK n :: sK [58] :: (t0.headD [] ++ sK [41] :: e0.headD [])
  else if k = 9 then wK [108, 101, 116] :: nK n :: sK [61] :: (e0.headD [] ++ wK [105, 110] :: e0.tail.headD [])
  else if k = 10 then wK [105, 102] :: (e0.headD [] ++ wK [116, 104, 101, 110] :: (e0.tail.headD [] ++ wK [101, 108, 115, 101] :: e0.tail.tail.headD []))
  else if k = 11 then sK [40] :: (e0.headD [] ++ sK [58] :: (t0.headD [] ++ [sK [41]]))
  else []
def markEK (q k : Nat) (b : List Tk) : List Tk := if lvlE k < q then sK [40] :: (b ++ [sK [41]]) else b
mutual
def uE : Nat → PE → List Tk
  | q, .mk k _ n m ns l ts => markEK q k (bodyEK k n m ns (uEs 0 l) (uEs 2 l) (ts.map (uT 0)))
def uEs : Nat → List PE → List (List Tk)
  | _, [] => []
  | q, t :: r => uE q t :: uEs q r
end
theorem uEs_map (q : Nat) : ∀ l, uEs q l = l.map (uE q)
  | [] => by rw [uEs]; rfl
  | t :: r => by rw [uEs, uEs_map q r]; rfl
theorem uE_mk (q k a : Nat) (n : Bs) (m : Nat) (ns : List Bs) (l : List PE) (ts : List PT) : uE q (.mk k a n m ns l ts) = markEK q k (bodyEK k n m ns (l.map (uE 0)) (l.map (uE 2)) (ts.map (uT 0))) := by rw [uE, uEs_map, uEs_map]
def uD (d : PD) : List Tk :=
  if d.k = 1 then [wK [117, 115, 101], nK d.n, sK [59]]
  else if d.k = 2 then wK [116, 121, 112, 101] :: nK d.n :: sK [61] :: ((d.ts.map (uT 0)).headD [] ++ [sK [59]])
  else if d.k = 3 then wK [108, 101, 116] :: nK d.n :: ((if d.ts = [] then [] else sK [58] :: (d.ts.map (uT 0)).headD []) ++ sK [61] :: ((d.es.map (uE 0)).headD [] ++ [sK [59]]))
  else []

/-! Lexing. -/
def Zr : Nat → Nat := fun _ => 0
/-- The tokens but for their places. -/
def tz (l : Bs) : List Tk := (tk 0 l).map (Tk.pl Zr)
theorem tz_at (a : Nat) (l : Bs) : (tk a l).map (Tk.pl Zr) = tz l := by
  rw [show a = 0 + a by omega, tk_up, List.map_map]; rfl
theorem td_at0 (a : Nat) (l : Bs) : td a l = [] ↔ td 0 l = [] := by
  have h : td a l = (td 0 l).map (Dn.pl (· + a)) := by
    have := td_up 0 a l
    rwa [Nat.zero_add] at this
  rw [h, List.map_eq_nil_iff]
/-- A text that is such tokens, whatever follows that ends names, in one line; nothing is told of it. -/
def Lz (l : Bs) (u : List Tk) : Prop := (∀ c ∈ l, c ≠ 10) ∧ ∀ (c : UInt8) (b : Bs), brk c = true → tz (l ++ c :: b) = u ++ tz (c :: b) ∧ (td 0 (c :: b) = [] → td 0 (l ++ c :: b) = [])
theorem Lz.nil : Lz [] [] := ⟨by simp, fun c b _ => ⟨rfl, id⟩⟩
theorem Lz.sg {s : UInt8} {m : Bs} {v : List Tk} (hs : isSg s = true) (h : Lz m v) : Lz (s :: m) (sK [s] :: v) := by
  refine ⟨fun c hc => ?_, fun c b hc => ?_⟩
  · rcases List.mem_cons.1 hc with rfl | hc
    · rintro rfl; exact absurd hs (by decide)
    · exact h.1 c hc
  · obtain ⟨h1, h2⟩ := h.2 c b hc
    refine ⟨?_, fun e => ?_⟩
    · rw [List.cons_append, tz, tk_sign hs, List.map_cons, tz_at, h1]; rfl
    · rw [List.cons_append, td_sign hs, td_at0]; exact h2 e
theorem Lz.bl {m : Bs} {v : List Tk} (h : Lz m v) : Lz (32 :: m) v := by
  refine ⟨fun c hc => ?_, fun c b hc => ?_⟩
  · rcases List.mem_cons.1 hc with rfl | hc
    · decide
    · exact h.1 c hc
  · obtain ⟨h1, h2⟩ := h.2 c b hc
    refine ⟨?_, fun e => ?_⟩
    · rw [List.cons_append, tz, tk_blank (by decide), tz_at, h1]
    · rw [List.cons_append, td_blank (by decide), td_at0]; exact h2 e
theorem Lz.cut {l : Bs} {c : UInt8} {m : Bs} {u v : List Tk} (h : Lz l u) (hc : brk c = true) (k : Lz (c :: m) v) : Lz (l ++ c :: m) (u ++ v) := by
  refine ⟨fun x hx => ?_, fun x b hx => ?_⟩
  · rcases List.mem_append.1 hx with hx | hx
    · exact h.1 x hx
    · exact k.1 x hx
  · obtain ⟨h1, h2⟩ := h.2 c (m ++ x :: b) hc
    obtain ⟨k1, k2⟩ := k.2 x b hx
    refine ⟨?_, fun e => ?_⟩
    · rw [List.append_assoc, List.cons_append, h1, ← List.cons_append, k1, List.append_assoc]
    · rw [List.append_assoc, List.cons_append]; exact h2 (by rw [← List.cons_append]; exact k2 e)
/-- One piece that is a token. -/
theorem lz_piece {l : Bs} {k : Nat} {t : Bs} (h10 : ∀ c ∈ l, c ≠ 10) (hk : k ≠ 0) (hs : ∀ (c : UInt8) (b : Bs), brk c = true → stepOf (l ++ c :: b) = ⟨l.length, k, t, 0⟩) : Lz l [⟨k, 0, t⟩] := by
  refine ⟨h10, fun c b hc => ?_⟩
  have e := hs c b hc
  have e1 : pieces 0 (l ++ c :: b) = ⟨0, stepOf (l ++ c :: b)⟩ :: pieces (0 + (stepOf (l ++ c :: b)).n) ((l ++ c :: b).drop (stepOf (l ++ c :: b)).n) := pieces_piece 0 _ (by simp) (by rw [e]; exact .inl hk)
  rw [e] at e1
  have e2 : (l ++ c :: b).drop l.length = c :: b := List.drop_left
  simp only [e2] at e1
  refine ⟨?_, fun h => ?_⟩
  · rw [tz, tk, e1, toksOf_cons, if_neg hk, List.map_append]
    show [_] ++ _ = [_] ++ _
    congr 1
    exact tz_at _ _
  · rw [td, e1, toldOf_cons, if_pos rfl, List.nil_append]
    exact (td_at0 _ _).2 h
/-- A name's bytes. -/
def NmB (n : Bs) : Prop := (∃ c r, n = c :: r ∧ isStart c = true) ∧ (∀ c ∈ n, isPart c = true) ∧ isWordB n = false
theorem part_10 {c : UInt8} (h : isPart c = true) : c ≠ 10 := by rintro rfl; exact absurd h (by decide)
theorem start_nb (c : UInt8) : isStart c = true → isBlank c = false ∧ c ≠ 35 := by
  have h := u8_all (fun c => !isStart c || (!isBlank c && c != 35)) (by decide) c
  intro hs
  simpa [hs] using h
theorem lz_start {w : Bs} {c : UInt8} {r : Bs} (hw : w = c :: r) (hc : isStart c = true) (ha : ∀ c ∈ w, isPart c = true) : Lz w [⟨wordKind w, 0, w⟩] := by
  refine lz_piece (fun x hx => part_10 (ha x hx)) (by unfold wordKind; split <;> decide) fun x b hx => ?_
  have hx' : isPart x = false := by simp only [brk, Bool.and_eq_true, Bool.not_eq_true'] at hx; exact hx.1
  have e := (spanLen_join hx' b w).trans (spanLen_whole w ha)
  obtain ⟨n1, n2⟩ := start_nb c hc
  have e2 : (w ++ x :: b).take w.length = w := List.take_left
  have e3 : stepOf (c :: (r ++ x :: b)) = ⟨spanLen isPart (w ++ x :: b), wordKind ((w ++ x :: b).take (spanLen isPart (w ++ x :: b))), (w ++ x :: b).take (spanLen isPart (w ++ x :: b)), 0⟩ := by
    rw [hw]; simp only [List.cons_append, stepOf, n1, n2, hc, if_true, if_false, Bool.false_eq_true]
  rw [e, e2] at e3
  conv => lhs; rw [hw, List.cons_append]
  exact e3
theorem lz_name {n : Bs} (h : NmB n) : Lz n [nK n] := by
  obtain ⟨⟨c, r, e, hc⟩, ha, hw⟩ := h
  have := lz_start e hc ha
  rwa [show wordKind n = 1 by unfold wordKind; rw [hw]; rfl] at this
theorem lz_word (w : Bs) (h : isWordB w = true) : Lz w [wK w] := by
  have hk : wordKind w = 2 := by unfold wordKind; rw [h]; rfl
  have h1 : w ∈ words := by simpa [isWordB] using h
  have h2 : ∀ w ∈ words, (match w with | c :: _ => isStart c | [] => false) = true ∧ w.all isPart = true := by decide
  obtain ⟨h3, h4⟩ := h2 w h1
  cases w with
  | nil => cases h3
  | cons c r =>
    have := lz_start rfl h3 (by simpa using h4)
    rwa [hk] at this
theorem lw_int : Lz [105, 110, 116] [wK [105, 110, 116]] := lz_word _ (by decide)
theorem lw_bool : Lz [98, 111, 111, 108] [wK [98, 111, 111, 108]] := lz_word _ (by decide)
theorem lw_text : Lz [116, 101, 120, 116] [wK [116, 101, 120, 116]] := lz_word _ (by decide)
theorem lw_true : Lz [116, 114, 117, 101] [wK [116, 114, 117, 101]] := lz_word _ (by decide)
theorem lw_false : Lz [102, 97, 108, 115, 101] [wK [102, 97, 108, 115, 101]] := lz_word _ (by decide)
theorem lw_fun : Lz [102, 117, 110] [wK [102, 117, 110]] := lz_word _ (by decide)
theorem lw_let : Lz [108, 101, 116] [wK [108, 101, 116]] := lz_word _ (by decide)
theorem lw_in : Lz [105, 110] [wK [105, 110]] := lz_word _ (by decide)
theorem lw_if : Lz [105, 102] [wK [105, 102]] := lz_word _ (by decide)
theorem lw_then : Lz [116, 104, 101, 110] [wK [116, 104, 101, 110]] := lz_word _ (by decide)
theorem lw_else : Lz [101, 108, 115, 101] [wK [101, 108, 115, 101]] := lz_word _ (by decide)
theorem lw_use : Lz [117, 115, 101] [wK [117, 115, 101]] := lz_word _ (by decide)
theorem lw_type : Lz [116, 121, 112, 101] [wK [116, 121, 112, 101]] := lz_word _ (by decide)
theorem lw_never : Lz [110, 101, 118, 101, 114] [nK [110, 101, 118, 101, 114]] := lz_name ⟨⟨110, _, rfl, by decide⟩, by decide, by decide⟩
theorem lz_num {l : Bs} (hne : l ≠ []) (hl : l.length ≤ 18) (ha : ∀ c ∈ l, isDig c = true) : Lz l [⟨3, 0, l⟩] := by
  refine lz_piece (fun x hx => part_10 (by simp [isPart, ha x hx])) (by decide) fun x b hx => ?_
  have hx' : isDig x = false := by
    simp only [brk, Bool.and_eq_true, Bool.not_eq_true', isPart, Bool.or_eq_false_iff] at hx; exact hx.1.2
  have e := (spanLen_join hx' b l).trans (spanLen_whole l ha)
  have e2 : (l ++ x :: b).take l.length = l := List.take_left
  cases l with
  | nil => exact absurd rfl hne
  | cons c r =>
    have hc := ha c (by simp)
    have h := u8_all (fun c => !isDig c || (!isBlank c && c != 35 && !isStart c)) (by decide) c
    have h : isBlank c = false ∧ c ≠ 35 ∧ isStart c = false := by
      have : ((!isBlank c) = true ∧ (c != 35) = true) ∧ (!isStart c) = true := by simpa [hc] using h
      simpa [and_assoc] using this
    have e3 : stepOf (c :: (r ++ x :: b)) = (if 18 < spanLen isDig (c :: r ++ x :: b) then ⟨spanLen isDig (c :: r ++ x :: b), 3, [48], 13⟩ else ⟨spanLen isDig (c :: r ++ x :: b), 3, (c :: r ++ x :: b).take (spanLen isDig (c :: r ++ x :: b)), 0⟩) := by
      simp only [List.cons_append, stepOf, h.1, h.2.1, h.2.2, hc, if_true, if_false, Bool.false_eq_true]
    rw [e, if_neg (by omega), e2] at e3
    rw [List.cons_append]
    exact e3
theorem spanLen_inText (t : Bs) (r : Bs) (ha : ∀ c ∈ t, isInText c = true) : spanLen isInText (t ++ 34 :: r) = t.length := by
  rw [spanLen_app t (34 :: r) (spanLen_whole t ha)]
  simp [spanLen, isInText]
theorem lz_text {t : Bs} (ha : ∀ c ∈ t, isInText c = true) : Lz (34 :: (t ++ [34])) [⟨4, 0, t⟩] := by
  refine lz_piece (fun x hx => ?_) (by decide) fun x b hx => ?_
  · simp only [List.mem_cons, List.mem_append, List.not_mem_nil, or_false] at hx
    rcases hx with rfl | hx | rfl
    · decide
    · rintro rfl; exact absurd (ha _ hx) (by decide)
    · decide
  · have e : (34 :: (t ++ [34])) ++ x :: b = 34 :: (t ++ 34 :: (x :: b)) := by simp
    rw [e, stepOf_34, spanLen_inText t _ ha, if_pos (by simp)]
    simp
theorem Lz.arrow {m : Bs} {v : List Tk} (h : Lz m v) : Lz (45 :: 62 :: m) (sK [45, 62] :: v) := by
  refine ⟨fun c hc => ?_, fun c b hc => ?_⟩
  · rcases List.mem_cons.1 hc with rfl | hc
    · decide
    rcases List.mem_cons.1 hc with rfl | hc
    · decide
    · exact h.1 c hc
  · obtain ⟨h1, h2⟩ := h.2 c b hc
    have e : ∀ r : Bs, stepOf (45 :: 62 :: r) = ⟨2, 5, [45, 62], 0⟩ := fun r => by
      simp only [stepOf, show isBlank 45 = false by decide, show (45 : UInt8) ≠ 35 by decide, show isStart 45 = false by decide, show isDig 45 = false by decide, show (45 : UInt8) ≠ 34 by decide, if_false, Bool.false_eq_true, List.head?_cons, and_self, if_true]
    have e1 : ∀ r : Bs, pieces 0 (45 :: 62 :: r) = ⟨0, ⟨2, 5, [45, 62], 0⟩⟩ :: pieces 2 r := fun r => by
      rw [pieces_piece 0 _ (by simp) (by rw [e]; exact .inl (by decide)), e]; rfl
    refine ⟨?_, fun h => ?_⟩
    · rw [List.cons_append, List.cons_append, tz, tk, e1, toksOf_cons, if_neg (by decide), List.map_append, List.cons_append, ← h1]
      show [_] ++ _ = _
      rw [List.singleton_append]
      congr 1
      exact tz_at _ _
    · rw [List.cons_append, List.cons_append, td, e1, toldOf_cons, if_pos rfl, List.nil_append]
      exact (td_at0 _ _).2 (h2 h)

/-- Lists of such texts. -/
inductive Lzs : List Bs → List (List Tk) → Prop
  | nil : Lzs [] []
  | cons {x u xs us} (h : Lz x u) (hs : Lzs xs us) : Lzs (x :: xs) (u :: us)
theorem Lzs.headD {xs : List Bs} {us : List (List Tk)} (h : Lzs xs us) : Lz (xs.headD []) (us.headD []) := by
  cases h with
  | nil => exact .nil
  | cons h _ => exact h
theorem Lzs.tail {xs : List Bs} {us : List (List Tk)} (h : Lzs xs us) : Lzs xs.tail us.tail := by
  cases h with
  | nil => exact .nil
  | cons _ h => exact h
theorem Lzs.map {α : Type} {f : α → Bs} {g : α → List Tk} : ∀ l : List α, (∀ x ∈ l, Lz (f x) (g x)) → Lzs (l.map f) (l.map g)
  | [], _ => .nil
  | x :: r, h => .cons (h x (by simp)) (Lzs.map r fun y hy => h y (by simp [hy]))
theorem Lzs.join {c : UInt8} {s : Bs} {v : List Tk} (hc : brk c = true) (hs : ∀ m u, Lz m u → Lz (c :: (s ++ m)) (v ++ u)) {xs : List Bs} {us : List (List Tk)} (h : Lzs xs us) : Lz (joinL (c :: s) xs) (joinL v us) := by
  induction h with
  | nil => exact .nil
  | @cons x u xs us h1 h2 ih =>
    cases h2 with
    | nil => exact h1
    | cons h3 h4 => exact h1.cut hc (hs _ _ ih)
theorem Lzs.pair {c : UInt8} {s : Bs} {v : List Tk} (hc : brk c = true) (hs : ∀ m u, Lz m u → Lz (c :: (s ++ m)) (v ++ u)) : ∀ (ns : List Bs) (xs : List Bs) (us : List (List Tk)), (∀ n ∈ ns, NmB n) → Lzs xs us → Lzs (pairL (c :: s) ns xs) (pairL v (ns.map fun n => [nK n]) us)
  | [], _, _, _, _ => .nil
  | n :: ns, xs, us, hn, h => .cons ((lz_name (hn n (by simp))).cut hc (hs _ _ h.headD)) (Lzs.pair hc hs ns _ _ (fun m hm => hn m (by simp [hm])) h.tail)

/-- Names that are names, all the way down. -/
inductive VT : PT → Prop
  | mk {k : Nat} {n : Bs} {ns : List Bs} {l : List PT} (h1 : k = 8 → NmB n) (h2 : ∀ x ∈ ns, NmB x) (h3 : ∀ x ∈ l, VT x) : VT (.mk k n ns l)
theorem br {c : UInt8} (h : brk c = true := by decide) : brk c = true := h
theorem lz_T {t : PT} (h : VT t) : ∀ q, Lz (prT q t) (uT q t) := by
  induction h with
  | @mk k n ns l h1 h2 h3 ih =>
    intro q
    have hb : Lz (bodyT k n ns (l.map (prT 0)) (l.map (prT 1)) (l.map (prT 2))) (bodyTK k n ns (l.map (uT 0)) (l.map (uT 1)) (l.map (uT 2))) := by
      have L : ∀ q, Lzs (l.map (prT q)) (l.map (uT q)) := fun q => Lzs.map l fun x hx => ih x hx q
      unfold bodyT bodyTK
      by_cases e : k = 1
      · subst e; exact lw_int
      by_cases e : k = 2
      · subst e; exact lw_bool
      by_cases e : k = 3
      · subst e; exact lw_text
      by_cases e : k = 4
      · subst e; exact .sg (by decide) .nil
      by_cases e : k = 8
      · have := lz_name (h1 e); subst e; exact this
      by_cases e : k = 5
      · subst e
        exact .sg (by decide) (.cut (Lzs.join (by decide) (fun m u h => .sg (by decide) h.bl) (Lzs.pair (by decide) (fun m u h => .sg (by decide) h.bl) ns _ _ h2 (L 0))) (by decide) (.sg (by decide) .nil))
      by_cases e : k = 6
      · subst e
        exact .cut (L 2).headD (by decide) (.bl (.arrow (.bl (L 1).tail.headD)))
      by_cases e : k = 7
      · subst e
        by_cases hl : l = []
        · subst hl
          exact lw_never
        · have hl1 : ¬ l.map (prT 1) = [] := by simpa using hl
          have hl2 : ¬ l.map (uT 1) = [] := by simpa using hl
          simp only [hl1, hl2, if_false]
          exact Lzs.join (by decide) (fun m u h => .bl (.sg (by decide) h.bl)) (L 1)
      · simp only [*, if_false]
        exact .nil
    rw [prT_mk, uT_mk, markT, markTK]
    split
    · exact .sg (by decide) (.cut hb (by decide) (.sg (by decide) .nil))
    · exact hb

/-- A number that its digits hold, a text that is in one line, names that are names: all the way down. -/
inductive VE : PE → Prop
  | mk {k a : Nat} {n : Bs} {m : Nat} {ns : List Bs} {l : List PE} {ts : List PT} (h0 : k = 1 → (dig m).length ≤ 18) (h4 : k = 2 → ∀ c ∈ n, isInText c = true) (h1 : k = 4 ∨ k = 6 ∨ k = 8 ∨ k = 9 → NmB n) (h2 : ∀ x ∈ ns, NmB x) (h5 : ∀ x ∈ ts, VT x) (h3 : ∀ x ∈ l, VE x) : VE (.mk k a n m ns l ts)
theorem dig_ne (m : Nat) : dig m ≠ [] := by
  rw [dig]; split <;> simp
theorem digit_dig (m : Nat) (h : m < 10) : isDig (48 + m).toUInt8 = true := by
  have : ∀ m : Nat, m < 10 → isDig (48 + m).toUInt8 = true := by decide
  exact this m h
theorem dig_digits (m : Nat) : ∀ c ∈ dig m, isDig c = true := by
  induction m using Nat.strongRecOn with
  | ind m ih =>
    rw [dig]
    split
    next h => intro c hc; simp only [List.mem_singleton] at hc; subst hc; exact digit_dig m h
    next h =>
      intro c hc
      rcases List.mem_append.1 hc with hc | hc
      · exact ih (m / 10) (by omega) c hc
      · simp only [List.mem_singleton] at hc; subst hc; exact digit_dig _ (Nat.mod_lt _ (by omega))
theorem lz_E {x : PE} (h : VE x) : ∀ q, Lz (prE q x) (uE q x) := by
  induction h with
  | @mk k a n m ns l ts h0 h4 h1 h2 h5 h3 ih =>
    intro q
    have hb : Lz (bodyE k n m ns (l.map (prE 0)) (l.map (prE 2)) (ts.map (prT 0))) (bodyEK k n m ns (l.map (uE 0)) (l.map (uE 2)) (ts.map (uT 0))) := by
      have L : ∀ q, Lzs (l.map (prE q)) (l.map (uE q)) := fun q => Lzs.map l fun x hx => ih x hx q
      have T : Lzs (ts.map (prT 0)) (ts.map (uT 0)) := Lzs.map ts fun x hx => lz_T (h5 x hx) 0
      unfold bodyE bodyEK
      by_cases e : k = 1
      · have := lz_num (dig_ne m) (h0 e) (dig_digits m); subst e; exact this
      by_cases e : k = 2
      · have := lz_text (h4 e); subst e; exact this
      by_cases e : k = 3
      · subst e
        by_cases hm : m = 1
        · subst hm; exact lw_true
        · simp only [hm, if_false]; exact lw_false
      by_cases e : k = 4
      · have := lz_name (h1 (.inl e)); subst e; exact this
      by_cases e : k = 5
      · subst e
        exact .sg (by decide) (.cut (Lzs.join (by decide) (fun m u h => .sg (by decide) h.bl) (Lzs.pair (by decide) (fun m u h => .bl (.sg (by decide) h.bl)) ns _ _ h2 (L 0))) (by decide) (.sg (by decide) .nil))
      by_cases e : k = 6
      · have hn := lz_name (h1 (.inr (.inl e)))
        subst e
        exact .cut (L 2).headD (by decide) (.sg (by decide) hn)
      by_cases e : k = 7
      · subst e
        exact .cut (L 2).headD (by decide) (.sg (by decide) (.cut (L 0).tail.headD (by decide) (.sg (by decide) .nil)))
      by_cases e : k = 8
      · have hn := lz_name (h1 (.inr (.inr (.inl e))))
        subst e
        exact .cut (u := [_]) lw_fun (by decide) (.bl (.sg (by decide) (.cut (u := [_]) hn (by decide) (.bl (.sg (by decide) (.bl (.cut T.headD (by decide) (.sg (by decide) (.bl (L 0).headD)))))))))
      by_cases e : k = 9
      · have hn := lz_name (h1 (.inr (.inr (.inr e))))
        subst e
        exact .cut (u := [_]) lw_let (by decide) (.bl (.cut (u := [_]) hn (by decide) (.bl (.sg (by decide) (.bl (.cut (L 0).headD (by decide) (.bl (.cut (u := [_]) lw_in (by decide) (.bl (L 0).tail.headD)))))))))
      by_cases e : k = 10
      · subst e
        exact .cut (u := [_]) lw_if (by decide) (.bl (.cut (L 0).headD (by decide) (.bl (.cut (u := [_]) lw_then (by decide) (.bl (.cut (L 0).tail.headD (by decide) (.bl (.cut (u := [_]) lw_else (by decide) (.bl (L 0).tail.tail.headD)))))))))
      by_cases e : k = 11
      · subst e
        exact .sg (by decide) (.cut (L 0).headD (by decide) (.bl (.sg (by decide) (.bl (.cut T.headD (by decide) (.sg (by decide) .nil))))))
      · simp only [*, if_false]
        exact .nil
    rw [prE_mk, uE_mk, markE, markEK]
    split
    · exact .sg (by decide) (.cut hb (by decide) (.sg (by decide) .nil))
    · exact hb

end Go.Proofs.YthpoffklhpbdoaaGreatDoor

namespace Go.Proofs.YthpoffklhpbdoaaGreatDoor
set_option maxRecDepth 100000

def TkOk (t : Tk) : Prop := (t.k = 1 → NmB t.t) ∧ (t.k = 3 → NumT t.t) ∧ (t.k = 4 → ∀ c ∈ t.t, isInText c = true)
def Oks (ts : List Tk) : Prop := ∀ t ∈ ts, TkOk t
/-- The bytes of tokens, and two more for each. -/
def wt (ts : List Tk) : Nat := (ts.map fun t => t.t.length + 2).sum
theorem wt_cons (t : Tk) (ts : List Tk) : wt (t :: ts) = t.t.length + 2 + wt ts := by simp [wt]
theorem Oks.tail {ts : List Tk} (h : Oks ts) : Oks ts.tail := fun t ht => h t (List.mem_of_mem_tail ht)

theorem R.bind_ok_inv {α β : Type} {x : R α} {f : α → List Tk → R β} {b : β} {r : List Tk} {d : List Dn} (h : x.bind f = .ok b r d) : ∃ a r' d1 d2, x = .ok a r' d1 ∧ f a r' = .ok b r d2 := by
  cases x with
  | bad y r' d' => cases h
  | ok a r' d' =>
    rw [R.bind_ok] at h
    cases hf : f a r' with
    | bad y r2 d2 => rw [hf] at h; cases h
    | ok b2 r2 d2 =>
      rw [hf] at h
      cases h
      exact ⟨a, r', d', d2, rfl, hf⟩
theorem R.tell_ok_inv {β : Type} {x : R β} {e : List Dn} {b : β} {r : List Tk} {d : List Dn} (h : x.tell e = .ok b r d) : ∃ d', x = .ok b r d' := by
  cases x with
  | bad y r' d' => cases h
  | ok a r' d' => cases h; exact ⟨d', rfl⟩
theorem kind_inv {ts : List Tk} {k : Nat} (h : (hd ts).k = k) (hk : k ≠ 6) (ho : Oks ts) : TkOk (hd ts) ∧ Oks ts.tail ∧ wt ts = (hd ts).t.length + 2 + wt ts.tail := by
  obtain ⟨t, r, rfl⟩ := kind_cons h hk
  exact ⟨ho t (by simp), ho.tail, wt_cons t r⟩
theorem isM_inv {m : Bs} {ts : List Tk} (h : isM m ts = true) (ho : Oks ts) : Oks ts.tail ∧ wt ts = m.length + 2 + wt ts.tail := by
  obtain ⟨t, r, rfl⟩ := isM_cons h
  refine ⟨ho.tail, ?_⟩
  rw [wt_cons]
  have : t.t = m := by
    simp only [isM, Bool.and_eq_true, beq_iff_eq] at h
    exact h.2
  rw [this]; rfl
theorem want_inv {m : Bs} {ts : List Tk} {a : Unit} {r : List Tk} {d : List Dn} (h : want m ts = .ok a r d) (ho : Oks ts) : Oks r ∧ wt ts = m.length + 2 + wt r := by
  unfold want at h
  split at h
  next hm => cases h; exact isM_inv hm ho
  next => cases h
theorem name_inv {ts : List Tk} {a : Tk} {r : List Tk} {d : List Dn} (h : wantName ts = .ok a r d) (ho : Oks ts) : NmB a.t ∧ Oks r ∧ wt ts = a.t.length + 2 + wt r := by
  unfold wantName at h
  split at h
  next hm =>
    cases h
    obtain ⟨h1, h2, h3⟩ := kind_inv hm (by decide) ho
    exact ⟨h1.1 hm, h2, h3⟩
  next => cases h

section
variable {α : Type}
def sG (c : α → Nat) (l : List (Bs × α)) : Nat := (l.map fun x => x.1.length + c x.2 + 5).sum
theorem sG_append (c : α → Nat) (l k : List (Bs × α)) : sG c (l ++ k) = sG c l + sG c k := by simp [sG]
theorem sG_sort (c : α → Nat) (l : List (Bs × α)) : sG c (sortF l) = sG c l := ((sortF_perm l).map _).sum_nat
/-- What is so of all that is read, is so of all fields. -/
theorem fields_told {sign : Bs} {read : List Tk → R α} {P : α → Prop} {c : α → Nat} (hr : ∀ ts x r d, Oks ts → read ts = .ok x r d → P x ∧ Oks r ∧ c x + wt r ≤ wt ts) (hs : sign.length = 1) :
    ∀ (n : Nat) (seen : List Bs) (acc : List (Bs × α)) (ts : List Tk) (l : List (Bs × α)) (r : List Tk) (d : List Dn), Oks ts → (∀ x ∈ acc, NmB x.1 ∧ P x.2) → fieldsP sign read n seen acc ts = .ok l r d → (∀ x ∈ l, NmB x.1 ∧ P x.2) ∧ Oks r ∧ sG c l + wt r ≤ sG c acc + wt ts
  | 0, seen, acc, ts, l, r, d, ho, ha, h => by
    cases h
    exact ⟨ha, ho, Nat.le_refl _⟩
  | n + 1, seen, acc, ts, l, r, d, ho, ha, h => by
    rw [fieldsP] at h
    obtain ⟨nm, r1, _, _, e1, h⟩ := R.bind_ok_inv h
    obtain ⟨n1, o1, w1⟩ := name_inv e1 ho
    obtain ⟨_, h⟩ := R.tell_ok_inv h
    obtain ⟨_, r2, _, _, e2, h⟩ := R.bind_ok_inv h
    obtain ⟨o2, w2⟩ := want_inv e2 o1
    obtain ⟨v, r3, _, _, e3, h⟩ := R.bind_ok_inv h
    obtain ⟨p3, o3, w3⟩ := hr _ _ _ _ o2 e3
    have ha' : ∀ x ∈ (if nm.t ∈ seen then acc else acc ++ [(nm.t, v)]), NmB x.1 ∧ P x.2 := by
      split
      · exact ha
      · intro x hx
        rcases List.mem_append.1 hx with hx | hx
        · exact ha x hx
        · simp only [List.mem_singleton] at hx; subst hx; exact ⟨n1, p3⟩
    have hc : sG c (if nm.t ∈ seen then acc else acc ++ [(nm.t, v)]) ≤ sG c acc + (nm.t.length + c v + 5) := by
      split
      · omega
      · rw [sG_append]; simp [sG]
    split at h
    next hm =>
      obtain ⟨o4, w4⟩ := isM_inv hm o3
      obtain ⟨q1, q2, q3⟩ := fields_told hr hs n _ _ _ l r _ o4 ha' h
      refine ⟨q1, q2, ?_⟩
      simp only [List.length_cons, List.length_nil] at w4
      omega
    next =>
      obtain ⟨_, r4, _, _, e4, h⟩ := R.bind_ok_inv h
      obtain ⟨o4, w4⟩ := want_inv e4 o3
      cases h
      refine ⟨ha', o4, ?_⟩
      simp only [List.length_cons, List.length_nil] at w4
      omega
theorem read_told {sign : Bs} {read : List Tk → R α} {P : α → Prop} {c : α → Nat} (hr : ∀ ts x r d, Oks ts → read ts = .ok x r d → P x ∧ Oks r ∧ c x + wt r ≤ wt ts) (hs : sign.length = 1) {ts : List Tk} {l : List (Bs × α)} {r : List Tk} {d : List Dn} (ho : Oks ts) (h : readP sign read ts = .ok l r d) : (∀ x ∈ l, NmB x.1 ∧ P x.2) ∧ Oks r ∧ sG c l + wt r ≤ wt ts := by
  unfold readP at h
  split at h
  next hm =>
    cases h
    obtain ⟨o1, w1⟩ := isM_inv hm ho
    exact ⟨by simp, o1, by simp [sG]; omega⟩
  next =>
    have := fields_told hr hs _ _ _ _ _ _ _ ho (by simp) h
    simpa [sG] using this
theorem joinL_len {β : Type} (s : List β) : ∀ l : List (List β), (joinL s l).length ≤ (l.map fun x => x.length + s.length).sum
  | [] => by simp [joinL]
  | [x] => by simp [joinL]
  | x :: y :: r => by
    have := joinL_len s (y :: r)
    rw [joinL]
    simp only [List.length_append, List.map_cons, List.sum_cons] at this ⊢
    omega
theorem pair_len {f : α → Bs} {sg : Bs} (hs : sg.length ≤ 3) : ∀ l : List (Bs × α), ((pairL sg (l.map (·.1)) (l.map fun x => f x.2)).map fun x => x.length + 2).sum ≤ sG (fun x => (f x).length) l
  | [] => by simp [pairL, sG]
  | x :: r => by
    have := pair_len (f := f) hs r
    simp only [List.map_cons, pairL, List.headD_cons, List.tail_cons, List.sum_cons, List.length_append, sG] at this ⊢
    omega
/-- The text of a record is no longer. -/
theorem rec_len {f : α → Bs} {sg : Bs} (hs : sg.length ≤ 3) (l : List (Bs × α)) : (joinL [44, 32] (pairL sg (l.map (·.1)) (l.map fun x => f x.2))).length ≤ sG (fun x => (f x).length) l :=
  Nat.le_trans (joinL_len _ _) (pair_len hs l)

theorem isM_s (m : Bs) (r : List Tk) : isM m (sK m :: r) = true := by simp [isM, hd, sK]
theorem isM_w (m : Bs) (r : List Tk) : isM m (wK m :: r) = true := by simp [isM, hd, wK]
theorem want_s (m : Bs) (r : List Tk) : want m (sK m :: r) = .ok () r [] := by rw [want, isM_s]; rfl
theorem want_w (m : Bs) (r : List Tk) : want m (wK m :: r) = .ok () r [] := by rw [want, isM_w]; rfl
theorem name_n (m : Bs) (r : List Tk) : wantName (nK m :: r) = .ok (nK m) r [] := rfl
/-- Printed fields are read so. -/
theorem fields_back {sign : Bs} {read : List Tk → R α} (u : α → List Tk) (g : α → α) : ∀ (l : List (Bs × α)) (n : Nat) (seen : List Bs) (acc : List (Bs × α)) (r : List Tk),
    l ≠ [] → l.length ≤ n → (l.map (·.1)).Nodup → (∀ x ∈ l, x.1 ∉ seen) → (∀ x ∈ l, ∀ q, (isM [44] q = true ∨ isM [125] q = true) → read (u x.2 ++ q) = .ok (g x.2) q []) →
    fieldsP sign read n seen acc (joinL [sK [44]] (pairL [sK sign] ((l.map (·.1)).map fun n => [nK n]) (l.map fun x => u x.2)) ++ sK [125] :: r) = .ok (acc ++ l.map fun x => (x.1, g x.2)) r []
  | [], _, _, _, _, h, _, _, _, _ => absurd rfl h
  | x :: l, 0, _, _, _, _, h, _, _, _ => by simp at h
  | [x], n + 1, seen, acc, r, _, _, _, hs, hr => by
    have h1 := hr x (by simp) (sK [125] :: r) (.inr (isM_s _ _))
    have hi : isM [44] (sK [125] :: r) = false := rfl
    have hx : x.1 ∉ seen := hs x (by simp)
    simp only [List.map_cons, List.map_nil, pairL, joinL, List.headD_cons, List.cons_append, List.nil_append]
    rw [fieldsP, name_n, R.bind_ok, want_s, R.bind_ok, h1, R.bind_ok, hi, want_s, R.bind_ok]
    have hx' : ¬ (nK x.1).t ∈ seen := hx
    simp only [if_neg hx', R.tell_nil, Bool.false_eq_true, if_false]
    rfl
  | x :: y :: l, n + 1, seen, acc, r, _, hn, hd, hs, hr => by
    obtain ⟨d1, d2⟩ := List.nodup_cons.1 (by rw [List.map_cons] at hd; exact hd)
    have hx : x.1 ∉ seen := hs x (by simp)
    have ih := fields_back (sign := sign) (read := read) u g (y :: l) n (x.1 :: seen) (acc ++ [(x.1, g x.2)]) r (by simp) (by simpa using hn) d2 (fun z hz => by
      simp only [List.mem_cons, not_or]
      refine ⟨fun e => d1 (e ▸ List.mem_map_of_mem hz), hs z (by simp [List.mem_cons.1 hz])⟩) (fun z hz => hr z (by simp [List.mem_cons.1 hz]))
    generalize hq : joinL [sK [44]] (pairL [sK sign] (((y :: l).map (·.1)).map fun n => [nK n]) ((y :: l).map fun x => u x.2)) = q at ih
    have e : joinL [sK [44]] (pairL [sK sign] (((x :: y :: l).map (·.1)).map fun n => [nK n]) ((x :: y :: l).map fun x => u x.2)) ++ sK [125] :: r = nK x.1 :: sK sign :: (u x.2 ++ sK [44] :: (q ++ sK [125] :: r)) := by
      rw [← hq]
      simp only [List.map_cons, pairL, joinL, List.headD_cons, List.tail_cons, List.cons_append, List.nil_append, List.append_assoc]
    have h1 := hr x (by simp) (sK [44] :: (q ++ sK [125] :: r)) (.inl (isM_s _ _))
    rw [e, fieldsP, name_n, R.bind_ok, want_s, R.bind_ok, h1, R.bind_ok, isM_s, if_pos rfl]
    have hx' : ¬ (nK x.1).t ∈ seen := hx
    simp only [if_neg hx', R.tell_nil, List.tail_cons]
    refine Eq.trans ih ?_
    simp
theorem read_back {sign : Bs} {read : List Tk → R α} (u : α → List Tk) (g : α → α) (l : List (Bs × α)) (r : List Tk) (hd : (l.map (·.1)).Nodup) (hr : ∀ x ∈ l, ∀ q, (isM [44] q = true ∨ isM [125] q = true) → read (u x.2 ++ q) = .ok (g x.2) q []) :
    readP sign read (joinL [sK [44]] (pairL [sK sign] ((l.map (·.1)).map fun n => [nK n]) (l.map fun x => u x.2)) ++ sK [125] :: r) = .ok (l.map fun x => (x.1, g x.2)) r [] := by
  cases l with
  | nil => rfl
  | cons x l =>
    have hl : ∀ k : List (Bs × α), k.length ≤ (joinL [sK [44]] (pairL [sK sign] ((k.map (·.1)).map fun n => [nK n]) (k.map fun x => u x.2)) ++ sK [125] :: r).length := by
      intro k
      induction k with
      | nil => simp
      | cons y k ih =>
        cases k with
        | nil => simp; omega
        | cons z k =>
          simp only [List.map_cons, pairL, joinL, List.headD_cons, List.tail_cons, List.cons_append, List.nil_append, List.append_assoc, List.length_cons, List.length_append] at ih ⊢
          omega
    have h := fields_back (sign := sign) (read := read) u g (x :: l) _ [] [] r (by simp) (hl _) hd (by simp) hr
    have e : isM [125] (joinL [sK [44]] (pairL [sK sign] (((x :: l).map (·.1)).map fun n => [nK n]) ((x :: l).map fun x => u x.2)) ++ sK [125] :: r) = false := by
      cases l <;> rfl
    rw [readP, e, if_neg (by decide), h]
    simp
end

def PT.kd : PT → Nat | .mk k _ _ _ => k
def R0 (n : Nat) (t : PT) : Prop := ∀ m, n ≤ m → ∀ r, isM [45, 62] r = false → isM [124] r = false → typ m (uT 0 t ++ r) = .ok t r []
def R1 (n : Nat) (t : PT) : Prop := ∀ m, n ≤ m → ∀ r, isM [45, 62] r = false → arr m (uT 1 t ++ r) = .ok t r []
def R2 (n : Nat) (t : PT) : Prop := ∀ m, n ≤ m → ∀ r, plainP (typ m) (uT 2 t ++ r) = .ok t r []
theorem typ_s (n : Nat) (ts : List Tk) : typ (n + 1) ts = (arr (n + 1) ts).bind fun t r => (unionP (arr (n + 1)) r.length [t] r).bind fun l r => .ok (joinT l) r [] := rfl
theorem arr_s (n : Nat) (ts : List Tk) : arr (n + 1) ts = (plainP (typ n) ts).bind fun t r => if isM [45, 62] r then (arr n r.tail).bind fun u r => .ok (.mk 6 [] [] [t, u]) r [] else .ok t r [] := rfl
theorem uT_same {q q' : Nat} {t : PT} (h : lvlT t.kd < q ↔ lvlT t.kd < q') : uT q t = uT q' t := by
  obtain ⟨k, n, ns, l⟩ := t
  rw [uT_mk, uT_mk, markTK, markTK]
  have h : lvlT k < q ↔ lvlT k < q' := h
  by_cases e : lvlT k < q
  · rw [if_pos e, if_pos (h.1 e)]
  · rw [if_neg e, if_neg (fun e' => e (h.2 e'))]
theorem uT_marks {q : Nat} {t : PT} (h : lvlT t.kd < q) : uT q t = sK [40] :: (uT 0 t ++ [sK [41]]) := by
  obtain ⟨k, n, ns, l⟩ := t
  have h : lvlT k < q := h
  rw [uT_mk, uT_mk, markTK, markTK, if_pos h, if_neg (by omega)]
theorem r1_of_r2 {n : Nat} {t : PT} (h : R2 n t) (e : uT 1 t = uT 2 t) : R1 (n + 1) t := by
  intro m hm r h1
  obtain ⟨m, rfl⟩ : ∃ m', m = m' + 1 := ⟨m - 1, by omega⟩
  rw [e, arr_s, h m (by omega), R.bind_ok, h1]
  rfl
theorem r0_of_r1 {n : Nat} {t : PT} (h : R1 n t) (e : uT 0 t = uT 1 t) : R0 n t := by
  intro m hm r h1 h2
  cases m with
  | zero => have := h 0 hm [] rfl; cases this
  | succ m =>
    rw [e, typ_s, h (m + 1) hm r h1, R.bind_ok]
    have : unionP (arr (m + 1)) r.length [t] r = .ok [t] r [] := by
      cases hr : r.length with
      | zero => rfl
      | succ k => rw [unionP, h2]; rfl
    rw [this]
    rfl
theorem plain_marks {n : Nat} {Z r : List Tk} {t : PT} (h : typ n Z = .ok t (sK [41] :: r) []) : plainP (typ n) (sK [40] :: Z) = .ok t r [] := by
  have h1 : plainP (typ n) (sK [40] :: Z) = (typ n Z).bind fun t r => (want [41] r).bind fun _ r => .ok t r [] := rfl
  rw [h1, h, R.bind_ok, want_s]
  rfl
theorem r2_of_r0 {n : Nat} {t : PT} (h : R0 n t) (e : lvlT t.kd < 2) : R2 n t := by
  intro m hm r
  rw [uT_marks e, List.cons_append, List.append_assoc]
  exact plain_marks (h m hm _ rfl rfl)
theorem R0.mono {n m : Nat} {t : PT} (h : R0 n t) (hm : n ≤ m) : R0 m t := fun k hk => h k (Nat.le_trans hm hk)
theorem R1.mono {n m : Nat} {t : PT} (h : R1 n t) (hm : n ≤ m) : R1 m t := fun k hk => h k (Nat.le_trans hm hk)
theorem R2.mono {n m : Nat} {t : PT} (h : R2 n t) (hm : n ≤ m) : R2 m t := fun k hk => h k (Nat.le_trans hm hk)
theorem lvl_le (k : Nat) : lvlT k ≤ 2 := by unfold lvlT; split <;> (try split) <;> omega
theorem prT_le (t : PT) : (prT 0 t).length ≤ (prT 1 t).length ∧ (prT 1 t).length ≤ (prT 2 t).length ∧ (prT 2 t).length ≤ (prT 0 t).length + 2 := by
  obtain ⟨k, n, ns, l⟩ := t
  rw [prT_mk, prT_mk, prT_mk, markT, markT, markT]
  have : ∀ b : Bs, (40 :: (b ++ [41])).length = b.length + 2 := by simp
  by_cases h0 : lvlT k = 0
  · rw [if_neg (by omega), if_pos (by omega), if_pos (by omega), this]; omega
  by_cases h1 : lvlT k = 1
  · rw [if_neg (by omega), if_neg (by omega), if_pos (by omega), this]; omega
  · have := lvl_le k
    rw [if_neg (by omega), if_neg (by omega), if_neg (by omega)]; omega
theorem tight_T {n : Nat} {t : PT} (h : R2 n t) (e : lvlT t.kd = 2) : R0 (n + 1) t ∧ R1 (n + 1) t ∧ R2 n t := by
  have h1 := r1_of_r2 h (uT_same (by omega))
  exact ⟨r0_of_r1 h1 (uT_same (by omega)), h1, h⟩

theorem kd6 {k : Nat} (h : lvlT k = 1) : k = 6 := by
  unfold lvlT at h
  split at h
  · omega
  split at h
  · assumption
  · omega
theorem kd7 {k : Nat} (h : lvlT k = 0) : k = 7 := by
  unfold lvlT at h
  split at h
  · assumption
  split at h <;> omega
/-- What a whole type tells. -/
def AT (n : Nat) (ts : List Tk) : Prop := ∀ t r d, typ n ts = .ok t r d → VT t ∧ Oks r ∧ (prT 0 t).length + wt r ≤ wt ts ∧ R0 n t ∧ R2 n t ∧ (t.kd ≠ 7 → R1 n t)
def BT (n : Nat) (ts : List Tk) : Prop := ∀ t r d, arr n ts = .ok t r d → VT t ∧ Oks r ∧ (prT 1 t).length + wt r ≤ wt ts ∧ R0 n t ∧ R1 n t ∧ R2 n t
def CT (n : Nat) (ts : List Tk) : Prop := ∀ t r d, plainP (typ n) ts = .ok t r d → VT t ∧ Oks r ∧ (prT 2 t).length + wt r ≤ wt ts ∧ R0 (n + 1) t ∧ R1 (n + 1) t ∧ R2 n t

theorem recT_VT {fs : List (Bs × PT)} (h : ∀ x ∈ fs, NmB x.1 ∧ VT x.2) : VT (recT fs) := by
  refine .mk (fun e => by cases e) (fun x hx => ?_) (fun x hx => ?_)
  · obtain ⟨y, hy, rfl⟩ := List.mem_map.1 hx
    exact (h y ((sortF_perm fs).mem_iff.1 hy)).1
  · obtain ⟨y, hy, rfl⟩ := List.mem_map.1 hx
    exact (h y ((sortF_perm fs).mem_iff.1 hy)).2
theorem plain_ct {n : Nat} (H : ∀ ts, Oks ts → AT n ts) (ts : List Tk) (ho : Oks ts) : CT n ts := by
  intro t r d h
  unfold plainP at h
  split at h
  next h1 =>
    cases h
    obtain ⟨o1, o2, o3⟩ := kind_inv h1 (by decide) ho
    have e2 : uT 2 (.mk 8 (hd ts).t [] []) = [nK (hd ts).t] := by rw [uT_mk]; rfl
    refine ⟨.mk (fun _ => o1.1 h1) (by simp) (by simp), o2, ?_, tight_T (fun m _ r => ?_) rfl⟩
    · rw [prT_mk]; simp only [markT, lvlT, bodyT]; simp; omega
    · rw [e2]; rfl
  split at h
  next h1 =>
    cases h
    obtain ⟨o2, o3⟩ := isM_inv h1 ho
    refine ⟨.mk (fun e => by cases e) (by simp) (by simp), o2, ?_, tight_T (fun m _ r => rfl) rfl⟩
    rw [o3, show prT 2 tInt = [105, 110, 116] from rfl]; simp
  split at h
  next h1 =>
    cases h
    obtain ⟨o2, o3⟩ := isM_inv h1 ho
    refine ⟨.mk (fun e => by cases e) (by simp) (by simp), o2, ?_, tight_T (fun m _ r => rfl) rfl⟩
    rw [o3, show prT 2 tBool = [98, 111, 111, 108] from rfl]; simp
  split at h
  next h1 =>
    cases h
    obtain ⟨o2, o3⟩ := isM_inv h1 ho
    refine ⟨.mk (fun e => by cases e) (by simp) (by simp), o2, ?_, tight_T (fun m _ r => rfl) rfl⟩
    rw [o3, show prT 2 tText = [116, 101, 120, 116] from rfl]; simp
  split at h
  next h1 =>
    cases h
    obtain ⟨o2, o3⟩ := isM_inv h1 ho
    refine ⟨.mk (fun e => by cases e) (by simp) (by simp), o2, ?_, tight_T (fun m _ r => rfl) rfl⟩
    rw [o3, show prT 2 tDyn = [63] from rfl]; simp
  split at h
  next h1 =>
    obtain ⟨o2, o3⟩ := isM_inv h1 ho
    obtain ⟨fs, r1, _, _, e1, h⟩ := R.bind_ok_inv h
    cases h
    obtain ⟨q1, q2, q3⟩ := read_told (P := fun t => VT t ∧ R0 n t) (c := fun t => (prT 0 t).length) (fun ts x r d ho h => by
      obtain ⟨a1, a2, a3, a4, -⟩ := H ts ho x r d h
      exact ⟨⟨a1, a4⟩, a2, a3⟩) rfl o2 e1
    have hn := read_nodup e1
    refine ⟨recT_VT fun x hx => ⟨(q1 x hx).1, (q1 x hx).2.1⟩, q2, ?_, tight_T (fun m hm r => ?_) rfl⟩
    · have h2 := rec_len (f := prT 0) (sg := [58, 32]) (by decide) (sortF fs)
      rw [sG_sort] at h2
      have h3 : prT 2 (recT fs) = 123 :: (joinL [44, 32] (pairL [58, 32] ((sortF fs).map (·.1)) ((sortF fs).map fun x => prT 0 x.2)) ++ [125]) := by
        rw [recT, prT_mk, List.map_map, List.map_map, List.map_map]; rfl
      rw [h3, o3]
      simp only [List.length_cons, List.length_append, List.length_nil]
      omega
    · have h3 : uT 2 (recT fs) = sK [123] :: (joinL [sK [44]] (pairL [sK [58]] (((sortF fs).map (·.1)).map fun n => [nK n]) ((sortF fs).map fun x => uT 0 x.2)) ++ [sK [125]]) := by
        rw [recT, uT_mk, List.map_map, List.map_map, List.map_map]; rfl
      have hp := sortF_perm fs
      have hb := read_back (sign := [58]) (read := typ m) (uT 0) id (sortF fs) r ((hp.map _).nodup_iff.2 hn) (fun x hx q hq => by
        refine (q1 x (hp.mem_iff.1 hx)).2.2 m hm q ?_ ?_
        · rcases hq with hq | hq <;> simp only [isM, Bool.and_eq_true, beq_iff_eq] at hq <;> simp [isM, hq.2]
        · rcases hq with hq | hq <;> simp only [isM, Bool.and_eq_true, beq_iff_eq] at hq <;> simp [isM, hq.2])
      rw [h3, List.cons_append, List.append_assoc, List.singleton_append]
      have h4 : ∀ Z, plainP (typ m) (sK [123] :: Z) = (readP [58] (typ m) Z).bind fun fs r => .ok (recT fs) r [] := fun Z => rfl
      rw [h4, hb, R.bind_ok]
      have h5 : (sortF fs).map (fun x => (x.1, id x.2)) = sortF fs := by simp
      rw [h5, recT, recT, sortF_is (List.Perm.refl _) (sortF_ord fs) ((hp.map _).nodup_iff.2 hn)]
      rfl
  split at h
  next h1 =>
    obtain ⟨o2, o3⟩ := isM_inv h1 ho
    obtain ⟨t1, r1, _, _, e1, h⟩ := R.bind_ok_inv h
    obtain ⟨a1, a2, a3, a4, a5, a6⟩ := H _ o2 _ _ _ e1
    obtain ⟨_, r2, _, _, e2, h⟩ := R.bind_ok_inv h
    obtain ⟨b1, b2⟩ := want_inv e2 a2
    cases h
    have hl := prT_le t
    refine ⟨a1, b1, ?_, a4.mono (Nat.le_succ n), ?_, a5⟩
    · rw [o3]; rw [b2] at a3
      simp only [List.length_cons, List.length_nil] at a3 ⊢
      omega
    · by_cases h0 : lvlT t.kd = 1
      · exact (a6 (by rw [kd6 h0]; decide)).mono (Nat.le_succ n)
      · exact r1_of_r2 a5 (uT_same (by have := lvl_le t.kd; omega))
  next => cases h
theorem arrow_bt {n : Nat} (HC : ∀ ts, Oks ts → CT n ts) (HB : ∀ ts, Oks ts → BT n ts) (ts : List Tk) (ho : Oks ts) : BT (n + 1) ts := by
  intro t r d h
  rw [arr_s] at h
  obtain ⟨t1, r1, _, _, e1, h⟩ := R.bind_ok_inv h
  obtain ⟨a1, a2, a3, a4, a5, a6⟩ := HC _ ho _ _ _ e1
  split at h
  next hm =>
    obtain ⟨o2, o3⟩ := isM_inv hm a2
    obtain ⟨t2, r2, _, _, e2, h⟩ := R.bind_ok_inv h
    obtain ⟨b1, b2, b3, b4, b5, b6⟩ := HB _ o2 _ _ _ e2
    cases h
    have eu : uT 1 (.mk 6 [] [] [t1, t2]) = uT 2 t1 ++ sK [45, 62] :: uT 1 t2 := by rw [uT_mk]; rfl
    have ep : prT 1 (.mk 6 [] [] [t1, t2]) = prT 2 t1 ++ (32 :: 45 :: 62 :: 32 :: prT 1 t2) := by rw [prT_mk]; rfl
    have h1 : R1 (n + 1) (.mk 6 [] [] [t1, t2]) := by
      intro m hm r hr
      obtain ⟨m, rfl⟩ : ∃ m', m = m' + 1 := ⟨m - 1, by omega⟩
      rw [eu, List.append_assoc, List.cons_append, arr_s, a6 m (by omega), R.bind_ok, isM_s, if_pos rfl, List.tail_cons, b5 m (by omega) r hr]
      rfl
    have h0 := r0_of_r1 h1 (uT_same (by simp [PT.kd, lvlT]))
    refine ⟨.mk (fun e => by cases e) (by simp) (fun x hx => ?_), b2, ?_, h0, h1, r2_of_r0 h0 (by show lvlT 6 < 2; decide)⟩
    · simp only [List.mem_cons, List.not_mem_nil, or_false] at hx
      rcases hx with rfl | rfl
      · exact a1
      · exact b1
    · rw [ep]
      simp only [List.length_append, List.length_cons, List.length_nil] at o3 ⊢
      omega
  next =>
    cases h
    have hl := prT_le t
    exact ⟨a1, a2, by omega, a4, a5, a6.mono (Nat.le_succ n)⟩
theorem union_told {f : List Tk → R PT} {P : PT → Prop} (hf : ∀ ts, Oks ts → ∀ t r d, f ts = .ok t r d → P t ∧ Oks r ∧ (prT 1 t).length + wt r ≤ wt ts) : ∀ (n : Nat) (acc : List PT) (ts : List Tk) (l : List PT) (r : List Tk) (d : List Dn), Oks ts → (∀ x ∈ acc, P x) → unionP f n acc ts = .ok l r d → (∀ x ∈ l, P x) ∧ Oks r ∧ (l.map fun t => (prT 1 t).length + 3).sum + wt r ≤ (acc.map fun t => (prT 1 t).length + 3).sum + wt ts
  | 0, acc, ts, l, r, d, ho, ha, h => by cases h; exact ⟨ha, ho, Nat.le_refl _⟩
  | n + 1, acc, ts, l, r, d, ho, ha, h => by
    rw [unionP] at h
    split at h
    next hm =>
      obtain ⟨o2, o3⟩ := isM_inv hm ho
      obtain ⟨t1, r1, _, _, e1, h⟩ := R.bind_ok_inv h
      obtain ⟨p1, p2, p3⟩ := hf _ o2 _ _ _ e1
      obtain ⟨q1, q2, q3⟩ := union_told hf n _ _ _ _ _ p2 (fun x hx => by
        rcases List.mem_append.1 hx with hx | hx
        · exact ha x hx
        · simp only [List.mem_singleton] at hx; subst hx; exact p1) h
      refine ⟨q1, q2, ?_⟩
      simp only [List.map_append, List.map_cons, List.map_nil, List.sum_append, List.sum_cons, List.sum_nil, List.length_cons, List.length_nil] at q3 o3
      omega
    next => cases h; exact ⟨ha, ho, Nat.le_refl _⟩
/-- Parts that follow, each behind a sign, are read so. -/
theorem union_back {f : List Tk → R PT} : ∀ (l : List PT) (n : Nat) (acc : List PT) (r : List Tk), l.length ≤ n → isM [45, 62] r = false → isM [124] r = false → (∀ x ∈ l, ∀ q, isM [45, 62] q = false → f (uT 1 x ++ q) = .ok x q []) → unionP f n acc (l.flatMap (fun x => sK [124] :: uT 1 x) ++ r) = .ok (acc ++ l) r []
  | [], n, acc, r, _, _, h2, _ => by
    cases n with
    | zero => simp [unionP]
    | succ n => simp only [List.flatMap_nil, List.nil_append, unionP, h2, List.append_nil]; rfl
  | x :: l, 0, _, _, h, _, _, _ => by simp at h
  | x :: l, n + 1, acc, r, h, h1, h2, hf => by
    have ih := union_back (f := f) l n (acc ++ [x]) r (by simpa using h) h1 h2 (fun y hy => hf y (by simp [hy]))
    have hx := hf x (by simp) (l.flatMap (fun x => sK [124] :: uT 1 x) ++ r) (by
      cases l with
      | nil => exact h1
      | cons y l => rfl)
    simp only [List.flatMap_cons, List.cons_append, List.append_assoc]
    rw [unionP, isM_s, if_pos rfl, List.tail_cons, hx, R.bind_ok, ih]
    simp [R.tell]
theorem joinL_flat {α β : Type} (s : β) (f : α → List β) : ∀ (x : α) (l : List α), joinL [s] ((x :: l).map f) = f x ++ l.flatMap fun y => s :: f y
  | x, [] => by simp [joinL]
  | x, y :: l => by
    have := joinL_flat s f y l
    simp only [List.map_cons] at this ⊢
    rw [joinL, this]
    simp
theorem flat_ge (l : List PT) : l.length ≤ (l.flatMap fun x => sK [124] :: uT 1 x).length := by
  induction l with
  | nil => simp
  | cons x l ih => simp only [List.flatMap_cons, List.length_append, List.length_cons] at ih ⊢; omega
theorem typ_at {n : Nat} (HB : ∀ ts, Oks ts → BT (n + 1) ts) (ts : List Tk) (ho : Oks ts) : AT (n + 1) ts := by
  intro t r d h
  rw [typ_s] at h
  obtain ⟨t1, r1, _, _, e1, h⟩ := R.bind_ok_inv h
  obtain ⟨a1, a2, a3, a4, a5, a6⟩ := HB _ ho _ _ _ e1
  obtain ⟨l, r2, _, _, e2, h⟩ := R.bind_ok_inv h
  cases h
  have hpos := union_pos _ _ _ _ _ _ _ e2
  obtain ⟨q1, q2, q3⟩ := union_told (P := fun t => VT t ∧ R0 (n + 1) t ∧ R1 (n + 1) t ∧ R2 (n + 1) t) (fun ts ho t r d h => by
    obtain ⟨b1, b2, b3, b4, b5, b6⟩ := HB ts ho t r d h
    exact ⟨⟨b1, b4, b5, b6⟩, b2, b3⟩) _ _ _ _ _ _ a2 (by simpa using ⟨a1, a4, a5, a6⟩) e2
  simp only [List.map_cons, List.map_nil, List.sum_cons, List.sum_nil] at q3
  cases l with
  | nil => simp at hpos
  | cons x l =>
    cases l with
    | nil =>
      obtain ⟨v1, v2, v3, v4⟩ := q1 x (by simp)
      have hl := prT_le x
      simp only [List.map_cons, List.map_nil, List.sum_cons, List.sum_nil] at q3
      refine ⟨v1, q2, ?_, v2, v4, fun _ => v3⟩
      show (prT 0 x).length + wt r ≤ wt ts
      omega
    | cons y l =>
      have e0 : uT 0 (.mk 7 [] [] (x :: y :: l)) = joinL [sK [124]] ((x :: y :: l).map (uT 1)) := by rw [uT_mk]; rfl
      have p0 : prT 0 (.mk 7 [] [] (x :: y :: l)) = joinL [32, 124, 32] ((x :: y :: l).map (prT 1)) := by rw [prT_mk]; rfl
      have h0 : R0 (n + 1) (.mk 7 [] [] (x :: y :: l)) := by
        intro m hm r hr1 hr2
        obtain ⟨m, rfl⟩ : ∃ m', m = m' + 1 := ⟨m - 1, by omega⟩
        have hx := (q1 x (by simp)).2.2.1 (m + 1) hm ((y :: l).flatMap (fun y => sK [124] :: uT 1 y) ++ r) rfl
        rw [e0, joinL_flat, List.append_assoc, typ_s, hx, R.bind_ok, union_back (y :: l) _ [x] r (by rw [List.length_append]; have := flat_ge (y :: l); omega) hr1 hr2 (fun z hz q hq => (q1 z (by simp [List.mem_cons.1 hz])).2.2.1 (m + 1) hm q hq), R.bind_ok]
        rfl
      refine ⟨.mk (fun e => by cases e) (by simp) (fun z hz => (q1 z hz).1), q2, ?_, h0, r2_of_r0 h0 (by show lvlT 7 < 2; decide), fun h => absurd rfl h⟩
      show (prT 0 (.mk 7 [] [] (x :: y :: l))).length + wt r ≤ wt ts
      have h3 := joinL_len [32, 124, 32] ((x :: y :: l).map (prT 1))
      rw [p0]
      have h4 : (((x :: y :: l).map (prT 1)).map fun b => b.length + ([32, 124, 32] : Bs).length) = (x :: y :: l).map fun t => (prT 1 t).length + 3 := by rw [List.map_map]; rfl
      rw [h4] at h3
      -- the last part has no sign behind it
      have h5 : (joinL [32, 124, 32] ((x :: y :: l).map (prT 1))).length + 3 ≤ ((x :: y :: l).map fun t => (prT 1 t).length + 3).sum := by
        have : ∀ (z : PT) (l : List PT), (joinL [32, 124, 32] ((z :: l).map (prT 1))).length + 3 = ((z :: l).map fun t => (prT 1 t).length + 3).sum := by
          intro z l
          induction l generalizing z with
          | nil => simp [joinL]
          | cons w l ih =>
            have := ih w
            simp only [List.map_cons, joinL, List.length_append, List.length_cons, List.length_nil, List.sum_cons] at this ⊢
            omega
        exact Nat.le_of_eq (this x (y :: l))
      omega
/-- All that a type's readers tell. -/
theorem all_T : ∀ n, (∀ ts, Oks ts → AT n ts) ∧ (∀ ts, Oks ts → BT n ts)
  | 0 => ⟨(fun ts _ t r d h => by cases h), (fun ts _ t r d h => by cases h)⟩
  | n + 1 => by
    obtain ⟨h1, h2⟩ := all_T n
    have h3 := arrow_bt (plain_ct h1) h2
    exact ⟨typ_at h3, h3⟩

end Go.Proofs.YthpoffklhpbdoaaGreatDoor

namespace Go.Proofs.YthpoffklhpbdoaaGreatDoor
set_option maxRecDepth 100000

def Stp (r : List Tk) : Prop := isM [40] r = false ∧ isM [46] r = false
theorem call_stp {ex : List Tk → R PE} {n : Nat} {e : PE} {r : List Tk} (h : Stp r) : callP ex n e r = .ok e r [] := by
  cases n with
  | zero => rfl
  | succ n => rw [callP, h.1, h.2]; rfl
theorem call_more (k : Nat) : ∀ (n m : Nat) (e : PE) (ts : List Tk), ts.length ≤ n → ts.length ≤ m → callP (exp k) n e ts = callP (exp k) m e ts
  | 0, m, e, ts, h, _ => by
    have : ts = [] := List.eq_nil_of_length_eq_zero (by omega)
    subst this
    rw [call_stp ⟨rfl, rfl⟩, call_stp ⟨rfl, rfl⟩]
  | n + 1, 0, e, ts, _, h => by
    have : ts = [] := List.eq_nil_of_length_eq_zero (by omega)
    subst this
    rw [call_stp ⟨rfl, rfl⟩, call_stp ⟨rfl, rfl⟩]
  | n + 1, m + 1, e, ts, h1, h2 => by
    rw [callP, callP]
    split
    next hm =>
      have ht := tail_m hm
      have he := exp_eats k ts.tail
      cases hx : exp k ts.tail with
      | bad y r d => rfl
      | ok g r d =>
        rw [hx] at he
        have hl : r.length ≤ ts.tail.length := he.le
        rw [R.bind_ok, R.bind_ok]
        have hw := want_lt [41] r
        cases hz : want [41] r with
        | bad y r' d' => rfl
        | ok g' r' d' =>
          rw [hz] at hw
          have hl' : r'.length < r.length := by
            rcases hw with ⟨y, _, _, h⟩ | h
            · cases h
            · exact h
          rw [R.bind_ok, R.bind_ok, call_more k n m _ r' (by omega) (by omega)]
    next =>
      split
      next hm =>
        have ht := tail_m hm
        have hw := wantName_lt ts.tail
        cases hz : wantName ts.tail with
        | bad y r' d' => rfl
        | ok g' r' d' =>
          rw [hz] at hw
          have hl' : r'.length < ts.tail.length := by
            rcases hw with ⟨y, _, _, h⟩ | h
            · cases h
            · exact h
          rw [R.bind_ok, R.bind_ok, call_more k n m _ r' (by omega) (by omega)]
      next => rfl

def PE.kd : PE → Nat | .mk k _ _ _ _ _ _ => k
theorem pl_mk (φ : Nat → Nat) (k a : Nat) (n : Bs) (m : Nat) (ns : List Bs) (l : List PE) (ts : List PT) : PE.pl φ (.mk k a n m ns l ts) = .mk k (φ a) n m ns (l.map (PE.pl φ)) ts := by rw [PE.pl, pls_map]
def E0 (n : Nat) (x : PE) : Prop := ∀ m, n ≤ m → ∀ r, Stp r → exp m (uE 0 x ++ r) = .ok (x.pl Zr) r []
def Ch (n : Nat) (x : PE) : Prop := ∀ m, n ≤ m → ∀ r, ((basicP (typ m) (exp m) (uE 2 x ++ r)).bind fun e r => callP (exp m) r.length e r) = callP (exp m) r.length (x.pl Zr) r
theorem E0.mono {n m : Nat} {t : PE} (h : E0 n t) (hm : n ≤ m) : E0 m t := fun k hk => h k (Nat.le_trans hm hk)
theorem Ch.mono {n m : Nat} {t : PE} (h : Ch n t) (hm : n ≤ m) : Ch m t := fun k hk => h k (Nat.le_trans hm hk)
theorem lvlE_le (k : Nat) : lvlE k = 0 ∨ lvlE k = 2 := by unfold lvlE; split <;> simp
theorem uE_same {x : PE} (h : lvlE x.kd = 2) : uE 0 x = uE 2 x := by
  obtain ⟨k, a, n, m, ns, l, ts⟩ := x
  have h : lvlE k = 2 := h
  rw [uE_mk, uE_mk, markEK, markEK, if_neg (by omega), if_neg (by omega)]
theorem uE_marks {x : PE} (h : lvlE x.kd = 0) : uE 2 x = sK [40] :: (uE 0 x ++ [sK [41]]) := by
  obtain ⟨k, a, n, m, ns, l, ts⟩ := x
  have h : lvlE k = 0 := h
  rw [uE_mk, uE_mk, markEK, markEK, if_pos (by omega), if_neg (by omega)]
theorem prE_le (x : PE) : (prE 0 x).length ≤ (prE 2 x).length ∧ (prE 2 x).length ≤ (prE 0 x).length + 2 := by
  obtain ⟨k, a, n, m, ns, l, ts⟩ := x
  rw [prE_mk, prE_mk, markE, markE, if_neg (by omega)]
  have : ∀ b : Bs, (40 :: (b ++ [41])).length = b.length + 2 := by simp
  split
  · rw [this]; omega
  · omega
theorem basic_marks {n : Nat} {Z r : List Tk} {x : PE} (h : exp n Z = .ok x (sK [41] :: r) []) : basicP (typ n) (exp n) (sK [40] :: Z) = .ok x r [] := by
  have h1 : basicP (typ n) (exp n) (sK [40] :: Z) = (exp n Z).bind fun e r => if isM [58] r then (typ n r.tail).bind fun t r => (want [41] r).bind fun _ r => .ok (.mk 11 0 [] 0 [] [e] [t]) r [] else (want [41] r).bind fun _ r => .ok e r [] := rfl
  have h2 : isM [58] (sK [41] :: r) = false := rfl
  rw [h1, h, R.bind_ok, h2, want_s]
  rfl
theorem ch_marks {n : Nat} {x : PE} (h : E0 n x) (e : lvlE x.kd = 0) : Ch n x := by
  intro m hm r
  rw [uE_marks e, List.cons_append, List.append_assoc, List.singleton_append, basic_marks (h m hm _ ⟨rfl, rfl⟩), R.bind_ok, R.tell_nil]
theorem basic_word {ty : List Tk → R PT} {ex : List Tk → R PE} {w : Bs} (hw : w = [102, 117, 110] ∨ w = [108, 101, 116] ∨ w = [105, 102]) {ts : List Tk} (h : isM w ts = true) : basicP ty ex ts = .bad (syn ts) ts [] := by
  obtain ⟨t, r, rfl⟩ := isM_cons h
  simp only [isM, Bool.and_eq_true, Bool.or_eq_true, beq_iff_eq, hd, List.headD_cons] at h
  obtain ⟨hk, ht⟩ := h
  have e : ∀ s : Bs, isM s (t :: r) = true → s = w := fun s hs => by
    simp only [isM, Bool.and_eq_true, beq_iff_eq, hd, List.headD_cons] at hs
    rw [← hs.2, ht]
  have f : ∀ s : Bs, s ≠ w → isM s (t :: r) = false := fun s hs => by
    cases e' : isM s (t :: r) with
    | false => rfl
    | true => exact absurd (e s e') hs
  have k3 : ¬ (hd (t :: r)).k = 3 := by show ¬ t.k = 3; omega
  have k4 : ¬ (hd (t :: r)).k = 4 := by show ¬ t.k = 4; omega
  have k1 : ¬ (hd (t :: r)).k = 1 := by show ¬ t.k = 1; omega
  unfold basicP
  rw [if_neg k3, if_neg k4, if_neg k1]
  rcases hw with rfl | rfl | rfl <;> simp only [f _ (show ([116, 114, 117, 101] : Bs) ≠ _ by decide), f _ (show ([102, 97, 108, 115, 101] : Bs) ≠ _ by decide), f _ (show ([123] : Bs) ≠ _ by decide), f _ (show ([40] : Bs) ≠ _ by decide), if_false, Bool.false_eq_true]
theorem e0_of_ch {n : Nat} {x : PE} (h : Ch n x) (e : lvlE x.kd = 2) : E0 (n + 1) x := by
  intro m hm r hr
  obtain ⟨m, rfl⟩ : ∃ m', m = m' + 1 := ⟨m - 1, by omega⟩
  have hc := h m (by omega) r
  rw [call_stp hr, ← uE_same e] at hc
  have hno : ∀ w : Bs, w = [102, 117, 110] ∨ w = [108, 101, 116] ∨ w = [105, 102] → isM w (uE 0 x ++ r) = false := fun w hw => by
    cases e' : isM w (uE 0 x ++ r) with
    | false => rfl
    | true =>
      rw [basic_word hw e'] at hc
      cases hc
  have h1 : exp (m + 1) (uE 0 x ++ r) = exprP (typ m) (exp m) (uE 0 x ++ r) := rfl
  rw [h1, exprP, hno _ (.inl rfl), hno _ (.inr (.inl rfl)), hno _ (.inr (.inr rfl))]
  exact hc
theorem ch_call {n a : Nat} {f g : PE} (hf : Ch n f) (hg : E0 n g) : Ch n (.mk 7 a [] 0 [] [f, g] []) := by
  intro m hm r
  have e : uE 2 (.mk 7 a [] 0 [] [f, g] []) = uE 2 f ++ sK [40] :: (uE 0 g ++ [sK [41]]) := by rw [uE_mk]; rfl
  have h := hf m hm (sK [40] :: (uE 0 g ++ sK [41] :: r))
  rw [e, List.append_assoc, List.cons_append, List.append_assoc, List.singleton_append, h, List.length_cons, callP, isM_s, if_pos rfl, List.tail_cons, hg m hm _ ⟨rfl, rfl⟩, R.bind_ok, want_s, R.bind_ok, R.tell_nil, R.tell_nil, call_more m _ r.length _ r (by simp; omega) (Nat.le_refl _), pl_mk]
  rfl
theorem ch_field {n a : Nat} {nm : Bs} {f : PE} (hf : Ch n f) : Ch n (.mk 6 a nm 0 [] [f] []) := by
  intro m hm r
  have e : uE 2 (.mk 6 a nm 0 [] [f] []) = uE 2 f ++ [sK [46], nK nm] := by rw [uE_mk]; rfl
  have h := hf m hm (sK [46] :: nK nm :: r)
  have h0 : isM [40] (sK [46] :: nK nm :: r) = false := rfl
  rw [e, List.append_assoc, List.cons_append, List.singleton_append, h, List.length_cons, callP, h0, isM_s, if_neg (by decide), if_pos rfl, List.tail_cons, name_n, R.bind_ok, R.tell_nil, call_more m _ r.length _ r (by simp) (Nat.le_refl _), pl_mk]
  rfl

/-! Numbers. -/
theorem numOf_snoc (l : Bs) (c : UInt8) : numOf (l ++ [c]) = 10 * numOf l + (c.toNat - 48) := by simp [numOf]
theorem numOf_dig (m : Nat) : numOf (dig m) = m := by
  induction m using Nat.strongRecOn with
  | ind m ih =>
    have hd : ∀ k : Nat, k < 10 → (48 + k).toUInt8.toNat - 48 = k := by decide
    rw [dig]
    split
    next h => show numOf ([] ++ [_]) = _; rw [numOf_snoc, hd m h]; simp [numOf]
    next h => rw [numOf_snoc, ih (m / 10) (by omega), hd (m % 10) (Nat.mod_lt _ (by omega))]; omega
theorem dig_len : ∀ (k m : Nat), m < 10 ^ (k + 1) → (dig m).length ≤ k + 1
  | 0, m, h => by rw [dig, dif_pos (by simpa using h)]; simp
  | k + 1, m, h => by
    rw [dig]
    split
    · simp
    · have := dig_len k (m / 10) (by rw [Nat.pow_succ] at h; omega)
      simp only [List.length_append, List.length_cons, List.length_nil]
      omega
theorem numOf_lt (l : Bs) (hl : ∀ c ∈ l, 48 ≤ c.toNat ∧ c.toNat ≤ 57) : numOf l < 10 ^ l.length := by
  induction hn : l.length generalizing l with
  | zero =>
    have : l = [] := List.eq_nil_of_length_eq_zero hn
    subst this; simp [numOf]
  | succ n ih =>
    rcases List.eq_nil_or_concat l with rfl | ⟨q, c, rfl⟩
    · cases hn
    · rw [List.concat_eq_append] at hl hn ⊢
      have h1 := ih q (fun c hc => hl c (by simp [hc])) (by simpa using hn)
      have h2 := hl c (by simp)
      rw [numOf_snoc, Nat.pow_succ]
      omega
theorem num_dig {l : Bs} (h : NumT l) : (dig (numOf l)).length ≤ l.length := by
  obtain ⟨h1, h2, h3⟩ := h
  have h4 := numOf_lt l h3
  cases hl : l.length with
  | zero => exact absurd (List.eq_nil_of_length_eq_zero hl) h1
  | succ k => rw [hl] at h4; exact dig_len k _ h4

/-! What the readers of expressions tell. -/
def AE (n : Nat) (ts : List Tk) : Prop := ∀ x r d, exp n ts = .ok x r d → VE x ∧ Oks r ∧ (prE 0 x).length + wt r ≤ wt ts ∧ E0 n x ∧ Ch n x
def DE (n : Nat) (ts : List Tk) : Prop := ∀ x r d, basicP (typ n) (exp n) ts = .ok x r d → VE x ∧ Oks r ∧ (prE 2 x).length + wt r ≤ wt ts ∧ E0 (n + 1) x ∧ Ch n x
theorem tight_E {n : Nat} {x : PE} (h : Ch n x) (e : lvlE x.kd = 2) : E0 (n + 1) x ∧ Ch n x := ⟨e0_of_ch h e, h⟩
/-- One token. -/
theorem ch_one {n : Nat} {x : PE} {u : Tk} (hu : uE 2 x = [u]) (hb : ∀ m r, basicP (typ m) (exp m) (u :: r) = .ok (x.pl Zr) r []) : Ch n x := by
  intro m _ r
  rw [hu, List.singleton_append, hb, R.bind_ok, R.tell_nil]
theorem basic_de {n : Nat} (HT : ∀ ts, Oks ts → AT n ts) (H : ∀ ts, Oks ts → AE n ts) (ts : List Tk) (ho : Oks ts) : DE n ts := by
  intro x r d h
  unfold basicP at h
  split at h
  next h1 =>
    cases h
    obtain ⟨o1, o2, o3⟩ := kind_inv h1 (by decide) ho
    have hd := num_dig (o1.2.1 h1)
    refine ⟨.mk (fun _ => by have := (o1.2.1 h1).2.1; omega) (fun e => by cases e) (fun e => by simp at e) (by simp) (by simp) (by simp), o2, ?_, tight_E (ch_one (by rw [uE_mk]; rfl) fun m r => ?_) rfl⟩
    · rw [prE_mk]; show (dig _).length + _ ≤ _; omega
    · have h2 : ∀ b : Bs, basicP (typ m) (exp m) (⟨3, 0, b⟩ :: r) = .ok (.mk 1 0 [] (numOf b) [] [] []) r [] := fun b => rfl
      rw [h2, numOf_dig, pl_mk]; rfl
  split at h
  next h1 =>
    cases h
    obtain ⟨o1, o2, o3⟩ := kind_inv h1 (by decide) ho
    refine ⟨.mk (fun e => by cases e) (fun _ => o1.2.2 h1) (fun e => by simp at e) (by simp) (by simp) (by simp), o2, ?_, tight_E (ch_one (by rw [uE_mk]; rfl) fun m r => by rw [pl_mk]; rfl) rfl⟩
    rw [prE_mk]; show (34 :: ((hd ts).t ++ [34])).length + _ ≤ _; simp; omega
  split at h
  next h1 =>
    cases h
    obtain ⟨o1, o2, o3⟩ := kind_inv h1 (by decide) ho
    refine ⟨.mk (fun e => by cases e) (fun e => by cases e) (fun _ => o1.1 h1) (by simp) (by simp) (by simp), o2, ?_, tight_E (ch_one (by rw [uE_mk]; rfl) fun m r => by rw [pl_mk]; rfl) rfl⟩
    rw [prE_mk]; show (hd ts).t.length + _ ≤ _; omega
  split at h
  next h1 =>
    cases h
    obtain ⟨o2, o3⟩ := isM_inv h1 ho
    refine ⟨.mk (fun e => by cases e) (fun e => by cases e) (fun e => by simp at e) (by simp) (by simp) (by simp), o2, ?_, tight_E (ch_one (by rw [uE_mk]; rfl) fun m r => by rw [pl_mk]; rfl) rfl⟩
    rw [prE_mk, o3]; show ([116, 114, 117, 101] : Bs).length + _ ≤ _; omega
  split at h
  next h1 =>
    cases h
    obtain ⟨o2, o3⟩ := isM_inv h1 ho
    refine ⟨.mk (fun e => by cases e) (fun e => by cases e) (fun e => by simp at e) (by simp) (by simp) (by simp), o2, ?_, tight_E (ch_one (by rw [uE_mk]; rfl) fun m r => by rw [pl_mk]; rfl) rfl⟩
    rw [prE_mk, o3]; show ([102, 97, 108, 115, 101] : Bs).length + _ ≤ _; omega
  split at h
  next h1 =>
    obtain ⟨o2, o3⟩ := isM_inv h1 ho
    obtain ⟨fs, r1, _, _, e1, h⟩ := R.bind_ok_inv h
    cases h
    obtain ⟨q1, q2, q3⟩ := read_told (P := fun t => VE t ∧ E0 n t) (c := fun t => (prE 0 t).length) (fun ts x r d ho h => by
      obtain ⟨a1, a2, a3, a4, -⟩ := H ts ho x r d h
      exact ⟨⟨a1, a4⟩, a2, a3⟩) rfl o2 e1
    have hn := read_nodup e1
    refine ⟨.mk (fun e => by cases e) (fun e => by cases e) (fun e => by simp at e) (fun x hx => ?_) (by simp) (fun x hx => ?_), q2, ?_, tight_E (fun m hm r => ?_) rfl⟩
    · obtain ⟨y, hy, rfl⟩ := List.mem_map.1 hx; exact (q1 y hy).1
    · obtain ⟨y, hy, rfl⟩ := List.mem_map.1 hx; exact (q1 y hy).2.1
    · have h2 := rec_len (f := prE 0) (sg := [32, 61, 32]) (by decide) fs
      have h3 : prE 2 (recE (hd ts).a fs) = 123 :: (joinL [44, 32] (pairL [32, 61, 32] (fs.map (·.1)) (fs.map fun x => prE 0 x.2)) ++ [125]) := by
        rw [recE, prE_mk, List.map_map, List.map_map]; rfl
      rw [h3, o3]
      simp only [List.length_cons, List.length_append, List.length_nil]
      omega
    · have h3 : uE 2 (recE (hd ts).a fs) = sK [123] :: (joinL [sK [44]] (pairL [sK [61]] ((fs.map (·.1)).map fun n => [nK n]) (fs.map fun x => uE 0 x.2)) ++ [sK [125]]) := by
        rw [recE, uE_mk, List.map_map, List.map_map]; rfl
      have hb := read_back (sign := [61]) (read := exp m) (uE 0) (PE.pl Zr) fs r hn (fun x hx q hq => by
        refine (q1 x hx).2.2 m hm q ⟨?_, ?_⟩
        · rcases hq with hq | hq <;> simp only [isM, Bool.and_eq_true, beq_iff_eq] at hq <;> simp [isM, hq.2]
        · rcases hq with hq | hq <;> simp only [isM, Bool.and_eq_true, beq_iff_eq] at hq <;> simp [isM, hq.2])
      rw [h3, List.cons_append, List.append_assoc, List.singleton_append]
      have h4 : ∀ Z, basicP (typ m) (exp m) (sK [123] :: Z) = (readP [61] (exp m) Z).bind fun fs r => .ok (recE 0 fs) r [] := fun Z => rfl
      rw [h4, hb, R.bind_ok, R.tell_ok, R.bind_ok]
      have h5 : recE 0 (fs.map fun x => (x.1, PE.pl Zr x.2)) = PE.pl Zr (recE (hd ts).a fs) := by
        rw [recE, recE, pl_mk, List.map_map, List.map_map, List.map_map]; rfl
      rw [h5]; simp [R.tell_nil]
  split at h
  next h1 =>
    obtain ⟨o2, o3⟩ := isM_inv h1 ho
    obtain ⟨x1, r1, _, _, e1, h⟩ := R.bind_ok_inv h
    obtain ⟨a1, a2, a3, a4, a5⟩ := H _ o2 _ _ _ e1
    simp only [List.length_cons, List.length_nil] at o3
    split at h
    next hm =>
      obtain ⟨o4, o5⟩ := isM_inv hm a2
      obtain ⟨t, r2, _, _, e2, h⟩ := R.bind_ok_inv h
      obtain ⟨b1, b2, b3, b4, -⟩ := HT _ o4 _ _ _ e2
      obtain ⟨_, r3, _, _, e3, h⟩ := R.bind_ok_inv h
      obtain ⟨c1, c2⟩ := want_inv e3 b2
      cases h
      simp only [List.length_cons, List.length_nil] at o5 c2
      refine ⟨.mk (fun e => by cases e) (fun e => by cases e) (fun e => by simp at e) (by simp) (fun y hy => ?_) (fun y hy => ?_), c1, ?_, tight_E (fun m hm r => ?_) rfl⟩
      · simp only [List.mem_singleton] at hy; subst hy; exact b1
      · simp only [List.mem_singleton] at hy; subst hy; exact a1
      · rw [prE_mk]
        show (40 :: (prE 0 x1 ++ 32 :: 58 :: 32 :: (prT 0 t ++ [41]))).length + _ ≤ _
        simp only [List.length_cons, List.length_append, List.length_nil]
        omega
      · have h3 : uE 2 (.mk 11 (hd ts).a [] 0 [] [x1] [t]) = sK [40] :: (uE 0 x1 ++ sK [58] :: (uT 0 t ++ [sK [41]])) := by rw [uE_mk]; rfl
        have h4 : ∀ Z, basicP (typ m) (exp m) (sK [40] :: Z) = (exp m Z).bind fun e r => if isM [58] r then (typ m r.tail).bind fun t r => (want [41] r).bind fun _ r => .ok (.mk 11 0 [] 0 [] [e] [t]) r [] else (want [41] r).bind fun _ r => .ok e r [] := fun Z => rfl
        rw [h3, List.cons_append, List.append_assoc, List.cons_append, List.append_assoc, List.singleton_append, h4, a4 m hm _ ⟨rfl, rfl⟩, R.bind_ok, isM_s, if_pos rfl, List.tail_cons, b4 m hm _ rfl rfl, R.bind_ok, want_s]
        simp only [R.bind_ok, R.tell_nil, pl_mk]
        rfl
    next =>
      obtain ⟨_, r2, _, _, e2, h⟩ := R.bind_ok_inv h
      obtain ⟨b1, b2⟩ := want_inv e2 a2
      cases h
      simp only [List.length_cons, List.length_nil] at b2
      have hl := prE_le x
      exact ⟨a1, b1, by omega, a4.mono (Nat.le_succ n), a5⟩
  next => cases h
theorem call_told {n : Nat} (H : ∀ ts, Oks ts → AE n ts) : ∀ (k : Nat) (e : PE) (ts : List Tk) (x : PE) (r : List Tk) (d : List Dn), Oks ts → VE e → E0 (n + 1) e → Ch n e → callP (exp n) k e ts = .ok x r d → VE x ∧ Oks r ∧ (prE 2 x).length + wt r ≤ (prE 2 e).length + wt ts ∧ E0 (n + 1) x ∧ Ch n x
  | 0, e, ts, x, r, d, ho, v, h1, h2, h => by cases h; exact ⟨v, ho, Nat.le_refl _, h1, h2⟩
  | k + 1, e, ts, x, r, d, ho, v, h1, h2, h => by
    rw [callP] at h
    split at h
    next hm =>
      obtain ⟨o2, o3⟩ := isM_inv hm ho
      obtain ⟨g, r1, _, _, e1, h⟩ := R.bind_ok_inv h
      obtain ⟨a1, a2, a3, a4, a5⟩ := H _ o2 _ _ _ e1
      obtain ⟨_, r2, _, _, e2, h⟩ := R.bind_ok_inv h
      obtain ⟨b1, b2⟩ := want_inv e2 a2
      have hc := ch_call (a := (hd ts).a) h2 a4
      obtain ⟨q1, q2, q3, q4⟩ := call_told H k _ _ x r _ b1 (.mk (fun e => by cases e) (fun e => by cases e) (fun e => by simp at e) (by simp) (by simp) (fun y hy => by
        simp only [List.mem_cons, List.not_mem_nil, or_false] at hy
        rcases hy with rfl | rfl
        · exact v
        · exact a1)) (e0_of_ch hc rfl) hc h
      refine ⟨q1, q2, ?_, q4⟩
      have : prE 2 (.mk 7 (hd ts).a [] 0 [] [e, g] []) = prE 2 e ++ 40 :: (prE 0 g ++ [41]) := by rw [prE_mk]; rfl
      rw [this] at q3
      simp only [List.length_append, List.length_cons, List.length_nil] at q3 o3 b2
      omega
    next =>
      split at h
      next hm =>
        obtain ⟨o2, o3⟩ := isM_inv hm ho
        obtain ⟨nm, r1, _, _, e1, h⟩ := R.bind_ok_inv h
        obtain ⟨n1, b1, b2⟩ := name_inv e1 o2
        have hc := ch_field (a := nm.a) (nm := nm.t) h2
        obtain ⟨q1, q2, q3, q4⟩ := call_told H k _ _ x r _ b1 (.mk (fun e => by cases e) (fun e => by cases e) (fun _ => n1) (by simp) (by simp) (fun y hy => by
          simp only [List.mem_singleton] at hy; subst hy; exact v)) (e0_of_ch hc rfl) hc h
        refine ⟨q1, q2, ?_, q4⟩
        have : prE 2 (.mk 6 nm.a nm.t 0 [] [e] []) = prE 2 e ++ 46 :: nm.t := by rw [prE_mk]; rfl
        rw [this] at q3
        simp only [List.length_append, List.length_cons, List.length_nil] at q3 o3
        omega
      next => cases h; exact ⟨v, ho, Nat.le_refl _, h1, h2⟩
theorem exp_ae {n : Nat} (HT : ∀ ts, Oks ts → AT n ts) (H : ∀ ts, Oks ts → AE n ts) (ts : List Tk) (ho : Oks ts) : AE (n + 1) ts := by
  intro x r d h
  have h0 : exp (n + 1) ts = exprP (typ n) (exp n) ts := rfl
  rw [h0] at h
  unfold exprP at h
  split at h
  next hm =>
    obtain ⟨o1, o2⟩ := isM_inv hm ho
    unfold funP at h
    obtain ⟨_, r1, _, _, e1, h⟩ := R.bind_ok_inv h
    obtain ⟨p1, w1⟩ := want_inv e1 o1
    obtain ⟨nm, r2, _, _, e2, h⟩ := R.bind_ok_inv h
    obtain ⟨n1, p2, w2⟩ := name_inv e2 p1
    obtain ⟨_, r3, _, _, e3, h⟩ := R.bind_ok_inv h
    obtain ⟨p3, w3⟩ := want_inv e3 p2
    obtain ⟨t, r4, _, _, e4, h⟩ := R.bind_ok_inv h
    obtain ⟨b1, p4, w4, b4, -⟩ := HT _ p3 _ _ _ e4
    obtain ⟨_, r5, _, _, e5, h⟩ := R.bind_ok_inv h
    obtain ⟨p5, w5⟩ := want_inv e5 p4
    obtain ⟨e, r6, _, _, e6, h⟩ := R.bind_ok_inv h
    obtain ⟨a1, p6, w6, a4, -⟩ := H _ p5 _ _ _ e6
    cases h
    simp only [List.length_cons, List.length_nil] at o2 w1 w3 w5
    have hE : E0 (n + 1) (.mk 8 (hd ts).a nm.t 0 [] [e] [t]) := by
      intro m hm r hr
      obtain ⟨m, rfl⟩ : ∃ m', m = m' + 1 := ⟨m - 1, by omega⟩
      have h1 : uE 0 (.mk 8 (hd ts).a nm.t 0 [] [e] [t]) = wK [102, 117, 110] :: sK [40] :: nK nm.t :: sK [58] :: (uT 0 t ++ sK [41] :: uE 0 e) := by rw [uE_mk]; rfl
      have h2 : ∀ Z, exp (m + 1) (wK [102, 117, 110] :: sK [40] :: nK nm.t :: sK [58] :: Z) = ((((typ m Z).bind fun t r => (want [41] r).bind fun _ r => (exp m r).bind fun e r => .ok (.mk 8 0 nm.t 0 [] [e] [t]) r []).tell []).tell []).tell [] := fun Z => rfl
      rw [h1]
      simp only [List.cons_append, List.append_assoc]
      rw [h2, b4 m (by omega) _ rfl rfl, R.bind_ok, want_s, R.bind_ok, a4 m (by omega) r hr]
      simp only [R.bind_ok, R.tell_nil, pl_mk]
      rfl
    refine ⟨.mk (fun e => by cases e) (fun e => by cases e) (fun _ => n1) (by simp) (fun y hy => ?_) (fun y hy => ?_), p6, ?_, hE, ch_marks hE rfl⟩
    · simp only [List.mem_singleton] at hy; subst hy; exact b1
    · simp only [List.mem_singleton] at hy; subst hy; exact a1
    · rw [prE_mk]
      show ([102, 117, 110] ++ (32 :: 40 :: (nm.t ++ 32 :: 58 :: 32 :: (prT 0 t ++ 41 :: 32 :: prE 0 e)))).length + _ ≤ _
      simp only [List.length_cons, List.length_append, List.length_nil]
      omega
  split at h
  next hm =>
    obtain ⟨o1, o2⟩ := isM_inv hm ho
    unfold letP at h
    obtain ⟨nm, r1, _, _, e1, h⟩ := R.bind_ok_inv h
    obtain ⟨n1, p1, w1⟩ := name_inv e1 o1
    obtain ⟨_, r2, _, _, e2, h⟩ := R.bind_ok_inv h
    obtain ⟨p2, w2⟩ := want_inv e2 p1
    obtain ⟨v, r3, _, _, e3, h⟩ := R.bind_ok_inv h
    obtain ⟨a1, p3, w3, a4, -⟩ := H _ p2 _ _ _ e3
    obtain ⟨_, r4, _, _, e4, h⟩ := R.bind_ok_inv h
    obtain ⟨p4, w4⟩ := want_inv e4 p3
    obtain ⟨b, r5, _, _, e5, h⟩ := R.bind_ok_inv h
    obtain ⟨b1, p5, w5, b4, -⟩ := H _ p4 _ _ _ e5
    cases h
    simp only [List.length_cons, List.length_nil] at o2 w2 w4
    have hE : E0 (n + 1) (.mk 9 (hd ts).a nm.t 0 [] [v, b] []) := by
      intro m hm r hr
      obtain ⟨m, rfl⟩ : ∃ m', m = m' + 1 := ⟨m - 1, by omega⟩
      have h1 : uE 0 (.mk 9 (hd ts).a nm.t 0 [] [v, b] []) = wK [108, 101, 116] :: nK nm.t :: sK [61] :: (uE 0 v ++ wK [105, 110] :: uE 0 b) := by rw [uE_mk]; rfl
      have h2 : ∀ Z, exp (m + 1) (wK [108, 101, 116] :: nK nm.t :: sK [61] :: Z) = (((exp m Z).bind fun v r => (want [105, 110] r).bind fun _ r => (exp m r).bind fun b r => .ok (.mk 9 0 nm.t 0 [] [v, b] []) r []).tell []).tell [] := fun Z => rfl
      rw [h1]
      simp only [List.cons_append, List.append_assoc]
      rw [h2, a4 m (by omega) _ ⟨rfl, rfl⟩, R.bind_ok, want_w, R.bind_ok, b4 m (by omega) r hr]
      simp only [R.bind_ok, R.tell_nil, pl_mk]
      rfl
    refine ⟨.mk (fun e => by cases e) (fun e => by cases e) (fun _ => n1) (by simp) (by simp) (fun y hy => ?_), p5, ?_, hE, ch_marks hE rfl⟩
    · simp only [List.mem_cons, List.not_mem_nil, or_false] at hy
      rcases hy with rfl | rfl
      · exact a1
      · exact b1
    · rw [prE_mk]
      show ([108, 101, 116] ++ (32 :: (nm.t ++ 32 :: 61 :: 32 :: (prE 0 v ++ 32 :: ([105, 110] ++ 32 :: prE 0 b))))).length + _ ≤ _
      simp only [List.length_cons, List.length_append, List.length_nil]
      omega
  split at h
  next hm =>
    obtain ⟨o1, o2⟩ := isM_inv hm ho
    unfold ifP at h
    obtain ⟨x1, r1, _, _, e1, h⟩ := R.bind_ok_inv h
    obtain ⟨a1, p1, w1, a4, -⟩ := H _ o1 _ _ _ e1
    obtain ⟨_, r2, _, _, e2, h⟩ := R.bind_ok_inv h
    obtain ⟨p2, w2⟩ := want_inv e2 p1
    obtain ⟨x2, r3, _, _, e3, h⟩ := R.bind_ok_inv h
    obtain ⟨b1, p3, w3, b4, -⟩ := H _ p2 _ _ _ e3
    obtain ⟨_, r4, _, _, e4, h⟩ := R.bind_ok_inv h
    obtain ⟨p4, w4⟩ := want_inv e4 p3
    obtain ⟨x3, r5, _, _, e5, h⟩ := R.bind_ok_inv h
    obtain ⟨c1, p5, w5, c4, -⟩ := H _ p4 _ _ _ e5
    cases h
    simp only [List.length_cons, List.length_nil] at o2 w2 w4
    have hE : E0 (n + 1) (.mk 10 (hd ts).a [] 0 [] [x1, x2, x3] []) := by
      intro m hm r hr
      obtain ⟨m, rfl⟩ : ∃ m', m = m' + 1 := ⟨m - 1, by omega⟩
      have h1 : uE 0 (.mk 10 (hd ts).a [] 0 [] [x1, x2, x3] []) = wK [105, 102] :: (uE 0 x1 ++ wK [116, 104, 101, 110] :: (uE 0 x2 ++ wK [101, 108, 115, 101] :: uE 0 x3)) := by rw [uE_mk]; rfl
      have h2 : ∀ Z, exp (m + 1) (wK [105, 102] :: Z) = (exp m Z).bind fun x r => (want [116, 104, 101, 110] r).bind fun _ r => (exp m r).bind fun y r => (want [101, 108, 115, 101] r).bind fun _ r => (exp m r).bind fun z r => .ok (.mk 10 0 [] 0 [] [x, y, z] []) r [] := fun Z => rfl
      rw [h1]
      simp only [List.cons_append, List.append_assoc]
      rw [h2, a4 m (by omega) _ ⟨rfl, rfl⟩, R.bind_ok, want_w, R.bind_ok, b4 m (by omega) _ ⟨rfl, rfl⟩, R.bind_ok, want_w, R.bind_ok, c4 m (by omega) r hr]
      simp only [R.bind_ok, R.tell_nil, pl_mk]
      rfl
    refine ⟨.mk (fun e => by cases e) (fun e => by cases e) (fun e => by simp at e) (by simp) (by simp) (fun y hy => ?_), p5, ?_, hE, ch_marks hE rfl⟩
    · simp only [List.mem_cons, List.not_mem_nil, or_false] at hy
      rcases hy with rfl | rfl | rfl
      · exact a1
      · exact b1
      · exact c1
    · rw [prE_mk]
      show ([105, 102] ++ (32 :: (prE 0 x1 ++ 32 :: ([116, 104, 101, 110] ++ 32 :: (prE 0 x2 ++ 32 :: ([101, 108, 115, 101] ++ 32 :: prE 0 x3)))))).length + _ ≤ _
      simp only [List.length_cons, List.length_append, List.length_nil]
      omega
  next =>
    obtain ⟨e, r1, _, _, e1, h⟩ := R.bind_ok_inv h
    obtain ⟨a1, a2, a3, a4, a5⟩ := basic_de HT H _ ho _ _ _ e1
    obtain ⟨q1, q2, q3, q4, q5⟩ := call_told H _ _ _ _ _ _ a2 a1 a4 a5 h
    have hl := prE_le x
    exact ⟨q1, q2, by omega, q4, q5.mono (Nat.le_succ n)⟩
theorem all_E : ∀ n, ∀ ts, Oks ts → AE n ts
  | 0 => fun ts _ x r d h => by cases h
  | n + 1 => exp_ae (all_T n).1 (all_E n)

end Go.Proofs.YthpoffklhpbdoaaGreatDoor

namespace Go.Proofs.YthpoffklhpbdoaaGreatDoor
set_option maxRecDepth 100000

/-- What is so of a declaration that is told. -/
structure GD (d : PD) : Prop where
  kind : d.k = 1 ∨ d.k = 2 ∨ d.k = 3
  name : NmB d.n
  lz : Lz (hdD d ++ [59]) (uD d)
  back : ∀ r, declP (uD d ++ r) = .ok (d.pl Zr) r []
theorem prD_is {d : PD} (h : GD d) : prD d = hdD d ++ [59, 10] := by rw [prD, if_pos h.kind]
theorem eats_ok {α : Type} {ts : List Tk} {x : R α} (h : Eats ts x) (ho : Oks ts) : Oks x.rest := by
  obtain ⟨p, e, -⟩ := h
  intro t ht
  exact ho t (by rw [e]; simp [ht])
theorem decl_gd {ts : List Tk} (ho : Oks ts) {d : PD} {r : List Tk} {x : List Dn} (h : declP ts = .ok d r x) : GD d ∧ Oks r ∧ (prD d).length + wt r ≤ wt ts := by
  unfold declP at h
  split at h
  next hm =>
    obtain ⟨o1, o2⟩ := isM_inv hm ho
    obtain ⟨nm, r1, _, _, e1, h⟩ := R.bind_ok_inv h
    obtain ⟨n1, p1, w1⟩ := name_inv e1 o1
    obtain ⟨_, r2, _, _, e2, h⟩ := R.bind_ok_inv h
    obtain ⟨p2, w2⟩ := want_inv e2 p1
    cases h
    simp only [List.length_cons, List.length_nil] at o2 w2
    refine ⟨⟨.inl rfl, n1, ?_, fun r => rfl⟩, p2, ?_⟩
    · have h1 : hdD ⟨1, nm.a, nm.t, [], []⟩ ++ [59] = [117, 115, 101] ++ 32 :: (nm.t ++ [59]) := rfl
      rw [h1]
      exact .cut (u := [_]) lw_use (by decide) (.bl (.cut (u := [_]) (lz_name n1) (by decide) (.sg (by decide) .nil)))
    · show ([117, 115, 101] ++ 32 :: nm.t ++ [59, 10]).length + _ ≤ _
      simp only [List.length_cons, List.length_append, List.length_nil]
      omega
  split at h
  next hm =>
    obtain ⟨o1, o2⟩ := isM_inv hm ho
    obtain ⟨nm, r1, _, _, e1, h⟩ := R.bind_ok_inv h
    obtain ⟨n1, p1, w1⟩ := name_inv e1 o1
    obtain ⟨_, r2, _, _, e2, h⟩ := R.bind_ok_inv h
    obtain ⟨p2, w2⟩ := want_inv e2 p1
    obtain ⟨t, r3, _, _, e3, h⟩ := R.bind_ok_inv h
    obtain ⟨a1, p3, w3, a4, -⟩ := (all_T 64).1 _ p2 _ _ _ e3
    obtain ⟨_, r4, _, _, e4, h⟩ := R.bind_ok_inv h
    obtain ⟨p4, w4⟩ := want_inv e4 p3
    cases h
    simp only [List.length_cons, List.length_nil] at o2 w2 w4
    refine ⟨⟨.inr (.inl rfl), n1, ?_, fun r => ?_⟩, p4, ?_⟩
    · have h1 : hdD ⟨2, nm.a, nm.t, [t], []⟩ ++ [59] = [116, 121, 112, 101] ++ 32 :: (nm.t ++ 32 :: 61 :: 32 :: (prT 0 t ++ [59])) := by
        show ([116, 121, 112, 101] ++ 32 :: (nm.t ++ 32 :: 61 :: 32 :: prT 0 t)) ++ [59] = _
        simp
      rw [h1]
      exact .cut (u := [_]) lw_type (by decide) (.bl (.cut (u := [_]) (lz_name n1) (by decide) (.bl (.sg (by decide) (.bl (.cut (lz_T a1 0) (by decide) (.sg (by decide) .nil)))))))
    · have h1 : uD ⟨2, nm.a, nm.t, [t], []⟩ = wK [116, 121, 112, 101] :: nK nm.t :: sK [61] :: (uT 0 t ++ [sK [59]]) := rfl
      have h2 : ∀ Z, declP (wK [116, 121, 112, 101] :: nK nm.t :: sK [61] :: Z) = (((typ 64 Z).bind fun t r => (want [59] r).bind fun _ r => .ok ⟨2, 0, nm.t, [t], []⟩ r []).tell []).tell [] := fun Z => rfl
      rw [h1]
      simp only [List.cons_append, List.append_assoc, List.nil_append]
      rw [h2, a4 64 (Nat.le_refl _) _ rfl rfl, R.bind_ok, want_s]
      simp only [R.bind_ok, R.tell_nil]
      rfl
    · show ([116, 121, 112, 101] ++ 32 :: (nm.t ++ 32 :: 61 :: 32 :: prT 0 t) ++ [59, 10]).length + _ ≤ _
      simp only [List.length_cons, List.length_append, List.length_nil]
      omega
  next =>
    obtain ⟨_, r0, _, _, e0, h⟩ := R.bind_ok_inv h
    obtain ⟨o1, o2⟩ := want_inv e0 ho
    obtain ⟨nm, r1, _, _, e1, h⟩ := R.bind_ok_inv h
    obtain ⟨n1, p1, w1⟩ := name_inv e1 o1
    split at h
    next hm =>
      obtain ⟨p2, w2⟩ := isM_inv hm p1
      obtain ⟨t, r3, _, _, e3, h⟩ := R.bind_ok_inv h
      obtain ⟨a1, p3, w3, a4, -⟩ := (all_T 64).1 _ p2 _ _ _ e3
      obtain ⟨_, r4, _, _, e4, h⟩ := R.bind_ok_inv h
      obtain ⟨p4, w4⟩ := want_inv e4 p3
      obtain ⟨e, r5, _, _, e5, h⟩ := R.bind_ok_inv h
      obtain ⟨b1, p5, w5, b4, -⟩ := all_E 64 _ p4 _ _ _ e5
      obtain ⟨_, r6, _, _, e6, h⟩ := R.bind_ok_inv h
      obtain ⟨p6, w6⟩ := want_inv e6 p5
      cases h
      simp only [List.length_cons, List.length_nil] at o2 w2 w4 w6
      refine ⟨⟨.inr (.inr rfl), n1, ?_, fun r => ?_⟩, p6, ?_⟩
      · have h1 : hdD ⟨3, nm.a, nm.t, [t], [e]⟩ ++ [59] = [108, 101, 116] ++ 32 :: (nm.t ++ 32 :: 58 :: 32 :: (prT 0 t ++ 32 :: 61 :: 32 :: (prE 0 e ++ [59]))) := by
          show ([108, 101, 116] ++ 32 :: (nm.t ++ (32 :: 58 :: 32 :: prT 0 t ++ 32 :: 61 :: 32 :: prE 0 e))) ++ [59] = _
          simp
        rw [h1]
        exact .cut (u := [_]) lw_let (by decide) (.bl (.cut (u := [_]) (lz_name n1) (by decide) (.bl (.sg (by decide) (.bl (.cut (lz_T a1 0) (by decide) (.bl (.sg (by decide) (.bl (.cut (lz_E b1 0) (by decide) (.sg (by decide) .nil)))))))))))
      · have h1 : uD ⟨3, nm.a, nm.t, [t], [e]⟩ = wK [108, 101, 116] :: nK nm.t :: sK [58] :: (uT 0 t ++ sK [61] :: (uE 0 e ++ [sK [59]])) := rfl
        have h2 : ∀ Z, declP (wK [108, 101, 116] :: nK nm.t :: sK [58] :: Z) = (((typ 64 Z).bind fun t r => (want [61] r).bind fun _ r => (exp 64 r).bind fun e r => (want [59] r).bind fun _ r => .ok ⟨3, 0, nm.t, [t], [e]⟩ r []).tell []).tell [] := fun Z => rfl
        rw [h1]
        simp only [List.cons_append, List.append_assoc, List.nil_append]
        rw [h2, a4 64 (Nat.le_refl _) _ rfl rfl, R.bind_ok, want_s, R.bind_ok, b4 64 (Nat.le_refl _) _ ⟨rfl, rfl⟩, R.bind_ok, want_s]
        simp only [R.bind_ok, R.tell_nil, PD.pl, PE.pls]
        rfl
      · show ([108, 101, 116] ++ 32 :: (nm.t ++ (32 :: 58 :: 32 :: prT 0 t ++ 32 :: 61 :: 32 :: prE 0 e)) ++ [59, 10]).length + _ ≤ _
        simp only [List.length_cons, List.length_append, List.length_nil]
        omega
    next =>
      obtain ⟨_, r4, _, _, e4, h⟩ := R.bind_ok_inv h
      obtain ⟨p4, w4⟩ := want_inv e4 p1
      obtain ⟨e, r5, _, _, e5, h⟩ := R.bind_ok_inv h
      obtain ⟨b1, p5, w5, b4, -⟩ := all_E 64 _ p4 _ _ _ e5
      obtain ⟨_, r6, _, _, e6, h⟩ := R.bind_ok_inv h
      obtain ⟨p6, w6⟩ := want_inv e6 p5
      cases h
      simp only [List.length_cons, List.length_nil] at o2 w4 w6
      refine ⟨⟨.inr (.inr rfl), n1, ?_, fun r => ?_⟩, p6, ?_⟩
      · have h1 : hdD ⟨3, nm.a, nm.t, [], [e]⟩ ++ [59] = [108, 101, 116] ++ 32 :: (nm.t ++ 32 :: 61 :: 32 :: (prE 0 e ++ [59])) := by
          show ([108, 101, 116] ++ 32 :: (nm.t ++ ([] ++ 32 :: 61 :: 32 :: prE 0 e))) ++ [59] = _
          simp
        rw [h1]
        exact .cut (u := [_]) lw_let (by decide) (.bl (.cut (u := [_]) (lz_name n1) (by decide) (.bl (.sg (by decide) (.bl (.cut (lz_E b1 0) (by decide) (.sg (by decide) .nil)))))))
      · have h1 : uD ⟨3, nm.a, nm.t, [], [e]⟩ = wK [108, 101, 116] :: nK nm.t :: sK [61] :: (uE 0 e ++ [sK [59]]) := rfl
        have h2 : ∀ Z, declP (wK [108, 101, 116] :: nK nm.t :: sK [61] :: Z) = ((((exp 64 Z).bind fun e r => (want [59] r).bind fun _ r => .ok ⟨3, 0, nm.t, [], [e]⟩ r []).tell []).tell []).tell [] := fun Z => rfl
        rw [h1]
        simp only [List.cons_append, List.append_assoc, List.nil_append]
        rw [h2, b4 64 (Nat.le_refl _) _ ⟨rfl, rfl⟩, R.bind_ok, want_s]
        simp only [R.bind_ok, R.tell_nil, PD.pl, PE.pls]
        rfl
      · show ([108, 101, 116] ++ 32 :: (nm.t ++ ([] ++ 32 :: 61 :: 32 :: prE 0 e)) ++ [59, 10]).length + _ ≤ _
        simp only [List.length_cons, List.length_append, List.length_nil]
        omega
theorem wt_suffix {p r : List Tk} : wt r ≤ wt (p ++ r) := by simp [wt]
theorem pass_suffix : ∀ ts : List Tk, ∃ p, ts = p ++ passD ts
  | [] => ⟨[], rfl⟩
  | t :: r => by
    rw [passD]
    split
    · exact ⟨[], rfl⟩
    split
    · exact ⟨[t], rfl⟩
    · obtain ⟨p, hp⟩ := pass_suffix r
      exact ⟨t :: p, by rw [List.cons_append, ← hp]⟩
theorem oks_suffix {p r : List Tk} (h : Oks (p ++ r)) : Oks r := fun t ht => h t (by simp [ht])
/-- All that is told of a source. -/
theorem parse_gd : ∀ (n : Nat) (ts : List Tk), Oks ts → (∀ d ∈ (parseP n ts).1, GD d) ∧ (prF (parseP n ts).1).length ≤ wt ts
  | 0, ts, _ => ⟨by simp [parseP], by simp [parseP, prF]⟩
  | n + 1, ts, ho => by
    by_cases hk : (hd ts).k = 6
    · rw [parse_end hk]; exact ⟨by simp, by simp [prF]⟩
    · rw [parse_step hk]
      cases h : declP ts with
      | ok d r e =>
        obtain ⟨g, o, w⟩ := decl_gd ho h
        obtain ⟨ih1, ih2⟩ := parse_gd n r o
        refine ⟨fun x hx => ?_, ?_⟩
        · rcases List.mem_cons.1 hx with rfl | hx
          · exact g
          · exact ih1 x hx
        · show (prF (d :: _)).length ≤ _
          rw [prF, List.flatMap_cons, List.length_append]
          show _ + (prF _).length ≤ _
          omega
      | bad y r e =>
        obtain ⟨p, hp, -⟩ := (decl_eats ts).2 y r e h
        obtain ⟨q, hq⟩ := pass_suffix r
        have o : Oks (passD r) := oks_suffix (p := q) (by rw [← hq]; exact oks_suffix (p := p) (by rw [← hp]; exact ho))
        obtain ⟨ih1, ih2⟩ := parse_gd n (passD r) o
        refine ⟨ih1, Nat.le_trans ih2 ?_⟩
        have h1 : wt (passD r) ≤ wt r := by conv => rhs; rw [hq]
                                            exact wt_suffix
        have h2 : wt r ≤ wt ts := by rw [hp]; exact wt_suffix
        omega
theorem uD_ne {d : PD} (h : GD d) : ∃ t r, uD d = t :: r ∧ t.k ≠ 6 := by
  rcases h.kind with e | e | e
  · exact ⟨wK [117, 115, 101], _, by rw [uD, if_pos e], by decide⟩
  · exact ⟨wK [116, 121, 112, 101], _, by rw [uD, if_neg (by omega), if_pos e], by decide⟩
  · exact ⟨wK [108, 101, 116], _, by rw [uD, if_neg (by omega), if_neg (by omega), if_pos e], by decide⟩
/-- They are told so of their tokens. -/
theorem parse_back : ∀ (l : List PD) (n : Nat) (e : Tk), (∀ d ∈ l, GD d) → e.k = 6 → l.length < n → parseP n (l.flatMap uD ++ [e]) = (l.map (PD.pl Zr), [])
  | [], n, e, _, he, _ => parse_end he
  | d :: l, 0, _, _, _, h => by cases h
  | d :: l, n + 1, e, hg, he, h => by
    obtain ⟨t, r, hu, hk⟩ := uD_ne (hg d (by simp))
    have ih := parse_back l n e (fun x hx => hg x (by simp [hx])) he (by simpa using h)
    have hb := (hg d (by simp)).back (l.flatMap uD ++ [e])
    rw [List.flatMap_cons, List.append_assoc, parse_step (by rw [hu]; exact hk), hb]
    simp only [ih, List.map_cons, List.append_nil]
theorem lines_lz : ∀ l : List PD, (∀ d ∈ l, GD d) → tz (prF l) = l.flatMap uD ∧ td 0 (prF l) = []
  | [], _ => ⟨by rw [show prF [] = [] from rfl, tz, tk_nil]; rfl, td_nil 0⟩
  | d :: l, h => by
    obtain ⟨h1, h2⟩ := lines_lz l fun x hx => h x (by simp [hx])
    have hd := h d (by simp)
    have e : prF (d :: l) = (hdD d ++ [59]) ++ 10 :: prF l := by
      rw [prF, List.flatMap_cons, prD_is hd]
      simp [prF]
    obtain ⟨k1, k2⟩ := hd.lz.2 10 (prF l) (by decide)
    have b1 : tz (10 :: prF l) = tz (prF l) := by rw [tz, tk_blank (by decide), tz_at]
    have b2 : td 0 (10 :: prF l) = [] := by rw [td_blank (by decide), td_at0]; exact h2
    refine ⟨?_, ?_⟩
    · rw [e, k1, b1, h1, List.flatMap_cons]
    · rw [e]; exact k2 b2
theorem pls_pl (φ ψ : Nat → Nat) (l : List PE) : PE.pls φ (PE.pls ψ l) = PE.pls (fun a => φ (ψ a)) l := by
  have hh : ∀ (N : Nat) (x : PE), szE x ≤ N → PE.pl φ (PE.pl ψ x) = PE.pl (fun a => φ (ψ a)) x := by
    intro N
    induction N with
    | zero => intro x hx; have := szE_pos x; omega
    | succ N ih =>
      intro x hx
      obtain ⟨k, a, n, m, ns, l, ts⟩ := x
      rw [pl_mk, pl_mk, pl_mk, List.map_map]
      congr 1
      refine List.map_congr_left fun y hy => ?_
      refine ih y ?_
      obtain ⟨i, hi, rfl⟩ := List.getElem_of_mem hy
      have := szEs_get l i l[i] (List.getElem?_eq_getElem hi)
      rw [szE] at hx
      omega
  rw [pls_map, pls_map, pls_map, List.map_map]
  exact List.map_congr_left fun y _ => hh _ y (Nat.le_refl _)
theorem step_all {Q : Step → Prop} (hQ : ∀ l : Bs, l ≠ [] → Q (stepOf l)) (l : Bs) : ∀ t ∈ toks l, t = ⟨6, l.length, []⟩ ∨ ∃ s, Q s ∧ s.k ≠ 0 ∧ t.k = s.k ∧ t.t = s.t := by
  intro t ht
  rcases toks_mem ht with h | ⟨x, hx, hk, rfl⟩
  · exact .inl h
  · exact .inr ⟨x.s, pcs_all hQ l.length 0 l (Nat.le_refl _) x hx, hk, rfl, rfl⟩
theorem take_all {p : UInt8 → Bool} (l : Bs) : ∀ c ∈ l.take (spanLen p l), p c = true := by
  intro c hc
  obtain ⟨i, hi, rfl⟩ := List.getElem_of_mem hc
  have h1 : i < spanLen p l := by rw [List.length_take] at hi; omega
  obtain ⟨c, hc, hp⟩ := spanLen_all p l i h1
  have h2 : i < l.length := by rw [List.length_take] at hi; omega
  rw [List.getElem_take]
  rw [List.getElem?_eq_getElem h2] at hc
  cases hc
  exact hp
theorem step_names (l : Bs) (h : l ≠ []) : ((stepOf l).k = 1 → NmB (stepOf l).t) ∧ ((stepOf l).k = 4 → ∀ c ∈ (stepOf l).t, isInText c = true) := by
  cases l with
  | nil => exact absurd rfl h
  | cons c r =>
    simp only [stepOf]
    split
    · exact ⟨by simp, by simp⟩
    split
    · exact ⟨by simp, by simp⟩
    split
    next hc =>
      refine ⟨fun h => ?_, fun h => ?_⟩
      · have h' : wordKind ((c :: r).take (spanLen isPart (c :: r))) = 1 := h
        refine ⟨⟨c, r.take (spanLen isPart r), ?_, hc⟩, take_all _, ?_⟩
        · show (c :: r).take (spanLen isPart (c :: r)) = _
          rw [spanLen, if_pos (start_part hc), List.take_succ_cons]
        · unfold wordKind at h'
          split at h'
          next => cases h'
          next hw => exact eq_false_of_ne_true hw
      · have h' : wordKind ((c :: r).take (spanLen isPart (c :: r))) = 4 := h
        unfold wordKind at h'
        split at h' <;> cases h'
    split
    · split <;> exact ⟨by simp, by simp⟩
    split
    · split
      · exact ⟨by simp, fun _ => take_all _⟩
      · exact ⟨by simp, by simp⟩
    split
    · exact ⟨by simp, by simp⟩
    split <;> exact ⟨by simp, by simp⟩
theorem toks_oks (l : Bs) : Oks (toks l) := by
  intro t ht
  refine ⟨fun hk => ?_, toks_num l t ht, fun hk => ?_⟩
  · rcases step_all (Q := fun s => (s.k = 1 → NmB s.t) ∧ (s.k = 4 → ∀ c ∈ s.t, isInText c = true)) step_names l t ht with rfl | ⟨s, hs, -, e1, e2⟩
    · cases hk
    · rw [e2]; exact hs.1 (e1 ▸ hk)
  · rcases step_all (Q := fun s => (s.k = 1 → NmB s.t) ∧ (s.k = 4 → ∀ c ∈ s.t, isInText c = true)) step_names l t ht with rfl | ⟨s, hs, -, e1, e2⟩
    · cases hk
    · rw [e2]; exact hs.2 (e1 ▸ hk)
/-- A token's bytes and two more are no more than three times its own. -/
theorem step_wt (l : Bs) (h : l ≠ []) : (stepOf l).t.length + 2 ≤ 3 * (stepOf l).n := by
  have hn := stepOf_n l h
  cases l with
  | nil => exact absurd rfl h
  | cons c r =>
    revert hn
    simp only [stepOf]
    split
    · intro hn; simp
    split
    · intro hn; simp only [List.length_nil] at hn ⊢; omega
    split
    · intro hn; simp only [List.length_take] at hn ⊢; omega
    split
    · split
      · intro hn; simp only [List.length_cons, List.length_nil] at hn ⊢; omega
      · intro hn; simp only [List.length_take] at hn ⊢; omega
    split
    · split
      · intro hn; simp only [List.length_take] at hn ⊢; omega
      · intro hn; simp only [List.length_nil] at hn ⊢; omega
    split
    · intro hn; simp
    split <;> (intro hn; simp)
theorem pcs_wt : ∀ (N a : Nat) (l : Bs), l.length ≤ N → ((pcs a l).map fun x => x.s.t.length + 2).sum ≤ 3 * l.length
  | 0, a, l, h => by
    have : l = [] := List.eq_nil_of_length_eq_zero (by omega)
    subst this
    simp [pcs_nil]
  | N + 1, a, l, h => by
    by_cases hl : l = []
    · subst hl; simp [pcs_nil]
    · have hn := stepOf_n l hl
      have hw := step_wt l hl
      have ih := pcs_wt N (a + (stepOf l).n) (l.drop (stepOf l).n) (by rw [List.length_drop]; omega)
      rw [pcs_cons a l hl]
      simp only [List.map_cons, List.sum_cons, List.length_drop] at ih ⊢
      omega
theorem wt_toksOf : ∀ l : List Pc, wt (toksOf l) ≤ (l.map fun x => x.s.t.length + 2).sum
  | [] => by simp [toksOf, wt]
  | x :: l => by
    have ih := wt_toksOf l
    rw [toksOf_cons]
    simp only [List.map_cons, List.sum_cons]
    split
    · simp only [List.nil_append]; omega
    · simp only [List.singleton_append, wt_cons]; omega
theorem filter_sum (p : Pc → Bool) (f : Pc → Nat) : ∀ l : List Pc, ((l.filter p).map f).sum ≤ (l.map f).sum
  | [] => by simp
  | x :: l => by
    have := filter_sum p f l
    rw [List.filter_cons]
    split <;> simp only [List.map_cons, List.sum_cons] <;> omega
theorem wt_toks (l : Bs) : wt (toks l) ≤ 3 * l.length + 2 := by
  have h1 := pcs_wt l.length 0 l (Nat.le_refl _)
  have h2 := filter_sum Pc.isPiece (fun x => x.s.t.length + 2) (pcs 0 l)
  have h3 := wt_toksOf (pieces 0 l)
  unfold toks
  unfold pieces at h3 ⊢
  simp only [wt, List.map_append, List.sum_append, List.map_cons, List.map_nil, List.sum_cons, List.sum_nil, List.length_nil] at h3 ⊢
  omega
theorem all_gd (s : Bs) : (∀ d ∈ (parseAll s).1, GD d) ∧ (prF (parseAll s).1).length ≤ 3 * s.length + 2 := by
  obtain ⟨h1, h2⟩ := parse_gd (toks s).length (toks s) (toks_oks s)
  exact ⟨h1, Nat.le_trans h2 (wt_toks s)⟩
theorem toks_z (l : Bs) : (toks l).map (Tk.pl Zr) = tz l ++ [⟨6, 0, []⟩] := by
  rw [toks_tk, List.map_append]; rfl
/-- Declarations' texts are told so, but for places, and nothing is told. -/
theorem text_back (l : List PD) (h : ∀ d ∈ l, GD d) : (parseAll (prF l)).2 = [] ∧ (parseAll (prF l)).1.map (PD.pl Zr) = l.map (PD.pl Zr) := by
  obtain ⟨h1, h2⟩ := lines_lz l h
  have h3 := parse_pl (φ := Zr) (toks (prF l)).length (toks (prF l)) ⟨⟨6, (prF l).length, []⟩, by simp [toks], rfl⟩
  rw [toks_z, h1] at h3
  have hlen : l.length < (toks (prF l)).length := by
    have e : (toks (prF l)).length = (l.flatMap uD ++ [(⟨6, 0, []⟩ : Tk)]).length := by rw [← h1, ← toks_z, List.length_map]
    rw [e]
    have : ∀ k : List PD, (∀ d ∈ k, GD d) → k.length ≤ (k.flatMap uD).length := by
      intro k
      induction k with
      | nil => intro _; simp
      | cons d k ih =>
        intro hk
        obtain ⟨t, r, hu, -⟩ := uD_ne (hk d (by simp))
        have := ih fun x hx => hk x (by simp [hx])
        rw [List.flatMap_cons, List.length_append, List.length_cons, hu, List.length_cons]
        omega
    have := this l h
    simp only [List.length_append, List.length_cons, List.length_nil]
    omega
  rw [parse_back l _ ⟨6, 0, []⟩ h rfl hlen] at h3
  have h4 := congrArg Prod.fst h3
  have h5 := congrArg Prod.snd h3
  simp only at h4 h5
  refine ⟨?_, h4.symm⟩
  show dns (prF l) ++ _ = []
  rw [dns_td, h2, List.map_eq_nil_iff.1 h5.symm]
  rfl

/-! The text does not tell places. -/
theorem prE_pl (φ : Nat → Nat) : ∀ (N : Nat) (x : PE), szE x ≤ N → ∀ q, prE q (x.pl φ) = prE q x := by
  intro N
  induction N with
  | zero => intro x hx; have := szE_pos x; omega
  | succ N ih =>
    intro x hx q
    obtain ⟨k, a, n, m, ns, l, ts⟩ := x
    have h : ∀ q, (l.map (PE.pl φ)).map (prE q) = l.map (prE q) := fun q => by
      rw [List.map_map]
      refine List.map_congr_left fun y hy => ih y ?_ q
      obtain ⟨i, hi, rfl⟩ := List.getElem_of_mem hy
      have := szEs_get l i l[i] (List.getElem?_eq_getElem hi)
      rw [szE] at hx
      omega
    rw [pl_mk, prE_mk, prE_mk, h, h]
theorem prD_pl (φ : Nat → Nat) (d : PD) : prD (d.pl φ) = prD d := by
  have h : (d.pl φ).es.map (prE 0) = d.es.map (prE 0) := by
    show (PE.pls φ d.es).map _ = _
    rw [pls_map, List.map_map]
    exact List.map_congr_left fun y _ => prE_pl φ _ y (Nat.le_refl _) 0
  unfold prD hdD
  rw [h]
  rfl
theorem prF_eq {l m : List PD} (h : l.map (PD.pl Zr) = m.map (PD.pl Zr)) : prF l = prF m := by
  have e : ∀ l : List PD, prF l = (l.map (PD.pl Zr)).flatMap prD := fun l => by
    rw [prF, List.flatMap_map]
    congr 1
    funext d
    exact (prD_pl Zr d).symm
  rw [e, e, h]

end Go.Proofs.YthpoffklhpbdoaaGreatDoor

namespace Go.Proofs.YthpoffklhpbdoaaGreatDoor
set_option maxRecDepth 100000

def wT (l : Bs) : Option PT := wholeO (readW (typ 64) (toks l)) (dns l)
def wE (l : Bs) : Option PE := wholeO (readW (exp 64) (toks l)) (dns l)
/-- A source that is just one such thing: nothing is told, and it is read up to the end. -/
theorem whole_inv {α : Type} {f : List Tk → R α} (he : ∀ ts, Eats ts (f ts)) {l : Bs} {x : α} (h : wholeO (readW f (toks l)) (dns l) = some x) : td 0 l = [] ∧ f (toks l) = .ok x [⟨6, l.length, []⟩] [] := by
  unfold readW at h
  have he := he (toks l)
  cases hx : f (toks l) with
  | bad y r d => rw [hx] at h; simp [R.bind, wholeO] at h
  | ok y r d =>
    rw [hx] at h he
    rw [R.bind_ok] at h
    by_cases hk : (hd r).k = 6
    · rw [if_pos hk] at h
      simp only [R.tell, wholeO, List.append_nil] at h
      split at h
      next hnil =>
        cases h
        obtain ⟨h1, h2⟩ := List.append_eq_nil_iff.1 hnil
        subst h2
        refine ⟨h1, ?_⟩
        obtain ⟨p, e1, e2⟩ := he
        have e1 : toks l = p ++ r := e1
        rw [toks_tk] at e1
        have hr : r = [⟨6, l.length, []⟩] := by
          cases r with
          | nil => rw [List.append_nil] at e1; exact absurd rfl (e2 ⟨6, l.length, []⟩ (by rw [← e1]; simp)).1
          | cons t r =>
            rcases List.eq_nil_or_concat r with rfl | ⟨q, e', rfl⟩
            · have := List.append_inj' e1 rfl
              simp at this
              rw [this.2]
            · rw [List.concat_eq_append] at e1
              have e3 : tk 0 l ++ [⟨6, l.length, []⟩] = (p ++ t :: q) ++ [e'] := by rw [e1]; simp
              have := (List.append_inj' e3 rfl).1
              exact absurd hk (tk_kind l t (by rw [this]; simp))
        rw [hr]
      · cases h
    · rw [if_neg hk] at h
      simp [R.tell, wholeO] at h
theorem whole_of {α : Type} {f : List Tk → R α} {l : Bs} {x : α} (h1 : td 0 l = []) {e : Tk} (he : e.k = 6) (h2 : f (toks l) = .ok x [e] []) : wholeO (readW f (toks l)) (dns l) = some x := by
  unfold readW
  rw [h2, R.bind_ok, if_pos (show (hd [e]).k = 6 from he)]
  simp [wholeO, R.tell, dns_td, h1]
/-- A text that ends in nothing open: its tokens but for places. -/
theorem lz_end {l : Bs} {u : List Tk} (h : Lz l u) : (toks l).map (Tk.pl Zr) = u ++ [⟨6, 0, []⟩] ∧ td 0 l = [] := by
  obtain ⟨h1, h2⟩ := h.2 10 [] (by decide)
  have e1 : tz (10 :: []) = [] := by rw [tz, tk_blank (by decide), tk_nil]; rfl
  have e2 : td 0 (10 :: []) = [] := by rw [td_blank (by decide), td_nil]
  have e3 : tz (l ++ 10 :: []) = tz l := by rw [tz, tk_join, tk_nil, List.append_nil]; rfl
  have e4 : td 0 (l ++ 10 :: []) = td 0 l := by rw [td_join, td_nil, List.append_nil]
  rw [e3, e1, List.append_nil] at h1
  exact ⟨by rw [toks_z, h1], by rw [← e4]; exact h2 e2⟩
theorem en_toks (l : Bs) : En (toks l) := ⟨⟨6, l.length, []⟩, by simp [toks], rfl⟩
/-- With more depth, ahead of the end. -/
theorem typ_more {n m : Nat} {p : List Tk} {E : Tk} {x : PT} {r : List Tk} {d : List Dn} (h : typ n (p ++ [E]) = .ok x r d) (hE : E.k = 6) (hnm : n ≤ m) : typ m (p ++ [E]) = .ok x r d := by
  have hen := En.eats (x := typ n (p ++ [E])) ⟨E, by simp, hE⟩ ((lvT_eats n).1 _)
  obtain ⟨q, hq, -⟩ := (lvT_eats n).1 (p ++ [E])
  rw [h] at hen hq
  rcases List.eq_nil_or_concat r with rfl | ⟨r', E', rfl⟩
  · obtain ⟨t, ht, -⟩ := hen; cases ht
  · rw [List.concat_eq_append] at h hq ⊢
    have hq : p ++ [E] = (q ++ r') ++ [E'] := by rw [hq]; simp [R.rest]
    obtain ⟨-, e⟩ := List.append_inj' hq rfl
    cases e
    refine (lvT_lc (ts := [E]) (ts' := [E]) (by simp) (by simp) n m hnm p).1 x r' d h fun _ => ?_
    constructor <;> simp [isM, hd, hE]
theorem exp_more {n m : Nat} {p : List Tk} {E : Tk} {x : PE} {r : List Tk} {d : List Dn} (h : exp n (p ++ [E]) = .ok x r d) (hE : E.k = 6) (hnm : n ≤ m) : exp m (p ++ [E]) = .ok x r d := by
  have hen := En.eats (x := exp n (p ++ [E])) ⟨E, by simp, hE⟩ (exp_eats n _)
  obtain ⟨q, hq, -⟩ := exp_eats n (p ++ [E])
  rw [h] at hen hq
  rcases List.eq_nil_or_concat r with rfl | ⟨r', E', rfl⟩
  · obtain ⟨t, ht, -⟩ := hen; cases ht
  · rw [List.concat_eq_append] at h hq ⊢
    have hq : p ++ [E] = (q ++ r') ++ [E'] := by rw [hq]; simp [R.rest]
    obtain ⟨-, e⟩ := List.append_inj' hq rfl
    cases e
    refine exp_lc (ts := [E]) (ts' := [E]) (by simp) (by simp) n m hnm p x r' d h fun _ => ?_
    constructor <;> simp [isM, hd, hE]
/-- What is so of a type that a source is. -/
structure GT (t : PT) : Prop where
  vt : VT t
  r0 : R0 64 t
theorem wT_inv {l : Bs} {t : PT} (h : wT l = some t) : GT t ∧ (prT 0 t).length ≤ 3 * l.length + 2 := by
  obtain ⟨-, h2⟩ := whole_inv (fun ts => (lvT_eats 64).1 ts) h
  obtain ⟨a1, a2, a3, a4, -⟩ := (all_T 64).1 _ (toks_oks l) _ _ _ h2
  have := wt_toks l
  exact ⟨⟨a1, a4⟩, by omega⟩
structure GE (x : PE) : Prop where
  ve : VE x
  e0 : E0 64 x
theorem wE_inv {l : Bs} {x : PE} (h : wE l = some x) : GE x ∧ (prE 0 x).length ≤ 3 * l.length + 2 := by
  obtain ⟨-, h2⟩ := whole_inv (fun ts => exp_eats 64 ts) h
  obtain ⟨a1, a2, a3, a4, -⟩ := all_E 64 _ (toks_oks l) _ _ _ h2
  have := wt_toks l
  exact ⟨⟨a1, a4⟩, by omega⟩
/-- What is read of the tokens but for their places. -/
theorem typ_z {l : Bs} {u : List Tk} (hu : (toks l).map (Tk.pl Zr) = u) {t : PT} {r : List Tk} {d : List Dn} (h : typ 64 (toks l) = .ok t r d) : typ 64 u = .ok t (r.map (Tk.pl Zr)) (d.map (Dn.pl Zr)) := by
  rw [← hu, (lvT_pl (φ := Zr) 64).1 _ (en_toks l), h]; rfl
theorem typ_z' {l : Bs} {u : List Tk} (hu : (toks l).map (Tk.pl Zr) = u) {t : PT} {r : List Tk} (h : typ 64 u = .ok t r []) : ∃ r', typ 64 (toks l) = .ok t r' [] ∧ r'.map (Tk.pl Zr) = r := by
  rw [← hu, (lvT_pl (φ := Zr) 64).1 _ (en_toks l)] at h
  cases hx : typ 64 (toks l) with
  | bad y r' d => rw [hx] at h; cases h
  | ok x r' d =>
    rw [hx] at h
    injection h with h1 h2 h3
    rw [List.map_eq_nil_iff.1 h3]
    exact ⟨r', by rw [← h1]; rfl, h2⟩
theorem exp_z {l : Bs} {u : List Tk} (hu : (toks l).map (Tk.pl Zr) = u) {t : PE} {r : List Tk} {d : List Dn} (h : exp 64 (toks l) = .ok t r d) : exp 64 u = .ok (t.pl Zr) (r.map (Tk.pl Zr)) (d.map (Dn.pl Zr)) := by
  rw [← hu, exp_pl (φ := Zr) 64 _ (en_toks l), h]; rfl
theorem exp_z' {l : Bs} {u : List Tk} (hu : (toks l).map (Tk.pl Zr) = u) {t : PE} {r : List Tk} (h : exp 64 u = .ok t r []) : ∃ t' r', exp 64 (toks l) = .ok t' r' [] ∧ t'.pl Zr = t ∧ r'.map (Tk.pl Zr) = r := by
  rw [← hu, exp_pl (φ := Zr) 64 _ (en_toks l)] at h
  cases hx : exp 64 (toks l) with
  | bad y r' d => rw [hx] at h; cases h
  | ok x r' d =>
    rw [hx] at h
    injection h with h1 h2 h3
    rw [List.map_eq_nil_iff.1 h3]
    exact ⟨x, r', rfl, h1, h2⟩
theorem one_6 {r : List Tk} (h : r.map (Tk.pl Zr) = [⟨6, 0, []⟩]) : ∃ e : Tk, r = [e] ∧ e.k = 6 := by
  cases r with
  | nil => cases h
  | cons t r =>
    simp only [List.map_cons, List.cons.injEq, List.map_eq_nil_iff] at h
    obtain ⟨h1, rfl⟩ := h
    exact ⟨t, rfl, congrArg Tk.k h1⟩
/-- A type's text is it. -/
theorem text_T {t : PT} (h : GT t) : wT (prT 0 t) = some t := by
  obtain ⟨h1, h2⟩ := lz_end (lz_T h.vt 0)
  obtain ⟨r', e1, e2⟩ := typ_z' h1 (h.r0 64 (Nat.le_refl _) [⟨6, 0, []⟩] rfl rfl)
  obtain ⟨e, rfl, he⟩ := one_6 e2
  exact whole_of h2 he e1
/-- An expression's text is it, but for places. -/
theorem text_E {x : PE} (h : GE x) : ∃ y, wE (prE 0 x) = some y ∧ y.pl Zr = x.pl Zr := by
  obtain ⟨h1, h2⟩ := lz_end (lz_E h.ve 0)
  obtain ⟨y, r', e1, e3, e2⟩ := exp_z' h1 (h.e0 64 (Nat.le_refl _) [⟨6, 0, []⟩] ⟨rfl, rfl⟩)
  obtain ⟨e, rfl, he⟩ := one_6 e2
  exact ⟨y, whole_of h2 he e1, e3⟩
theorem prE_z {x y : PE} (h : y.pl Zr = x.pl Zr) (q : Nat) : prE q y = prE q x := by
  rw [← prE_pl Zr _ y (Nat.le_refl _) q, h, prE_pl Zr _ x (Nat.le_refl _) q]

/-! Within others. -/
/-- Read with less depth, it is the same. -/
theorem r0_less {t : PT} (h : R0 64 t) {m : Nat} (hm : m ≤ 64) {p : List Tk} (h1 : isM [45, 62] (p ++ [⟨6, 0, []⟩]) = false) (h2 : isM [124] (p ++ [⟨6, 0, []⟩]) = false) {x : PT} {r : List Tk} {d : List Dn} (hx : typ m (uT 0 t ++ (p ++ [⟨6, 0, []⟩])) = .ok x r d) : x = t ∧ r = p ++ [⟨6, 0, []⟩] ∧ d = [] := by
  rw [← List.append_assoc] at hx
  have h3 := typ_more hx rfl hm
  have h4 := h 64 (Nat.le_refl _) (p ++ [⟨6, 0, []⟩]) h1 h2
  rw [List.append_assoc, h4] at h3
  injection h3 with h5 h6 h7
  exact ⟨h5.symm, h6.symm, h7.symm⟩
theorem e0_less {t : PE} (h : E0 64 t) {m : Nat} (hm : m ≤ 64) {p : List Tk} (h1 : Stp (p ++ [⟨6, 0, []⟩])) {x : PE} {r : List Tk} {d : List Dn} (hx : exp m (uE 0 t ++ (p ++ [⟨6, 0, []⟩])) = .ok x r d) : x = t.pl Zr ∧ r = p ++ [⟨6, 0, []⟩] ∧ d = [] := by
  rw [← List.append_assoc] at hx
  have h3 := exp_more hx rfl hm
  have h4 := h 64 (Nat.le_refl _) (p ++ [⟨6, 0, []⟩]) h1
  rw [List.append_assoc, h4] at h3
  injection h3 with h5 h6 h7
  exact ⟨h5.symm, h6.symm, h7.symm⟩
theorem nm_k : NmB [107] := ⟨⟨107, [], rfl, by decide⟩, by decide, by decide⟩
/-- "{k: T}" -/
theorem in_rec {t : PT} (h : GT t) {a : PT} (ha : wT ([123, 107, 58, 32] ++ (prT 0 t ++ [125])) = some a) : a = .mk 5 [] [[107]] [t] := by
  have hl : Lz ([123, 107, 58, 32] ++ (prT 0 t ++ [125])) (sK [123] :: nK [107] :: sK [58] :: (uT 0 t ++ [sK [125]])) :=
    .sg (by decide) (.cut (l := [107]) (u := [nK [107]]) (lz_name nm_k) (by decide) (.sg (by decide) (.bl (.cut (lz_T h.vt 0) (by decide) (.sg (by decide) .nil)))))
  obtain ⟨h1, -⟩ := lz_end hl
  obtain ⟨-, h2⟩ := whole_inv (fun ts => (lvT_eats 64).1 ts) ha
  have h3 := typ_z h1 h2
  simp only [List.cons_append, List.append_assoc, List.nil_append] at h3
  have e : ∀ Z, typ 64 (sK [123] :: nK [107] :: sK [58] :: Z) = (((((fieldsP [58] (typ 63) (Z.length + 1 + 1) [] [] (nK [107] :: sK [58] :: Z)).bind fun fs r => .ok (recT fs) r []) : R PT).bind fun t r => if isM [45, 62] r then (arr 63 r.tail).bind fun u r => .ok (.mk 6 [] [] [t, u]) r [] else .ok t r []).bind fun t r => (unionP (arr 64) r.length [t] r).bind fun l r => .ok (joinT l) r []) := fun Z => rfl
  rw [e] at h3
  obtain ⟨t1, r1, d1, d1', h3, k1⟩ := R.bind_ok_inv h3
  obtain ⟨t2, r2, d2, d2', h3, k2⟩ := R.bind_ok_inv h3
  obtain ⟨fs, r3, d3, d3', h3, k3⟩ := R.bind_ok_inv h3
  rw [fieldsP, name_n, R.bind_ok] at h3
  obtain ⟨d4, h3⟩ := R.tell_ok_inv h3
  rw [want_s, R.bind_ok] at h3
  obtain ⟨d5, h3⟩ := R.tell_ok_inv h3
  obtain ⟨d6, h3⟩ := R.tell_ok_inv h3
  obtain ⟨v, r4, d7, d8, h4, h3⟩ := R.bind_ok_inv h3
  obtain ⟨rfl, rfl, rfl⟩ := r0_less (p := [sK [125]]) h.r0 (by decide) rfl rfl h4
  have i1 : isM [44] ([sK [125]] ++ [(⟨6, 0, []⟩ : Tk)]) = false := rfl
  rw [i1, if_neg (by decide)] at h3
  have i2 : want [125] ([sK [125]] ++ [(⟨6, 0, []⟩ : Tk)]) = .ok () [⟨6, 0, []⟩] [] := want_s _ _
  rw [i2, R.bind_ok, R.tell_nil] at h3
  have i3 : ¬ (nK [107]).t ∈ ([] : List Bs) := by simp
  rw [if_neg i3] at h3
  cases h3
  cases k3
  have i4 : isM [45, 62] [(⟨6, 0, []⟩ : Tk)] = false := rfl
  rw [i4, if_neg (by decide)] at k2
  cases k2
  have i5 : ∀ X, unionP (arr 64) [(⟨6, 0, []⟩ : Tk)].length [X] [⟨6, 0, []⟩] = .ok [X] [⟨6, 0, []⟩] [] := fun _ => rfl
  rw [i5, R.bind_ok] at k1
  cases k1
  rfl
/-- "(T) -> int" -/
theorem in_fun {t : PT} (h : GT t) {a : PT} (ha : wT (40 :: (prT 0 t ++ [41, 32, 45, 62, 32, 105, 110, 116])) = some a) : a = .mk 6 [] [] [t, tInt] := by
  have hl : Lz (40 :: (prT 0 t ++ [41, 32, 45, 62, 32, 105, 110, 116])) (sK [40] :: (uT 0 t ++ [sK [41], sK [45, 62], wK [105, 110, 116]])) :=
    .sg (by decide) (.cut (lz_T h.vt 0) (by decide) (.sg (by decide) (.bl (.arrow (.bl lw_int)))))
  obtain ⟨h1, -⟩ := lz_end hl
  obtain ⟨-, h2⟩ := whole_inv (fun ts => (lvT_eats 64).1 ts) ha
  have h3 := typ_z h1 h2
  simp only [List.cons_append, List.append_assoc, List.nil_append] at h3
  have e : ∀ Z, typ 64 (sK [40] :: Z) = (((typ 63 Z).bind fun t r => (want [41] r).bind fun _ r => .ok t r []).bind fun t r => if isM [45, 62] r then (arr 63 r.tail).bind fun u r => .ok (.mk 6 [] [] [t, u]) r [] else .ok t r []).bind fun t r => (unionP (arr 64) r.length [t] r).bind fun l r => .ok (joinT l) r [] := fun Z => rfl
  rw [e] at h3
  obtain ⟨t1, r1, d1, d1', h3, k1⟩ := R.bind_ok_inv h3
  obtain ⟨t2, r2, d2, d2', h3, k2⟩ := R.bind_ok_inv h3
  obtain ⟨v, r3, d3, d3', h4, k3⟩ := R.bind_ok_inv h3
  obtain ⟨rfl, rfl, rfl⟩ := r0_less (p := [sK [41], sK [45, 62], wK [105, 110, 116]]) h.r0 (by decide) rfl rfl h4
  have i2 : want [41] ([sK [41], sK [45, 62], wK [105, 110, 116]] ++ [(⟨6, 0, []⟩ : Tk)]) = .ok () [sK [45, 62], wK [105, 110, 116], ⟨6, 0, []⟩] [] := want_s _ _
  rw [i2, R.bind_ok, R.tell_nil] at k3
  cases k3
  have i4 : isM [45, 62] [sK [45, 62], wK [105, 110, 116], (⟨6, 0, []⟩ : Tk)] = true := isM_s _ _
  have i5 : arr 63 [sK [45, 62], wK [105, 110, 116], (⟨6, 0, []⟩ : Tk)].tail = .ok tInt [⟨6, 0, []⟩] [] := rfl
  rw [i4, if_pos rfl, i5, R.bind_ok, R.tell_nil] at k2
  cases k2
  have i6 : ∀ X, unionP (arr 64) [(⟨6, 0, []⟩ : Tk)].length [X] [⟨6, 0, []⟩] = .ok [X] [⟨6, 0, []⟩] [] := fun _ => rfl
  rw [i6, R.bind_ok] at k1
  cases k1
  rfl
/-- "{k = A}" -/
theorem srcR_lz {x : PE} (h : GE x) : Lz ([123, 107, 32, 61, 32] ++ (prE 0 x ++ [125])) (sK [123] :: nK [107] :: sK [61] :: (uE 0 x ++ [sK [125]])) :=
  .sg (by decide) (.cut (l := [107]) (u := [nK [107]]) (lz_name nm_k) (by decide) (.bl (.sg (by decide) (.bl (.cut (lz_E h.ve 0) (by decide) (.sg (by decide) .nil))))))
theorem exp_r (Z : List Tk) : exp 64 (sK [123] :: nK [107] :: sK [61] :: Z) = ((fieldsP [61] (exp 63) (Z.length + 1 + 1) [] [] (nK [107] :: sK [61] :: Z)).bind fun fs r => .ok (recE 0 fs) r []).bind fun e r => callP (exp 63) r.length e r := rfl
theorem in_recE {x : PE} (h : GE x) {y : PE} (ha : wE ([123, 107, 32, 61, 32] ++ (prE 0 x ++ [125])) = some y) : y.pl Zr = .mk 5 0 [] 0 [[107]] [x.pl Zr] [] := by
  obtain ⟨h1, -⟩ := lz_end (srcR_lz h)
  obtain ⟨-, h2⟩ := whole_inv (fun ts => exp_eats 64 ts) ha
  have h3 := exp_z h1 h2
  simp only [List.cons_append, List.append_assoc, List.nil_append] at h3
  rw [exp_r] at h3
  obtain ⟨t1, r1, d1, d1', h3, k1⟩ := R.bind_ok_inv h3
  obtain ⟨fs, r3, d3, d3', h3, k3⟩ := R.bind_ok_inv h3
  rw [fieldsP, name_n, R.bind_ok] at h3
  obtain ⟨d4, h3⟩ := R.tell_ok_inv h3
  rw [want_s, R.bind_ok] at h3
  obtain ⟨d5, h3⟩ := R.tell_ok_inv h3
  obtain ⟨d6, h3⟩ := R.tell_ok_inv h3
  obtain ⟨v, r4, d7, d8, h4, h3⟩ := R.bind_ok_inv h3
  obtain ⟨rfl, rfl, rfl⟩ := e0_less (p := [sK [125]]) h.e0 (by decide) ⟨rfl, rfl⟩ h4
  have i1 : isM [44] ([sK [125]] ++ [(⟨6, 0, []⟩ : Tk)]) = false := rfl
  rw [i1, if_neg (by decide)] at h3
  have i2 : want [125] ([sK [125]] ++ [(⟨6, 0, []⟩ : Tk)]) = .ok () [⟨6, 0, []⟩] [] := want_s _ _
  rw [i2, R.bind_ok, R.tell_nil] at h3
  have i3 : ¬ (nK [107]).t ∈ ([] : List Bs) := by simp
  rw [if_neg i3] at h3
  cases h3
  cases k3
  rw [call_stp ⟨rfl, rfl⟩] at k1
  injection k1 with k2
  rw [← k2]
  rfl
/-- "(A).k" -/
theorem in_field {x : PE} (h : GE x) {z : PE} (ha : wE (40 :: (prE 0 x ++ [41, 46, 107])) = some z) : z.pl Zr = .mk 6 0 [107] 0 [] [x.pl Zr] [] ∧ ∃ y, wE ([123, 107, 32, 61, 32] ++ (prE 0 x ++ [125])) = some y := by
  have hl : Lz (40 :: (prE 0 x ++ [41, 46, 107])) (sK [40] :: (uE 0 x ++ [sK [41], sK [46], nK [107]])) :=
    .sg (by decide) (.cut (lz_E h.ve 0) (by decide) (.sg (by decide) (.sg (by decide) (lz_name nm_k))))
  obtain ⟨h1, -⟩ := lz_end hl
  obtain ⟨-, h2⟩ := whole_inv (fun ts => exp_eats 64 ts) ha
  have h3 := exp_z h1 h2
  simp only [List.cons_append, List.append_assoc, List.nil_append] at h3
  have e : ∀ Z, exp 64 (sK [40] :: Z) = ((exp 63 Z).bind fun e r => if isM [58] r then (typ 63 r.tail).bind fun t r => (want [41] r).bind fun _ r => .ok (.mk 11 0 [] 0 [] [e] [t]) r [] else (want [41] r).bind fun _ r => .ok e r []).bind fun e r => callP (exp 63) r.length e r := fun Z => rfl
  rw [e] at h3
  obtain ⟨t1, r1, d1, d1', h3, k1⟩ := R.bind_ok_inv h3
  obtain ⟨v, r3, d3, d3', h4, k3⟩ := R.bind_ok_inv h3
  obtain ⟨rfl, rfl, rfl⟩ := e0_less (p := [sK [41], sK [46], nK [107]]) h.e0 (by decide) ⟨rfl, rfl⟩ h4
  have i1 : isM [58] ([sK [41], sK [46], nK [107]] ++ [(⟨6, 0, []⟩ : Tk)]) = false := rfl
  have i2 : want [41] ([sK [41], sK [46], nK [107]] ++ [(⟨6, 0, []⟩ : Tk)]) = .ok () [sK [46], nK [107], ⟨6, 0, []⟩] [] := want_s _ _
  rw [i1, if_neg (by decide), i2, R.bind_ok, R.tell_nil] at k3
  cases k3
  have i3 : callP (exp 63) [sK [46], nK [107], (⟨6, 0, []⟩ : Tk)].length (x.pl Zr) [sK [46], nK [107], ⟨6, 0, []⟩] = .ok (.mk 6 0 [107] 0 [] [x.pl Zr] []) [⟨6, 0, []⟩] [] := rfl
  rw [i3] at k1
  injection k1 with k2
  refine ⟨k2.symm, ?_⟩
  -- what follows plays no part: it is read so in the record too
  have h5 := exp_lc (ts := [sK [41], sK [46], nK [107], ⟨6, 0, []⟩]) (ts' := [sK [125], ⟨6, 0, []⟩]) (by simp) (by simp) 63 63 (Nat.le_refl _) (uE 0 x) (x.pl Zr) [] [] h4 (fun _ => ⟨rfl, rfl⟩)
  obtain ⟨g1, g2⟩ := lz_end (srcR_lz h)
  have h6 : exp 64 ((sK [123] :: nK [107] :: sK [61] :: (uE 0 x ++ [sK [125]])) ++ [⟨6, 0, []⟩]) = .ok (recE 0 [([107], x.pl Zr)]) [⟨6, 0, []⟩] [] := by
    simp only [List.cons_append, List.append_assoc, List.nil_append] at h5 ⊢
    rw [exp_r, fieldsP, name_n, R.bind_ok, want_s, R.bind_ok, h5]
    have i1 : isM [44] (sK [125] :: [(⟨6, 0, []⟩ : Tk)]) = false := rfl
    have i3 : ¬ (nK [107]).t ∈ ([] : List Bs) := by simp
    simp only [R.bind_ok, i1, want_s, if_neg i3, R.tell_nil, Bool.false_eq_true, if_false]
    rw [call_stp ⟨rfl, rfl⟩]
    rfl
  obtain ⟨y, r', e1, e3, e2⟩ := exp_z' g1 h6
  obtain ⟨e, rfl, he⟩ := one_6 e2
  exact ⟨y, whole_of g2 he e1⟩

/-! One line. -/
theorem line_text {d : PD} (h : GD d) : prD d = (hdD d ++ [59]) ++ [10] ∧ 5 ≤ (hdD d ++ [59]).length ∧ ∀ c ∈ hdD d ++ [59], c ≠ 10 := by
  refine ⟨by rw [prD_is h]; simp, ?_, h.lz.1⟩
  obtain ⟨⟨c, r, e, -⟩, -⟩ := h.name
  rcases h.kind with k | k | k
  · rw [hdD, if_pos k, e]; simp
  · rw [hdD, if_neg (by omega), if_pos k, e]; simp
  · rw [hdD, if_neg (by omega), if_neg (by omega), if_pos k, e]; simp
/-- A declaration's line is told as just it, and its name stands behind the word. -/
theorem line_back {d : PD} (h : GD d) : ∃ m, parseAll (prD d) = ([m], []) ∧ m.pl Zr = d.pl Zr ∧ m.k = d.k ∧ (d.k = 2 → m.a = 5) ∧ (d.k ≠ 2 → m.a = 4) := by
  have hp : prF [d] = prD d := by simp [prF]
  obtain ⟨h1, h2⟩ := text_back [d] (by simpa using h)
  rw [hp] at h1 h2
  cases hm : (parseAll (prD d)).1 with
  | nil => rw [hm] at h2; cases h2
  | cons m r =>
    rw [hm] at h2
    simp only [List.map_cons, List.map_nil, List.cons.injEq, List.map_eq_nil_iff] at h2
    obtain ⟨h2, rfl⟩ := h2
    have hk : m.k = d.k := by
      have := congrArg PD.k h2
      exact this
    refine ⟨m, Prod.ext hm h1, h2, hk, ?_⟩
    -- the place of the name
    have hw : ∀ (w : Bs) (rest : Bs), isWordB w = true → prD d = w ++ 32 :: (d.n ++ 32 :: rest) ∨ prD d = w ++ 32 :: (d.n ++ 59 :: rest) → ∃ t1 r1, toks (prD d) = ⟨2, 0, w⟩ :: t1 :: r1 ∧ t1.a = w.length + 1 := by
      intro w rest hw hd
      have lw := lz_word w hw
      obtain ⟨⟨c, nr, en, hc⟩, ha, -⟩ := h.name
      have hpart : ∃ c b, brk c = true ∧ prD d = w ++ 32 :: (d.n ++ c :: b) := by
        rcases hd with hd | hd
        · exact ⟨32, rest, by decide, hd⟩
        · exact ⟨59, rest, by decide, hd⟩
      obtain ⟨c', b', hc', hd'⟩ := hpart
      have hcl : Cl w := cl_plain w.length w (Nat.le_refl _) (fun x hx => by
        have h1 : w ∈ words := by simpa [isWordB] using hw
        have h2 : ∀ w ∈ words, ∀ x ∈ w, x ≠ 35 ∧ x ≠ 34 := by decide
        exact h2 w h1 x hx)
      have t0 : tk 0 w = [⟨2, 0, w⟩] := by
        have h1 : w ∈ words := by simpa [isWordB] using hw
        have h3 : tz w = [wK w] := by
          have := (lz_end lw).1
          rw [toks_z] at this
          exact (List.append_inj' this rfl).1
        have hne : w ≠ [] := by rintro rfl; exact absurd h1 (by decide)
        cases hw0 : tk 0 w with
        | nil => rw [tz, hw0] at h3; cases h3
        | cons t tr =>
          rw [tz, hw0] at h3
          simp only [List.map_cons, List.cons.injEq, List.map_eq_nil_iff] at h3
          obtain ⟨h3, rfl⟩ := h3
          have ha0 : t.a = 0 := by
            have : tk 0 w = toksOf (pieces 0 w) := rfl
            rw [hw0] at this
            have hs : ∀ w ∈ words, isBlank (w.headD 0) = false ∧ w.headD 0 ≠ 35 ∧ isStart (w.headD 0) = true := by decide
            cases w with
            | nil => exact absurd rfl hne
            | cons x xs =>
              obtain ⟨b1, b2, b3⟩ := hs _ h1
              have b1 : isBlank x = false := b1
              have b2 : x ≠ 35 := b2
              rw [pieces_piece 0 (x :: xs) (by simp) (stepOf_piece x xs b1 b2), toksOf_cons] at this
              have hk0 : (stepOf (x :: xs)).k ≠ 0 := by
                have b3 : isStart x = true := b3
                simp only [stepOf, b1, b2, b3, if_true, if_false, Bool.false_eq_true]
                unfold wordKind; split <;> decide
              rw [if_neg hk0] at this
              injection this with this
              rw [this]
          have e1 : t.k = 2 := congrArg Tk.k h3
          have e2 : t.t = w := congrArg Tk.t h3
          cases t
          simp only at e1 e2 ha0
          rw [e1, e2, ha0]
      have t1 : tk 0 (prD d) = [⟨2, 0, w⟩] ++ tk (w.length + 1) (d.n ++ c' :: b') := by
        rw [hd', tk_cut hcl (by decide), t0, tk_blank (by decide), Nat.zero_add]
      have hx : ∃ s, tk (w.length + 1) (d.n ++ c' :: b') = ⟨1, w.length + 1, d.n⟩ :: s := by
        have lz := lz_name h.name
        obtain ⟨n1, n2⟩ := start_nb c hc
        have hp : isPart c' = false := by simp only [brk, Bool.and_eq_true, Bool.not_eq_true'] at hc'; exact hc'.1
        have e := (spanLen_join hp b' d.n).trans (spanLen_whole d.n ha)
        have e2 : (d.n ++ c' :: b').take d.n.length = d.n := List.take_left
        have e3 : stepOf (d.n ++ c' :: b') = ⟨d.n.length, 1, d.n, 0⟩ := by
          have e4 : stepOf (c :: (nr ++ c' :: b')) = ⟨spanLen isPart (d.n ++ c' :: b'), wordKind ((d.n ++ c' :: b').take (spanLen isPart (d.n ++ c' :: b'))), (d.n ++ c' :: b').take (spanLen isPart (d.n ++ c' :: b')), 0⟩ := by
            rw [en]; simp only [List.cons_append, stepOf, n1, n2, hc, if_true, if_false, Bool.false_eq_true]
          rw [e, e2] at e4
          have e5 : wordKind d.n = 1 := by unfold wordKind; rw [h.name.2.2]; rfl
          rw [e5] at e4
          conv => lhs; rw [en, List.cons_append]
          exact e4
        refine ⟨tk (w.length + 1 + d.n.length) (c' :: b'), ?_⟩
        have hne : d.n ++ c' :: b' ≠ [] := by simp
        rw [tk, pieces_piece _ _ hne (by rw [e3]; exact .inl (show (1 : Nat) ≠ 0 by decide)), e3, toksOf_cons, if_neg (show ¬ (1 : Nat) = 0 by decide)]
        simp only [List.singleton_append, List.drop_left]
        rfl
      obtain ⟨s, hs⟩ := hx
      exact ⟨⟨1, w.length + 1, d.n⟩, s ++ [⟨6, (prD d).length, []⟩], by rw [toks_tk, t1, hs]; rfl, rfl⟩
    have hname : ∀ (w : Bs) (t1 : Tk) (r1 : List Tk), toks (prD d) = ⟨2, 0, w⟩ :: t1 :: r1 → m.a = t1.a := by
      intro w t1 r1 ht
      have hall : parseAll (prD d) = ([m], []) := Prod.ext hm h1
      have h3 : (parseP (toks (prD d)).length (toks (prD d))).1 = [m] := congrArg Prod.fst hall
      rw [ht, List.length_cons, parse_step (by show (2 : Nat) ≠ 6; decide)] at h3
      cases hdp : declP (⟨2, 0, w⟩ :: t1 :: r1) with
      | bad y r' e' =>
        -- then nothing at all of that is told to be wrong, but something is
        have h4 : (parseP (toks (prD d)).length (toks (prD d))).2 = [] := by
          have := congrArg Prod.snd hall
          simp only [parseAll] at this
          exact (List.append_eq_nil_iff.1 this).2
        rw [ht, List.length_cons, parse_step (by show (2 : Nat) ≠ 6; decide), hdp] at h4
        simp at h4
      | ok dd r' e' =>
        rw [hdp] at h3
        simp only [List.cons.injEq] at h3
        rw [← h3.1]
        -- the name is the second token
        have hn : ∀ ts : List Tk, ts.tail = t1 :: r1 → declP ts = .ok dd r' e' → dd.a = t1.a := by
          intro ts htl h
          have hwn : ∀ (a : Tk) (r : List Tk) (d0 : List Dn), wantName (t1 :: r1) = .ok a r d0 → a = t1 := by
            intro a r d0 h
            unfold wantName at h
            split at h
            · cases h; rfl
            · cases h
          unfold declP at h
          rw [htl] at h
          split at h
          · obtain ⟨nm, r2, _, _, e1, h⟩ := R.bind_ok_inv h
            obtain ⟨_, r3, _, _, e2, h⟩ := R.bind_ok_inv h
            cases h
            rw [hwn _ _ _ e1]
          split at h
          · obtain ⟨nm, r2, _, _, e1, h⟩ := R.bind_ok_inv h
            obtain ⟨_, r3, _, _, e2, h⟩ := R.bind_ok_inv h
            obtain ⟨_, r4, _, _, e3, h⟩ := R.bind_ok_inv h
            obtain ⟨_, r5, _, _, e4, h⟩ := R.bind_ok_inv h
            cases h
            rw [hwn _ _ _ e1]
          · obtain ⟨_, r0, _, _, e0, h⟩ := R.bind_ok_inv h
            have hr0 : r0 = t1 :: r1 := by
              unfold want at e0
              split at e0
              · cases e0; exact htl
              · cases e0
            rw [hr0] at h
            obtain ⟨nm, r2, _, _, e1, h⟩ := R.bind_ok_inv h
            split at h
            · obtain ⟨_, r3, _, _, e2, h⟩ := R.bind_ok_inv h
              obtain ⟨_, r4, _, _, e3, h⟩ := R.bind_ok_inv h
              obtain ⟨_, r5, _, _, e4, h⟩ := R.bind_ok_inv h
              obtain ⟨_, r6, _, _, e5, h⟩ := R.bind_ok_inv h
              cases h
              rw [hwn _ _ _ e1]
            · obtain ⟨_, r3, _, _, e2, h⟩ := R.bind_ok_inv h
              obtain ⟨_, r4, _, _, e3, h⟩ := R.bind_ok_inv h
              obtain ⟨_, r5, _, _, e4, h⟩ := R.bind_ok_inv h
              cases h
              rw [hwn _ _ _ e1]
        exact hn _ rfl hdp
    rcases h.kind with k | k | k
    · refine ⟨fun e => by omega, fun _ => ?_⟩
      obtain ⟨t1, r1, e1, e2⟩ := hw [117, 115, 101] [10] (by decide) (.inr (by rw [prD_is h, hdD, if_pos k]; simp))
      rw [hname _ _ _ e1, e2]; rfl
    · refine ⟨fun _ => ?_, fun e => absurd k e⟩
      obtain ⟨t1, r1, e1, e2⟩ := hw [116, 121, 112, 101] _ (by decide) (.inl (by rw [prD_is h, hdD, if_neg (by omega), if_pos k]; simp; rfl))
      rw [hname _ _ _ e1, e2]; rfl
    · refine ⟨fun e => by omega, fun _ => ?_⟩
      have : ∃ rest, hdD d ++ [59, 10] = [108, 101, 116] ++ 32 :: (d.n ++ 32 :: rest) := by
        rw [hdD, if_neg (by omega), if_neg (by omega), if_pos k]
        by_cases ht : d.ts = []
        · rw [if_pos ht]; exact ⟨_, by simp; rfl⟩
        · rw [if_neg ht]; exact ⟨_, by simp; rfl⟩
      obtain ⟨rest, hr⟩ := this
      obtain ⟨t1, r1, e1, e2⟩ := hw [108, 101, 116] rest (by decide) (.inl (by rw [prD_is h, hr]))
      rw [hname _ _ _ e1, e2]; rfl
theorem prF_append (l m : List PD) : prF (l ++ m) = prF l ++ prF m := by simp [prF]

end Go.Proofs.YthpoffklhpbdoaaGreatDoor

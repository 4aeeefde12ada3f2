/-
  An expression put into another one, by reckoning: in marks, a record, a call, a fun, a let, an if, an ascription. No walk.
  What becomes of an expression put into another one. No walk.
  The function that ParseKinds asks whether two expressions are the same: of two that are alike but for places.
  The walk of ParseKinds: seven readings, and what becomes of the one in the other six.
-/
import Derived.Test.YthpoffklhpbdoaaGreatDoorJoinsA
import Derived.Test.YthpoffklhpbdoaaGreatDoorAlv
import Derived.Test.YthpoffklhpbdoaaGreatDoorArrow
namespace Go.Proofs.YthpoffklhpbdoaaGreatDoor
set_option maxRecDepth 100000

/-- A source that is just one expression. -/
def whE (l : Bs) : Option PE := wholeO (readW (exp 64) (toks l)) (dns l)
/-- No call and no field follow. -/
def Stop (r : List Tk) : Prop := isM [40] r = false ∧ isM [46] r = false
theorem whE_of {l : Bs} {x : PE} {r : List Tk} (hd0 : dns l = []) (h : exp 64 (toks l) = .ok x r []) (hk : (hd r).k = 6) : whE l = some x := by
  unfold whE readW
  rw [h, R.bind_ok, if_pos hk]
  simp [wholeO, R.tell, hd0]
theorem whE_inv {l : Bs} {x : PE} (h : whE l = some x) : dns l = [] ∧ exp 64 (tk 0 l ++ [⟨6, l.length, []⟩]) = .ok x [⟨6, l.length, []⟩] [] := by
  unfold whE readW at h
  have he := exp_eats 64 (toks l)
  cases hx : exp 64 (toks l) with
  | bad y r d => rw [hx] at h; simp [R.bind, wholeO] at h
  | ok y r d =>
    rw [hx] at h he
    rw [R.bind_ok] at h
    by_cases hk : (hd r).k = 6
    · rw [if_pos hk] at h
      simp only [R.tell, wholeO, List.append_nil] at h
      split at h
      next hnil =>
        cases h
        obtain ⟨h1, h2⟩ := List.append_eq_nil_iff.1 hnil
        subst h2
        refine ⟨h1, ?_⟩
        obtain ⟨p, e1, e2⟩ := he
        have e1 : toks l = p ++ r := e1
        rw [toks_tk] at e1 hx
        -- the end is the last, and the first of r
        have hr : r = [⟨6, l.length, []⟩] := by
          cases r with
          | nil => rw [List.append_nil] at e1; exact absurd rfl (e2 ⟨6, l.length, []⟩ (by rw [← e1]; simp)).1
          | cons t r =>
            rcases List.eq_nil_or_concat r with rfl | ⟨q, e', rfl⟩
            · have := List.append_inj' e1 rfl
              simp at this
              rw [this.2]
            · rw [List.concat_eq_append] at e1
              have e3 : tk 0 l ++ [⟨6, l.length, []⟩] = (p ++ t :: q) ++ [e'] := by rw [e1]; simp
              have := (List.append_inj' e3 rfl).1
              exact absurd hk (tk_kind l t (by rw [this]; simp))
        subst hr
        exact hx
      · cases h
    · rw [if_neg hk] at h
      simp [R.tell, wholeO] at h

/-- With more depth, at another place, and ahead of what does not go on with it. -/
theorem exp_move {n m : Nat} {s : Bs} {x : PE} {e : Tk} (h : exp n (tk 0 s ++ [e]) = .ok x [e] []) (he : e.k = 6) (hnm : n ≤ m) (a : Nat) {ts : List Tk} (hts : ts ≠ []) (hs : Stop ts) : exp m (tk a s ++ ts) = .ok (x.pl (· + a)) ts [] := by
  have h1 := exp_pl (φ := (· + a)) n (tk 0 s ++ [e]) ⟨e, by simp, he⟩
  rw [h, List.map_append, ← tk_up, Nat.zero_add] at h1
  have h2 := exp_lc (ts := [e.pl (· + a)]) (ts' := ts) (by simp) hts n m hnm (tk a s) (x.pl (· + a)) [] [] h1 (fun _ => hs)
  exact h2
theorem R.bind_inv {α β : Type} {x : R α} {f : α → List Tk → R β} {b : β} {r : List Tk} (h : x.bind f = .ok b r []) : ∃ a r', x = .ok a r' [] ∧ f a r' = .ok b r [] := by
  cases x with
  | bad y r' d => cases h
  | ok a r' d =>
    rw [R.bind_ok] at h
    cases hf : f a r' with
    | bad y r2 d2 => rw [hf] at h; cases h
    | ok b2 r2 d2 =>
      rw [hf] at h
      injection h with h1 h2 h3
      obtain ⟨rfl, rfl⟩ := List.append_eq_nil_iff.1 h3
      subst h1 h2
      exact ⟨a, r', rfl, hf⟩
theorem call_stop {ex : List Tk → R PE} {n : Nat} {e : PE} {r : List Tk} (h : Stop r) : callP ex n e r = .ok e r [] := by
  cases n with
  | zero => rfl
  | succ n => rw [callP, h.1, h.2]; rfl
/-- In marks. -/
theorem basic_par {n a c : Nat} {Z R0 : List Tk} {e : PE} (h : exp n Z = .ok e (⟨5, c, [41]⟩ :: R0) []) : basicP (typ n) (exp n) (⟨5, a, [40]⟩ :: Z) = .ok e R0 [] := by
  have h1 : basicP (typ n) (exp n) (⟨5, a, [40]⟩ :: Z) = (exp n Z).bind fun e r => if isM [58] r then (typ n r.tail).bind fun t r => (want [41] r).bind fun _ r => .ok (.mk 11 a [] 0 [] [e] [t]) r [] else (want [41] r).bind fun _ r => .ok e r [] := rfl
  rw [h1, h]
  rfl
theorem exp_par {n a c : Nat} {Z R0 : List Tk} {e : PE} (h : exp n Z = .ok e (⟨5, c, [41]⟩ :: R0) []) (hs : Stop R0) : exp (n + 1) (⟨5, a, [40]⟩ :: Z) = .ok e R0 [] := by
  have h1 : exp (n + 1) (⟨5, a, [40]⟩ :: Z) = (basicP (typ n) (exp n) (⟨5, a, [40]⟩ :: Z)).bind fun e r => callP (exp n) r.length e r := rfl
  rw [h1, basic_par h, R.bind_ok, call_stop hs]
  rfl
theorem want_at (m : Bs) (a : Nat) (R0 : List Tk) : want m (⟨5, a, m⟩ :: R0) = .ok () R0 [] := by simp [want, isM, hd]
theorem want_at2 (m : Bs) (a : Nat) (R0 : List Tk) : want m (⟨2, a, m⟩ :: R0) = .ok () R0 [] := by simp [want, isM, hd]
theorem name_at (m : Bs) (a : Nat) (R0 : List Tk) : wantName (⟨1, a, m⟩ :: R0) = .ok ⟨1, a, m⟩ R0 [] := rfl
theorem fields_one {n m b d c : Nat} {nm : Bs} {Z R0 : List Tk} {e : PE} (h : exp n Z = .ok e (⟨5, c, [125]⟩ :: R0) []) : fieldsP [61] (exp n) (m + 1) [] [] (⟨1, b, nm⟩ :: ⟨5, d, [61]⟩ :: Z) = .ok [(nm, e)] R0 [] := by
  have hi : isM [44] (⟨5, c, [125]⟩ :: R0) = false := rfl
  unfold fieldsP
  simp only [name_at, want_at, R.bind_ok, R.tell_nil, h, hi, List.not_mem_nil, if_false, Bool.false_eq_true, List.nil_append]
theorem exp_rec {n a b d c : Nat} {nm : Bs} {Z R0 : List Tk} {e : PE} (h : exp n Z = .ok e (⟨5, c, [125]⟩ :: R0) []) (hs : Stop R0) : exp (n + 1) (⟨5, a, [123]⟩ :: ⟨1, b, nm⟩ :: ⟨5, d, [61]⟩ :: Z) = .ok (recE a [(nm, e)]) R0 [] := by
  have h1 : exp (n + 1) (⟨5, a, [123]⟩ :: ⟨1, b, nm⟩ :: ⟨5, d, [61]⟩ :: Z) = ((fieldsP [61] (exp n) (Z.length + 1 + 1) [] [] (⟨1, b, nm⟩ :: ⟨5, d, [61]⟩ :: Z)).bind fun fs r => .ok (recE a fs) r []).bind fun e r => callP (exp n) r.length e r := rfl
  rw [h1, fields_one h]
  simp only [R.bind_ok, R.tell_nil, call_stop hs]
theorem exp_call {n a b c d : Nat} {Z Y R0 : List Tk} {e g : PE} (h : exp n Z = .ok e (⟨5, c, [41]⟩ :: ⟨5, b, [40]⟩ :: Y) []) (h2 : exp n Y = .ok g (⟨5, d, [41]⟩ :: R0) []) (hs : Stop R0) : exp (n + 1) (⟨5, a, [40]⟩ :: Z) = .ok (.mk 7 b [] 0 [] [e, g] []) R0 [] := by
  have h1 : exp (n + 1) (⟨5, a, [40]⟩ :: Z) = (basicP (typ n) (exp n) (⟨5, a, [40]⟩ :: Z)).bind fun e r => callP (exp n) r.length e r := rfl
  rw [h1, basic_par h, R.bind_ok]
  have h3 : callP (exp n) (⟨5, b, [40]⟩ :: Y).length e (⟨5, b, [40]⟩ :: Y) = (exp n Y).bind fun g r => (want [41] r).bind fun _ r => callP (exp n) Y.length (.mk 7 b [] 0 [] [e, g] []) r := rfl
  rw [h3, h2, R.bind_ok]
  show R.tell [] (R.tell [] (R.bind (R.ok () R0 []) _)) = _
  simp only [R.bind_ok, R.tell_nil, call_stop hs]
theorem typ_int {n c a : Nat} (R0 : List Tk) : typ (n + 1) (⟨2, a, [105, 110, 116]⟩ :: ⟨5, c, [41]⟩ :: R0) = .ok tInt (⟨5, c, [41]⟩ :: R0) [] := rfl
theorem exp_as {n a b c d : Nat} {Z R0 : List Tk} {e : PE} (h : exp (n + 1) Z = .ok e (⟨5, b, [58]⟩ :: ⟨2, c, [105, 110, 116]⟩ :: ⟨5, d, [41]⟩ :: R0) []) (hs : Stop R0) : exp (n + 1 + 1) (⟨5, a, [40]⟩ :: Z) = .ok (.mk 11 a [] 0 [] [e] [tInt]) R0 [] := by
  have h1 : exp (n + 1 + 1) (⟨5, a, [40]⟩ :: Z) = ((exp (n + 1) Z).bind fun e r => if isM [58] r then (typ (n + 1) r.tail).bind fun t r => (want [41] r).bind fun _ r => .ok (.mk 11 a [] 0 [] [e] [t]) r [] else (want [41] r).bind fun _ r => .ok e r []).bind fun e r => callP (exp (n + 1)) r.length e r := rfl
  have hi : isM [58] (⟨5, b, [58]⟩ :: ⟨2, c, [105, 110, 116]⟩ :: ⟨5, d, [41]⟩ :: R0) = true := rfl
  rw [h1, h]
  simp only [R.bind_ok, R.tell_nil, hi, if_true, List.tail_cons, typ_int, want_at, call_stop hs]
theorem exp_fun {n a b c d f g : Nat} {q : Bs} {Z R0 : List Tk} {e : PE} (h : exp (n + 1) Z = .ok e R0 []) : exp (n + 1 + 1) (⟨2, a, [102, 117, 110]⟩ :: ⟨5, b, [40]⟩ :: ⟨1, c, q⟩ :: ⟨5, d, [58]⟩ :: ⟨2, f, [105, 110, 116]⟩ :: ⟨5, g, [41]⟩ :: Z) = .ok (.mk 8 a q 0 [] [e] [tInt]) R0 [] := by
  have h1 : exp (n + 1 + 1) (⟨2, a, [102, 117, 110]⟩ :: ⟨5, b, [40]⟩ :: ⟨1, c, q⟩ :: ⟨5, d, [58]⟩ :: ⟨2, f, [105, 110, 116]⟩ :: ⟨5, g, [41]⟩ :: Z) = ((((typ (n + 1) (⟨2, f, [105, 110, 116]⟩ :: ⟨5, g, [41]⟩ :: Z)).bind fun t r => (want [41] r).bind fun _ r => (exp (n + 1) r).bind fun e r => .ok (.mk 8 a q 0 [] [e] [t]) r []).tell []).tell []).tell [] := rfl
  rw [h1, typ_int]
  simp only [R.bind_ok, R.tell_nil, want_at, h]
theorem exp_let {n a b c d : Nat} {q : Bs} {Z Y R0 : List Tk} {e g : PE} (h : exp n Z = .ok e (⟨2, d, [105, 110]⟩ :: Y) []) (h2 : exp n Y = .ok g R0 []) : exp (n + 1) (⟨2, a, [108, 101, 116]⟩ :: ⟨1, b, q⟩ :: ⟨5, c, [61]⟩ :: Z) = .ok (.mk 9 a q 0 [] [e, g] []) R0 [] := by
  have h1 : exp (n + 1) (⟨2, a, [108, 101, 116]⟩ :: ⟨1, b, q⟩ :: ⟨5, c, [61]⟩ :: Z) = (((exp n Z).bind fun v r => (want [105, 110] r).bind fun _ r => (exp n r).bind fun b r => .ok (.mk 9 a q 0 [] [v, b] []) r []).tell []).tell [] := rfl
  rw [h1, h, R.bind_ok]
  show R.tell [] (R.tell [] (R.tell [] (R.bind (R.ok () Y []) _))) = _
  simp only [R.bind_ok, R.tell_nil, h2]
theorem exp_if {n a b c : Nat} {Z Y X R0 : List Tk} {e f g : PE} (h : exp n Z = .ok e (⟨2, b, [116, 104, 101, 110]⟩ :: Y) []) (h2 : exp n Y = .ok f (⟨2, c, [101, 108, 115, 101]⟩ :: X) []) (h3 : exp n X = .ok g R0 []) : exp (n + 1) (⟨2, a, [105, 102]⟩ :: Z) = .ok (.mk 10 a [] 0 [] [e, f, g] []) R0 [] := by
  have h1 : exp (n + 1) (⟨2, a, [105, 102]⟩ :: Z) = (exp n Z).bind fun x r => (want [116, 104, 101, 110] r).bind fun _ r => (exp n r).bind fun y r => (want [101, 108, 115, 101] r).bind fun _ r => (exp n r).bind fun z r => .ok (.mk 10 a [] 0 [] [x, y, z] []) r [] := rfl
  rw [h1, h, R.bind_ok]
  show R.tell [] (R.bind (R.ok () Y []) _) = _
  rw [R.bind_ok, h2, R.bind_ok]
  show R.tell [] (R.tell [] (R.tell [] (R.bind (R.ok () X []) _))) = _
  simp only [R.bind_ok, R.tell_nil, h3]
end Go.Proofs.YthpoffklhpbdoaaGreatDoor

namespace Go.Proofs.YthpoffklhpbdoaaGreatDoor
set_option maxRecDepth 100000

theorem stop_end {E : Tk} (h : E.k = 6) : Stop [E] := by
  constructor <;> simp [isM, hd, h]
theorem exp_mono {n m : Nat} {p : List Tk} {E : Tk} {e : PE} {r : List Tk} (h : exp n (p ++ [E]) = .ok e r []) (hE : E.k = 6) (hnm : n ≤ m) : (∃ q, r = q ++ [E]) ∧ exp m (p ++ [E]) = .ok e r [] := by
  obtain ⟨q, e1, e2⟩ := exp_eats n (p ++ [E])
  rw [h] at e1
  have e1 : p ++ [E] = q ++ r := e1
  have hr : ∃ q, r = q ++ [E] := by
    rcases List.eq_nil_or_concat r with rfl | ⟨q2, t, rfl⟩
    · rw [List.append_nil] at e1
      exact absurd hE (e2 E (by rw [← e1]; simp)).1
    · rw [List.concat_eq_append] at *
      rw [← List.append_assoc] at e1
      have := (List.append_inj' e1 rfl).2
      simp at this
      exact ⟨q2, by rw [this]⟩
  refine ⟨hr, ?_⟩
  obtain ⟨q2, rfl⟩ := hr
  exact exp_lc (ts := [E]) (ts' := [E]) (by simp) (by simp) n m hnm p e q2 [] h (fun _ => stop_end hE)
/-- What is read in the midst of "({k = (..". -/
theorem inner {a b c d f : Nat} {Z : List Tk} {y : PE} {r : List Tk} (h : exp 64 (⟨5, a, [40]⟩ :: ⟨5, b, [123]⟩ :: ⟨1, c, [107]⟩ :: ⟨5, d, [61]⟩ :: ⟨5, f, [40]⟩ :: Z) = .ok y r []) : ∃ e r4 e4 r5, exp 61 Z = .ok e r4 [] ∧ (if isM [58] r4 then (typ 61 r4.tail).bind fun t r => (want [41] r).bind fun _ r => .ok (.mk 11 f [] 0 [] [e] [t]) r [] else (want [41] r4).bind fun _ r => .ok e r []) = .ok e4 r5 [] := by
  obtain ⟨Z1, hZ1⟩ : ∃ Z1 : List Tk, Z1 = ⟨5, b, [123]⟩ :: ⟨1, c, [107]⟩ :: ⟨5, d, [61]⟩ :: ⟨5, f, [40]⟩ :: Z := ⟨_, rfl⟩
  rw [← hZ1] at h
  have h1 : exp 64 (⟨5, a, [40]⟩ :: Z1) = ((exp 63 Z1).bind fun e r => if isM [58] r then (typ 63 r.tail).bind fun t r => (want [41] r).bind fun _ r => .ok (.mk 11 a [] 0 [] [e] [t]) r [] else (want [41] r).bind fun _ r => .ok e r []).bind fun e r => callP (exp 63) r.length e r := rfl
  rw [h1] at h
  obtain ⟨_, _, h, -⟩ := R.bind_inv h
  obtain ⟨_, _, h, -⟩ := R.bind_inv h
  obtain ⟨Z2, hZ2⟩ : ∃ Z2 : List Tk, Z2 = ⟨5, f, [40]⟩ :: Z := ⟨_, rfl⟩
  rw [hZ1, ← hZ2] at h
  have h2 : exp 63 (⟨5, b, [123]⟩ :: ⟨1, c, [107]⟩ :: ⟨5, d, [61]⟩ :: Z2) = ((fieldsP [61] (exp 62) (Z2.length + 1 + 1) [] [] (⟨1, c, [107]⟩ :: ⟨5, d, [61]⟩ :: Z2)).bind fun fs r => .ok (recE b fs) r []).bind fun e r => callP (exp 62) r.length e r := rfl
  rw [h2] at h
  obtain ⟨_, _, h, -⟩ := R.bind_inv h
  obtain ⟨_, _, h, -⟩ := R.bind_inv h
  unfold fieldsP at h
  simp only [name_at, want_at, R.bind_ok, R.tell_nil, List.not_mem_nil, if_false] at h
  obtain ⟨_, _, h, -⟩ := R.bind_inv h
  rw [hZ2] at h
  have h3 : exp 62 (⟨5, f, [40]⟩ :: Z) = ((exp 61 Z).bind fun e r => if isM [58] r then (typ 61 r.tail).bind fun t r => (want [41] r).bind fun _ r => .ok (.mk 11 f [] 0 [] [e] [t]) r [] else (want [41] r).bind fun _ r => .ok e r []).bind fun e r => callP (exp 61) r.length e r := rfl
  rw [h3] at h
  obtain ⟨e4, r5, h, -⟩ := R.bind_inv h
  obtain ⟨e, r4, h, h5⟩ := R.bind_inv h
  exact ⟨e, r4, e4, r5, h, h5⟩
theorem lK : tk 0 [40, 123, 107, 32, 61, 32] = [⟨5, 0, [40]⟩, ⟨5, 1, [123]⟩, ⟨1, 2, [107]⟩, ⟨5, 4, [61]⟩] := by
  have h := toks_lit (l := [40, 123, 107, 32, 61, 32]) (L := [(5, 0, [40]), (5, 1, [123]), (1, 2, [107]), (5, 4, [61]), (6, 6, [])]) (by decide)
  rw [toks_tk] at h
  exact (List.append_inj' (t₁ := [(⟨6, ([40, 123, 107, 32, 61, 32] : Bs).length, []⟩ : Tk)]) (t₂ := [⟨6, 6, []⟩]) h rfl).1
theorem lK_d : td 0 [40, 123, 107, 32, 61, 32] = [] := dns_lit (l := [40, 123, 107, 32, 61, 32]) (L := []) (by decide)
theorem lK_c : Cl [40, 123, 107, 32, 61, 32] := cl_plain 6 _ (by decide) (by decide)
theorem lF : tk 0 [102, 117, 110, 32, 40, 113, 32, 58, 32, 105, 110, 116, 41] = [⟨2, 0, [102, 117, 110]⟩, ⟨5, 4, [40]⟩, ⟨1, 5, [113]⟩, ⟨5, 7, [58]⟩, ⟨2, 9, [105, 110, 116]⟩, ⟨5, 12, [41]⟩] := by
  have h := toks_lit (l := [102, 117, 110, 32, 40, 113, 32, 58, 32, 105, 110, 116, 41]) (L := [(2, 0, [102, 117, 110]), (5, 4, [40]), (1, 5, [113]), (5, 7, [58]), (2, 9, [105, 110, 116]), (5, 12, [41]), (6, 13, [])]) (by decide)
  rw [toks_tk] at h
  exact (List.append_inj' (t₁ := [(⟨6, ([102, 117, 110, 32, 40, 113, 32, 58, 32, 105, 110, 116, 41] : Bs).length, []⟩ : Tk)]) (t₂ := [⟨6, 13, []⟩]) h rfl).1
theorem lF_d : td 0 [102, 117, 110, 32, 40, 113, 32, 58, 32, 105, 110, 116, 41] = [] := dns_lit (l := [102, 117, 110, 32, 40, 113, 32, 58, 32, 105, 110, 116, 41]) (L := []) (by decide)
theorem lF_c : Cl [102, 117, 110, 32, 40, 113, 32, 58, 32, 105, 110, 116, 41] := cl_plain 13 _ (by decide) (by decide)
theorem lL : tk 0 [108, 101, 116, 32, 113, 32, 61] = [⟨2, 0, [108, 101, 116]⟩, ⟨1, 4, [113]⟩, ⟨5, 6, [61]⟩] := by
  have h := toks_lit (l := [108, 101, 116, 32, 113, 32, 61]) (L := [(2, 0, [108, 101, 116]), (1, 4, [113]), (5, 6, [61]), (6, 7, [])]) (by decide)
  rw [toks_tk] at h
  exact (List.append_inj' (t₁ := [(⟨6, ([108, 101, 116, 32, 113, 32, 61] : Bs).length, []⟩ : Tk)]) (t₂ := [⟨6, 7, []⟩]) h rfl).1
theorem lL_d : td 0 [108, 101, 116, 32, 113, 32, 61] = [] := dns_lit (l := [108, 101, 116, 32, 113, 32, 61]) (L := []) (by decide)
theorem lL_c : Cl [108, 101, 116, 32, 113, 32, 61] := cl_plain 7 _ (by decide) (by decide)
theorem lI : tk 0 [105, 102] = [⟨2, 0, [105, 102]⟩] := by
  have h := toks_lit (l := [105, 102]) (L := [(2, 0, [105, 102]), (6, 2, [])]) (by decide)
  rw [toks_tk] at h
  exact (List.append_inj' (t₁ := [(⟨6, ([105, 102] : Bs).length, []⟩ : Tk)]) (t₂ := [⟨6, 2, []⟩]) h rfl).1
theorem lI_d : td 0 [105, 102] = [] := dns_lit (l := [105, 102]) (L := []) (by decide)
theorem lI_c : Cl [105, 102] := cl_plain 2 _ (by decide) (by decide)
theorem lN : tk 0 [105, 110] = [⟨2, 0, [105, 110]⟩] := by
  have h := toks_lit (l := [105, 110]) (L := [(2, 0, [105, 110]), (6, 2, [])]) (by decide)
  rw [toks_tk] at h
  exact (List.append_inj' (t₁ := [(⟨6, ([105, 110] : Bs).length, []⟩ : Tk)]) (t₂ := [⟨6, 2, []⟩]) h rfl).1
theorem lN_d : td 0 [105, 110] = [] := dns_lit (l := [105, 110]) (L := []) (by decide)
theorem lN_c : Cl [105, 110] := cl_plain 2 _ (by decide) (by decide)
theorem lT : tk 0 [116, 104, 101, 110] = [⟨2, 0, [116, 104, 101, 110]⟩] := by
  have h := toks_lit (l := [116, 104, 101, 110]) (L := [(2, 0, [116, 104, 101, 110]), (6, 4, [])]) (by decide)
  rw [toks_tk] at h
  exact (List.append_inj' (t₁ := [(⟨6, ([116, 104, 101, 110] : Bs).length, []⟩ : Tk)]) (t₂ := [⟨6, 4, []⟩]) h rfl).1
theorem lT_d : td 0 [116, 104, 101, 110] = [] := dns_lit (l := [116, 104, 101, 110]) (L := []) (by decide)
theorem lT_c : Cl [116, 104, 101, 110] := cl_plain 4 _ (by decide) (by decide)
theorem lE : tk 0 [101, 108, 115, 101] = [⟨2, 0, [101, 108, 115, 101]⟩] := by
  have h := toks_lit (l := [101, 108, 115, 101]) (L := [(2, 0, [101, 108, 115, 101]), (6, 4, [])]) (by decide)
  rw [toks_tk] at h
  exact (List.append_inj' (t₁ := [(⟨6, ([101, 108, 115, 101] : Bs).length, []⟩ : Tk)]) (t₂ := [⟨6, 4, []⟩]) h rfl).1
theorem lE_d : td 0 [101, 108, 115, 101] = [] := dns_lit (l := [101, 108, 115, 101]) (L := []) (by decide)
theorem lE_c : Cl [101, 108, 115, 101] := cl_plain 4 _ (by decide) (by decide)
theorem lA : tk 0 [32, 58, 32, 105, 110, 116, 41] = [⟨5, 1, [58]⟩, ⟨2, 3, [105, 110, 116]⟩, ⟨5, 6, [41]⟩] := by
  have h := toks_lit (l := [32, 58, 32, 105, 110, 116, 41]) (L := [(5, 1, [58]), (2, 3, [105, 110, 116]), (5, 6, [41]), (6, 7, [])]) (by decide)
  rw [toks_tk] at h
  exact (List.append_inj' (t₁ := [(⟨6, ([32, 58, 32, 105, 110, 116, 41] : Bs).length, []⟩ : Tk)]) (t₂ := [⟨6, 7, []⟩]) h rfl).1
theorem lA_d : td 0 [32, 58, 32, 105, 110, 116, 41] = [] := dns_lit (l := [32, 58, 32, 105, 110, 116, 41]) (L := []) (by decide)
theorem lA_c : Cl [32, 58, 32, 105, 110, 116, 41] := cl_plain 7 _ (by decide) (by decide)

theorem tk_at {l : Bs} {L : List Tk} (h : tk 0 l = L) (a : Nat) : tk a l = L.map (Tk.pl (· + a)) := by
  have := tk_up 0 a l
  rw [Nat.zero_add, h] at this
  exact this
theorem td_at {l : Bs} (h : td 0 l = []) (a : Nat) : td a l = [] := by
  have := td_up 0 a l
  rw [Nat.zero_add, h] at this
  exact this

/-- The source of a record with it in marks. -/
def srcK (s : Bs) : Bs := [40, 123, 107, 32, 61, 32] ++ 40 :: (s ++ [41, 125, 41])
theorem may_61 {s : Bs} {x y : PE} (h1 : whE s = some x) (h2 : whE (srcK s) = some y) : Cl s ∧ exp 61 (tk 0 s ++ [⟨6, s.length, []⟩]) = .ok x [⟨6, s.length, []⟩] [] ∧ y = recE 1 [([107], x.pl (· + 7))] := by
  obtain ⟨t1, hx⟩ := whE_inv h1
  obtain ⟨t2, hy⟩ := whE_inv h2
  have hT : tk 0 (srcK s) = [⟨5, 0, [40]⟩, ⟨5, 1, [123]⟩, ⟨1, 2, [107]⟩, ⟨5, 4, [61]⟩] ++ ⟨5, 6, [40]⟩ :: tk 7 (s ++ [41, 125, 41]) := by
    rw [srcK, tk_cut lK_c (by decide), lK, tk_sign (by decide)]
    rfl
  obtain ⟨E2, hE2⟩ : ∃ E2 : Tk, E2 = ⟨6, (srcK s).length, []⟩ := ⟨_, rfl⟩
  have h6 : E2.k = 6 := by rw [hE2]
  rw [← hE2, hT] at hy
  have hy : exp 64 (⟨5, 0, [40]⟩ :: ⟨5, 1, [123]⟩ :: ⟨1, 2, [107]⟩ :: ⟨5, 4, [61]⟩ :: ⟨5, 6, [40]⟩ :: (tk 7 (s ++ [41, 125, 41]) ++ [E2])) = .ok y [E2] [] := hy
  obtain ⟨e, r4, e4, r5, h3, h4⟩ := inner hy
  obtain ⟨-, h5⟩ := exp_mono h3 h6 (show 61 ≤ 64 by decide)
  have hnil : toldOf (pieces 0 s) = [] := List.map_eq_nil_iff.1 t1
  rcases cl_or_open s.length s (Nat.le_refl _) 0 hnil with hc | ho
  · have hR : tk 7 (s ++ [41, 125, 41]) = tk 7 s ++ [⟨5, 7 + s.length, [41]⟩, ⟨5, 7 + s.length + 1, [125]⟩, ⟨5, 7 + s.length + 1 + 1, [41]⟩] := by
      rw [tk_cut hc (by decide), tk_sign (by decide), tk_sign (by decide), tk_sign (by decide), tk_nil]
    rw [hR, List.append_assoc] at h3 h5 hy
    obtain ⟨RR, hRR⟩ : ∃ RR, RR = [(⟨5, 7 + s.length, [41]⟩ : Tk), ⟨5, 7 + s.length + 1, [125]⟩, ⟨5, 7 + s.length + 1 + 1, [41]⟩] ++ [E2] := ⟨_, rfl⟩
    rw [← hRR] at h3 h5 hy
    have hSR : Stop RR := by rw [hRR]; exact ⟨rfl, rfl⟩
    have hm := exp_move hx rfl (Nat.le_refl 64) 7 (ts := RR) (by rw [hRR]; simp) hSR
    rw [hm] at h5
    injection h5 with g1 g2 g3
    subst g1 g2
    -- back to the place 0
    have h7 := exp_lc (ts := RR) (ts' := [(⟨6, s.length, []⟩ : Tk).pl (· + 7)]) (by rw [hRR]; simp) (by simp) 61 61 (Nat.le_refl _) (tk 7 s) (x.pl (· + 7)) [] [] h3 (fun _ => stop_end rfl)
    have h8 := exp_pl (φ := (· + 7)) 61 (tk 0 s ++ [⟨6, s.length, []⟩]) ⟨⟨6, s.length, []⟩, by simp, rfl⟩
    rw [List.map_append, ← tk_up, Nat.zero_add, List.map_cons, List.map_nil, h7] at h8
    have h61 : exp 61 (tk 0 s ++ [⟨6, s.length, []⟩]) = .ok x [⟨6, s.length, []⟩] [] := by
      cases h9 : exp 61 (tk 0 s ++ [⟨6, s.length, []⟩]) with
      | bad y r d => rw [h9] at h8; cases h8
      | ok x0 r0 d0 =>
        rw [h9] at h8
        injection h8 with g1 g2 g3
        have hd0 : d0 = [] := List.map_eq_nil_iff.1 g3.symm
        subst hd0
        obtain ⟨-, h10⟩ := exp_mono h9 rfl (show 61 ≤ 64 by decide)
        rw [hx] at h10
        injection h10 with g4 g5 g6
        rw [g4, g5]
    refine ⟨hc, h61, ?_⟩
    have f1 := exp_move h61 rfl (Nat.le_refl 61) 7 (ts := RR) (by rw [hRR]; simp) hSR
    rw [hRR] at f1 hy
    have f2 := exp_par (a := 6) f1 ⟨rfl, rfl⟩
    have f3 := exp_rec (a := 1) (b := 2) (nm := [107]) (d := 4) f2 ⟨rfl, rfl⟩
    have f4 := exp_par (a := 0) f3 (stop_end h6)
    have f5 : exp 64 (⟨5, 0, [40]⟩ :: ⟨5, 1, [123]⟩ :: ⟨1, 2, [107]⟩ :: ⟨5, 4, [61]⟩ :: ⟨5, 6, [40]⟩ :: (tk 7 s ++ ([⟨5, 7 + s.length, [41]⟩, ⟨5, 7 + s.length + 1, [125]⟩, ⟨5, 7 + s.length + 1 + 1, [41]⟩] ++ [E2]))) = .ok (recE 1 [([107], x.pl (· + 7))]) [E2] [] := f4
    rw [f5] at hy
    injection hy with g1
    exact g1.symm
  · exfalso
    have hR : tk 7 (s ++ [41, 125, 41]) = tk 7 s := by
      rw [tk, ho [41, 125, 41] (by decide) 7]
      rfl
    rw [hR] at h3 h5
    have hm := exp_move hx rfl (Nat.le_refl 64) 7 (ts := [E2]) (by simp) (stop_end h6)
    rw [hm] at h5
    injection h5 with g1 g2 g3
    subst g1 g2
    have i1 : isM [58] [E2] = false := by simp [isM, hd, h6]
    have i2 : isM [41] [E2] = false := by simp [isM, hd, h6]
    rw [i1, want, i2] at h4
    cases h4

theorem knd_fun {s : Bs} {x : PE} (ht : td 0 s = []) (h : exp 61 (tk 0 s ++ [⟨6, s.length, []⟩]) = .ok x [⟨6, s.length, []⟩] []) : ∃ p, whE ([102, 117, 110, 32, 40, 113, 32, 58, 32, 105, 110, 116, 41] ++ 32 :: s) = some (.mk 8 0 [113] 0 [] [x.pl p] [tInt]) := by
  obtain ⟨E2, hE2⟩ : ∃ E2 : Tk, E2 = ⟨6, ([102, 117, 110, 32, 40, 113, 32, 58, 32, 105, 110, 116, 41] ++ 32 :: s).length, []⟩ := ⟨_, rfl⟩
  have h6 : E2.k = 6 := by rw [hE2]
  have hT : toks ([102, 117, 110, 32, 40, 113, 32, 58, 32, 105, 110, 116, 41] ++ 32 :: s) = ⟨2, 0, [102, 117, 110]⟩ :: ⟨5, 4, [40]⟩ :: ⟨1, 5, [113]⟩ :: ⟨5, 7, [58]⟩ :: ⟨2, 9, [105, 110, 116]⟩ :: ⟨5, 12, [41]⟩ :: (tk 14 s ++ [E2]) := by
    rw [toks_tk, ← hE2, tk_cut lF_c (by decide), lF, tk_blank (by decide)]
    simp
  have hD : dns ([102, 117, 110, 32, 40, 113, 32, 58, 32, 105, 110, 116, 41] ++ 32 :: s) = [] := by
    rw [dns_td, td_cut lF_c (by decide), lF_d, td_blank (by decide), td_at ht]
    rfl
  have f1 := exp_move h rfl (show 61 ≤ 63 by decide) 14 (ts := [E2]) (by simp) (stop_end h6)
  have f2 := exp_fun (n := 62) (a := 0) (b := 4) (c := 5) (q := [113]) (d := 7) (f := 9) (g := 12) f1
  exact ⟨_, whE_of (r := [E2]) hD (by rw [hT]; exact f2) h6⟩
section
variable {s : Bs} {x : PE} (hc : Cl s) (ht : td 0 s = []) (h : exp 61 (tk 0 s ++ [⟨6, s.length, []⟩]) = .ok x [⟨6, s.length, []⟩] [])
include hc ht h
theorem knd_call : ∃ a p q, whE (40 :: (s ++ 41 :: 40 :: (s ++ [41]))) = some (.mk 7 a [] 0 [] [x.pl p, x.pl q] []) := by
  have hT : toks (40 :: (s ++ 41 :: 40 :: (s ++ [41]))) = ⟨5, 0, [40]⟩ :: (tk 1 s ++ (⟨5, 1 + s.length, [41]⟩ :: ⟨5, 1 + s.length + 1, [40]⟩ :: (tk (1 + s.length + 1 + 1) s ++ ([⟨5, 1 + s.length + 1 + 1 + s.length, [41]⟩] ++ [⟨6, (40 :: (s ++ 41 :: 40 :: (s ++ [41]))).length, []⟩])))) := by
    rw [toks_tk, tk_sign (by decide), tk_cut hc (by decide), tk_sign (by decide), tk_sign (by decide), tk_cut hc (by decide), tk_sign (by decide), tk_nil]
    simp
  have hD : dns (40 :: (s ++ 41 :: 40 :: (s ++ [41]))) = [] := by
    rw [dns_td, td_sign (by decide), td_cut hc (by decide), td_at ht, td_sign (by decide), td_sign (by decide), td_cut hc (by decide), td_at ht, td_sign (by decide), td_nil]
    rfl
  have f1 := exp_move h rfl (show 61 ≤ 63 by decide) (1 + s.length + 1 + 1) (ts := [⟨5, 1 + s.length + 1 + 1 + s.length, [41]⟩] ++ [⟨6, (40 :: (s ++ 41 :: 40 :: (s ++ [41]))).length, []⟩]) (by simp) ⟨rfl, rfl⟩
  have f2 := exp_move h rfl (show 61 ≤ 63 by decide) 1 (ts := ⟨5, 1 + s.length, [41]⟩ :: ⟨5, 1 + s.length + 1, [40]⟩ :: (tk (1 + s.length + 1 + 1) s ++ ([⟨5, 1 + s.length + 1 + 1 + s.length, [41]⟩] ++ [⟨6, (40 :: (s ++ 41 :: 40 :: (s ++ [41]))).length, []⟩]))) (by simp) ⟨rfl, rfl⟩
  have f3 := exp_call (a := 0) f2 f1 (stop_end rfl)
  exact ⟨_, _, _, whE_of hD (by rw [hT]; exact f3) rfl⟩
theorem knd_let : ∃ p q, whE ([108, 101, 116, 32, 113, 32, 61] ++ 32 :: (s ++ 32 :: ([105, 110] ++ 32 :: s))) = some (.mk 9 0 [113] 0 [] [x.pl p, x.pl q] []) := by
  obtain ⟨E2, hE2⟩ : ∃ E2 : Tk, E2 = ⟨6, ([108, 101, 116, 32, 113, 32, 61] ++ 32 :: (s ++ 32 :: ([105, 110] ++ 32 :: s))).length, []⟩ := ⟨_, rfl⟩
  have h6 : E2.k = 6 := by rw [hE2]
  obtain ⟨a1, ha1⟩ : ∃ a, a = 8 + s.length + 1 := ⟨_, rfl⟩
  obtain ⟨a2, ha2⟩ : ∃ a, a = a1 + 2 + 1 := ⟨_, rfl⟩
  have hT : toks ([108, 101, 116, 32, 113, 32, 61] ++ 32 :: (s ++ 32 :: ([105, 110] ++ 32 :: s))) = ⟨2, 0, [108, 101, 116]⟩ :: ⟨1, 4, [113]⟩ :: ⟨5, 6, [61]⟩ :: (tk 8 s ++ (⟨2, 0 + a1, [105, 110]⟩ :: (tk a2 s ++ [E2]))) := by
    rw [toks_tk, ← hE2, tk_cut lL_c (by decide), lL, tk_blank (by decide), tk_cut hc (by decide), tk_blank (by decide), tk_cut lN_c (by decide), tk_at lN, tk_blank (by decide)]
    rw [ha2, ha1]
    simp [Tk.pl]
  have hD : dns ([108, 101, 116, 32, 113, 32, 61] ++ 32 :: (s ++ 32 :: ([105, 110] ++ 32 :: s))) = [] := by
    rw [dns_td, td_cut lL_c (by decide), lL_d, td_blank (by decide), td_cut hc (by decide), td_at ht, td_blank (by decide), td_cut lN_c (by decide), td_at lN_d, td_blank (by decide), td_at ht]
    rfl
  have f1 := exp_move h rfl (show 61 ≤ 63 by decide) a2 (ts := [E2]) (by simp) (stop_end h6)
  have f2 := exp_move h rfl (show 61 ≤ 63 by decide) 8 (ts := ⟨2, 0 + a1, [105, 110]⟩ :: (tk a2 s ++ [E2])) (by simp) ⟨rfl, rfl⟩
  have f3 := exp_let (a := 0) (b := 4) (q := [113]) (c := 6) f2 f1
  exact ⟨_, _, whE_of (r := [E2]) hD (by rw [hT]; exact f3) h6⟩
theorem knd_if : ∃ p q o, whE ([105, 102] ++ 32 :: (s ++ 32 :: ([116, 104, 101, 110] ++ 32 :: (s ++ 32 :: ([101, 108, 115, 101] ++ 32 :: s))))) = some (.mk 10 0 [] 0 [] [x.pl p, x.pl q, x.pl o] []) := by
  obtain ⟨E2, hE2⟩ : ∃ E2 : Tk, E2 = ⟨6, ([105, 102] ++ 32 :: (s ++ 32 :: ([116, 104, 101, 110] ++ 32 :: (s ++ 32 :: ([101, 108, 115, 101] ++ 32 :: s))))).length, []⟩ := ⟨_, rfl⟩
  have h6 : E2.k = 6 := by rw [hE2]
  obtain ⟨a1, ha1⟩ : ∃ a, a = 3 + s.length + 1 := ⟨_, rfl⟩
  obtain ⟨a2, ha2⟩ : ∃ a, a = a1 + 4 + 1 := ⟨_, rfl⟩
  obtain ⟨a3, ha3⟩ : ∃ a, a = a2 + s.length + 1 := ⟨_, rfl⟩
  obtain ⟨a4, ha4⟩ : ∃ a, a = a3 + 4 + 1 := ⟨_, rfl⟩
  have hT : toks ([105, 102] ++ 32 :: (s ++ 32 :: ([116, 104, 101, 110] ++ 32 :: (s ++ 32 :: ([101, 108, 115, 101] ++ 32 :: s))))) = ⟨2, 0, [105, 102]⟩ :: (tk 3 s ++ (⟨2, 0 + a1, [116, 104, 101, 110]⟩ :: (tk a2 s ++ (⟨2, 0 + a3, [101, 108, 115, 101]⟩ :: (tk a4 s ++ [E2]))))) := by
    rw [toks_tk, ← hE2, tk_cut lI_c (by decide), lI, tk_blank (by decide), tk_cut hc (by decide), tk_blank (by decide), tk_cut lT_c (by decide), tk_at lT, tk_blank (by decide), tk_cut hc (by decide), tk_blank (by decide), tk_cut lE_c (by decide), tk_at lE, tk_blank (by decide)]
    rw [ha4, ha3, ha2, ha1]
    simp [Tk.pl]
  have hD : dns ([105, 102] ++ 32 :: (s ++ 32 :: ([116, 104, 101, 110] ++ 32 :: (s ++ 32 :: ([101, 108, 115, 101] ++ 32 :: s))))) = [] := by
    rw [dns_td, td_cut lI_c (by decide), lI_d, td_blank (by decide), td_cut hc (by decide), td_at ht, td_blank (by decide), td_cut lT_c (by decide), td_at lT_d, td_blank (by decide), td_cut hc (by decide), td_at ht, td_blank (by decide), td_cut lE_c (by decide), td_at lE_d, td_blank (by decide), td_at ht]
    rfl
  have f1 := exp_move h rfl (show 61 ≤ 63 by decide) a4 (ts := [E2]) (by simp) (stop_end h6)
  have f2 := exp_move h rfl (show 61 ≤ 63 by decide) a2 (ts := ⟨2, 0 + a3, [101, 108, 115, 101]⟩ :: (tk a4 s ++ [E2])) (by simp) ⟨rfl, rfl⟩
  have f3 := exp_move h rfl (show 61 ≤ 63 by decide) 3 (ts := ⟨2, 0 + a1, [116, 104, 101, 110]⟩ :: (tk a2 s ++ (⟨2, 0 + a3, [101, 108, 115, 101]⟩ :: (tk a4 s ++ [E2])))) (by simp) ⟨rfl, rfl⟩
  have f4 := exp_if (a := 0) f3 f2 f1
  exact ⟨_, _, _, whE_of (r := [E2]) hD (by rw [hT]; exact f4) h6⟩
theorem knd_as : ∃ p, whE (40 :: (s ++ 32 :: [58, 32, 105, 110, 116, 41])) = some (.mk 11 0 [] 0 [] [x.pl p] [tInt]) := by
  obtain ⟨E2, hE2⟩ : ∃ E2 : Tk, E2 = ⟨6, (40 :: (s ++ 32 :: [58, 32, 105, 110, 116, 41])).length, []⟩ := ⟨_, rfl⟩
  have h6 : E2.k = 6 := by rw [hE2]
  have hT : toks (40 :: (s ++ 32 :: [58, 32, 105, 110, 116, 41])) = ⟨5, 0, [40]⟩ :: (tk 1 s ++ (⟨5, 1 + (1 + s.length), [58]⟩ :: ⟨2, 3 + (1 + s.length), [105, 110, 116]⟩ :: ⟨5, 6 + (1 + s.length), [41]⟩ :: [E2])) := by
    rw [toks_tk, ← hE2, tk_sign (by decide), tk_cut hc (by decide), show tk (0 + 1 + s.length) (32 :: [58, 32, 105, 110, 116, 41]) = _ from tk_at lA _]
    simp [Tk.pl]
  have hD : dns (40 :: (s ++ 32 :: [58, 32, 105, 110, 116, 41])) = [] := by
    rw [dns_td, td_sign (by decide), td_cut hc (by decide), td_at ht, show td (0 + 1 + s.length) (32 :: [58, 32, 105, 110, 116, 41]) = _ from td_at lA_d _]
    rfl
  have f1 := exp_move h rfl (show 61 ≤ 63 by decide) 1 (ts := ⟨5, 1 + (1 + s.length), [58]⟩ :: ⟨2, 3 + (1 + s.length), [105, 110, 116]⟩ :: ⟨5, 6 + (1 + s.length), [41]⟩ :: [E2]) (by simp) ⟨rfl, rfl⟩
  have f2 := exp_as (n := 62) (a := 0) f1 (stop_end h6)
  exact ⟨_, whE_of (r := [E2]) hD (by rw [hT]; exact f2) h6⟩
end
end Go.Proofs.YthpoffklhpbdoaaGreatDoor

namespace Go.Proofs.YthpoffklhpbdoaaGreatDoor
set_option maxRecDepth 20000
open Go.RowKit Go.Shelf

set_option maxHeartbeats 1000000 in
theorem clo_any (x : PE) (φ : Nat → Nat) (hsz : szE x ≤ 1000000) (A A' : Nat → Prop) (w : World) (bx : Nat) (v u : Value) (hb : w.heap[bx]? = some (.cells #[u] 34 (0, 0))) (h1 : Sub A w (encEs 26 36 [x.pl φ]) 1 v) (h2 : Sub A' w (encEs 26 36 [x]) 1 u) :
    Calls Tryz.prog 19 #[v, .pointer (some ⟨bx, 0, none⟩)] w (Tells w) := by
  obtain ⟨a0, c0, _, rfl, -, -⟩ := id h1
  obtain ⟨a1, c1, _, rfl, -, -⟩ := id h2
  have S1 := Lib.hid h1
  have S2 := Lib.hid h2
  have HBX := Lib.hid hb
  have HLT := Lib.hid (Array.getElem?_eq_some_iff.1 hb).1
  have d0 : w.cell? ⟨bx, 0, none⟩ = some (.slice a1 1 c1) := cell_of hb
  have HE1 := Lib.hid (esOk [x.pl φ] (by simp only [szEs, szE_pl]; omega))
  have HE2 := Lib.hid (esOk [x] (by simp only [szEs]; omega))
  have HS := Lib.hid (seOk false [x.pl φ] [x] ⟨by simp only [pls_map, List.map_cons, List.map_nil, pl_pl], fun h => by cases h⟩ (by simp only [szEs, szE_pl]; omega))
  have HC1 : Hid (∀ X : World, X.heap = w.heap ∧ X.os = w.os ∧ X.tape = w.tape ∧ X.output = w.output → Calls Tryz.prog 18 #[.slice a0 1 c0] X (fun e w' => ∃ z, e = .returned z ∧ Below w.heap.size w w' ∧ Sub (fun _ => True) w' (encEs 31 41 [x.pl φ]) 1 z)) := by
    rintro X ⟨e1, e2, e3, e4⟩
    have hX : Below w.heap.size w X := ⟨e2, e3, e4, by rw [e1]; exact Nat.le_refl _, fun k _ => by rw [e1]⟩
    refine (HE1.out _ X _ (S1.out.below hX)).mono ?_
    rintro e w' ⟨z, q1, q2, q3⟩
    rw [e1] at q2
    exact ⟨z, q1, hX.trans q2, (Sub.of_row q3 (by rw [encEs_flat]; exact flat_length (encE_length 31 41) [x.pl φ])).mono (fun _ _ _ => trivial)⟩
  have HC2 : Hid (∀ W X : World, Below w.heap.size w W → X.heap = W.heap ∧ X.os = W.os ∧ X.tape = W.tape ∧ X.output = W.output → Calls Tryz.prog 18 #[.slice a1 1 c1] X (fun e w' => ∃ z, e = .returned z ∧ Below W.heap.size W w' ∧ Sub (fun _ => True) w' (encEs 31 41 [x]) 1 z)) := by
    rintro W X hW ⟨e1, e2, e3, e4⟩
    have hX : Below W.heap.size W X := ⟨e2, e3, e4, by rw [e1]; exact Nat.le_refl _, fun k _ => by rw [e1]⟩
    refine (HE2.out _ X _ ((S2.out.below hW).below hX)).mono ?_
    rintro e w' ⟨z, q1, q2, q3⟩
    rw [e1] at q2
    exact ⟨z, q1, hX.trans q2, (Sub.of_row q3 (by rw [encEs_flat]; exact flat_length (encE_length 31 41) [x])).mono (fun _ _ _ => trivial)⟩
  have HC3 : Hid (∀ (W X : World) (z1 z2 : Value), Below w.heap.size w W → X.heap = W.heap ∧ X.os = W.os ∧ X.tape = W.tape ∧ X.output = W.output → Sub (fun _ => True) W (encEs 31 41 [x.pl φ]) 1 z1 → Sub (fun _ => True) W (encEs 31 41 [x]) 1 z2 → Calls Tryz.prog 17 #[z1, z2, .bool false] X (fun e w' => e = .returned (.bool true) ∧ Below w.heap.size w w')) := by
    rintro W X z1 z2 hW ⟨e1, e2, e3, e4⟩ k1 k2
    have hX : Below W.heap.size W X := ⟨e2, e3, e4, by rw [e1]; exact Nat.le_refl _, fun k _ => by rw [e1]⟩
    refine (HS.out _ _ X _ _ (k1.below hX) (k2.below hX)).mono ?_
    rintro e w' ⟨q1, q2⟩
    rw [e1] at q2
    exact ⟨q1, hW.trans ((hX.trans q2).mono hW.size)⟩
  clear hb h1 h2 HE1 HE2 HS
  go_enter Tryz.func19, Tryz.ntmps19
  go_wp2_with fail
  go_region_held3 (fun w' => w'.cell? ⟨bx, 0, none⟩ = some (.slice a1 1 c1)) (go_keep)
    (first
      | (go_at_call 18; refine (HC2.out w3 _ B3.out ⟨rfl, rfl, rfl, rfl⟩).mono ?_; rintro e w4 ⟨z2, rfl, b4, i4⟩; (have s0 := ((B3.out.trans (b4.mono B3.out.size)).cell (p := ⟨bx, 0, none⟩) HLT.out).trans d0); (have B4 := Lib.hid (B3.out.trans (b4.mono B3.out.size))); (have I4 := Lib.hid i4); (have J3 := Lib.hid (I3.out.below b4)); clear b4 i4)
      | (go_at_call 18; refine (HC1.out _ ?_).mono ?_; exact ⟨rfl, rfl, rfl, rfl⟩; rintro e w3 ⟨z1, rfl, b3, i3⟩; (have s0 := (b3.cell (p := ⟨bx, 0, none⟩) HLT.out).trans d0); (have B3 := Lib.hid b3); (have I3 := Lib.hid i3); clear b3 i3)
      | (go_at_call 17; refine (HC3.out w4 _ _ _ B4.out ⟨rfl, rfl, rfl, rfl⟩ J3.out I4.out).mono ?_; rintro e w5 ⟨rfl, b5⟩; (have s0 := (b5.cell (p := ⟨bx, 0, none⟩) HLT.out).trans d0); (have B5 := Lib.hid b5); clear b5))
  all_goals
    go_wp2_with fail
    go_ret
    exact ⟨rfl, B5.out⟩
end Go.Proofs.YthpoffklhpbdoaaGreatDoor

namespace Go.Proofs.YthpoffklhpbdoaaGreatDoor
set_option maxRecDepth 20000
open Go.RowKit Go.Shelf Go.Sort

/-- The data of an expression that was told are seven cells. -/
theorem cells_K {A : Nat → Prop} {w : World} {k a : Nat} {n : Bs} {m : Nat} {ns : List Bs} {l : List PE} {ts : List PT} {cs : List Value} (h : IsCs A w (encE 26 36 (.mk k a n m ns l ts)) cs) : ∃ a4 c4 a5 c5 a6 c6, cs = [.int .i64 (k : Nat), .int .i64 (a : Nat), .string ⟨n.toArray⟩, .int .i64 (m : Nat), .slice a4 ns.length c4, .slice a5 l.length c5, .slice a6 ts.length c6] ∧ IsC A w (.row 36 7 l.length (encEs 26 36 l)) (.slice a5 l.length c5) := by
  simp only [encE] at h
  obtain ⟨x0, ys, rfl, k0, h⟩ := h.uncons
  obtain ⟨x1, ys, rfl, k1, h⟩ := h.uncons
  obtain ⟨x2, ys, rfl, k2, h⟩ := h.uncons
  obtain ⟨x3, ys, rfl, k3, h⟩ := h.uncons
  obtain ⟨x4, ys, rfl, k4, h⟩ := h.uncons
  obtain ⟨x5, ys, rfl, k5, h⟩ := h.uncons
  obtain ⟨x6, ys, rfl, k6, h⟩ := h.uncons
  simp only [IsCs] at h
  subst h
  simp only [IsC] at k0 k1 k2 k3
  subst k0 k1 k2 k3
  obtain ⟨_, r4, -, -⟩ := k4.unrow
  obtain ⟨a4, c4, rfl⟩ := row_slice r4
  obtain ⟨_, r5, -, -⟩ := k5.unrow
  obtain ⟨a5, c5, rfl⟩ := row_slice r5
  obtain ⟨_, r6, -, -⟩ := k6.unrow
  obtain ⟨a6, c6, rfl⟩ := row_slice r6
  exact ⟨a4, c4, a5, c5, a6, c6, rfl, k5⟩

theorem exprs_opt (l : Bs) (hl : l.length ≤ 100000) (t : ByteArray) (ht : t.data.toList = l) (W : World) : Calls Tryz.prog 13 #[.string t] W fun e W' => Below W.heap.size W W' ∧ ∃ i0 i1 s2 i3 a4 n4 c4 a5 n5 c5 a6 n6 c6 ok, e = .returned (.tuple #[.agg #[.int .i64 i0, .int .i64 i1, .string s2, .int .i64 i3, .slice a4 n4 c4, .slice a5 n5 c5, .slice a6 n6 c6], .bool ok]) ∧ (ok = false ∨ ok = true ∧ ∃ x, whE l = some x ∧ IsCs (fun _ => True) W' (encE 26 36 x) [.int .i64 i0, .int .i64 i1, .string s2, .int .i64 i3, .slice a4 n4 c4, .slice a5 n5 c5, .slice a6 n6 c6]) := by
  have hsz : t.size ≤ 100000 := by
    show t.data.size ≤ 100000
    rw [← Array.length_toList, ht]; exact hl
  refine (exprs_any t hsz W).mono ?_
  rintro e W' ⟨b, h⟩
  rw [ht] at h
  refine ⟨b, ?_⟩
  have hw : whE l = wholeO (readW (exp 64) (toks l)) (dns l) := rfl
  rw [← hw] at h
  cases ho : whE l with
  | none =>
    rw [ho] at h
    exact ⟨_, _, _, _, _, _, _, _, _, _, _, _, _, false, h, .inl rfl⟩
  | some x =>
    rw [ho] at h
    obtain ⟨cs, h, hcs⟩ := h
    subst h
    obtain ⟨k, a, n, m, ns, ll, ts⟩ := x
    obtain ⟨a4, c4, a5, c5, a6, c6, rfl, -⟩ := cells_K hcs
    exact ⟨_, _, _, _, _, _, _, _, _, _, _, _, _, true, rfl, .inr ⟨rfl, _, rfl, hcs.mono (fun _ _ _ => trivial)⟩⟩

/-- An expression of a kind in a block, and its parts. -/
structure Kd (W : World) (b k g c0 : Nat) (l : List PE) : Prop where
  blk : ∃ v1 v2 v3 v4 v6, W.heap[b]? = some (.cells #[.int .i64 (k : Nat), v1, v2, v3, v4, .slice (some ⟨g, 0, none⟩) l.length c0, v6] 36 (0, 0))
  sub : Sub (fun _ => True) W (encEs 26 36 l) l.length (.slice (some ⟨g, 0, none⟩) l.length c0)
theorem Kd.lt {W : World} {b k g c0 : Nat} {l : List PE} (h : Kd W b k g c0 l) : b < W.heap.size := by
  obtain ⟨⟨v1, v2, v3, v4, v6, h1⟩, h2⟩ := h
  exact (Array.getElem?_eq_some_iff.1 h1).1
theorem Kd.below {W W' : World} {b k g c0 : Nat} {l : List PE} (h : Kd W b k g c0 l) (hb : Below W.heap.size W W') : Kd W' b k g c0 l := by
  obtain ⟨⟨v1, v2, v3, v4, v6, h1⟩, h2⟩ := h
  exact ⟨⟨v1, v2, v3, v4, v6, (hb.block _ (Array.getElem?_eq_some_iff.1 h1).1).trans h1⟩, h2.below hb⟩
theorem Kd.c0 {W : World} {b k g c0 : Nat} {l : List PE} (h : Kd W b k g c0 l) : W.cell? ⟨b, 0, none⟩ = some (.int .i64 (k : Nat)) := by
  obtain ⟨⟨v1, v2, v3, v4, v6, h1⟩, h2⟩ := h
  simp [World.cell?, h1]
theorem Kd.c5 {W : World} {b k g c0 : Nat} {l : List PE} (h : Kd W b k g c0 l) : W.cell? ⟨b, 5, none⟩ = some (.slice (some ⟨g, 0, none⟩) l.length c0) := by
  obtain ⟨⟨v1, v2, v3, v4, v6, h1⟩, h2⟩ := h
  simp [World.cell?, h1]
theorem Kd.part {W : World} {b k g c0 : Nat} {l : List PE} (h : Kd W b k g c0 l) (j m : Nat) (hm : j + m ≤ l.length) (hl : l.length ≠ 0) (c' : Nat) : Sub (fun _ => True) W (encEs 26 36 ((l.drop j).take m)) m (.slice (some ⟨g, 0 + j * 7, none⟩) m c') := by
  have h1 := h.sub
  rw [encEs_flat] at h1 ⊢
  exact (Sub.drop (encE_length 26 36) h1 j (by omega) (l.length - j) c' (fun _ => hl)).take m (by omega)
def KPost (k : Nat) (l : List PE) (W : World) (e : Ending) (W' : World) : Prop :=
  Below W.heap.size W W' ∧ ∃ i1 s2 i3 a4 n4 c4 g c5 a6 n6 c6, e = .returned (.tuple #[.agg #[.int .i64 (k : Nat), .int .i64 i1, .string s2, .int .i64 i3, .slice a4 n4 c4, .slice (some ⟨g, 0, none⟩) l.length c5, .slice a6 n6 c6], .bool true]) ∧ l.length ≤ c5 ∧ Sub (fun _ => True) W' (encEs 26 36 l) l.length (.slice (some ⟨g, 0, none⟩) l.length c5)
theorem row_at {A : Nat → Prop} {w : World} {n : Nat} {l : List Dt} {a5 : Option Addr} {c5 : Nat} (h : IsC A w (.row 36 7 n l) (.slice a5 n c5)) (hn : n ≠ 0) : ∃ g, a5 = some ⟨g, 0, none⟩ ∧ n ≤ c5 := by
  obtain ⟨xs, h1, -, -⟩ := h.unrow
  rcases h1.2 with ⟨_, e⟩ | ⟨g, c, cur, he, hb, hg, rest⟩
  · exact absurd e hn
  · injection he with e1 e2 e3
    subst e1 e3
    exact ⟨g, rfl, rest.1⟩
theorem exprs_some {l : Bs} (hl : l.length ≤ 100000) {k a : Nat} {n : Bs} {m : Nat} {ns : List Bs} {ll : List PE} {ts : List PT} (h : whE l = some (.mk k a n m ns ll ts)) (hll : ll.length ≠ 0) (t : ByteArray) (ht : t.data.toList = l) (W : World) : Calls Tryz.prog 13 #[.string t] W (KPost k ll W) := by
  have hsz : t.size ≤ 100000 := by
    show t.data.size ≤ 100000
    rw [← Array.length_toList, ht]; exact hl
  refine (exprs_any t hsz W).mono ?_
  rintro e W' ⟨b, h1⟩
  rw [ht] at h1
  have hw : whE l = wholeO (readW (exp 64) (toks l)) (dns l) := rfl
  rw [← hw, h] at h1
  obtain ⟨cs, h1, hcs⟩ := h1
  subst h1
  obtain ⟨a4, c4, a5, c5, a6, c6, rfl, k5⟩ := cells_K hcs
  obtain ⟨g, rfl, hc⟩ := row_at k5 hll
  exact ⟨b, _, _, _, _, _, _, _, _, _, _, _, rfl, hc, (Sub.of_row k5 (by rw [encEs_flat]; exact flat_length (encE_length 26 36) ll)).mono (fun _ _ _ => trivial)⟩
/-- It is stored into a new block. -/
theorem Kd.stored {W' W9 : World} {k : Nat} {i1 : Int} {s2 : ByteArray} {i3 : Int} {a4 : Option Addr} {n4 c4 : Nat} {g : Nat} {c5 : Nat} {a6 : Option Addr} {n6 c6 : Nat} {l : List PE} (e9 : W9 = putL (W'.alloc zE) W'.heap.size [.int .i64 (k : Nat), .int .i64 i1, .string s2, .int .i64 i3, .slice a4 n4 c4, .slice (some ⟨g, 0, none⟩) l.length c5, .slice a6 n6 c6]) (hs : Sub (fun _ => True) W' (encEs 26 36 l) l.length (.slice (some ⟨g, 0, none⟩) l.length c5)) : Kd W9 W'.heap.size k g c5 l ∧ Below W'.heap.size W' W9 := by
  have hB : Below W'.heap.size W' W9 := by rw [e9]; exact Below.putL ((Below.refl _ _).alloc (Nat.le_refl _) _) (Nat.le_refl _) _
  refine ⟨⟨⟨.int .i64 i1, .string s2, .int .i64 i3, .slice a4 n4 c4, .slice a6 n6 c6, ?_⟩, hs.below hB⟩, hB⟩
  rw [e9]
  exact putL_at (vs := [.int .i64 (k : Nat), .int .i64 i1, .string s2, .int .i64 i3, .slice a4 n4 c4, .slice (some ⟨g, 0, none⟩) l.length c5, .slice a6 n6 c6]) (heap_alloc_new W' zE) rfl
theorem size_whE {l : Bs} {x : PE} (h : whE l = some x) : szE x ≤ l.length + 1 := by
  obtain ⟨-, h⟩ := whE_inv h
  have h1 := exp_sb _ _ _ _ _ h
  have h2 := toks_len l
  rw [toks_tk] at h2
  omega

set_option maxHeartbeats 4000000 in
theorem kinds_walk (s : ByteArray) (w : World) : Calls Tryz.prog 4 #[.string s] w (Tells w) := by
  have HA := Lib.hid (alive_any w)
  obtain ⟨l, hl⟩ : ∃ l, l = s.data.toList := ⟨_, rfl⟩
  have hls : l.length = s.size := by rw [hl]; exact Array.length_toList
  have HL := Lib.hid hl.symm
  have HLS := Lib.hid hls
  clear hl hls
  by_cases hb : s.size ≤ 400
  · have e1 : decide ((400 : Int) < (s.size : Int)) = false := by simp only [decide_eq_false_iff_not]; omega
    have HBG := Lib.hid hb
    have H1 := Lib.hid (exprs_opt l (by rw [HLS.out]; omega))
    have H2 := Lib.hid (exprs_opt (srcK l) (by rw [srcK]; simp only [List.length_append, List.length_cons, List.length_nil]; have := HLS.out; omega))
    go_enter Tryz.func4, Tryz.ntmps4
    go_wp2_with fail
    refine HA.out.mono ?_
    rintro e w1 ⟨rfl, b1⟩
    have B1 := Lib.hid b1
    clear b1
    go_wp2_with fail
    refine (H1.out _ HL.out _).mono ?_
    rintro e w2 ⟨b2, i0, i1, s2, i3, a4, n4, c4, a5, n5, c5, a6, n6, c6, ok, rfl, hok⟩
    have B2 := Lib.hid (B1.out.trans (b2.mono B1.out.size))
    have HOK := Lib.hid hok
    have HTH := Lib.hid (there_of (heap_alloc_new w2 zE) (n := 7) rfl)
    clear b2 hok
    go_wp2_with (first | (refine wpList_store_put rfl 36 (.tmp 3) (.tmp 27) rfl w2.heap.size _ rfl rfl HTH.out size49 (all_oneCell_toArray (by simp [Value.oneCell'])) ?_; intro W2 hW2))
    have e9 : W2 = putL (w2.alloc zE) w2.heap.size [.int .i64 i0, .int .i64 i1, .string s2, .int .i64 i3, .slice a4 n4 c4, .slice a5 n5 c5, .slice a6 n6 c6] := hW2.out
    have hA2 : W2.heap[w2.heap.size]? = some (.cells #[.int .i64 i0, .int .i64 i1, .string s2, .int .i64 i3, .slice a4 n4 c4, .slice a5 n5 c5, .slice a6 n6 c6] 36 (0, 0)) := by rw [e9]; exact putL_at (vs := [.int .i64 i0, .int .i64 i1, .string s2, .int .i64 i3, .slice a4 n4 c4, .slice a5 n5 c5, .slice a6 n6 c6]) (heap_alloc_new w2 zE) rfl
    have hB2 : Below w2.heap.size w2 W2 := by rw [e9]; exact Below.putL ((Below.refl _ _).alloc (Nat.le_refl _) _) (Nat.le_refl _) _
    have A2 := Lib.hid hA2
    have BB2 := Lib.hid hB2
    clear hA2 hB2 e9 hW2
    refine (H2.out _ ?_ _).mono ?_
    · simp [srcK, ← HL.out]
    rintro e w3 ⟨b3, j0, j1, t2, j3, x4, m4, y4, x5, m5, y5, x6, m6, y6, may, rfl, hmay⟩
    have B3 := Lib.hid b3
    have HMAY := Lib.hid hmay
    have HTH := Lib.hid (there_of (heap_alloc_new w3 zE) (n := 7) rfl)
    have A3 := Lib.hid ((b3.block _ (Array.getElem?_eq_some_iff.1 A2.out).1).trans A2.out)
    have BF := Lib.hid (B2.out.trans ((BB2.out.trans ((b3.trans ((Below.putL ((Below.refl _ _).alloc (Nat.le_refl _) _) (Nat.le_refl _) [.int .i64 j0, .int .i64 j1, .string t2, .int .i64 j3, .slice x4 m4 y4, .slice x5 m5 y5, .slice x6 m6 y6] : Below w3.heap.size w3 (putL (w3.alloc zE) w3.heap.size [.int .i64 j0, .int .i64 j1, .string t2, .int .i64 j3, .slice x4 m4 y4, .slice x5 m5 y5, .slice x6 m6 y6])).mono b3.size)).mono BB2.out.size)).mono B2.out.size))
    clear b3 hmay
    rcases ok with _ | _
    · rcases may with _ | _
      all_goals
        go_wp2_with (first | (refine wpList_store_put rfl 36 (.tmp 5) (.tmp 34) rfl w3.heap.size _ rfl rfl HTH.out size49 (all_oneCell_toArray (by simp [Value.oneCell'])) ?_; intro W3 hW3))
        have e9 : W3 = putL (w3.alloc zE) w3.heap.size [.int .i64 j0, .int .i64 j1, .string t2, .int .i64 j3, .slice x4 m4 y4, .slice x5 m5 y5, .slice x6 m6 y6] := hW3.out
        go_ret
        exact ⟨rfl, by rw [e9]; exact BF.out⟩
    · rcases may with _ | _
      · go_wp2_with (first | (refine wpList_store_put rfl 36 (.tmp 5) (.tmp 34) rfl w3.heap.size _ rfl rfl HTH.out size49 (all_oneCell_toArray (by simp [Value.oneCell'])) ?_; intro W3 hW3))
        have e9 : W3 = putL (w3.alloc zE) w3.heap.size [.int .i64 j0, .int .i64 j1, .string t2, .int .i64 j3, .slice x4 m4 y4, .slice x5 m5 y5, .slice x6 m6 y6] := hW3.out
        go_ret
        exact ⟨rfl, by rw [e9]; exact BF.out⟩
      · obtain hf | ⟨-, x, hx, hcx⟩ := HOK.out
        · cases hf
        obtain hf | ⟨-, y, hy, hcy⟩ := HMAY.out
        · cases hf
        obtain ⟨hcl, h61, rfl⟩ := may_61 hx hy
        have ht0 : td 0 l = [] := (whE_inv hx).1
        obtain ⟨ca, cp, cq, hC⟩ := knd_call hcl ht0 h61
        obtain ⟨fp, hF⟩ := knd_fun ht0 h61
        obtain ⟨lp, lq, hLt⟩ := knd_let hcl ht0 h61
        obtain ⟨ip, iq, io, hI⟩ := knd_if hcl ht0 h61
        obtain ⟨ap, hAs⟩ := knd_as hcl ht0 h61
        have HC := Lib.hid (exprs_some (by simp only [List.length_append, List.length_cons, List.length_nil]; have := HLS.out; omega) hC (by simp))
        have HF := Lib.hid (exprs_some (by simp only [List.length_append, List.length_cons, List.length_nil]; have := HLS.out; omega) hF (by simp))
        have HLT := Lib.hid (exprs_some (by simp only [List.length_append, List.length_cons, List.length_nil]; have := HLS.out; omega) hLt (by simp))
        have HI := Lib.hid (exprs_some (by simp only [List.length_append, List.length_cons, List.length_nil]; have := HLS.out; omega) hI (by simp))
        have HAS := Lib.hid (exprs_some (by simp only [List.length_append, List.length_cons, List.length_nil]; have := HLS.out; omega) hAs (by simp))
        have HSZ := Lib.hid (show szE x ≤ 1000000 by have := size_whE hx; have := HLS.out; omega)
        have HCX := Lib.hid hcx
        have hcy' : IsCs (fun _ => True) w3 (encE 26 36 (.mk 5 1 [] 0 [[107]] [x.pl (· + 7)] [])) [.int .i64 j0, .int .i64 j1, .string t2, .int .i64 j3, .slice x4 m4 y4, .slice x5 m5 y5, .slice x6 m6 y6] := hcy
        obtain ⟨p4, q4, p5, q5, p6, q6, he, hk5⟩ := cells_K hcy'
        simp only [List.cons.injEq, Value.int.injEq, Value.slice.injEq, Value.string.injEq, and_true, true_and] at he
        obtain ⟨rfl, rfl, rfl, rfl, ⟨rfl, rfl, rfl⟩, ⟨rfl, rfl, rfl⟩, rfl, rfl, rfl⟩ := he
        obtain ⟨gy, rfl, hcy5⟩ := row_at hk5 (by simp)
        have HKY := Lib.hid ((Sub.of_row hk5 (by rw [encEs_flat]; exact flat_length (encE_length 26 36) [x.pl (· + 7)])).mono (fun _ _ _ => trivial) : Sub (fun _ => True) w3 (encEs 26 36 [x.pl (· + 7)]) 1 _)
        clear hx hcx hy hcy hcy' hcl h61 ht0 hC hF hLt hI hAs hk5
        go_upto_region 9 with (first | (refine wpList_store_put rfl 36 (.tmp 5) (.tmp 34) rfl w3.heap.size _ rfl rfl HTH.out size49 (all_oneCell_toArray (by simp [Value.oneCell'])) ?_; intro W3 hW3))
        have hK3 := Kd.stored (k := 5) (l := [x.pl (· + 7)]) hW3.out HKY.out
        have K3 := Lib.hid hK3.1
        have hA3 := (hK3.2.block _ (Array.getElem?_eq_some_iff.1 A3.out).1).trans A3.out
        have HBW := Lib.hid (B2.out.trans ((BB2.out.trans ((B3.out.trans (hK3.2.mono B3.out.size)).mono BB2.out.size)).mono B2.out.size))
        have HCX3 := Lib.hid (((HCX.out.below BB2.out).below B3.out).below hK3.2)
        obtain ⟨⟨q0, q1, q2, q3, q4, q5, q6⟩, -⟩ := sev_of (t := 36) hA3
        have hlx : w2.heap.size < W3.heap.size := (Array.getElem?_eq_some_iff.1 hA3).1
        have hly : w3.heap.size < W3.heap.size := by
          obtain ⟨⟨_, _, _, _, _, hb'⟩, _⟩ := hK3.1
          exact (Array.getElem?_eq_some_iff.1 hb').1
        clear hA3 hK3 hW3
        go_upto_region 11 with fail
        obtain ⟨W4, hW4⟩ : ∃ W4, (W3.alloc (.cells #[.int .i64 i0, .int .i64 i1, .string s2, .int .i64 i3, .slice a4 n4 c4, .slice a5 n5 c5, .slice a6 n6 c6] 36)).alloc (.cells #[.slice (some ⟨W3.heap.size, 0, none⟩) 1 1] 34) = W4 := ⟨_, rfl⟩
        have hB4 : Below W3.heap.size W3 W4 := by rw [← hW4]; exact ((Below.refl _ _).alloc (Nat.le_refl _) _).alloc (by simp) _
        have hX4 : W4.heap[W3.heap.size + 1]? = some (.cells #[.slice (some ⟨W3.heap.size, 0, none⟩) 1 1] 34 (0, 0)) := by
          rw [← hW4]
          have := heap_alloc_new (W3.alloc (.cells #[.int .i64 i0, .int .i64 i1, .string s2, .int .i64 i3, .slice a4 n4 c4, .slice a5 n5 c5, .slice a6 n6 c6] 36)) (.cells #[.slice (some ⟨W3.heap.size, 0, none⟩) 1 1] 34)
          simpa using this
        have hS4 : Sub (fun _ => True) W4 (encEs 26 36 [x]) 1 (.slice (some ⟨W3.heap.size, 0, none⟩) 1 1) := by
          rw [← hW4]
          have := row_lit (e := 36) (size := 7) (n := 1) (g := W3.heap.size) (l := encEs 26 36 [x]) (cs := [.int .i64 i0, .int .i64 i1, .string s2, .int .i64 i3, .slice a4 n4 c4, .slice a5 n5 c5, .slice a6 n6 c6]) (A := fun _ => True) (by decide) rfl trivial (by decide) rfl (by simpa [encEs] using HCX3.out)
          exact (Sub.of_row this (by rw [encEs_flat]; exact flat_length (encE_length 26 36) [x])).below ((Below.refl _ _).alloc (Nat.le_refl _) _)
        rw [hW4]
        have HB4 := Lib.hid hB4
        have HX4 := Lib.hid hX4
        have HS4 := Lib.hid hS4
        have HBW4 := Lib.hid (HBW.out.trans (hB4.mono HBW.out.size))
        clear hW4 hB4 hX4 hS4 q0 q1 q2 q3 q4 q5 q6 hlx hly
        go_wp2_with fail
        refine (HC.out _ ?_ _).mono ?_
        · simp [HL.out]
        rintro e w5 ⟨b5, i1C, s2C, i3C, a4C, n4C, c4C, gC, cC, a6C, n6C, c6C, rfl, hcC, hsC⟩
        have HSC := Lib.hid hsC
        have HCCC := Lib.hid hcC
        have HTH := Lib.hid (there_of (heap_alloc_new w5 zE) (n := 7) rfl)
        have BA5 := Lib.hid b5
        clear b5 hsC hcC
        go_upto_region 12 with (first | (refine wpList_store_put rfl 36 (.tmp 9) (.tmp 53) rfl w5.heap.size _ rfl rfl HTH.out size49 (all_oneCell_toArray (by simp [Value.oneCell'])) ?_; intro W5 hW5))
        have hK5 := Kd.stored (k := 7) (l := [x.pl cp, x.pl cq]) hW5.out HSC.out
        have K5 := Lib.hid hK5.1
        have HB5 := Lib.hid (BA5.out.trans (hK5.2.mono BA5.out.size))
        have HBW5 := Lib.hid (HBW4.out.trans (HB5.out.mono HBW4.out.size))
        clear hK5 hW5
        go_wp2_with fail
        refine (HF.out _ ?_ _).mono ?_
        · simp [HL.out]
        rintro e w6 ⟨b6, i1F, s2F, i3F, a4F, n4F, c4F, gF, cF, a6F, n6F, c6F, rfl, hcF, hsF⟩
        have HSF := Lib.hid hsF
        have HCCF := Lib.hid hcF
        have HTH := Lib.hid (there_of (heap_alloc_new w6 zE) (n := 7) rfl)
        have BA6 := Lib.hid b6
        clear b6 hsF hcF
        go_upto_region 13 with (first | (refine wpList_store_put rfl 36 (.tmp 11) (.tmp 59) rfl w6.heap.size _ rfl rfl HTH.out size49 (all_oneCell_toArray (by simp [Value.oneCell'])) ?_; intro W6 hW6))
        have hK6 := Kd.stored (k := 8) (l := [x.pl fp]) hW6.out HSF.out
        have K6 := Lib.hid hK6.1
        have HB6 := Lib.hid (BA6.out.trans (hK6.2.mono BA6.out.size))
        have HBW6 := Lib.hid (HBW5.out.trans (HB6.out.mono HBW5.out.size))
        clear hK6 hW6
        go_wp2_with fail
        refine (HLT.out _ ?_ _).mono ?_
        · simp [HL.out]
        rintro e w7 ⟨b7, i1LT, s2LT, i3LT, a4LT, n4LT, c4LT, gLT, cLT, a6LT, n6LT, c6LT, rfl, hcLT, hsLT⟩
        have HSLT := Lib.hid hsLT
        have HCCLT := Lib.hid hcLT
        have HTH := Lib.hid (there_of (heap_alloc_new w7 zE) (n := 7) rfl)
        have BA7 := Lib.hid b7
        clear b7 hsLT hcLT
        go_upto_region 14 with (first | (refine wpList_store_put rfl 36 (.tmp 13) (.tmp 68) rfl w7.heap.size _ rfl rfl HTH.out size49 (all_oneCell_toArray (by simp [Value.oneCell'])) ?_; intro W7 hW7))
        have hK7 := Kd.stored (k := 9) (l := [x.pl lp, x.pl lq]) hW7.out HSLT.out
        have K7 := Lib.hid hK7.1
        have HB7 := Lib.hid (BA7.out.trans (hK7.2.mono BA7.out.size))
        have HBW7 := Lib.hid (HBW6.out.trans (HB7.out.mono HBW6.out.size))
        clear hK7 hW7
        go_wp2_with fail
        refine (HI.out _ ?_ _).mono ?_
        · simp [HL.out]
        rintro e w8 ⟨b8, i1I, s2I, i3I, a4I, n4I, c4I, gI, cI, a6I, n6I, c6I, rfl, hcI, hsI⟩
        have HSI := Lib.hid hsI
        have HCCI := Lib.hid hcI
        have HTH := Lib.hid (there_of (heap_alloc_new w8 zE) (n := 7) rfl)
        have BA8 := Lib.hid b8
        clear b8 hsI hcI
        go_upto_region 15 with (first | (refine wpList_store_put rfl 36 (.tmp 15) (.tmp 80) rfl w8.heap.size _ rfl rfl HTH.out size49 (all_oneCell_toArray (by simp [Value.oneCell'])) ?_; intro W8 hW8))
        have hK8 := Kd.stored (k := 10) (l := [x.pl ip, x.pl iq, x.pl io]) hW8.out HSI.out
        have K8 := Lib.hid hK8.1
        have HB8 := Lib.hid (BA8.out.trans (hK8.2.mono BA8.out.size))
        have HBW8 := Lib.hid (HBW7.out.trans (HB8.out.mono HBW7.out.size))
        clear hK8 hW8
        go_wp2_with fail
        refine (HAS.out _ ?_ _).mono ?_
        · simp [HL.out]
        rintro e w9 ⟨b9, i1AS, s2AS, i3AS, a4AS, n4AS, c4AS, gAS, cAS, a6AS, n6AS, c6AS, rfl, hcAS, hsAS⟩
        have HSAS := Lib.hid hsAS
        have HCCAS := Lib.hid hcAS
        have HTH := Lib.hid (there_of (heap_alloc_new w9 zE) (n := 7) rfl)
        have BA9 := Lib.hid b9
        clear b9 hsAS hcAS
        go_upto_region 16 with (first | (refine wpList_store_put rfl 36 (.tmp 17) (.tmp 87) rfl w9.heap.size _ rfl rfl HTH.out size49 (all_oneCell_toArray (by simp [Value.oneCell'])) ?_; intro W9 hW9))
        have hK9 := Kd.stored (k := 11) (l := [x.pl ap]) hW9.out HSAS.out
        have K9 := Lib.hid hK9.1
        have HB9 := Lib.hid (BA9.out.trans (hK9.2.mono BA9.out.size))
        have HBW9 := Lib.hid (HBW8.out.trans (HB9.out.mono HBW8.out.size))
        clear hK9 hW9
        have k3 := (((((K3.out.below HB4.out).below HB5.out).below HB6.out).below HB7.out).below HB8.out).below HB9.out
        have k5 := (((K5.out.below HB6.out).below HB7.out).below HB8.out).below HB9.out
        have k6 := ((K6.out.below HB7.out).below HB8.out).below HB9.out
        have k7 := (K7.out.below HB8.out).below HB9.out
        have k8 := K8.out.below HB9.out
        have k9 := K9.out
        have B49 := HB4.out.trans (HB5.out.trans (HB6.out.trans ((HB7.out.trans ((HB8.out.trans (HB9.out.mono HB8.out.size)).mono HB7.out.size)).mono HB6.out.size) |>.mono HB5.out.size) |>.mono HB4.out.size)
        have sX := ((((HS4.out.below HB5.out).below HB6.out).below HB7.out).below HB8.out).below HB9.out
        have l4 := (Array.getElem?_eq_some_iff.1 HX4.out).1
        have bX := (HB5.out.trans (HB6.out.trans ((HB7.out.trans ((HB8.out.trans (HB9.out.mono HB8.out.size)).mono HB7.out.size)).mono HB6.out.size) |>.mono HB5.out.size)).block _ l4 |>.trans HX4.out
        have cS : ∀ (v : Value) (φ : Nat → Nat), Sub (fun _ => True) W9 (encEs 26 36 [x.pl φ]) 1 v → Hid (∀ X : World, Below W9.heap.size W9 X → Calls Tryz.prog 19 #[v, .pointer (some ⟨W3.heap.size + 1, 0, none⟩)] X fun e w'' => e = .returned (.bool true) ∧ Below W9.heap.size W9 w'') := by
          intro v φ hv X hX
          refine (clo_any x φ HSZ.out _ _ X _ v _ ((hX.block _ (Array.getElem?_eq_some_iff.1 bX).1).trans bX) (hv.below hX) (sX.below hX)).mono ?_
          rintro e w'' ⟨rfl, b⟩
          exact ⟨rfl, hX.trans (b.mono hX.size)⟩
        have t30 := cS (Value.slice (some ⟨gy, 0, none⟩) 1 (y5)) _ (k3.part 0 1 (by simp) (by simp) (y5))
        have z3 : Hid (∀ X : World, Below W9.heap.size W9 X → X.cell? ⟨w3.heap.size, 0, none⟩ = some (.int .i64 (5 : Int)) ∧ X.cell? ⟨w3.heap.size, 5, none⟩ = some (.slice (some ⟨gy, 0, none⟩) 1 y5)) := fun X hX => ⟨(hX.cell (p := ⟨w3.heap.size, 0, none⟩) k3.lt).trans k3.c0, (hX.cell (p := ⟨w3.heap.size, 5, none⟩) k3.lt).trans k3.c5⟩
        have t50 := cS (Value.slice (some ⟨gC, 0, none⟩) 1 (cC)) _ (k5.part 0 1 (by simp) (by simp) (cC))
        have t51 := cS (Value.slice (some ⟨gC, 7, none⟩) 1 (cC - 1)) _ (k5.part 1 1 (by simp) (by simp) (cC - 1))
        have z5 : Hid (∀ X : World, Below W9.heap.size W9 X → X.cell? ⟨w5.heap.size, 0, none⟩ = some (.int .i64 (7 : Int)) ∧ X.cell? ⟨w5.heap.size, 5, none⟩ = some (.slice (some ⟨gC, 0, none⟩) 2 cC)) := fun X hX => ⟨(hX.cell (p := ⟨w5.heap.size, 0, none⟩) k5.lt).trans k5.c0, (hX.cell (p := ⟨w5.heap.size, 5, none⟩) k5.lt).trans k5.c5⟩
        have t60 := cS (Value.slice (some ⟨gF, 0, none⟩) 1 (cF)) _ (k6.part 0 1 (by simp) (by simp) (cF))
        have z6 : Hid (∀ X : World, Below W9.heap.size W9 X → X.cell? ⟨w6.heap.size, 0, none⟩ = some (.int .i64 (8 : Int)) ∧ X.cell? ⟨w6.heap.size, 5, none⟩ = some (.slice (some ⟨gF, 0, none⟩) 1 cF)) := fun X hX => ⟨(hX.cell (p := ⟨w6.heap.size, 0, none⟩) k6.lt).trans k6.c0, (hX.cell (p := ⟨w6.heap.size, 5, none⟩) k6.lt).trans k6.c5⟩
        have t70 := cS (Value.slice (some ⟨gLT, 0, none⟩) 1 (cLT)) _ (k7.part 0 1 (by simp) (by simp) (cLT))
        have t71 := cS (Value.slice (some ⟨gLT, 7, none⟩) 1 (cLT - 1)) _ (k7.part 1 1 (by simp) (by simp) (cLT - 1))
        have z7 : Hid (∀ X : World, Below W9.heap.size W9 X → X.cell? ⟨w7.heap.size, 0, none⟩ = some (.int .i64 (9 : Int)) ∧ X.cell? ⟨w7.heap.size, 5, none⟩ = some (.slice (some ⟨gLT, 0, none⟩) 2 cLT)) := fun X hX => ⟨(hX.cell (p := ⟨w7.heap.size, 0, none⟩) k7.lt).trans k7.c0, (hX.cell (p := ⟨w7.heap.size, 5, none⟩) k7.lt).trans k7.c5⟩
        have t80 := cS (Value.slice (some ⟨gI, 0, none⟩) 1 (cI)) _ (k8.part 0 1 (by simp) (by simp) (cI))
        have t81 := cS (Value.slice (some ⟨gI, 7, none⟩) 1 (cI - 1)) _ (k8.part 1 1 (by simp) (by simp) (cI - 1))
        have t82 := cS (Value.slice (some ⟨gI, 14, none⟩) 1 (cI - 2)) _ (k8.part 2 1 (by simp) (by simp) (cI - 2))
        have z8 : Hid (∀ X : World, Below W9.heap.size W9 X → X.cell? ⟨w8.heap.size, 0, none⟩ = some (.int .i64 (10 : Int)) ∧ X.cell? ⟨w8.heap.size, 5, none⟩ = some (.slice (some ⟨gI, 0, none⟩) 3 cI)) := fun X hX => ⟨(hX.cell (p := ⟨w8.heap.size, 0, none⟩) k8.lt).trans k8.c0, (hX.cell (p := ⟨w8.heap.size, 5, none⟩) k8.lt).trans k8.c5⟩
        have t90 := cS (Value.slice (some ⟨gAS, 0, none⟩) 1 (cAS)) _ (k9.part 0 1 (by simp) (by simp) (cAS))
        have z9 : Hid (∀ X : World, Below W9.heap.size W9 X → X.cell? ⟨w9.heap.size, 0, none⟩ = some (.int .i64 (11 : Int)) ∧ X.cell? ⟨w9.heap.size, 5, none⟩ = some (.slice (some ⟨gAS, 0, none⟩) 1 cAS)) := fun X hX => ⟨(hX.cell (p := ⟨w9.heap.size, 0, none⟩) k9.lt).trans k9.c0, (hX.cell (p := ⟨w9.heap.size, 5, none⟩) k9.lt).trans k9.c5⟩
        have hcC := HCCC.out
        have hcL := HCCLT.out
        have hcI := HCCI.out
        simp only [List.length_cons, List.length_nil, Nat.reduceAdd] at hcC hcL hcI
        have R0 := Lib.hid (Below.refl W9.heap.size W9)
        clear k3 k5 k6 k7 k8 k9 B49 sX bX l4 cS
        obtain ⟨c0_0, c5_0⟩ := z3.out W9 R0.out
        go_wp2_with fail
        refine (t30.out W9 R0.out).mono ?_
        rintro e v0 ⟨rfl, r0⟩
        have R1 := Lib.hid r0
        clear r0 c0_0 c5_0
        obtain ⟨c0_1, c5_1⟩ := z5.out v0 R1.out
        go_wp2_with fail
        refine (t50.out v0 R1.out).mono ?_
        rintro e v1 ⟨rfl, r1⟩
        have R2 := Lib.hid r1
        clear r1 c0_1 c5_1
        obtain ⟨c0_2, c5_2⟩ := z5.out v1 R2.out
        go_wp2_with fail
        refine (t51.out v1 R2.out).mono ?_
        rintro e v2 ⟨rfl, r2⟩
        have R3 := Lib.hid r2
        clear r2 c0_2 c5_2
        obtain ⟨c0_3, c5_3⟩ := z6.out v2 R3.out
        go_wp2_with fail
        refine (t60.out v2 R3.out).mono ?_
        rintro e v3 ⟨rfl, r3⟩
        have R4 := Lib.hid r3
        clear r3 c0_3 c5_3
        obtain ⟨c0_4, c5_4⟩ := z7.out v3 R4.out
        go_wp2_with fail
        refine (t70.out v3 R4.out).mono ?_
        rintro e v4 ⟨rfl, r4⟩
        have R5 := Lib.hid r4
        clear r4 c0_4 c5_4
        obtain ⟨c0_5, c5_5⟩ := z7.out v4 R5.out
        go_wp2_with fail
        refine (t71.out v4 R5.out).mono ?_
        rintro e v5 ⟨rfl, r5⟩
        have R6 := Lib.hid r5
        clear r5 c0_5 c5_5
        obtain ⟨c0_6, c5_6⟩ := z8.out v5 R6.out
        go_wp2_with fail
        refine (t80.out v5 R6.out).mono ?_
        rintro e v6 ⟨rfl, r6⟩
        have R7 := Lib.hid r6
        clear r6 c0_6 c5_6
        obtain ⟨c0_7, c5_7⟩ := z8.out v6 R7.out
        go_wp2_with fail
        refine (t81.out v6 R7.out).mono ?_
        rintro e v7 ⟨rfl, r7⟩
        have R8 := Lib.hid r7
        clear r7 c0_7 c5_7
        obtain ⟨c0_8, c5_8⟩ := z8.out v7 R8.out
        go_wp2_with fail
        refine (t82.out v7 R8.out).mono ?_
        rintro e v8 ⟨rfl, r8⟩
        have R9 := Lib.hid r8
        clear r8 c0_8 c5_8
        obtain ⟨c0_9, c5_9⟩ := z9.out v8 R9.out
        go_wp2_with fail
        refine (t90.out v8 R9.out).mono ?_
        rintro e v9 ⟨rfl, r9⟩
        have R10 := Lib.hid r9
        clear r9 c0_9 c5_9
        go_wp2_with fail
        go_ret
        exact ⟨rfl, HBW9.out.trans (R10.out.mono HBW9.out.size)⟩
  · have e1 : decide ((400 : Int) < (s.size : Int)) = true := by simp only [decide_eq_true_eq]; omega
    go_enter Tryz.func4, Tryz.ntmps4
    go_wp2_with fail
    refine HA.out.mono ?_
    rintro e w1 ⟨rfl, b1⟩
    have B1 := Lib.hid b1
    clear b1
    go_wp2_with fail
    go_ret
    exact ⟨rfl, B1.out⟩
end Go.Proofs.YthpoffklhpbdoaaGreatDoor

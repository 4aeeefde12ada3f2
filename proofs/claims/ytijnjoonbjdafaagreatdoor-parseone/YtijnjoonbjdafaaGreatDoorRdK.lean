/-
  The document's reader of types: plain ones. Pure part, and the record's loop as a relation.
-/
import Derived.Test.YtijnjoonbjdafaaGreatDoorRzM
namespace Go.Proofs.YtijnjoonbjdafaaGreatDoor
set_option maxRecDepth 20000
open Go.RowKit Go.Shelf
def wd4 (i : Nat) : Bs := if i = 0 then [105, 110, 116] else if i = 1 then [98, 111, 111, 108] else if i = 2 then [116, 101, 120, 116] else [63]
theorem plain_bad {typ : Q → PT × Q} {s : Q} (h : s.bad = true) : plainS typ s = (qT0, s) := by unfold plainS; rw [if_pos h]
theorem plain_name {typ : Q → PT × Q} {s : Q} (hb : s.bad = false) (hk : (hd s.ts).k = 1) : plainS typ s = (.mk 8 (hd s.ts).t [] [], s.next) := by
  unfold plainS; rw [if_neg (by simp [hb]), if_pos hk]
theorem is_lit {m m' : Bs} {s : Q} (h : s.is m = true) (hne : m ≠ m') : s.is m' = false := by
  obtain ⟨hb, hi⟩ := is_not_bad h
  simp [Q.is, hb, isM_lit hi hne]
theorem plain_word {typ : Q → PT × Q} {s : Q} {i : Nat} (hb : s.bad = false) (hk : ¬ (hd s.ts).k = 1) (hi : i < 4) (hw : s.is (wd4 i) = true) : plainS typ s = (.mk (i + 1) [] [] [], s.take (wd4 i)) := by
  unfold plainS
  rw [if_neg (by simp [hb]), if_neg hk]
  have h4 : i = 0 ∨ i = 1 ∨ i = 2 ∨ i = 3 := by omega
  rcases h4 with rfl | rfl | rfl | rfl
  · simp only [wd4, if_true] at hw ⊢
    rw [if_pos hw]; rfl
  · have hw : s.is [98, 111, 111, 108] = true := hw
    rw [is_lit (m' := [105, 110, 116]) hw (by decide), if_neg (by decide), if_pos hw]; rfl
  · have hw : s.is [116, 101, 120, 116] = true := hw
    rw [is_lit (m' := [105, 110, 116]) hw (by decide), if_neg (by decide), is_lit (m' := [98, 111, 111, 108]) hw (by decide), if_neg (by decide), if_pos hw]; rfl
  · have hw : s.is [63] = true := hw
    rw [is_lit (m' := [105, 110, 116]) hw (by decide), if_neg (by decide), is_lit (m' := [98, 111, 111, 108]) hw (by decide), if_neg (by decide), is_lit (m' := [116, 101, 120, 116]) hw (by decide), if_neg (by decide), if_pos hw]; rfl
theorem plain_rest {typ : Q → PT × Q} {s : Q} (hb : s.bad = false) (hk : ¬ (hd s.ts).k = 1) (hw : ∀ i, i < 4 → s.is (wd4 i) = false) :
    plainS typ s = if s.is [123] then recS typ (s.take [123]) else if (s.take [40]).bad then (qT0, s.take [40]) else ((typ (s.take [40])).1, (typ (s.take [40])).2.take [41]) := by
  have h0 : s.is [105, 110, 116] = false := hw 0 (by decide)
  have h1 : s.is [98, 111, 111, 108] = false := hw 1 (by decide)
  have h2 : s.is [116, 101, 120, 116] = false := hw 2 (by decide)
  have h3 : s.is [63] = false := hw 3 (by decide)
  unfold plainS
  simp only [hb, hk, h0, h1, h2, h3, Bool.false_eq_true, if_false]
theorem take_le (m : Bs) (s : Q) : (s.take m).ts.length ≤ s.ts.length := by
  unfold Q.take
  split
  · show s.ts.tail.length ≤ _
    rw [List.length_tail]; omega
  · rw [give_ts]; exact Nat.le_refl _
theorem comma_le (s : Q) : s.comma.ts.length ≤ s.ts.length := by
  unfold Q.comma
  split
  · exact Nat.le_refl _
  · split
    · rw [give_ts]; exact take_le _ _
    · exact take_le _ _
theorem head_ok {sg : Bs} {s : Q} (hb : s.bad = false) (h : (s.head sg).2.bad = false) : s.head sg = (hd s.ts, ⟨s.ts.tail.tail, s.nd, false⟩) ∧ s.ts.tail.tail.length + 2 = s.ts.length := by
  obtain ⟨ts, nd, b⟩ := s
  have hb : b = false := hb
  subst hb
  unfold Q.head at h ⊢
  by_cases hk : (hd ts).k = 1
  · have hq : (Q.mk ts nd false).name = (hd ts, ⟨ts.tail, nd, false⟩) := by simp [Q.name, hk, Q.next]
    rw [hq] at h ⊢
    cases hsg : isM sg ts.tail with
    | true =>
      rw [take_of hsg]
      refine ⟨rfl, ?_⟩
      have h1 := isM_ne hsg
      have h2 : (Q.mk ts nd false).ts.tail.tail.length = ts.length - 1 - 1 := by simp
      simp only [List.length_tail] at h1
      show ts.tail.tail.length + 2 = ts.length
      rw [List.length_tail, List.length_tail]; omega
    | false =>
      rw [take_no hsg] at h
      cases h
  · have hq : (Q.mk ts nd false).name = (zTk, ⟨ts, nd + 1, true⟩) := by simp [Q.name, hk, Q.give]
    rw [hq] at h
    have : ((Q.mk ts (nd + 1) true).take sg) = _ := take_bad rfl
    rw [this] at h
    cases h
def recO (typ : Q → PT × Q) (n : Nat) (fs : List (Bs × PT)) (s : Q) : PT × Q := rowS rowT qT0 (clsS (fldS [58] typ insT n fs s))
theorem rec_end {typ : Q → PT × Q} {n : Nat} {fs : List (Bs × PT)} {s : Q} (h : s.bad = true ∨ s.is [125] = true) : recO typ n fs s = (rowT fs, s.take [125]) := by
  have : fldS [58] typ insT n fs s = (some fs, s) := by
    cases n with
    | zero => rfl
    | succ n =>
      unfold fldS
      rw [if_pos]
      rcases h with h | h <;> simp [h]
  unfold recO
  rw [this]; rfl
theorem rec_head {typ : Q → PT × Q} {n : Nat} {fs : List (Bs × PT)} {s : Q} (hb : s.bad = false) (h5 : s.is [125] = false) (h : (s.head [58]).2.bad = true) : recO typ (n + 1) fs s = (qT0, (s.head [58]).2) := by
  unfold recO fldS
  rw [if_neg (by simp [hb, h5]), if_pos h]; rfl
theorem rec_twice {typ : Q → PT × Q} {n : Nat} {fs : List (Bs × PT)} {s : Q} (hb : s.bad = false) (h5 : s.is [125] = false) (h : (s.head [58]).2.bad = false) (hm : (s.head [58]).1.t ∈ fs.map (·.1)) : recO typ (n + 1) fs s = recO typ n fs (typ (s.head [58]).2.more).2.comma := by
  unfold recO
  rw [fldS, if_neg (by simp [hb, h5]), if_neg (by simp [h]), if_pos hm]
theorem rec_once {typ : Q → PT × Q} {n : Nat} {fs : List (Bs × PT)} {s : Q} (hb : s.bad = false) (h5 : s.is [125] = false) (h : (s.head [58]).2.bad = false) (hm : ¬ (s.head [58]).1.t ∈ fs.map (·.1)) : recO typ (n + 1) fs s = recO typ n (insT fs (s.head [58]).1.t (typ (s.head [58]).2).1) (typ (s.head [58]).2).2.comma := by
  unfold recO
  rw [fldS, if_neg (by simp [hb, h5]), if_neg (by simp [h]), if_neg hm]
theorem insT_length (fs : List (Bs × PT)) (n : Bs) (x : PT) : (insT fs n x).length = fs.length + 1 := by
  have := (insF_perm (n, x) fs).length_eq
  simpa [insT] using this
structure RcQ (typ : Q → PT × Q) (B M rb : Nat) (all : List Tk) (w wr : World) (hx : Nat) (out : PT × Q) (fs : List (Bs × PT)) (sk nx : Q) (n : Nat) (a2 a3 : Option Addr) (c2 c3 : Nat) : Prop where
  un : recO typ n fs nx = out
  fuel : sk.ts.length ≤ n
  many : fs.length + sk.ts.length ≤ 1000000
  qs : QS B M wr rb all sk
  fr : Fr B w wr
  res : Fou wr w.heap.size 31 (.int .i64 0) (.string ⟨#[]⟩) (.slice none 0 0) (.slice none 0 0)
  own : Fou wr hx 31 (.int .i64 5) (.string ⟨#[]⟩) (.slice a2 fs.length c2) (.slice a3 fs.length c3)
  cs : IsCs (fun b => w.heap.size < b ∧ b ≠ hx) wr (encT 31 (rowT fs)) [.int .i64 5, .string ⟨#[]⟩, .slice a2 fs.length c2, .slice a3 fs.length c3]
  no : fs.length = 0 → a2 = none ∧ c2 = 0 ∧ a3 = none ∧ c3 = 0
  rbw : rb < w.heap.size
  hxw : w.heap.size < hx
theorem RcQ.fin {typ : Q → PT × Q} {B M rb : Nat} {all : List Tk} {w wr w' : World} {hx : Nat} {out : PT × Q} {fs : List (Bs × PT)} {sk s' : Q} {n : Nat} {a2 a3 : Option Addr} {c2 c3 : Nat} (h : RcQ typ B M rb all w wr hx out fs sk sk.comma n a2 a3 c2 c3) (hF : Fr B wr w') (hq : QS B M w' rb all s') (hs : s' = sk.comma) :
    RcQ typ B M rb all w w' hx out fs s' s' n a2 a3 c2 c3 := by
  subst hs
  have hle := comma_le sk
  exact ⟨h.un, Nat.le_trans hle h.fuel, by have := h.many; omega, hq, h.fr.trans hF, hF.cells h.res (by decide), hF.cells h.own (by decide), h.cs.frA hF, h.no, h.rbw, h.hxw⟩
theorem RcQ.frm {typ : Q → PT × Q} {B M rb : Nat} {all : List Tk} {w wr w' : World} {hx : Nat} {out : PT × Q} {fs : List (Bs × PT)} {sk nx : Q} {n : Nat} {a2 a3 : Option Addr} {c2 c3 : Nat} (h : RcQ typ B M rb all w wr hx out fs sk nx n a2 a3 c2 c3) (hF : Fr B wr w') :
    Fou w' w.heap.size 31 (.int .i64 0) (.string ⟨#[]⟩) (.slice none 0 0) (.slice none 0 0) ∧ Fou w' hx 31 (.int .i64 5) (.string ⟨#[]⟩) (.slice a2 fs.length c2) (.slice a3 fs.length c3) ∧ IsCs (fun b => w.heap.size < b ∧ b ≠ hx) w' (encT 31 (rowT fs)) [.int .i64 5, .string ⟨#[]⟩, .slice a2 fs.length c2, .slice a3 fs.length c3] ∧ Fr B w w' :=
  ⟨hF.cells h.res (by decide), hF.cells h.own (by decide), h.cs.frA hF, h.fr.trans hF⟩
theorem RcQ.bel {typ : Q → PT × Q} {B M rb : Nat} {all : List Tk} {w wr w' : World} {hx : Nat} {out : PT × Q} {fs : List (Bs × PT)} {sk nx : Q} {n : Nat} {a2 a3 : Option Addr} {c2 c3 : Nat} (h : RcQ typ B M rb all w wr hx out fs sk nx n a2 a3 c2 c3) (hb : Below wr.heap.size wr w') : RcQ typ B M rb all w w' hx out fs sk nx n a2 a3 c2 c3 :=
  ⟨h.un, h.fuel, h.many, h.qs.below hb, h.fr.below hb, (hb.block _ (Array.getElem?_eq_some_iff.1 h.res).1).trans h.res, (hb.block _ (Array.getElem?_eq_some_iff.1 h.own).1).trans h.own, h.cs.below hb, h.no, h.rbw, h.hxw⟩
theorem RcQ.names {A : Nat → Prop} {w : World} {fs : List (Bs × PT)} {v2 v3 : Value} (h : IsCs A w (encT 31 (rowT fs)) [.int .i64 5, .string ⟨#[]⟩, v2, v3]) : Sub A w ((fs.map (·.1)).map .str) (fs.map (·.1)).length v2 := by
  rw [rowT] at h
  obtain ⟨u2, u3, e, k2, k3⟩ := cells_TTq h
  simp only [List.cons.injEq, and_true, true_and] at e
  obtain ⟨-, rfl, rfl⟩ := e
  exact Sub.of_row k2 (by simp)
theorem insert_any (fs : List (Bs × PT)) (hsz : fs.length ≤ 1000000) (nm : Bs) (x : PT) (A : Nat → Prop) (w : World) (a2 a3 : Option Addr) (c2 c3 : Nat) (vx : List Value) (ht : IsCs A w (encT 31 (rowT fs)) [.int .i64 5, .string ⟨#[]⟩, .slice a2 fs.length c2, .slice a3 fs.length c3]) (h0 : fs.length = 0 → a2 = none ∧ c2 = 0 ∧ a3 = none ∧ c3 = 0) (hx : IsCs A w (encT 31 x) vx) :
    Calls Tryz.prog 167 #[.agg #[.int .i64 5, .string ⟨#[]⟩, .slice a2 fs.length c2, .slice a3 fs.length c3], .string ⟨nm.toArray⟩, .agg vx.toArray] w fun e w' => Below w.heap.size w w' ∧ ∃ b2 d2 b3 d3, e = .returned (.agg #[.int .i64 5, .string ⟨#[]⟩, .slice b2 (fs.length + 1) d2, .slice b3 (fs.length + 1) d3]) ∧ IsCs (fun b => (A b ∧ b < w.heap.size) ∨ w.heap.size ≤ b) w' (encT 31 (rowT (insT fs nm x))) [.int .i64 5, .string ⟨#[]⟩, .slice b2 (fs.length + 1) d2, .slice b3 (fs.length + 1) d3] := by
  have hgo : ∀ (e : Ending) (w' : World), (Below w.heap.size w w' ∧ ∃ cs, e = .returned (.agg cs.toArray) ∧ IsCs (fun b => (A b ∧ b < w.heap.size) ∨ w.heap.size ≤ b) w' (encT 31 (rowT (insT fs nm x))) cs) → (Below w.heap.size w w' ∧ ∃ b2 d2 b3 d3, e = .returned (.agg #[.int .i64 5, .string ⟨#[]⟩, .slice b2 (fs.length + 1) d2, .slice b3 (fs.length + 1) d3]) ∧ IsCs (fun b => (A b ∧ b < w.heap.size) ∨ w.heap.size ≤ b) w' (encT 31 (rowT (insT fs nm x))) [.int .i64 5, .string ⟨#[]⟩, .slice b2 (fs.length + 1) d2, .slice b3 (fs.length + 1) d3]) := by
    rintro e w' ⟨hb, cs, he, hcs⟩
    refine ⟨hb, ?_⟩
    have hl := insT_length fs nm x
    have hcs' := hcs
    rw [rowT] at hcs
    obtain ⟨v2, v3, rfl, k2, k3⟩ := cells_TTq hcs
    rw [List.length_map, hl] at k2 k3
    obtain ⟨_, r2, -, -⟩ := k2.unrow
    obtain ⟨b2, d2, rfl⟩ := row_slice r2
    obtain ⟨_, r3, -, -⟩ := k3.unrow
    obtain ⟨b3, d3, rfl⟩ := row_slice r3
    exact ⟨b2, d2, b3, d3, he, hcs'⟩
  by_cases hn : fs.length = 0
  · obtain ⟨rfl, rfl, rfl, rfl⟩ := h0 hn
    obtain rfl : fs = [] := List.eq_nil_of_length_eq_zero hn
    exact (insert_nil nm x A w vx hx).mono hgo
  · exact (insert_cons fs hsz hn nm x A w _ vx ht hx).mono hgo
theorem rdsT_flat {f B M rb d : Nat} {all : List Tk} {g : Q → PT × Q} (HT : RdsT f B M rb all d g) (w : World) (s : Q) (h : QS B M w rb all s) (k : Nat) (n : Bs) (ns : List Bs) (l : List PT) (s8 : Q) (hp : (PT.mk k n ns l, s8) = g s) :
    Calls Tryz.prog f #[.pointer (some ⟨rb, 0, none⟩), .int .i64 (d : Nat)] w fun e w' => ∃ a2 c2 a3 c3, e = .returned (.agg #[.int .i64 (k : Nat), .string ⟨n.toArray⟩, .slice a2 ns.length c2, .slice a3 l.length c3]) ∧ Fr B w w' ∧ IsCs (fun b => w.heap.size ≤ b) w' (encT 31 (.mk k n ns l)) [.int .i64 (k : Nat), .string ⟨n.toArray⟩, .slice a2 ns.length c2, .slice a3 l.length c3] ∧ QS B M w' rb all s8 := by
  refine (HT w s h).mono ?_
  rw [← hp]
  rintro e w' ⟨f8, ⟨cs8, he, i8⟩, q8⟩
  have i8' : IsCs (fun b => w.heap.size ≤ b) w' (encT 31 (.mk k n ns l)) cs8 := i8
  obtain ⟨v2', v3', hcs, k2, k3⟩ := cells_TTq i8'
  obtain ⟨_, r2, -, -⟩ := k2.unrow
  obtain ⟨a2', c2', rfl⟩ := row_slice r2
  obtain ⟨_, r3, -, -⟩ := k3.unrow
  obtain ⟨a3', c3', rfl⟩ := row_slice r3
  subst hcs
  exact ⟨a2', c2', a3', c3', he, f8, i8', q8⟩
theorem RcQ.twice {typ : Q → PT × Q} {B M rb : Nat} {all : List Tk} {w wr w' : World} {hx : Nat} {out : PT × Q} {fs : List (Bs × PT)} {sk nx s8 : Q} {n n' : Nat} {a2 a3 : Option Addr} {c2 c3 : Nat} (h : RcQ typ B M rb all w wr hx out fs sk nx n a2 a3 c2 c3) (hF : Fr B wr w') (hq : QS B M w' rb all s8) (hun : recO typ n' fs s8.comma = out) (hle : s8.ts.length + 2 ≤ sk.ts.length) (hn : n = n' + 1) :
    RcQ typ B M rb all w w' hx out fs s8 s8.comma n' a2 a3 c2 c3 :=
  ⟨hun, by have := h.fuel; omega, by have := h.many; omega, hq, h.fr.trans hF, hF.cells h.res (by decide), hF.cells h.own (by decide), h.cs.frA hF, h.no, h.rbw, h.hxw⟩
theorem RcQ.once {typ : Q → PT × Q} {B M rb : Nat} {all : List Tk} {w wr w' w'' : World} {hx : Nat} {out : PT × Q} {fs : List (Bs × PT)} {sk nx s8 : Q} {n n' : Nat} {a2 a3 b2 b3 : Option Addr} {c2 c3 d2 d3 : Nat} {nm : Bs} {x : PT} (h : RcQ typ B M rb all w wr hx out fs sk nx n a2 a3 c2 c3) (hF : Fr B wr w') (hq : QS B M w' rb all s8) (hun : recO typ n' (insT fs nm x) s8.comma = out) (hle : s8.ts.length + 2 ≤ sk.ts.length) (hn : n = n' + 1)
    (hb : Below w'.heap.size w' w'') (hc : IsCs (fun b => ((w.heap.size < b ∧ b ≠ hx) ∧ b < w'.heap.size) ∨ w'.heap.size ≤ b) w'' (encT 31 (rowT (insT fs nm x))) [.int .i64 5, .string ⟨#[]⟩, .slice b2 (fs.length + 1) d2, .slice b3 (fs.length + 1) d3]) :
    RcQ typ B M rb all w (putL w'' hx [.int .i64 5, .string ⟨#[]⟩, .slice b2 (fs.length + 1) d2, .slice b3 (fs.length + 1) d3]) hx out (insT fs nm x) s8 s8.comma n' b2 b3 d2 d3 := by
  have hl := insT_length fs nm x
  have hown := hF.cells h.own (by decide)
  have hxl := (Array.getElem?_eq_some_iff.1 hown).1
  have hown2 : Fou w'' hx 31 _ _ _ _ := (hb.block _ hxl).trans hown
  have hres : Fou w'' w.heap.size 31 _ _ _ _ := (hb.block _ (Array.getElem?_eq_some_iff.1 (hF.cells h.res (by decide))).1).trans (hF.cells h.res (by decide))
  have hw := h.hxw
  have hrb := h.rbw
  refine ⟨hun, by have := h.fuel; omega, by have := h.many; omega, (hq.below hb).putL hown2 (by decide) (by omega) _, ((h.fr.trans hF).below hb).putL (Nat.le_of_lt hw) _, (putL_far hx _ 0 w'' w.heap.size (Nat.ne_of_lt hw)).trans hres, ?_, ?_, fun h0 => by omega, hrb, hw⟩
  · rw [hl]; exact fou_put hown2 _ _ _ _
  · rw [hl]
    exact (hc.mono (A' := fun b => w.heap.size < b ∧ b ≠ hx) (fun b _ hb' => hb'.elim (fun h => h.1) (fun h => ⟨by omega, by omega⟩))).putL hx (fun k hk => hk.2) _
end Go.Proofs.YtijnjoonbjdafaaGreatDoor

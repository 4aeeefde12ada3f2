/-
  The contracts of a new reader and of what passes a declaration over.
  The contract of Parse: the declarations of a source, and what is told.
-/
import Derived.Test.YtijnjoonbjdafaaGreatDoorAtM
import Derived.Test.YtijnjoonbjdafaaGreatDoorToks
import Derived.Test.YtijnjoonbjdafaaGreatDoorSubX
namespace Go.Proofs.YtijnjoonbjdafaaGreatDoor
set_option maxRecDepth 20000
open Go.RowKit Go.Shelf
set_option maxHeartbeats 1000000 in
theorem new_any (s : ByteArray) (hs : s.size ≤ 100000) (w : World) :
    Calls Tryz.prog 52 #[.string s] w fun e w' => ∃ pb, e = .returned (.pointer (some ⟨pb, 0, none⟩)) ∧ Below w.heap.size w w' ∧ PS w.heap.size ((dns s.data.toList).length + (toks s.data.toList).length) w' pb (toks s.data.toList) (toks s.data.toList) (dns s.data.toList) := by
  have HL := Lib.hid (lex_any s (by omega) w)
  have HS := Lib.hid (show s.data.toList.length ≤ 100000 by rw [Lib.size_eq] at hs; exact hs)
  have HSZ := Lib.hid (Lib.size_eq s)
  clear hs
  go_enter Tryz.func52, Tryz.ntmps52
  go_wp2_with fail
  refine HL.out.mono ?_
  rintro e W ⟨v, u, rfl, h1, h2, hb⟩
  obtain ⟨a0, c0, rfl⟩ := row_slice h1
  obtain ⟨a1, c1, rfl⟩ := row_slice h2
  have H1 := Lib.hid h1
  have H2 := Lib.hid h2
  have HB := Lib.hid hb
  obtain ⟨n1, hn1⟩ : ∃ n1, n1 = (toksOf (pieces 0 s.data.toList)).length + 1 := ⟨_, rfl⟩
  obtain ⟨n2, hn2⟩ : ∃ n2, n2 = (toldOf (pieces 0 s.data.toList)).length := ⟨_, rfl⟩
  rw [← hn1, ← hn2]
  have HN1 := Lib.hid hn1
  have HN2 := Lib.hid hn2
  clear h1 h2 hb hn1 hn2
  go_wp2_with fail
  go_ret
  refine ⟨W.heap.size, rfl, HB.out.alloc HB.out.size _, HB.out.size, ?_, ?_, Nat.le_refl _, ?_, .slice a0 n1 c0, .slice a1 n2 c1, 0, heap_alloc_new W _, ?_, ?_, ?_, ?_⟩
  · have := HB.out.size; simp; omega
  · exact ⟨_, _, rfl, rfl⟩
  · have := toks_len s.data.toList; have := HS.out; omega
  · have := H1.out
    rw [← HN1.out] at this
    have e1 : (toks s.data.toList).length = n1 := by rw [HN1.out]; simp [toks]
    rw [e1]
    have h3 : toksOf (pieces 0 s.data.toList) ++ [⟨6, s.size, []⟩] = toks s.data.toList := by rw [HSZ.out]; rfl
    rw [h3] at this
    refine (World.ownsRow.alloc ⟨this.1, ?_⟩ _)
    rcases this.2 with hn | ⟨g, cap, cur, hv, hb, hg, rest⟩
    · exact .inl hn
    · exact .inr ⟨g, cap, cur, hv, Nat.zero_le _, hg, rest⟩
  · have := H2.out
    rw [← HN2.out] at this
    have e1 : (dns s.data.toList).length = n2 := by rw [HN2.out]; simp [dns, told]
    rw [e1, dns, dns_cells]
    exact this.alloc _
  · simp
  · intro b hb'
    have := H1.out
    rw [← HN1.out] at this
    exact (this.lt b hb').2
theorem passD_end {ts : List Tk} {t : Tk} {r : List Tk} (h : ts = t :: r) (hk : t.k = 6) : passD ts = ts := by subst h; rw [passD, if_pos hk]
theorem passD_semi {ts : List Tk} {t : Tk} {r : List Tk} (h : ts = t :: r) (hk : t.k ≠ 6) (hm : isM [59] ts = true) : passD ts = ts.tail := by subst h; rw [passD, if_neg hk, if_pos hm]; rfl
theorem passD_on {ts : List Tk} {t : Tk} {r : List Tk} (h : ts = t :: r) (hk : t.k ≠ 6) (hm : isM [59] ts = false) : passD ts = passD ts.tail := by subst h; rw [passD, if_neg hk, hm]; rfl
set_option maxHeartbeats 1000000 in
theorem passDecl_any {B M : Nat} {pb : Nat} {all : List Tk} (w : World) (ts : List Tk) (told : List Dn) (h : PS B M w pb all ts told) :
    Calls Tryz.prog 56 #[.pointer (some ⟨pb, 0, none⟩)] w fun e w' => e = .returned (.tuple #[]) ∧ PS B M w' pb all (passD ts) told ∧ Fr B w w' := by
  have P0 := Lib.hid h
  obtain ⟨out, hout⟩ : ∃ out, out = passD ts := ⟨_, rfl⟩
  rw [← hout]
  have HO := Lib.hid hout
  have HFL := Lib.hid fld72_0
  clear h hout
  go_enter Tryz.func56, Tryz.ntmps56
  go_wp2_with fail
  go_loopw [] (fun wr => ∃ ts' : List Tk, PS B M wr pb all ts' told ∧ Fr B w wr ∧ Hid (out = passD ts')) (fun wr => left pb all wr)
  case atStart => exact ⟨ts, P0.out, Fr.refl _ _, HO⟩
  case round =>
    obtain ⟨ts', hp, hF, hq⟩ := hrel
    obtain ⟨g, cap, i, vd, -, -, -, -, -, -, -, r, hts, -⟩ := hp.first
    have HTS := Lib.hid hts
    have HLE := Lib.hid hp.left
    have HTL := Lib.hid (tail_of hp.len.2)
    have HNW := Lib.hid (now_any hp)
    have P1 := Lib.hid hp
    have F1 := Lib.hid hF
    obtain ⟨t, ht⟩ : ∃ t, t = hd ts' := ⟨_, rfl⟩
    have HT := Lib.hid ht
    rw [← ht] at HNW
    clear hp hF hts ht
    have hfl := HFL.out
    by_cases hk : t.k = 6
    · have hk1 : (t.k : Int) = 6 := by omega
      have hk2 : ((t.k : Int) != 6) = false := by simpa using hk1
      have HK := Lib.hid hk
      have HE := Lib.hid (show out = ts' from hq.out.trans (passD_end HTS.out (by rw [← HT.out]; exact hk)))
      clear hk1 hk hq
      go_wp2_with fail
      refine HNW.out.mono ?_
      rintro e w2 ⟨rfl, b2⟩
      have P2 := Lib.hid (P1.out.below b2)
      have F2 := Lib.hid (F1.out.below b2)
      clear b2
      unfold tokV
      go_wp2_with fail
      go_end0
      exact ⟨rfl, by rw [HE.out]; exact P2.out, F2.out⟩
    · have hk1 : ¬ (t.k : Int) = 6 := by omega
      have hk2 : ((t.k : Int) != 6) = true := by simpa using hk1
      have HK := Lib.hid hk
      clear hk1 hk
      go_wp2_with fail
      refine HNW.out.mono ?_
      rintro e w2 ⟨rfl, b2⟩
      have P2 := Lib.hid (P1.out.below b2)
      have F2 := Lib.hid (F1.out.below b2)
      clear b2
      unfold tokV
      go_wp2_with fail
      clear hfl hk2
      refine (takes_any P2.out [59]).mono ?_
      rintro e w3 ⟨rfl, p3, f3⟩
      have F3 := Lib.hid (F2.out.trans f3)
      clear f3
      cases hm : isM [59] ts' with
      | true =>
        simp only [hm, if_true] at p3
        have HE := Lib.hid (show out = ts'.tail from hq.out.trans (passD_semi HTS.out (by rw [← HT.out]; exact HK.out) hm))
        have P3 := Lib.hid p3
        clear p3 hm hq
        go_wp2_with fail
        refine bodyPost_ret (results_none rfl _ _ _) rfl ?_
        exact ⟨rfl, by rw [HE.out]; exact P3.out, F3.out⟩
      | false =>
        simp only [hm, Bool.false_eq_true, if_false] at p3
        have HE := Lib.hid (show out = passD ts'.tail from hq.out.trans (passD_on HTS.out (by rw [← HT.out]; exact HK.out) hm))
        have P3 := Lib.hid p3
        clear p3 hm hq
        go_wp2_with fail
        refine (pass_any P3.out (by rw [← HT.out]; exact HK.out)).mono ?_
        rintro e w4 ⟨rfl, p4, f4⟩
        have P4 := Lib.hid p4
        have F4 := Lib.hid (F3.out.trans f4)
        clear p4 f4
        go_wp2_with fail
        refine ⟨⟨ts'.tail, P4.out, F4.out, HE⟩, ?_⟩
        rw [P4.out.left, HLE.out]
        have := HTL.out; omega
end Go.Proofs.YtijnjoonbjdafaaGreatDoor
namespace Go.Proofs.YtijnjoonbjdafaaGreatDoor
set_option maxRecDepth 20000
open Go.RowKit Go.Shelf
theorem shr_ok {α : Type} {n : Nat} {x : R α} {a : α} {r : List Tk} {d : List Dn} (h : Shr n x) (e : x = .ok a r d) : r.length ≤ n := by subst e; exact h
theorem decl_tail {ts : List Tk} {d : PD} {r : List Tk} {e : List Dn} (h : declP ts = .ok d r e) : r.length ≤ ts.tail.length := by
  have hT : ∀ ts, Shr ts.length (typ 64 ts) := (lvT_shr 64).1
  have hE : ∀ ts, Shr ts.length (exp 64 ts) := exp_shr 64
  unfold declP at h
  split at h
  · exact shr_ok ((wantName_shr _).bind fun nm r _ => (want_shr _ r).bind fun _ r _ => Shr.ok _ _ _) h
  split at h
  · exact shr_ok ((wantName_shr _).bind fun nm r _ => (want_shr _ r).bind fun _ r _ => (hT r).bind fun t r _ => (want_shr _ r).bind fun _ r _ => Shr.ok _ _ _) h
  · cases e1 : want [108, 101, 116] ts with
    | bad y r1 d1 => rw [e1, R.bind_bad] at h; cases h
    | ok u r1 d1 =>
      rw [e1, R.bind_ok] at h
      have hr : r1 = ts.tail := by
        unfold want at e1
        split at e1
        · cases e1; rfl
        · cases e1
      subst hr
      refine shr_ok (Shr.tell ((wantName_shr _).bind fun nm r _ => ?_) d1) h
      split
      · exact ((hT _).mono (tail_le r)).bind fun t r _ => (want_shr _ r).bind fun _ r _ => (hE r).bind fun e r _ => (want_shr _ r).bind fun _ r _ => Shr.ok _ _ _
      · exact (want_shr _ r).bind fun _ r _ => (hE r).bind fun e r _ => (want_shr _ r).bind fun _ r _ => Shr.ok _ _ _
theorem passD_le : ∀ ts : List Tk, (passD ts).length ≤ ts.length
  | [] => Nat.le_refl _
  | t :: r => by
    unfold passD
    split
    · exact Nat.le_refl _
    split
    · simp
    · have := passD_le r; simp; omega
theorem passD_lt {ts : List Tk} {t : Tk} {r : List Tk} (h : ts = t :: r) (hk : t.k ≠ 6) : (passD ts).length + 1 ≤ ts.length := by
  subst h
  unfold passD
  rw [if_neg hk]
  split
  · simp
  · have := passD_le r; simp; omega
theorem info62 : (Tryz.prog.info? 61).map (fun i => (i.zero, i.size, i.bytes)) = some (some (.agg #[.int .i64 0, .int .i64 0, .string ⟨#[]⟩, .slice none 0 0, .slice none 0 0]), 5, 80) := by kernel_rfl
theorem encDs_snoc (l : List PD) (d : PD) : encDs 26 36 (l ++ [d]) = encDs 26 36 l ++ encD 26 36 d := by simp [encDs]
def parseAll (l : Bs) : List PD × List Dn := ((parseP (toks l).length (toks l)).1, dns l ++ (parseP (toks l).length (toks l)).2)
theorem PS.split {B M : Nat} {w : World} {pb : Nat} {all ts : List Tk} {told : List Dn} (h : PS B M w pb all ts told) : ∃ r, ts = hd ts :: r := by
  obtain ⟨g, cap, i, vd, -, -, -, -, -, -, -, r, hts, -⟩ := h.first
  exact ⟨r, hts⟩
theorem PS.two {B M : Nat} {w : World} {pb : Nat} {all ts : List Tk} {told : List Dn} (h : PS B M w pb all ts told) (hk : (hd ts).k ≠ 6) : 2 ≤ ts.length := by
  obtain ⟨p, e, h1, h2⟩ := h.fin
  cases p with
  | nil => simp at h1; subst h1; exact absurd h2 hk
  | cons x r => rw [h1]; simp
theorem parse_step {n : Nat} {ts : List Tk} (hk : (hd ts).k ≠ 6) : parseP (n + 1) ts = match declP ts with
      | .ok d r e => (d :: (parseP n r).1, e ++ (parseP n r).2)
      | .bad y r e => ((parseP n (passD r)).1, e ++ (y :: (parseP n (passD r)).2)) := by
  rw [parseP, if_neg hk]
  cases declP ts <;> rfl
theorem PS.shorter {B M B' M' : Nat} {w w' : World} {pb : Nat} {all ts r : List Tk} {told told' : List Dn} (h : PS B M w pb all ts told) (h' : PS B' M' w' pb all r told') (hl : r.length ≤ ts.length) (hk : (hd r).k ≠ (hd ts).k) : r.length + 1 ≤ ts.length := by
  rcases Nat.lt_or_ge r.length ts.length with h1 | h1
  · exact h1
  · exfalso
    have h0 := h'.len.2
    obtain ⟨-, -, -, -, -, vt, vd, i, -, -, -, e1, -⟩ := h
    obtain ⟨-, -, -, -, -, vt', vd', j, -, -, -, e2, -⟩ := h'
    have l1 : ts.length = all.length - i := by rw [e1, List.length_drop]
    have l2 : r.length = all.length - j := by rw [e2, List.length_drop]
    have : i = j := by omega
    subst this
    exact hk (by rw [e1, e2])
set_option maxHeartbeats 2000000 in
theorem parse_any (s : ByteArray) (hs : s.size ≤ 100000) (w : World) :
    Calls Tryz.prog 19 #[.string s] w fun e w' => ∃ vl vd, e = .returned (.tuple #[vl, vd]) ∧ Below w.heap.size w w' ∧ IsC (fun b => w.heap.size ≤ b) w' (.row 61 5 (parseAll s.data.toList).1.length (encDs 26 36 (parseAll s.data.toList).1)) vl ∧ w'.ownsRow w.heap.size 153 3 vd (parseAll s.data.toList).2.length (dnCells (parseAll s.data.toList).2) := by
  obtain ⟨i0, hi, hz0, hz1, hz2⟩ := info_parts info62
  have HNEW := Lib.hid (new_any s hs w)
  have HS := Lib.hid (show s.data.toList.length ≤ 100000 by rw [Lib.size_eq] at hs; exact hs)
  obtain ⟨all, hall⟩ : ∃ all, all = toks s.data.toList := ⟨_, rfl⟩
  obtain ⟨t0, ht0⟩ : ∃ t0, t0 = dns s.data.toList := ⟨_, rfl⟩
  obtain ⟨out, hout⟩ : ∃ out, out = parseAll s.data.toList := ⟨_, rfl⟩
  rw [← hall, ← ht0] at HNEW
  rw [← hout]
  have HALL : Hid (∀ t ∈ all, t.t.length ≤ 1000000) := by
    intro t ht
    rw [hall] at ht
    have := toks_text _ t ht
    have := HS.out
    omega
  have HNUM : Hid (∀ t ∈ all, t.k = 3 → NumT t.t) := by rw [hall]; exact toks_num _
  have HLEN := Lib.hid (show all.length ≤ 100001 ∧ t0.length ≤ 100000 by
    rw [hall, ht0]
    have := toks_len s.data.toList; have := told_len s.data.toList; have := HS.out
    simp only [dns, List.length_map]
    omega)
  have HOUT := Lib.hid (show out = ([] ++ (parseP all.length all).1, t0 ++ (parseP all.length all).2) by rw [hout, hall, ht0]; rfl)
  have HFL := Lib.hid fld72_0
  clear hs hall ht0 hout
  go_enter Tryz.func19, Tryz.ntmps19
  go_wp2_with fail
  refine HNEW.out.mono ?_
  rintro e w1 ⟨pb, rfl, b1, p1⟩
  have B1 := Lib.hid b1
  have P1 := Lib.hid p1
  clear b1 p1
  go_wp2_with fail
  go_loopw [5] (fun s5 wr => ∃ (acc : List PD) (ts' : List Tk) (tl : List Dn) (n : Nat), ts'.length ≤ n ∧ acc.length + ts'.length ≤ 1000000 ∧ tl.length + 2 * ts'.length ≤ 1000000 ∧ PS w.heap.size (tl.length + ts'.length) wr pb all ts' tl ∧ Fr w.heap.size w1 wr ∧ (∃ xs, wr.ownsRow 0 61 5 s5 acc.length xs ∧ (∀ b, s5.ownBlock = some b → w1.heap.size ≤ b) ∧ IsCs (fun b => w1.heap.size ≤ b ∧ some b ≠ s5.ownBlock) wr (encDs 26 36 acc) xs) ∧ Hid (out = (acc ++ (parseP n ts').1, tl ++ (parseP n ts').2))) (fun _ wr => left pb all wr)
  case atStart =>
    refine ⟨[], all, t0, all.length, Nat.le_refl _, ?_, ?_, P1.out, Fr.refl _ _, ⟨[], World.ownsRow_nil _ _ _ _, (fun b hb => by cases hb), IsCs.nil _ _⟩, HOUT⟩
    · have := HLEN.out; simp; omega
    · have := HLEN.out; omega
  case round =>
    obtain ⟨acc, ts', tl, n, hn, hac, htl, hp, hF, ⟨xs, hr, ho, hc⟩, hq⟩ := hrel
    have HN := Lib.hid hn
    have HAC := Lib.hid hac
    have HTL := Lib.hid htl
    have HLE := Lib.hid hp.left
    have HPL := Lib.hid hp.len
    have HTT := Lib.hid (tail_of hp.len.2)
    have HNW := Lib.hid (now_any hp)
    have P := Lib.hid hp
    have F := Lib.hid hF
    have RW := Lib.hid hr
    have OW := Lib.hid ho
    have CW := Lib.hid hc
    have HPB := Lib.hid (show pb < w1.heap.size from P1.out.lt)
    obtain ⟨t, ht⟩ : ∃ t, t = hd ts' := ⟨_, rfl⟩
    have HT := Lib.hid ht
    rw [← ht] at HNW
    clear hn hac htl hp hF hr ho hc ht
    have hfl := HFL.out
    by_cases hk : t.k = 6
    · have hk1 : (t.k : Int) = 6 := by omega
      have hk2 : ((t.k : Int) != 6) = false := by simpa using hk1
      have hpe : parseP n ts' = ([], []) := by
        cases n with
        | zero => rfl
        | succ n => rw [parseP, if_pos (by rw [← HT.out]; exact hk)]
      have HE := Lib.hid (show out = (acc, tl) by rw [hq.out, hpe]; simp)
      clear hk1 hk hq hpe
      go_wp2_with fail
      refine HNW.out.mono ?_
      rintro e w2 ⟨rfl, b2⟩
      have P2 := Lib.hid (P.out.below b2)
      have F2 := Lib.hid (F.out.below b2)
      have R2 := Lib.hid (row_below RW.out b2)
      have C2 := Lib.hid (CW.out.below b2)
      clear b2
      unfold tokV
      obtain ⟨vt, vd, i3, h6, -, h8, -⟩ := P2.out.ex
      obtain ⟨⟨c0, c1, c2⟩, -⟩ := thr_of h6
      obtain ⟨ad, cd, rfl⟩ := row_slice h8
      obtain ⟨al, cl, hul⟩ := row_slice R2.out
      have H8 := Lib.hid h8
      have HUL := Lib.hid hul
      clear h6 h8 hul
      go_wp2_with fail
      go_quiet (fail)
      go_wp2_with fail
      go_ret2
      have hd9 : (w2.drewN nq).heap = w2.heap := rfl
      refine ⟨_, _, rfl, B1.out.trans ((F2.out.alike (W' := w2.drewN nq) rfl rfl rfl rfl).belows B1.out.size), ?_, ?_⟩
      · rw [HE.out]
        refine IsC.row (by decide) (row_kept (S := fun _ => False) R2.out (Nat.le_refl _) (fun _ _ _ => rfl) (fun _ _ h => h)) (fun b hb => Nat.le_trans B1.out.size (OW.out b hb)) (IsCs.kept (w := w2) (w' := w2.drewN nq) (S := fun _ => False) (Nat.le_refl _) (fun _ _ _ => rfl) (fun _ _ h => h) _ _ (C2.out.mono (fun b _ hb => Nat.le_trans B1.out.size hb.1)))
      · rw [HE.out]
        exact row_kept (S := fun _ => False) H8.out (Nat.le_refl _) (fun _ _ _ => rfl) (fun _ _ h => h)
    · have hk1 : ¬ (t.k : Int) = 6 := by omega
      have hk2 : ((t.k : Int) != 6) = true := by simpa using hk1
      have HK := Lib.hid (show (hd ts').k ≠ 6 by rw [← HT.out]; exact hk)
      have HTWO := Lib.hid (P.out.two HK.out)
      obtain ⟨n', rfl⟩ : ∃ n', n = n' + 1 := ⟨n - 1, by have := HN.out; have := HPL.out.2; omega⟩
      have HQ := Lib.hid (show out = (acc ++ (parseP (n' + 1) ts').1, tl ++ (parseP (n' + 1) ts').2) from hq.out)
      clear hk1 hk hq
      go_wp2_with fail
      refine HNW.out.mono ?_
      rintro e w2 ⟨rfl, b2⟩
      have P2 := Lib.hid (P.out.below b2)
      have F2 := Lib.hid (F.out.below b2)
      have R2 := Lib.hid (row_below RW.out b2)
      have C2 := Lib.hid (CW.out.below b2)
      have hMM : tl.length + ts'.length ≤ 10000000 := by have := HTL.out; omega
      have HAT := Lib.hid (attempt_D hMM (fun _ => True) (fun _ _ _ _ => trivial) declP (fun W ts told hp _ => decl_any (level_T hMM HALL.out 64 1 rfl).2 (level_E hMM HALL.out HNUM.out 64 1 rfl) W ts told hp) w2 ts' tl P2.out trivial)
      clear b2 hMM
      unfold tokV
      go_wp2_with fail
      clear hfl hk2
      refine HAT.out.mono ?_
      rintro e w3 ⟨f3, h3⟩
      cases hr : declP ts' with
      | ok d r ds =>
        have HST := Lib.hid (decl_tail hr)
        have HQ3 := Lib.hid (show out = (acc ++ [d] ++ (parseP n' r).1, tl ++ ds ++ (parseP n' r).2) by rw [HQ.out, parse_step HK.out, hr]; simp)
        rw [hr] at h3
        obtain ⟨⟨cs, rfl, hcs⟩, p3⟩ := h3
        obtain ⟨dk, da, dn, a3, n3, c3, a4, n4, c4, rfl⟩ := cells_D hcs
        have HBD := Lib.hid p3.bd
        have P3 := Lib.hid (p3.alloc (.cells #[.int .i64 dk, .int .i64 da, .string dn, .slice a3 n3 c3, .slice a4 n4 c4] 61))
        have F3 := Lib.hid ((F2.out.trans f3).alloc (.cells #[.int .i64 dk, .int .i64 da, .string dn, .slice a3 n3 c3, .slice a4 n4 c4] 61))
        have R3 := Lib.hid ((f3.row R2.out (by decide)).alloc (.cells #[.int .i64 dk, .int .i64 da, .string dn, .slice a3 n3 c3, .slice a4 n4 c4] 61))
        have C3 := Lib.hid ((IsCs.fr f3 _ _ C2.out).below ((Below.refl _ _).alloc (Nat.le_refl _) (.cells #[.int .i64 dk, .int .i64 da, .string dn, .slice a3 n3 c3, .slice a4 n4 c4] 61)))
        have V3 := Lib.hid (hcs.below ((Below.refl _ _).alloc (Nat.le_refl _) (.cells #[.int .i64 dk, .int .i64 da, .string dn, .slice a3 n3 c3, .slice a4 n4 c4] 61)))
        have N3 := Lib.hid (show (w3.alloc (.cells #[.int .i64 dk, .int .i64 da, .string dn, .slice a3 n3 c3, .slice a4 n4 c4] 61)).heap[w3.heap.size]? = _ from heap_alloc_new w3 _)
        have HRL := Lib.hid (show ∀ b, u5.ownBlock = some b → b < w2.heap.size from fun b hb => (R2.out.lt b hb).2)
        have HS3 := Lib.hid f3.size
        have HF2 := Lib.hid F2.out.size
        clear hr f3 p3 hcs P2 F2 R2 C2 HQ
        go_upto_region 6 with fail
        obtain ⟨W4, hW4⟩ : ∃ W4, w3.alloc (.cells #[.int .i64 dk, .int .i64 da, .string dn, .slice a3 n3 c3, .slice a4 n4 c4] 61) = W4 := ⟨_, rfl⟩
        have HS4 := Lib.hid (show W4.heap.size = w3.heap.size + 1 by rw [← hW4]; simp)
        rw [hW4] at P3 F3 R3 C3 V3 N3
        rw [hW4]
        clear hW4
        obtain ⟨⟨q0, q1, q2, q3, q4⟩, -⟩ := fiv_of (t := 61) N3.out
        have R8 := Lib.hid (R3.out.alloc (.cells #[.int .i64 dk, .int .i64 da, .string dn, .slice a3 n3 c3, .slice a4 n4 c4] 61))
        have HNB := Lib.hid (World.news_of_block (heap_alloc_new W4 (.cells #[.int .i64 dk, .int .i64 da, .string dn, .slice a3 n3 c3, .slice a4 n4 c4] 61)))
        have HONE := Lib.hid (show ∀ u ∈ ([.int .i64 dk, .int .i64 da, .string dn, .slice a3 n3 c3, .slice a4 n4 c4] : List Value), u.oneCell' = true by simp [Value.oneCell'])
        have hmx : acc.length + 1 ≤ maxLen := by have := HAC.out; unfold maxLen; omega
        have hmb : (acc.length + 1) * 80 ≤ 140737488355328 := by have := HAC.out; omega
        go_wp2_with (first | (at_builtin; refine wpList_append_lies _ rfl (.tmp 22) (.tmp 24) 49 rfl 0 61 i0 _ 5 80 Tryz.underlying49 hi hz0 hz1 hz2 rfl (by decide) u5 acc.length _ rfl R8.out ⟨W4.heap.size, 0, none⟩ 1 1 [.int .i64 dk, .int .i64 da, .string dn, .slice a3 n3 c3, .slice a4 n4 c4] rfl rfl HNB.out HONE.out (by decide) hmx hmb (Nat.zero_le _) (W4.heap.size + 1) (World.size_alloc _ _) ?_; intro g' cap' w9 hown9 hg9 hat9 hlt9))
        have hgg : w1.heap.size ≤ g' := by
          rcases hat9 with e | e
          · exact OW.out g' e
          · have := HS4.out; have := HS3.out; have := HF2.out; omega
        have hP9 := ((P3.out.alloc (.cells #[.int .i64 dk, .int .i64 da, .string dn, .slice a3 n3 c3, .slice a4 n4 c4] 61)).grown R8.out (by decide) (fun b hb => by have := OW.out b hb; have := HPB.out; omega) hg9)
        refine ⟨⟨acc ++ [d], r, tl ++ ds, n', ?_, ?_, ?_, hP9.wide (Nat.le_refl _), (F3.out.alloc _).grownNew hg9 (fun b hb => OW.out b hb), ⟨xs ++ [.int .i64 dk, .int .i64 da, .string dn, .slice a3 n3 c3, .slice a4 n4 c4], by simpa using hown9, (fun b hb => by cases hb; exact hgg), ?_⟩, HQ3⟩, ?_⟩
        · have := HST.out; have := HTT.out; have := HN.out; omega
        · have := HST.out; have := HTT.out; have := HAC.out; simp; omega
        · have := HST.out; have := HTT.out; have := HTL.out; have := HBD.out; simp only [List.length_append] at this ⊢; omega
        · rw [encDs_snoc]
          have k1 := ((C3.out.below ((Below.refl _ _).alloc (Nat.le_refl _) (.cells #[.int .i64 dk, .int .i64 da, .string dn, .slice a3 n3 c3, .slice a4 n4 c4] 61))).mono (A' := fun b => w1.heap.size ≤ b ∧ some b ≠ u5.ownBlock ∧ b < W4.heap.size + 1) (fun b hb hb' => ⟨hb'.1, hb'.2, by simpa using hb⟩)).grown hg9 (fun b hb => hb.2.1)
          have k2 := ((V3.out.mono (A' := fun b => w1.heap.size ≤ b ∧ some b ≠ u5.ownBlock ∧ b < W4.heap.size + 1) (fun b hb hb' => ⟨by have := HF2.out; omega, fun e => by have := HRL.out b e.symm; omega, by omega⟩)).below ((Below.refl _ _).alloc (Nat.le_refl _) (.cells #[.int .i64 dk, .int .i64 da, .string dn, .slice a3 n3 c3, .slice a4 n4 c4] 61))).grown hg9 (fun b hb => hb.2.1)
          have k3 := k1.append _ _ _ _ k2
          refine k3.mono (fun b _ hb => ⟨hb.1, fun e => ?_⟩)
          have e' : b = g' := by cases e; rfl
          subst e'
          rcases hat9 with e | e
          · exact hb.2.1 e.symm
          · omega
        · rw [hP9.left, HLE.out]
          have := HST.out; have := HTT.out; omega
      | bad y r ds =>
        have HQ3 := Lib.hid (show out = (acc ++ (parseP n' (passD r)).1, tl ++ ds ++ [y] ++ (parseP n' (passD r)).2) by rw [HQ.out, parse_step HK.out, hr]; simp)
        rw [hr] at h3
        obtain ⟨rfl, p3⟩ := h3
        have HBD := Lib.hid p3.bd
        have HRR : Hid (r.length ≤ ts'.length) := by have := p3.bd; simp only [List.length_append, List.length_cons, List.length_nil] at this; show r.length ≤ ts'.length; omega
        have HPS : Hid ((passD r).length + 1 ≤ ts'.length) := by
          obtain ⟨rr, hrr⟩ := p3.split
          by_cases h6 : (hd r).k = 6
          · show (passD r).length + 1 ≤ ts'.length
            rw [passD_end hrr h6]
            exact P2.out.shorter p3 HRR.out (by rw [h6]; exact fun e => HK.out e.symm)
          · have := passD_lt hrr h6
            show (passD r).length + 1 ≤ ts'.length
            have := HRR.out
            omega
        have P3 := Lib.hid (p3.alloc zD)
        have F3 := Lib.hid ((F2.out.trans f3).alloc zD)
        have R3 := Lib.hid ((f3.row R2.out (by decide)).alloc zD)
        have C3 := Lib.hid ((IsCs.fr f3 _ _ C2.out).below ((Below.refl _ _).alloc (Nat.le_refl _) zD))
        clear hr f3 p3 P2 F2 R2 C2 HQ
        go_wp2_with fail
        refine (passDecl_any _ _ _ P3.out).mono ?_
        rintro e w4 ⟨rfl, p4, f4⟩
        have P4 := Lib.hid p4
        have F4 := Lib.hid (F3.out.trans f4)
        have R4 := Lib.hid (f4.row R3.out (by decide))
        have C4 := Lib.hid (IsCs.fr f4 _ _ C3.out)
        clear p4 f4
        go_wp2_with fail
        refine ⟨⟨acc, passD r, tl ++ ds ++ [y], n', ?_, ?_, ?_, P4.out.wide (Nat.le_refl _), F4.out, ⟨xs, R4.out, OW.out, C4.out⟩, HQ3⟩, ?_⟩
        · have := HPS.out; have := HN.out; omega
        · have := HPS.out; have := HAC.out; omega
        · have h1 := HPS.out; have h2 := HTL.out; have h3 := HBD.out; have h4 := passD_le r; simp only [List.length_append, List.length_cons, List.length_nil] at h3 ⊢; omega
        · rw [P4.out.left, HLE.out]
          have := HPS.out; omega
end Go.Proofs.YtijnjoonbjdafaaGreatDoor

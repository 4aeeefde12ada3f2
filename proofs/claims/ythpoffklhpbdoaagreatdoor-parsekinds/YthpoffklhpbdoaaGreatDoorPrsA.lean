/-
  The contracts of a new reader and of what passes a declaration over.
-/
import Derived.Test.YthpoffklhpbdoaaGreatDoorAttB
import Derived.Test.YthpoffklhpbdoaaGreatDoorToks
import Derived.Test.YthpoffklhpbdoaaGreatDoorSubX
namespace Go.Proofs.YthpoffklhpbdoaaGreatDoor
set_option maxRecDepth 20000
open Go.RowKit Go.Shelf

set_option maxHeartbeats 1000000 in
theorem new_any (s : ByteArray) (hs : s.size ≤ 100000) (w : World) :
    Calls Tryz.prog 42 #[.string s] w fun e w' => ∃ pb, e = .returned (.pointer (some ⟨pb, 0, none⟩)) ∧ Below w.heap.size w w' ∧ PS w.heap.size ((dns s.data.toList).length + (toks s.data.toList).length) w' pb (toks s.data.toList) (toks s.data.toList) (dns s.data.toList) := by
  have HL := Lib.hid (lex_any s (by omega) w)
  have HS := Lib.hid (show s.data.toList.length ≤ 100000 by rw [Lib.size_eq] at hs; exact hs)
  have HSZ := Lib.hid (Lib.size_eq s)
  clear hs
  go_enter Tryz.func42, Tryz.ntmps42
  go_wp2_with fail
  refine HL.out.mono ?_
  rintro e W ⟨v, u, rfl, h1, h2, hb⟩
  obtain ⟨a0, c0, rfl⟩ := row_slice h1
  obtain ⟨a1, c1, rfl⟩ := row_slice h2
  have H1 := Lib.hid h1
  have H2 := Lib.hid h2
  have HB := Lib.hid hb
  obtain ⟨n1, hn1⟩ : ∃ n1, n1 = (toksOf (pieces 0 s.data.toList)).length + 1 := ⟨_, rfl⟩
  obtain ⟨n2, hn2⟩ : ∃ n2, n2 = (toldOf (pieces 0 s.data.toList)).length := ⟨_, rfl⟩
  rw [← hn1, ← hn2]
  have HN1 := Lib.hid hn1
  have HN2 := Lib.hid hn2
  clear h1 h2 hb hn1 hn2
  go_wp2_with fail
  go_ret
  refine ⟨W.heap.size, rfl, HB.out.alloc HB.out.size _, HB.out.size, ?_, ?_, Nat.le_refl _, ?_, .slice a0 n1 c0, .slice a1 n2 c1, 0, heap_alloc_new W _, ?_, ?_, ?_, ?_⟩
  · have := HB.out.size; simp; omega
  · exact ⟨_, _, rfl, rfl⟩
  · have := toks_len s.data.toList; have := HS.out; omega
  · have := H1.out
    rw [← HN1.out] at this
    have e1 : (toks s.data.toList).length = n1 := by rw [HN1.out]; simp [toks]
    rw [e1]
    have h3 : toksOf (pieces 0 s.data.toList) ++ [⟨6, s.size, []⟩] = toks s.data.toList := by rw [HSZ.out]; rfl
    rw [h3] at this
    refine (World.ownsRow.alloc ⟨this.1, ?_⟩ _)
    rcases this.2 with hn | ⟨g, cap, cur, hv, hb, hg, rest⟩
    · exact .inl hn
    · exact .inr ⟨g, cap, cur, hv, Nat.zero_le _, hg, rest⟩
  · have := H2.out
    rw [← HN2.out] at this
    have e1 : (dns s.data.toList).length = n2 := by rw [HN2.out]; simp [dns, told]
    rw [e1, dns, dns_cells]
    exact this.alloc _
  · simp
  · intro b hb'
    have := H1.out
    rw [← HN1.out] at this
    exact (this.lt b hb').2

theorem passD_end {ts : List Tk} {t : Tk} {r : List Tk} (h : ts = t :: r) (hk : t.k = 6) : passD ts = ts := by subst h; rw [passD, if_pos hk]
theorem passD_semi {ts : List Tk} {t : Tk} {r : List Tk} (h : ts = t :: r) (hk : t.k ≠ 6) (hm : isM [59] ts = true) : passD ts = ts.tail := by subst h; rw [passD, if_neg hk, if_pos hm]; rfl
theorem passD_on {ts : List Tk} {t : Tk} {r : List Tk} (h : ts = t :: r) (hk : t.k ≠ 6) (hm : isM [59] ts = false) : passD ts = passD ts.tail := by subst h; rw [passD, if_neg hk, hm]; rfl

set_option maxHeartbeats 1000000 in
theorem passDecl_any {B M : Nat} {pb : Nat} {all : List Tk} (w : World) (ts : List Tk) (told : List Dn) (h : PS B M w pb all ts told) :
    Calls Tryz.prog 46 #[.pointer (some ⟨pb, 0, none⟩)] w fun e w' => e = .returned (.tuple #[]) ∧ PS B M w' pb all (passD ts) told ∧ Fr B w w' := by
  have P0 := Lib.hid h
  obtain ⟨out, hout⟩ : ∃ out, out = passD ts := ⟨_, rfl⟩
  rw [← hout]
  have HO := Lib.hid hout
  have HFL := Lib.hid fld72_0
  clear h hout
  go_enter Tryz.func46, Tryz.ntmps46
  go_wp2_with fail
  go_loopw [] (fun wr => ∃ ts' : List Tk, PS B M wr pb all ts' told ∧ Fr B w wr ∧ Hid (out = passD ts')) (fun wr => left pb all wr)
  case atStart => exact ⟨ts, P0.out, Fr.refl _ _, HO⟩
  case round =>
    obtain ⟨ts', hp, hF, hq⟩ := hrel
    obtain ⟨g, cap, i, vd, -, -, -, -, -, -, -, r, hts, -⟩ := hp.first
    have HTS := Lib.hid hts
    have HLE := Lib.hid hp.left
    have HTL := Lib.hid (tail_of hp.len.2)
    have HNW := Lib.hid (now_any hp)
    have P1 := Lib.hid hp
    have F1 := Lib.hid hF
    obtain ⟨t, ht⟩ : ∃ t, t = hd ts' := ⟨_, rfl⟩
    have HT := Lib.hid ht
    rw [← ht] at HNW
    clear hp hF hts ht
    have hfl := HFL.out
    by_cases hk : t.k = 6
    · have hk1 : (t.k : Int) = 6 := by omega
      have hk2 : ((t.k : Int) != 6) = false := by simpa using hk1
      have HK := Lib.hid hk
      have HE := Lib.hid (show out = ts' from hq.out.trans (passD_end HTS.out (by rw [← HT.out]; exact hk)))
      clear hk1 hk hq
      go_wp2_with fail
      refine HNW.out.mono ?_
      rintro e w2 ⟨rfl, b2⟩
      have P2 := Lib.hid (P1.out.below b2)
      have F2 := Lib.hid (F1.out.below b2)
      clear b2
      unfold tokV
      go_wp2_with fail
      go_end0
      exact ⟨rfl, by rw [HE.out]; exact P2.out, F2.out⟩
    · have hk1 : ¬ (t.k : Int) = 6 := by omega
      have hk2 : ((t.k : Int) != 6) = true := by simpa using hk1
      have HK := Lib.hid hk
      clear hk1 hk
      go_wp2_with fail
      refine HNW.out.mono ?_
      rintro e w2 ⟨rfl, b2⟩
      have P2 := Lib.hid (P1.out.below b2)
      have F2 := Lib.hid (F1.out.below b2)
      clear b2
      unfold tokV
      go_wp2_with fail
      clear hfl hk2
      refine (takes_any P2.out [59]).mono ?_
      rintro e w3 ⟨rfl, p3, f3⟩
      have F3 := Lib.hid (F2.out.trans f3)
      clear f3
      cases hm : isM [59] ts' with
      | true =>
        simp only [hm, if_true] at p3
        have HE := Lib.hid (show out = ts'.tail from hq.out.trans (passD_semi HTS.out (by rw [← HT.out]; exact HK.out) hm))
        have P3 := Lib.hid p3
        clear p3 hm hq
        go_wp2_with fail
        refine bodyPost_ret (results_none rfl _ _ _) rfl ?_
        exact ⟨rfl, by rw [HE.out]; exact P3.out, F3.out⟩
      | false =>
        simp only [hm, Bool.false_eq_true, if_false] at p3
        have HE := Lib.hid (show out = passD ts'.tail from hq.out.trans (passD_on HTS.out (by rw [← HT.out]; exact HK.out) hm))
        have P3 := Lib.hid p3
        clear p3 hm hq
        go_wp2_with fail
        refine (pass_any P3.out (by rw [← HT.out]; exact HK.out)).mono ?_
        rintro e w4 ⟨rfl, p4, f4⟩
        have P4 := Lib.hid p4
        have F4 := Lib.hid (F3.out.trans f4)
        clear p4 f4
        go_wp2_with fail
        refine ⟨⟨ts'.tail, P4.out, F4.out, HE⟩, ?_⟩
        rw [P4.out.left, HLE.out]
        have := HTL.out; omega

end Go.Proofs.YthpoffklhpbdoaaGreatDoor

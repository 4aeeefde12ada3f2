/-
  The walk of the law LexBlanks.
-/
import Derived.Test.YtiblndmblchhmaaJoins
namespace Go.Proofs.Ytiblndmblchhmaa
open Go.RowKit Go.Shelf Go.Sort

/-- The gaps that the law draws. -/
def gapOf : Nat → ByteArray
  | 0 => ⟨#[32]⟩
  | 1 => ⟨#[10]⟩
  | 2 => ⟨#[9, 32, 13]⟩
  | 3 => ⟨#[35, 32, 108, 101, 116, 32, 34, 10]⟩
  | _ => ⟨#[32, 32, 35, 10, 32]⟩
theorem gapOf_gap : ∀ k, Gap (gapOf k).data.toList
  | 0 => gap0
  | 1 => gap1
  | 2 => gap2
  | 3 => gap3
  | _ + 4 => gap4
theorem gapOf_size : ∀ k, (gapOf k).size ≤ 8
  | 0 => by decide
  | 1 => by decide
  | 2 => by decide
  | 3 => by decide
  | _ + 4 => by show (5 : Nat) ≤ 8; decide
theorem gapOf_get (k : Nat) (h : k < 5) : (#[Value.string ⟨#[32]⟩, .string ⟨#[10]⟩, .string ⟨#[9, 32, 13]⟩, .string ⟨#[35, 32, 108, 101, 116, 32, 34, 10]⟩, .string ⟨#[32, 32, 35, 10, 32]⟩] : Array Value)[k]? = some (.string (gapOf k)) := by
  match k, h with
  | 0, _ => rfl
  | 1, _ => rfl
  | 2, _ => rfl
  | 3, _ => rfl
  | 4, _ => rfl

theorem toks_t (l : Bs) : ∀ t ∈ toks l, t.t.length ≤ l.length := by
  intro t ht
  rw [toks, List.mem_append] at ht
  rcases ht with ht | ht
  · obtain ⟨x, hx, h1, h2, h3, h4⟩ := toksOf_mem ht
    rw [← h3]
    exact pcs_t l.length 0 l (Nat.le_refl _) x (List.mem_filter.1 hx).1
  · simp only [List.mem_singleton] at ht
    subst ht
    simp

theorem toks_len (l : Bs) : (toks l).length ≤ l.length + 1 := by
  rw [toks, List.length_append]
  have h1 := toksOf_le (pieces 0 l)
  have h2 := pieces_le l.length 0 l (Nat.le_refl _)
  simp
  omega

/-- The place ahead of the i-th token. -/
def lastOf (T : List Tk) (i : Nat) : Int := if i = 0 then -1 else match T[i - 1]? with | some t => (t.a : Int) | none => -1
theorem lastOf_succ {T : List Tk} {i : Nat} {t : Tk} (h : T[i]? = some t) : lastOf T (i + 1) = t.a := by simp [lastOf, h]
theorem lastOf_lt (l : Bs) {i : Nat} {t : Tk} (h : (toks l)[i]? = some t) : lastOf (toks l) i < t.a := by
  unfold lastOf
  split
  · omega
  · split
    · rename_i u hu
      have := toks_lt (i := i - 1) (j := i) (by omega) hu h
      omega
    · omega

theorem print_snoc (G : Bs) (T : List Tk) {i : Nat} {t : Tk} (h : T[i]? = some t) : printAll G (T.take (i + 1)) = printAll G (T.take i) ++ (printT t.k t.t ++ G) := by
  obtain ⟨h1, rfl⟩ := List.getElem?_eq_some_iff.1 h
  rw [List.take_succ_eq_append_getElem h1, printAll_append]
  simp [printAll]

theorem mk_toArray (l : Bs) : (⟨l.toArray⟩ : ByteArray).data.toList = l := by simp
theorem mk_size (l : Bs) : (⟨l.toArray⟩ : ByteArray).size = l.length := by rw [Lib.size_eq]

set_option maxRecDepth 20000 in
set_option maxHeartbeats 8000000 in
theorem blanks_walk (a : ByteArray) (k : Nat) (hk : k < 256) (w : World) (ha : a.size ≤ 281474976710656) :
    Calls Try.prog 5 #[.string a, .int .u8 (k : Int)] w fun e w' => e = .returned (.bool true) ∧ Below w.heap.size w w' := by
  by_cases hbig : 600 < a.size
  · have h1 : decide ((600 : Int) < (a.size : Int)) = true := by simp; omega
    go_enter Try.func5, Try.ntmps5
    go_wp2_with fail
    refine (alive_any _).mono ?_
    rintro e w1 ⟨rfl, b1⟩
    go_wp2_with fail
    go_ret
    exact ⟨rfl, b1⟩
  have h1 : decide ((600 : Int) < (a.size : Int)) = false := by simp; omega
  have hla := lex_is a (by omega)
  obtain ⟨T, hT⟩ : ∃ T, T = toks a.data.toList := ⟨_, rfl⟩
  obtain ⟨D, hD⟩ : ∃ D, D = told a.data.toList := ⟨_, rfl⟩
  rw [← hT, ← hD] at hla
  have n1 : T.length ≤ 601 := by rw [hT]; have := toks_len a.data.toList; rw [← Lib.size_eq] at this; omega
  have n2 : D.length ≤ 600 := by
    rw [hD, told]; have := toldOf_le (pieces 0 a.data.toList); have := pieces_le a.data.toList.length 0 a.data.toList (Nat.le_refl _); rw [← Lib.size_eq] at this; omega
  obtain ⟨G, hG⟩ : ∃ G, G = gapOf (k % 5) := ⟨_, rfl⟩
  have hgs : G.size ≤ 8 := by rw [hG]; exact gapOf_size _
  have hget := gapOf_get (k % 5) (by omega)
  rw [← hG] at hget
  have hbs := blanks_same (gapOf_gap (k % 5)) a.data.toList
  rw [← hG, ← hT] at hbs
  have HTp : Hid (∀ i t, T[i]? = some t → lastOf T i < t.a ∧ t.a ≤ a.size ∧ t.t.length ≤ a.size) := by
    show ∀ i t, T[i]? = some t → lastOf T i < t.a ∧ t.a ≤ a.size ∧ t.t.length ≤ a.size
    intro i t ht
    rw [hT] at ht ⊢
    refine ⟨lastOf_lt _ ht, ?_, ?_⟩
    · have := (toks_places a.data.toList).2 t (List.mem_of_getElem? ht); rwa [← Lib.size_eq] at this
    · have := toks_t a.data.toList t (List.mem_of_getElem? ht); rwa [← Lib.size_eq] at this
  have HDp : Hid (∀ i t u, D[i]? = some t → D[i + 1]? = some u → t.a < u.a) := by
    show ∀ i t u, D[i]? = some t → D[i + 1]? = some u → t.a < u.a
    intro i t u ht hu
    rw [hD] at ht hu
    exact told_lt (by omega) ht hu
  have HBS := Lib.hid hbs
  have HLA := Lib.hid hla
  clear hT hD hG hbs hla
  have hm : ((k : Int).tmod 5) = ((k % 5 : Nat) : Int) := by rw [Int.tmod_eq_emod_of_nonneg (by omega)]; omega
  have hm2 : ((k : Int) % 5) = ((k % 5 : Nat) : Int) := by omega
  obtain ⟨m, hmm⟩ : ∃ m, m = k % 5 := ⟨_, rfl⟩
  have hm5 : m < 5 := by omega
  rw [← hmm] at hm hm2 hget
  clear hmm
  go_enter Try.func5, Try.ntmps5
  go_wp2_with fail
  refine (alive_any _).mono ?_
  rintro e w1 ⟨rfl, b1⟩
  go_wp2_with fail
  refine (HLA.out _).mono ?_
  rintro e w2 ⟨a0, c0, a1, c1, rfl, s0, s1, b2⟩
  have B2 : Below w.heap.size w w2 := b1.trans (b2.mono b1.size)
  clear b1 b2
  go_wp2_with fail
  have hG2 : ∀ h, ([Value.string ⟨#[32]⟩, .string ⟨#[10]⟩, .string ⟨#[9, 32, 13]⟩, .string ⟨#[35, 32, 108, 101, 116, 32, 34, 10]⟩, .string ⟨#[32, 32, 35, 10, 32]⟩] : List Value)[m]'h = .string G := by
    intro h
    have h2 : ([Value.string ⟨#[32]⟩, .string ⟨#[10]⟩, .string ⟨#[9, 32, 13]⟩, .string ⟨#[35, 32, 108, 101, 116, 32, 34, 10]⟩, .string ⟨#[32, 32, 35, 10, 32]⟩] : List Value)[m]? = some (.string G) := by simpa using hget
    rw [List.getElem?_eq_getElem h] at h2
    exact Option.some.inj h2
  simp only [hG2]
  have hS2 := s0.tris.below ((Below.refl _ w2).alloc (Nat.le_refl _) (.cells #[.string ⟨#[32]⟩, .string ⟨#[10]⟩, .string ⟨#[9, 32, 13]⟩, .string ⟨#[35, 32, 108, 101, 116, 32, 34, 10]⟩, .string ⟨#[32, 32, 35, 10, 32]⟩] 9))
  have hS3 := s1.tris.below ((Below.refl _ w2).alloc (Nat.le_refl _) (.cells #[.string ⟨#[32]⟩, .string ⟨#[10]⟩, .string ⟨#[9, 32, 13]⟩, .string ⟨#[35, 32, 108, 101, 116, 32, 34, 10]⟩, .string ⟨#[32, 32, 35, 10, 32]⟩] 9))
  have B3 : Below w.heap.size w (w2.alloc (.cells #[.string ⟨#[32]⟩, .string ⟨#[10]⟩, .string ⟨#[9, 32, 13]⟩, .string ⟨#[35, 32, 108, 101, 116, 32, 34, 10]⟩, .string ⟨#[32, 32, 35, 10, 32]⟩] 9)) := B2.alloc B2.size _
  obtain ⟨w3, hw3⟩ : ∃ w3, w3 = w2.alloc (.cells #[.string ⟨#[32]⟩, .string ⟨#[10]⟩, .string ⟨#[9, 32, 13]⟩, .string ⟨#[35, 32, 108, 101, 116, 32, 34, 10]⟩, .string ⟨#[32, 32, 35, 10, 32]⟩] 9) := ⟨_, rfl⟩
  rw [← hw3] at hS2 hS3 B3 ⊢
  clear hw3 s0 s1 hG2 hget hm hm2 B2
  have HS2 := Lib.hid hS2
  have HS3 := Lib.hid hS3
  clear hS2 hS3
  go_loopw [8, 9, 10] (fun s8 s9 s10 wr => ∃ (i : Nat) (S : ByteArray) (last : Int), s8 = .string S ∧ s9 = .int .i64 last ∧ s10 = .int .i64 (i : Int) ∧ i ≤ T.length ∧ last = lastOf T i ∧ S.data.toList = G.data.toList ++ printAll G.data.toList (T.take i) ∧ S.size ≤ 8 + i * 700 ∧ Below w3.heap.size w3 wr) (fun _ _ s10 _ => T.length - (intOf s10).toNat)
  case atStart => exact ⟨0, G, -1, rfl, rfl, rfl, Nat.zero_le _, rfl, by simp [printAll], by omega, Below.refl _ _⟩
  case round =>
    obtain ⟨i, S, last, rfl, rfl, rfl, hi, hlast, hS, hSz, hB⟩ := hrel
    have HLAST := Lib.hid hlast
    have HS := Lib.hid hS
    clear hlast hS
    by_cases hlt : i < T.length
    · obtain ⟨x, hx⟩ : ∃ x, T[i]? = some x := ⟨_, List.getElem?_eq_getElem hlt⟩
      obtain ⟨g, o, rfl, hg, p0, p1, p2⟩ := HS2.out.at hx
      have r0 := (hB.cell (p := ⟨g, _, none⟩) hg).trans p0
      have r1 := (hB.cell (p := ⟨g, _, none⟩) hg).trans p1
      have r2 := (hB.cell (p := ⟨g, _, none⟩) hg).trans p2
      obtain ⟨q1, q2, q3⟩ := HTp.out i x hx
      have HPS := Lib.hid (print_snoc G.data.toList T hx)
      have HLS := Lib.hid (lastOf_succ hx)
      rw [← HLAST.out] at q1
      clear p0 p1 p2 hx
      obtain ⟨xk, xa, xt⟩ := x
      simp only at r0 r1 r2 q1 q2 q3
      have hxs := mk_size xt
      obtain ⟨X, hX⟩ : ∃ X : ByteArray, X = ⟨xt.toArray⟩ := ⟨_, rfl⟩
      rw [← hX] at r2 hxs
      have hXd : X.data.toList = xt := by rw [hX]
      have HX := Lib.hid hXd
      clear hX hXd
      have hxs2 : X.size ≤ 600 := by omega
      have t1 : decide ((xa : Int) ≤ last) = false := by simp; omega
      have t1' : ¬ (xa : Int) ≤ last := by omega
      have t2 : decide ((a.size : Int) < (xa : Int)) = false := by simp; omega
      have t2' : decide (a.size < xa) = false := by simp; omega
      have t2'' : ¬ (a.size : Int) < (xa : Int) := by omega
      by_cases hk4 : xk = 4
      · subst hk4
        go_wp2_with fail
        go_roundw
        case rel =>
          refine ⟨i + 1, _, _, rfl, rfl, by go_num, by omega, HLS.out.symm, ?_, ?_, hB⟩
          · rw [HPS.out]
            simp [HS.out, HX.out, printT]
          · simp only [ByteArray.size_append]
            have : (⟨#[34]⟩ : ByteArray).size = 1 := rfl
            omega
        case measure => simp [intOf]; omega
      · have k1 : ((xk : Int) == 4) = false := by simp; omega
        have k2 : ¬ (xk : Int) = 4 := by omega
        go_wp2_with fail
        go_roundw
        case rel =>
          refine ⟨i + 1, _, _, rfl, rfl, by go_num, by omega, HLS.out.symm, ?_, ?_, hB⟩
          · rw [HPS.out]
            simp [HS.out, HX.out, printT, hk4]
          · simp only [ByteArray.size_append]
            omega
        case measure => simp [intOf]; omega
    · have hil : i = T.length := by omega
      have hge : decide ((i : Int) < (T.length : Int)) = false := by simp; omega
      have hge' : decide (i < T.length) = false := by simp; omega
      have hSd := HS.out
      rw [List.take_of_length_le (by omega)] at hSd
      have hsz : S.size ≤ 1000000 := by omega
      have hls := lex_is S hsz
      obtain ⟨M, hM⟩ : ∃ M, M = toks S.data.toList := ⟨_, rfl⟩
      have htd : told S.data.toList = [] := by rw [hSd]; exact HBS.out.2
      have hsm : sameT T M = true := by rw [hM, hSd]; exact HBS.out.1
      have hml : M.length ≤ 2000000 := by rw [hM]; have := toks_len S.data.toList; rw [← Lib.size_eq] at this; omega
      rw [← hM, htd] at hls
      have HLS := Lib.hid hls
      have HSM := Lib.hid hsm
      have HML := Lib.hid hml
      clear hM htd hsm hls hSd HS hml hlt
      obtain ⟨wo, hwo⟩ : ∃ wo, wo = wr := ⟨_, rfl⟩
      subst hwo
      go_wp2_with fail
      refine (HLS.out _).mono ?_
      rintro e w4 ⟨a2, c2, a3, c3, rfl, s2, s3, b4⟩
      simp only [List.length_nil]
      have B4 : Below w3.heap.size w3 w4 := hB.trans (b4.mono hB.size)
      have HS4 := Lib.hid s2.tris
      clear s2 s3 b4 hB
      go_wp2_with fail
      go_loopw [13] (fun s13 wx => ∃ j : Nat, s13 = .int .i64 ((j : Int) + 1) ∧ j ≤ D.length ∧ Below w4.heap.size w4 wx) (fun s13 _ => D.length + 1 - (intOf s13).toNat)
      case atStart => exact ⟨0, rfl, Nat.zero_le _, Below.refl _ _⟩
      case round =>
        obtain ⟨j, rfl, hj, hB5⟩ := hrel
        have hB6 := B4.trans (hB5.mono B4.size)
        by_cases hlt : j + 1 < D.length
        · obtain ⟨x, hx⟩ : ∃ x, D[j]? = some x := ⟨_, List.getElem?_eq_getElem (by omega)⟩
          obtain ⟨y, hy⟩ : ∃ y, D[j + 1]? = some y := ⟨_, List.getElem?_eq_getElem hlt⟩
          obtain ⟨g, o, rfl, hg, p0, p1, p2⟩ := HS3.out.atD hx
          obtain ⟨g', o', eg, hg', q0, q1, q2⟩ := HS3.out.atD hy
          cases eg
          have r0 := (hB6.cell (p := ⟨g, _, none⟩) hg).trans p0
          have u0 := (hB6.cell (p := ⟨g, _, none⟩) hg).trans q0
          have hxy := HDp.out j x y hx hy
          clear p0 p1 p2 q0 q1 q2 hx hy
          obtain ⟨xa, xd⟩ := x
          obtain ⟨ya, yd⟩ := y
          simp only at r0 u0 hxy
          have t1 : decide ((ya : Int) ≤ (xa : Int)) = false := by simp; omega
          have t2 : decide (ya ≤ xa) = false := by simp; omega
          have t3 : decide ((j : Int) + 1 < (D.length : Int)) = true := by simp; omega
          go_wp2_with fail
          go_quiet (fail)
          go_wp2_with fail
          go_roundw
          case rel => exact ⟨j + 1, by go_num, by omega, ⟨hB5.os, hB5.tape, hB5.output, hB5.size, hB5.block⟩⟩
          case measure => simp [intOf]; omega
        · have t3 : decide ((j : Int) + 1 < (D.length : Int)) = false := by simp; omega
          have hsame := same_any a0 a2 c0 c2 T M (by omega) HML.out wr (HS2.out.below ⟨hB6.os, hB6.tape, hB6.output, hB6.size, hB6.block⟩) (HS4.out.below hB5)
          rw [HSM.out] at hsame
          have HSA := Lib.hid hsame
          clear hsame
          go_wp2_with fail
          refine HSA.out.mono ?_
          rintro e w7 ⟨rfl, b7⟩
          go_wp2_with fail
          go_ret
          exact ⟨rfl, (B3.trans (hB6.mono B3.size)).trans (b7.mono (Nat.le_trans B3.size hB6.size))⟩

end Go.Proofs.Ytiblndmblchhmaa

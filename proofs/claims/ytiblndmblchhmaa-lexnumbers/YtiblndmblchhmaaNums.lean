/-
  The walk of the law LexNumbers.
-/
import Derived.Test.YtiblndmblchhmaaWords
import Derived.Laws.BytesArg
namespace Go.Proofs.Ytiblndmblchhmaa
open Go.RowKit Go.Shelf Go.Sort

theorem pieces_dig {t : Bs} (hne : t ≠ []) (h : ∀ c ∈ t, isDig c = true) : pieces 0 t = [⟨0, if 18 < t.length then ⟨t.length, 3, [48], 13⟩ else ⟨t.length, 3, t, 0⟩⟩] := by
  have hst : stepOf t = if 18 < t.length then ⟨t.length, 3, [48], 13⟩ else ⟨t.length, 3, t, 0⟩ := by
    have hsp := spanLen_whole t h
    cases t with
    | nil => exact absurd rfl hne
    | cons c r =>
      obtain ⟨hb, h35, hs⟩ := dig_not c (h c (by simp))
      simp only [stepOf, hb, h35, hs, h c (by simp), hsp, Bool.false_eq_true, if_false, if_true, List.take_length]
  have hk : (stepOf t).k = 3 := by rw [hst]; split <;> rfl
  have hn : (stepOf t).n = t.length := by rw [hst]; split <;> rfl
  rw [pieces_piece 0 t hne (by rw [hk]; simp), hn, List.drop_length, pieces_nil, hst]

theorem toks_dig {t : Bs} (hne : t ≠ []) (h : ∀ c ∈ t, isDig c = true) : toks t = [⟨3, 0, if 18 < t.length then [48] else t⟩, ⟨6, t.length, []⟩] ∧ told t = if 18 < t.length then [⟨0, 13⟩] else [] := by
  rw [toks, told, pieces_dig hne h, toksOf_cons, toldOf_cons]
  split <;> exact ⟨rfl, rfl⟩

theorem toks_text {t : Bs} (h : ∀ c ∈ t, isInText c = true) : toks (34 :: (t ++ [34])) = [⟨4, 0, t⟩, ⟨6, t.length + 2, []⟩] ∧ told (34 :: (t ++ [34])) = [] := by
  have hsp := spanLen_full (p := isInText) (g := 34) (by decide) [] t h
  have hst : stepOf (34 :: (t ++ [34])) = ⟨t.length + 2, 4, t, 0⟩ := by
    rw [stepOf_34, hsp, if_pos (by simp), List.take_left]
  have hp : pieces 0 (34 :: (t ++ [34])) = [⟨0, ⟨t.length + 2, 4, t, 0⟩⟩] := by
    rw [pieces_piece 0 _ (by simp) (by rw [hst]; simp), hst]
    rw [List.drop_of_length_le (by simp), pieces_nil]
  rw [toks, told, hp, toksOf_cons, toldOf_cons]
  refine ⟨?_, rfl⟩
  simp [toksOf]

theorem toks_open {t : Bs} (h : ∀ c ∈ t, isInText c = true) : toks (34 :: t) = [⟨6, t.length + 1, []⟩] ∧ told (34 :: t) = [⟨0, 1⟩] := by
  have hsp := spanLen_whole (p := isInText) t h
  have hst : stepOf (34 :: t) = ⟨t.length + 1, 0, [], 1⟩ := by
    rw [stepOf_34, hsp, if_neg (by simp)]
  have hp : pieces 0 (34 :: t) = [⟨0, ⟨t.length + 1, 0, [], 1⟩⟩] := by
    rw [pieces_piece 0 _ (by simp) (by rw [hst]; simp), hst]
    rw [List.drop_of_length_le (by simp), pieces_nil]
  rw [toks, told, hp, toksOf_cons, toldOf_cons]
  exact ⟨rfl, rfl⟩

/-- The digits that the law draws. -/
def digOf (d i : Nat) : UInt8 := (48 + (d + i) % 256 % 10).toUInt8
def digsOf (d : Nat) : Nat → Bs
  | 0 => []
  | k + 1 => digsOf d k ++ [digOf d k]
theorem digOf_nat (d i : Nat) : (digOf d i).toNat = 48 + (d + i) % 256 % 10 := by
  unfold digOf
  rw [Nat.toUInt8_eq, UInt8.toNat_ofNat']
  omega
theorem digOf_dig (d i : Nat) : isDig (digOf d i) = true := by
  simp only [isDig, digOf_nat, Bool.and_eq_true, decide_eq_true_eq]
  omega
theorem digsOf_len (d : Nat) : ∀ k, (digsOf d k).length = k
  | 0 => rfl
  | k + 1 => by simp [digsOf, digsOf_len d k]
theorem digsOf_all (d : Nat) : ∀ k, ∀ c ∈ digsOf d k, isDig c = true
  | 0, c, h => by simp [digsOf] at h
  | k + 1, c, h => by
    rw [digsOf, List.mem_append] at h
    rcases h with h | h
    · exact digsOf_all d k c h
    · simp only [List.mem_singleton] at h
      rw [h]; exact digOf_dig d k

/-- A slice of bytes that came in. -/
structure Byts (w : World) (a : Option Addr) (l : Bs) : Prop where
  cell : ∀ (i : Nat) (c : UInt8), l[i]? = some c → ∃ b off, a = some ⟨b, off, none⟩ ∧ b < w.heap.size ∧ w.cell? ⟨b, off + i, none⟩ = some (.int .u8 (c.toNat : Int))

theorem Byts.conv {w W : World} {a0 : Option Addr} {l : Bs} (h : Byts w a0 l) (hb : Below w.heap.size w W) (cap : Nat) : (convert 43 9 (.slice a0 l.length cap)).run Try.prog W = .ok (.string ⟨l.toArray⟩) W := by
  cases a0 with
  | none =>
    have hl : l = [] := by
      cases l with
      | nil => rfl
      | cons c r => obtain ⟨b, off, e, _⟩ := h.cell 0 c rfl; cases e
    subst hl
    exact run_convert_bytes_nil W 43 5 Try.underlying43 Try.underlying5 _ _ 9 Try.underlying9
  | some a =>
    refine run_convert_bytes_back (P := Try.prog) W 43 9 5 a cap l Try.underlying43 Try.underlying5 Try.underlying9 ?_
    intro j hj
    obtain ⟨b, off, e, hlt, hc⟩ := h.cell j l[j] (List.getElem?_eq_getElem hj)
    cases e
    have e2 : (⟨b, off, none⟩ : Addr).add j = ⟨b, off + j, none⟩ := by unfold Addr.add; split <;> simp_all
    rw [e2]
    exact (hb.cell (p := ⟨b, _, none⟩) hlt).trans hc

theorem conv_dig (W : World) (d x : Nat) : (convert 43 9 (.slice (some ⟨W.heap.size, 0, none⟩) 1 1)).run Try.prog (W.alloc (.cells #[.int .u8 (48 + ((d : Int) + (x : Int)) % 256 % 10)] 5)) = .ok (.string ⟨#[digOf d x]⟩) (W.alloc (.cells #[.int .u8 (48 + ((d : Int) + (x : Int)) % 256 % 10)] 5)) := by
  have e : (48 + ((d : Int) + (x : Int)) % 256 % 10) = ((digOf d x).toNat : Int) := by rw [digOf_nat]; omega
  rw [e]
  have h := run_convert_bytes_back (P := Try.prog) (W.alloc (.cells #[.int .u8 ((digOf d x).toNat : Int)] 5)) 43 9 5 ⟨W.heap.size, 0, none⟩ 1 [digOf d x] Try.underlying43 Try.underlying5 Try.underlying9 (by
    intro j hj
    have hj0 : j = 0 := by simpa using hj
    subst hj0
    rw [add_zero, cell_at (heap_alloc_new W (.cells #[.int .u8 ((digOf d x).toNat : Int)] 5))]
    rfl)
  exact h

set_option maxRecDepth 100000 in
set_option maxHeartbeats 8000000 in
theorem nums_walk (n d : Nat) (hn : n < 256) (_hd : d < 256) (a0 : Option Addr) (cap : Nat) (l : Bs) (_hl : l.length ≤ 9223372036854775807) (w : World) (hb : Byts w a0 l) :
    Calls Try.prog 7 #[.int .u8 (n : Int), .int .u8 (d : Int), .slice a0 l.length cap] w fun e w' => e = .returned (.bool true) ∧ Below w.heap.size w w' := by
  by_cases hbig : 300 < l.length
  · have h1 : decide ((300 : Int) < (l.length : Int)) = true := by simp; omega
    go_enter Try.func7, Try.ntmps7
    go_wp2_with fail
    refine (alive_any _).mono ?_
    rintro e w1 ⟨rfl, b1⟩
    go_wp2_with fail
    go_ret
    exact ⟨rfl, b1⟩
  have h1 : decide ((300 : Int) < (l.length : Int)) = false := by simp; omega
  have hm2 : ((n : Int).tmod 30) = ((n % 30 : Nat) : Int) := by rw [Int.tmod_eq_emod_of_nonneg (by omega)]; omega
  obtain ⟨r, hr⟩ : ∃ r, r = n % 30 := ⟨_, rfl⟩
  have hr2 : r < 30 := by omega
  rw [← hr] at hm2
  clear hr
  go_enter Try.func7, Try.ntmps7
  go_wp2_with fail
  refine (alive_any _).mono ?_
  rintro e w1 ⟨rfl, b1⟩
  go_wp2_with fail
  go_loopw [8, 9] (fun s8 s9 wr => ∃ (x : Nat) (X : ByteArray), s8 = .string X ∧ s9 = .int .i64 (x : Int) ∧ x ≤ r + 1 ∧ X.data.toList = digsOf d x ∧ Below w.heap.size w wr) (fun _ s9 _ => r + 1 - (intOf s9).toNat)
  case atStart => exact ⟨0, _, rfl, rfl, Nat.zero_le _, rfl, b1⟩
  case round =>
    clear b1
    obtain ⟨x, X, rfl, rfl, hx, hX, hB⟩ := hrel
    have hXs : X.size = x := by rw [Lib.size_eq, hX, digsOf_len]
    have HX := Lib.hid hX
    clear hX
    by_cases hlt : x < r + 1
    · have hlt1 : (x : Int) < 1 + (r : Int) := by omega
      have hcv := conv_dig wr d x
      have hone : (⟨#[digOf d x]⟩ : ByteArray).size = 1 := rfl
      go_wp2_with fail
      go_roundw
      case rel =>
        refine ⟨x + 1, _, rfl, by go_num, by omega, ?_, hB.alloc hB.size _⟩
        rw [digsOf]
        simp [HX.out]
      case measure => simp [intOf]; omega
    · have hxr : x = r + 1 := by omega
      have hge : decide ((x : Int) < 1 + (r : Int)) = false := by simp; omega
      have hge' : ¬ (x : Int) < 1 + (r : Int) := by omega
      have l5 := lex_is X (by omega)
      have hdt := toks_dig (t := X.data.toList) (by rw [HX.out, hxr, digsOf]; simp) (by rw [HX.out]; exact digsOf_all d x)
      rw [hdt.1, hdt.2, ← Lib.size_eq, hXs] at l5
      simp only [List.length_cons, List.length_nil, Nat.reduceAdd] at l5
      clear hdt
      by_cases h18 : 18 < x
      ·
        simp only [h18, if_true, List.length_cons, List.length_nil, Nat.reduceAdd] at l5
        have HL5 := Lib.hid l5
        have u1 : decide (1 + (r : Int) ≤ 18) = false := by simp; omega
        have u2 : decide (18 < 1 + (r : Int)) = true := by simp; omega
        have u3 : 18 < 1 + (r : Int) := by omega
        have u4 : ¬ 1 + (r : Int) ≤ 18 := by omega
        clear l5 hlt hge' h18
        go_wp2_with fail
        refine (HL5.out _).mono ?_
        rintro e w7 ⟨a2, c2, a3, c3, rfl, s2, s3, b7⟩
        obtain ⟨g, o, rfl, hg, q0, q1, q2⟩ := s2.tris 0 _ rfl
        obtain ⟨g2, e6, _⟩ := s2.hsome _ rfl
        cases e6
        obtain ⟨g3, o3, rfl, hg3, v0, v1, v2⟩ := s3.tris 0 _ rfl
        obtain ⟨g4, e6, _⟩ := s3.hsome _ rfl
        cases e6
        simp only [Tk.tri] at q0 q2
        simp only [Dg.tri] at v1
        have B7 := hB.trans (b7.mono hB.size)
        clear q1 s2 s3 b7 hB v0 v2
        go_wp2_with fail
        obtain ⟨wo, hwo⟩ : ∃ wo, wo = wr := ⟨_, rfl⟩
        subst hwo
        go_loopw [12, 13] (fun s12 s13 wx => ∃ (y : Nat) (pl : Bool), s12 = .bool pl ∧ s13 = .int .i64 (y : Int) ∧ y ≤ l.length ∧ pl = (l.take y).all isInText ∧ Below w.heap.size w wx) (fun _ s13 _ => l.length - (intOf s13).toNat)
        case atStart => exact ⟨0, true, rfl, rfl, Nat.zero_le _, rfl, B7⟩
        case round =>
          clear B7
          obtain ⟨y, pl, rfl, rfl, hy, hpl, hB8⟩ := hrel
          have HPL := Lib.hid hpl
          clear hpl
          by_cases hylt : y < l.length
          · obtain ⟨c, hc⟩ : ∃ c, l[y]? = some c := ⟨_, List.getElem?_eq_getElem hylt⟩
            obtain ⟨b, off, rfl, hbl, hcc⟩ := hb.cell y c hc
            have hcc' := (hB8.cell (p := ⟨b, _, none⟩) hbl).trans hcc
            have HSN : Hid ((l.take (y + 1)).all isInText = ((l.take y).all isInText && isInText c)) := by
              obtain ⟨h1, rfl⟩ := List.getElem?_eq_some_iff.1 hc
              show (l.take (y + 1)).all isInText = ((l.take y).all isInText && isInText l[y])
              rw [List.take_succ_eq_append_getElem h1, List.all_append, List.all_cons, List.all_nil, Bool.and_true]
            clear hcc hc
            cases pl with
            | false =>
              go_wp2_with fail
              go_roundw
              case rel => exact ⟨y + 1, false, rfl, by go_num, by omega, by rw [HSN.out, ← HPL.out]; rfl, hB8⟩
              case measure => simp [intOf]; omega
            | true =>
              by_cases h34 : c.toNat = 34
              · have HIT : Hid (isInText c = false) := by show isInText c = false; simp [isInText, h34]
                have k1 : ((c.toNat : Int) == 34) = true := by simp; omega
                have k2 : (c.toNat : Int) = 34 := by omega
                clear h34
                go_wp2_with fail
                go_roundw
                case rel => exact ⟨y + 1, false, rfl, by go_num, by omega, by rw [HSN.out, ← HPL.out, HIT.out]; rfl, hB8⟩
                case measure => simp [intOf]; omega
              · have k1 : ((c.toNat : Int) == 34) = false := by simp; omega
                have k2 : ¬ (c.toNat : Int) = 34 := by omega
                by_cases h10 : c.toNat = 10
                · have HIT : Hid (isInText c = false) := by show isInText c = false; simp [isInText, h10]
                  have k3 : ((c.toNat : Int) == 10) = true := by simp; omega
                  have k4 : (c.toNat : Int) = 10 := by omega
                  clear h34 h10 k1 k2
                  go_wp2_with fail
                  go_roundw
                  case rel => exact ⟨y + 1, false, rfl, by go_num, by omega, by rw [HSN.out, ← HPL.out, HIT.out]; rfl, hB8⟩
                  case measure => simp [intOf]; omega
                · have HIT : Hid (isInText c = true) := by show isInText c = true; simp [isInText, h10, h34]
                  have k3 : ((c.toNat : Int) == 10) = false := by simp; omega
                  have k4 : ¬ (c.toNat : Int) = 10 := by omega
                  go_wp2_with fail
                  go_roundw
                  case rel => exact ⟨y + 1, true, by simp; omega, by go_num, by omega, by rw [HSN.out, ← HPL.out, HIT.out]; rfl, hB8⟩
                  case measure => simp [intOf]; omega
          · have hyl : decide ((y : Int) < (l.length : Int)) = false := by simp; omega
            have hyl' : decide (y < l.length) = false := by simp; omega
            have hpl := HPL.out
            rw [List.take_of_length_le (by omega)] at hpl
            cases pl with
            | false =>
              clear hpl
              go_wp2_with fail
              go_ret
              exact ⟨rfl, hB8⟩
            | true =>
              have hall : ∀ c ∈ l, isInText c = true := by
                have := hpl.symm
                rwa [List.all_eq_true] at this
              obtain ⟨t1, t2⟩ := toks_text hall
              obtain ⟨o1, o2⟩ := toks_open hall
              obtain ⟨Y, hY⟩ : ∃ Y : ByteArray, Y = ⟨l.toArray⟩ := ⟨_, rfl⟩
              have hYd : Y.data.toList = l := by rw [hY]
              have hYs : Y.size = l.length := by rw [Lib.size_eq, hYd]
              have e34 : (⟨#[34]⟩ : ByteArray).size = 1 := rfl
              have L6 := lex_is ((⟨#[34]⟩ : ByteArray) ++ Y ++ (⟨#[34]⟩ : ByteArray)) (by rw [ByteArray.size_append, ByteArray.size_append, e34]; omega)
              have L7 := lex_is ((⟨#[34]⟩ : ByteArray) ++ Y) (by rw [ByteArray.size_append, e34]; omega)
              have x6 : ((⟨#[34]⟩ : ByteArray) ++ Y ++ (⟨#[34]⟩ : ByteArray)).data.toList = 34 :: (l ++ [34]) := by simp [hYd]
              have x7 : ((⟨#[34]⟩ : ByteArray) ++ Y).data.toList = 34 :: l := by simp [hYd]
              rw [x6, t1, t2] at L6
              rw [x7, o1, o2] at L7
              simp only [List.length_cons, List.length_nil, Nat.reduceAdd] at L6 L7
              have hY2 : (⟨l.toArray⟩ : ByteArray) = Y := hY.symm
              have HL6 := Lib.hid L6
              have HL7 := Lib.hid L7
              have cv1 := hb.conv hB8 cap
              rw [hY2] at cv1
              have HY2 := Lib.hid hY2
              clear L6 L7 hpl hall t1 t2 o1 o2 x6 x7 hYd hY e34 hY2
              have e34 : (⟨#[34]⟩ : ByteArray).size = 1 := rfl
              go_wp2_with fail
              refine (HL6.out _).mono ?_
              rintro e w8 ⟨a4, c4, a5, c5, rfl, s4, s5, b8⟩
              obtain ⟨g4, o4, rfl, hg4, p0, p1, p2⟩ := s4.tris 0 _ rfl
              obtain ⟨g5, e6, _⟩ := s4.hsome _ rfl
              cases e6
              simp only [Tk.tri] at p0 p2
              rw [HY2.out] at p2
              have B9 := hB8.trans (b8.mono hB8.size)
              have cv2 := hb.conv B9 cap
              rw [HY2.out] at cv2
              clear s4 s5 p1 cv1
              go_wp2_with fail
              refine (HL7.out _).mono ?_
              rintro e w9 ⟨a6, c6, a7, c7, rfl, s6, s7, b9⟩
              have p0' := (b9.cell (p := ⟨g4, _, none⟩) hg4).trans p0
              have p2' := (b9.cell (p := ⟨g4, _, none⟩) hg4).trans p2
              obtain ⟨g7, o7, rfl, hg7, r0, r1, r2⟩ := s7.tris 0 _ rfl
              obtain ⟨g8, e6, _⟩ := s7.hsome _ rfl
              cases e6
              simp only [Dg.tri] at r0
              have B10 := B9.trans (b9.mono B9.size)
              have cv3 : ∀ n, (convert 43 9 (.slice a0 l.length cap)).run Try.prog (w9.drewN n) = .ok (.string Y) (w9.drewN n) := by
                intro n
                have := hb.conv (W := w9.drewN n) ⟨B10.os, B10.tape, B10.output, B10.size, B10.block⟩ cap
                rw [HY2.out] at this
                exact this
              clear s6 s7 p0 p2 r1 r2 cv2
              go_wp2_with fail
              go_quiet (fail)
              go_wp2_with fail
              go_ret
              exact ⟨rfl, ⟨B10.os, B10.tape, B10.output, B10.size, B10.block⟩⟩
      ·
        have hd18 : ¬ 18 < x := by omega
        simp only [hd18, if_false, List.length_nil] at l5
        have HL5 := Lib.hid l5
        have u1 : decide (1 + (r : Int) ≤ 18) = true := by simp; omega
        have u2 : decide (18 < 1 + (r : Int)) = false := by simp; omega
        have u3 : ¬ 18 < 1 + (r : Int) := by omega
        have u4 : 1 + (r : Int) ≤ 18 := by omega
        clear l5 hlt hge' h18
        go_wp2_with fail
        refine (HL5.out _).mono ?_
        rintro e w7 ⟨a2, c2, a3, c3, rfl, s2, s3, b7⟩
        obtain ⟨g, o, rfl, hg, q0, q1, q2⟩ := s2.tris 0 _ rfl
        obtain ⟨g2, e6, _⟩ := s2.hsome _ rfl
        cases e6
        simp only [Tk.tri] at q0 q2
        rw [Lib.mk_data] at q2
        have B7 := hB.trans (b7.mono hB.size)
        clear q1 s2 s3 b7 hB
        go_wp2_with fail
        obtain ⟨wo, hwo⟩ : ∃ wo, wo = wr := ⟨_, rfl⟩
        subst hwo
        go_loopw [12, 13] (fun s12 s13 wx => ∃ (y : Nat) (pl : Bool), s12 = .bool pl ∧ s13 = .int .i64 (y : Int) ∧ y ≤ l.length ∧ pl = (l.take y).all isInText ∧ Below w.heap.size w wx) (fun _ s13 _ => l.length - (intOf s13).toNat)
        case atStart => exact ⟨0, true, rfl, rfl, Nat.zero_le _, rfl, B7⟩
        case round =>
          clear B7
          obtain ⟨y, pl, rfl, rfl, hy, hpl, hB8⟩ := hrel
          have HPL := Lib.hid hpl
          clear hpl
          by_cases hylt : y < l.length
          · obtain ⟨c, hc⟩ : ∃ c, l[y]? = some c := ⟨_, List.getElem?_eq_getElem hylt⟩
            obtain ⟨b, off, rfl, hbl, hcc⟩ := hb.cell y c hc
            have hcc' := (hB8.cell (p := ⟨b, _, none⟩) hbl).trans hcc
            have HSN : Hid ((l.take (y + 1)).all isInText = ((l.take y).all isInText && isInText c)) := by
              obtain ⟨h1, rfl⟩ := List.getElem?_eq_some_iff.1 hc
              show (l.take (y + 1)).all isInText = ((l.take y).all isInText && isInText l[y])
              rw [List.take_succ_eq_append_getElem h1, List.all_append, List.all_cons, List.all_nil, Bool.and_true]
            clear hcc hc
            cases pl with
            | false =>
              go_wp2_with fail
              go_roundw
              case rel => exact ⟨y + 1, false, rfl, by go_num, by omega, by rw [HSN.out, ← HPL.out]; rfl, hB8⟩
              case measure => simp [intOf]; omega
            | true =>
              by_cases h34 : c.toNat = 34
              · have HIT : Hid (isInText c = false) := by show isInText c = false; simp [isInText, h34]
                have k1 : ((c.toNat : Int) == 34) = true := by simp; omega
                have k2 : (c.toNat : Int) = 34 := by omega
                clear h34
                go_wp2_with fail
                go_roundw
                case rel => exact ⟨y + 1, false, rfl, by go_num, by omega, by rw [HSN.out, ← HPL.out, HIT.out]; rfl, hB8⟩
                case measure => simp [intOf]; omega
              · have k1 : ((c.toNat : Int) == 34) = false := by simp; omega
                have k2 : ¬ (c.toNat : Int) = 34 := by omega
                by_cases h10 : c.toNat = 10
                · have HIT : Hid (isInText c = false) := by show isInText c = false; simp [isInText, h10]
                  have k3 : ((c.toNat : Int) == 10) = true := by simp; omega
                  have k4 : (c.toNat : Int) = 10 := by omega
                  clear h34 h10 k1 k2
                  go_wp2_with fail
                  go_roundw
                  case rel => exact ⟨y + 1, false, rfl, by go_num, by omega, by rw [HSN.out, ← HPL.out, HIT.out]; rfl, hB8⟩
                  case measure => simp [intOf]; omega
                · have HIT : Hid (isInText c = true) := by show isInText c = true; simp [isInText, h10, h34]
                  have k3 : ((c.toNat : Int) == 10) = false := by simp; omega
                  have k4 : ¬ (c.toNat : Int) = 10 := by omega
                  go_wp2_with fail
                  go_roundw
                  case rel => exact ⟨y + 1, true, by simp; omega, by go_num, by omega, by rw [HSN.out, ← HPL.out, HIT.out]; rfl, hB8⟩
                  case measure => simp [intOf]; omega
          · have hyl : decide ((y : Int) < (l.length : Int)) = false := by simp; omega
            have hyl' : decide (y < l.length) = false := by simp; omega
            have hpl := HPL.out
            rw [List.take_of_length_le (by omega)] at hpl
            cases pl with
            | false =>
              clear hpl
              go_wp2_with fail
              go_ret
              exact ⟨rfl, hB8⟩
            | true =>
              have hall : ∀ c ∈ l, isInText c = true := by
                have := hpl.symm
                rwa [List.all_eq_true] at this
              obtain ⟨t1, t2⟩ := toks_text hall
              obtain ⟨o1, o2⟩ := toks_open hall
              obtain ⟨Y, hY⟩ : ∃ Y : ByteArray, Y = ⟨l.toArray⟩ := ⟨_, rfl⟩
              have hYd : Y.data.toList = l := by rw [hY]
              have hYs : Y.size = l.length := by rw [Lib.size_eq, hYd]
              have e34 : (⟨#[34]⟩ : ByteArray).size = 1 := rfl
              have L6 := lex_is ((⟨#[34]⟩ : ByteArray) ++ Y ++ (⟨#[34]⟩ : ByteArray)) (by rw [ByteArray.size_append, ByteArray.size_append, e34]; omega)
              have L7 := lex_is ((⟨#[34]⟩ : ByteArray) ++ Y) (by rw [ByteArray.size_append, e34]; omega)
              have x6 : ((⟨#[34]⟩ : ByteArray) ++ Y ++ (⟨#[34]⟩ : ByteArray)).data.toList = 34 :: (l ++ [34]) := by simp [hYd]
              have x7 : ((⟨#[34]⟩ : ByteArray) ++ Y).data.toList = 34 :: l := by simp [hYd]
              rw [x6, t1, t2] at L6
              rw [x7, o1, o2] at L7
              simp only [List.length_cons, List.length_nil, Nat.reduceAdd] at L6 L7
              have hY2 : (⟨l.toArray⟩ : ByteArray) = Y := hY.symm
              have HL6 := Lib.hid L6
              have HL7 := Lib.hid L7
              have cv1 := hb.conv hB8 cap
              rw [hY2] at cv1
              have HY2 := Lib.hid hY2
              clear L6 L7 hpl hall t1 t2 o1 o2 x6 x7 hYd hY e34 hY2
              have e34 : (⟨#[34]⟩ : ByteArray).size = 1 := rfl
              go_wp2_with fail
              refine (HL6.out _).mono ?_
              rintro e w8 ⟨a4, c4, a5, c5, rfl, s4, s5, b8⟩
              obtain ⟨g4, o4, rfl, hg4, p0, p1, p2⟩ := s4.tris 0 _ rfl
              obtain ⟨g5, e6, _⟩ := s4.hsome _ rfl
              cases e6
              simp only [Tk.tri] at p0 p2
              rw [HY2.out] at p2
              have B9 := hB8.trans (b8.mono hB8.size)
              have cv2 := hb.conv B9 cap
              rw [HY2.out] at cv2
              clear s4 s5 p1 cv1
              go_wp2_with fail
              refine (HL7.out _).mono ?_
              rintro e w9 ⟨a6, c6, a7, c7, rfl, s6, s7, b9⟩
              have p0' := (b9.cell (p := ⟨g4, _, none⟩) hg4).trans p0
              have p2' := (b9.cell (p := ⟨g4, _, none⟩) hg4).trans p2
              obtain ⟨g7, o7, rfl, hg7, r0, r1, r2⟩ := s7.tris 0 _ rfl
              obtain ⟨g8, e6, _⟩ := s7.hsome _ rfl
              cases e6
              simp only [Dg.tri] at r0
              have B10 := B9.trans (b9.mono B9.size)
              have cv3 : ∀ n, (convert 43 9 (.slice a0 l.length cap)).run Try.prog (w9.drewN n) = .ok (.string Y) (w9.drewN n) := by
                intro n
                have := hb.conv (W := w9.drewN n) ⟨B10.os, B10.tape, B10.output, B10.size, B10.block⟩ cap
                rw [HY2.out] at this
                exact this
              clear s6 s7 p0 p2 r1 r2 cv2
              go_wp2_with fail
              go_quiet (fail)
              go_wp2_with fail
              go_ret
              exact ⟨rfl, ⟨B10.os, B10.tape, B10.output, B10.size, B10.block⟩⟩

end Go.Proofs.Ytiblndmblchhmaa

/-
  The walk of the law WordsOrder: two tables.
-/
import Derived.Test.YtgflncpigeppfaaSame
namespace Go.Proofs.Ytgflncpigeppfaa
open Go.RowKit Go.Maps

/-! Plain facts. -/
theorem num_mem {L : List ByteArray} {s : ByteArray} (h : num L s ≠ 0) : s ∈ L := List.mem_of_getElem? (num_get L s h)

theorem inOrder_nodup {ss T : List ByteArray} (h : InOrder ss T) : T.Nodup := by
  refine List.pairwise_iff_getElem.2 fun i j hi hj hij e => ?_
  obtain ⟨_, _, h1, _⟩ := h.first i T[i] (List.getElem?_eq_getElem hi)
  obtain ⟨_, _, h2, _⟩ := h.first j T[j] (List.getElem?_eq_getElem hj)
  rw [e] at h1
  omega

theorem inOrder_mem {ss T : List ByteArray} (h : InOrder ss T) (x : ByteArray) : x ∈ T ↔ x ∈ ss := by
  constructor
  · intro hx
    obtain ⟨j, hj⟩ := List.getElem?_of_mem hx
    obtain ⟨i, hi, _⟩ := h.first j x hj
    exact List.mem_of_getElem? hi
  · intro hx
    obtain ⟨i, hi⟩ := List.getElem?_of_mem hx
    exact num_mem (h.there i x hi)

theorem puts_perm (ss : List ByteArray) : (puts [] ss).Perm (puts [] ss.reverse) :=
  (List.perm_ext_iff_of_nodup (inOrder_nodup (ord_puts ss)) (inOrder_nodup (ord_puts ss.reverse))).2 fun x => by
    rw [inOrder_mem (ord_puts ss), inOrder_mem (ord_puts ss.reverse), List.mem_reverse]

theorem put_number (L : List ByteArray) (s : ByteArray) : 1 ≤ num (put L s) s ∧ num (put L s) s ≤ L.length + 1 ∧ (put L s).length = max L.length (num (put L s) s) := by
  have h := num_le L s
  rw [num_put]
  unfold put
  split
  · simp
  · refine ⟨by omega, by omega, ?_⟩
    omega

theorem puts_small {ss : List ByteArray} (h : ∀ (i : Nat) (s : ByteArray), ss[i]? = some s → s.size ≤ 281474976710656) : ∀ s ∈ puts [] ss, s.size ≤ 281474976710656 := by
  intro s hs
  obtain ⟨i, hi⟩ := List.getElem?_of_mem ((inOrder_mem (ord_puts ss) s).1 hs)
  exact h i s hi

/-! Two tables that lie apart. -/
def Two (B ba bb : Nat) (w : World) (La Lb : List ByteArray) : Prop :=
  ∃ τa τb : Tab, τa.b = ba ∧ τb.b = bb ∧ τa.At w La ∧ τb.At w Lb ∧ (∀ k, τa.foot k → B ≤ k) ∧ (∀ k, τb.foot k → B ≤ k) ∧ ∀ k, τa.foot k → ¬ τb.foot k

theorem Two.a {B ba bb : Nat} {w : World} {La Lb : List ByteArray} (h : Two B ba bb w La Lb) : IsTab B ba w La := by
  obtain ⟨τa, τb, h1, h2, h3, h4, h5, h6, h7⟩ := h
  exact ⟨τa, h1, h3, h5⟩
theorem Two.b {B ba bb : Nat} {w : World} {La Lb : List ByteArray} (h : Two B ba bb w La Lb) : IsTab B bb w Lb := by
  obtain ⟨τa, τb, h1, h2, h3, h4, h5, h6, h7⟩ := h
  exact ⟨τb, h2, h4, h6⟩
theorem Two.below {B ba bb : Nat} {w w' : World} {La Lb : List ByteArray} (h : Two B ba bb w La Lb) (hb : Below w.heap.size w w') : Two B ba bb w' La Lb := by
  obtain ⟨τa, τb, h1, h2, h3, h4, h5, h6, h7⟩ := h
  have k := KeptBut.of_below hb (fun _ => False)
  exact ⟨τa, τb, h1, h2, h3.kept k (fun _ _ e => e), h4.kept k (fun _ _ e => e), h5, h6, h7⟩

theorem of_a {B ba bb : Nat} {La Lb : List ByteArray} (s : ByteArray) {w : World} (h : Two B ba bb w La Lb) (hB : B ≤ w.heap.size) (hs : s.size ≤ 281474976710656) (hl : La.length < 1000) :
    Calls Try.prog 11 #[.pointer (some ⟨ba, 0, none⟩), .string s] w fun e w' => e = .returned (.int .i64 (num (put La s) s : Nat)) ∧ Two B ba bb w' (put La s) Lb ∧ Below B w w' := by
  obtain ⟨τa, τb, rfl, h2, h3, h4, h5, h6, h7⟩ := h
  refine (of_any τa La s w h3 hs hl).mono ?_
  rintro e w' ⟨rfl, τ', hb, hA, hk, hf⟩
  refine ⟨rfl, ⟨τ', τb, hb, h2, hA, h4.kept hk (fun k hk' e => h7 k e hk'), fun k hk' => ?_, h6, fun k hk' hb' => ?_⟩, hk.below hB h5⟩
  · rcases hf k hk' with e | e
    · exact h5 k e
    · omega
  · rcases hf k hk' with e | e
    · exact h7 k e hb'
    · have := h4.lt k hb'
      omega

theorem of_b {B ba bb : Nat} {La Lb : List ByteArray} (s : ByteArray) {w : World} (h : Two B ba bb w La Lb) (hB : B ≤ w.heap.size) (hs : s.size ≤ 281474976710656) (hl : Lb.length < 1000) :
    Calls Try.prog 11 #[.pointer (some ⟨bb, 0, none⟩), .string s] w fun e w' => e = .returned (.int .i64 (num (put Lb s) s : Nat)) ∧ Two B ba bb w' La (put Lb s) ∧ Below B w w' := by
  obtain ⟨τa, τb, h1, rfl, h3, h4, h5, h6, h7⟩ := h
  refine (of_any τb Lb s w h4 hs hl).mono ?_
  rintro e w' ⟨rfl, τ', hb, hA, hk, hf⟩
  refine ⟨rfl, ⟨τa, τ', h1, hb, h3.kept hk (fun k hk' e => h7 k hk' e), hA, h5, fun k hk' => ?_, fun k hk' hb' => ?_⟩, hk.below hB h6⟩
  · rcases hf k hk' with e | e
    · exact h6 k e
    · omega
  · rcases hf k hb' with e | e
    · exact h7 k hk' e
    · have := h3.lt k hk'
      omega

theorem two_new {B ba : Nat} {w w' : World} (h : IsTab B ba w []) (hb : Below w.heap.size w w') (h' : IsTab w.heap.size w.heap.size w' []) (hB : B ≤ w.heap.size) : Two B ba w.heap.size w' [] [] := by
  obtain ⟨τa, h1, h2, h3⟩ := h
  obtain ⟨τb, g1, g2, g3⟩ := h'
  refine ⟨τa, τb, h1, g1, h2.kept (KeptBut.of_below hb (fun _ => False)) (fun _ _ e => e), g2, h3, fun k hk => Nat.le_trans hB (g3 k hk), fun k hk hk' => ?_⟩
  have := h2.lt k hk
  have := g3 k hk'
  omega

set_option maxHeartbeats 2000000 in
theorem order_walk (sa : Option Addr) (ss : List ByteArray) (cap : Nat) (w : World) (hss : Strs w w.heap.size sa ss) :
    Calls Try.prog 5 #[.slice sa ss.length cap] w fun e w' => e = .returned (.bool true) ∧ Below w.heap.size w w' := by
  have hlen := hss.len
  by_cases hbig : 100 < ss.length
  · go_enter Try.func5, Try.ntmps5
    go_wp2_with fail
    refine (alive_any _).mono ?_
    rintro e w1 ⟨rfl, b1⟩
    go_wp2_with fail
    go_ret
    exact ⟨rfl, b1⟩
  · have hbig' : ss.length ≤ 100 := by omega
    have hd : decide (100 < (ss.length : Int)) = false := by simp; omega
    clear hbig
    go_enter Try.func5, Try.ntmps5
    go_wp2_with fail
    refine (alive_any _).mono ?_
    rintro e w1 ⟨rfl, b1⟩
    go_wp2_with fail
    refine (new_tab _).mono ?_
    rintro e w2 ⟨rfl, h2, b2⟩
    have h2' : IsTab w.heap.size w1.heap.size w2 [] := h2.mono b1.size
    have b02 : Below w.heap.size w w2 := b1.trans (b2.mono b1.size)
    clear h2 b2
    go_wp2_with fail
    refine (new_tab _).mono ?_
    rintro e w3 ⟨rfl, h3, b3⟩
    have h3' := two_new h2' b3 h3 b02.size
    have b03 : Below w.heap.size w w3 := b02.trans (b3.mono b02.size)
    clear h3 b3 h2' b02 hd
    go_wp2_with fail
    go_loopw [5, 6, 7] (fun last i n wr => ∃ k : Nat, k ≤ ss.length ∧ i = .int .i64 k ∧ last = .int .i64 ((puts [] (ss.take k)).length : Nat) ∧ Two w.heap.size w1.heap.size w2.heap.size wr (puts [] (ss.take k)) [] ∧ Below w.heap.size w wr) (fun _ i _ _ => ss.length - (intOf i).toNat)
    case atStart => exact ⟨0, Nat.zero_le _, rfl, rfl, h3', b03⟩
    case round =>
      clear h3' b03
      obtain ⟨k, hk, rfl, rfl, hT, hB⟩ := hrel
      by_cases hlt : k < ss.length
      · obtain ⟨s, hs⟩ : ∃ s, ss[k]? = some s := ⟨_, List.getElem?_eq_getElem hlt⟩
        obtain ⟨sb, off, rfl, hbl, hc⟩ := hss.cell k s hs
        have hc' := (hB.cell (p := ⟨sb, off + k, none⟩) hbl).trans hc
        have hsm := hss.small k s hs
        have hpl := puts_length (ss.take k) []
        simp only [List.length_nil, List.length_take] at hpl
        have HP := Lib.hid (puts_take ss k s hs)
        clear hs hc
        obtain ⟨hn1, hn2, hn3⟩ := put_number (puts [] (ss.take k)) s
        have HN := Lib.hid hn3
        clear hn3
        go_wp2_with fail
        refine (of_a s hT hB.size hsm (by omega)).mono ?_
        rintro e w4 ⟨rfl, hT4, hB4⟩
        go_wp2_with fail
        go_roundw
        case rel => exact ⟨k + 1, by omega, by go_num, by rw [HP.out, HN.out]; go_num, by rw [HP.out]; exact hT4, hB.trans hB4⟩
        case measure => simp [intOf]; omega
      · have hkl : k = ss.length := by omega
        subst hkl
        rw [List.take_length] at hT ⊢
        have hPl : (puts [] ss).length ≤ 100 := by have := puts_length ss []; simp only [List.length_nil] at this; omega
        have hperm := puts_perm ss
        have hPs := puts_small hss.small
        have hQo := ord_puts ss.reverse
        generalize puts [] ss = P at hT hPl hperm hPs
        have HPS := Lib.hid hPs
        have HPERM := Lib.hid hperm
        clear hPs hperm
        go_wp2_with fail
        go_loopw [8] (fun i wr => ∃ k : Nat, k ≤ ss.length ∧ ((k = 0 ∧ i = .int .i64 (-1)) ∨ ∃ j : Nat, k = j + 1 ∧ i = .int .i64 j) ∧ Two w.heap.size w1.heap.size w2.heap.size wr P (puts [] (ss.drop k).reverse) ∧ Below w.heap.size w wr) (fun i _ => (intOf i + 1).toNat)
        case atStart =>
          refine ⟨ss.length, Nat.le_refl _, ?_, by rw [List.drop_length]; exact hT, hB⟩
          by_cases h0 : ss.length = 0
          · exact .inl ⟨h0, by rw [h0]; rfl⟩
          · exact .inr ⟨ss.length - 1, by omega, by congr 1; omega⟩
        case round =>
          clear hT hB
          obtain ⟨k, hk, hcase, hT, hB⟩ := hrel
          rcases hcase with ⟨rfl, rfl⟩ | ⟨j, rfl, rfl⟩
          · rw [List.drop_zero] at hT
            have hQl : (puts [] ss.reverse).length = P.length := HPERM.out.length_eq.symm
            have hQt : total (puts [] ss.reverse) = total P := (HPERM.out.map ByteArray.size).sum_nat.symm
            have hmem : ∀ x, x ∈ P → num (puts [] ss.reverse) x ≠ 0 := by
              intro x hx
              obtain ⟨i, hi⟩ := List.getElem?_of_mem ((inOrder_mem hQo x).1 (HPERM.out.mem_iff.1 hx))
              exact hQo.there i x hi
            have hQs : ∀ x ∈ puts [] ss.reverse, x.size ≤ 281474976710656 := fun x hx => HPS.out x (HPERM.out.mem_iff.2 hx)
            clear hQo
            generalize puts [] ss.reverse = Q at hT hQl hQt hmem hQs HPERM
            have HQL := Lib.hid hQl
            have HQT := Lib.hid hQt
            have HM := Lib.hid hmem
            have HQS := Lib.hid hQs
            clear hQl hQt hmem hQs
            go_wp2_with fail
            refine (len_tab _ _ _ _ hT.a).mono ?_
            rintro e w4 ⟨rfl, rfl⟩
            go_wp2_with fail
            refine (len_tab _ _ _ _ hT.b).mono ?_
            rintro e w4 ⟨rfl, rfl⟩
            rw [HQL.out]
            go_wp2_with fail
            refine (bytes_tab _ _ _ _ hT.a (by omega) HPS.out).mono ?_
            rintro e w4 ⟨rfl, hB4⟩
            have hT4 := hT.below hB4
            have hB04 := hB.trans (hB4.mono hB.size)
            clear hT hB4 hB
            go_wp2_with fail
            refine (bytes_tab _ _ _ _ hT4.b (by rw [HQL.out]; omega) HQS.out).mono ?_
            rintro e w5 ⟨rfl, hB5⟩
            rw [HQT.out]
            have hT5 := hT4.below hB5
            have hB05 := hB04.trans (hB5.mono hB04.size)
            clear hT4 hB5 hB04
            go_wp2_with fail
            go_loop [9] (fun i => ∃ j : Nat, j ≤ P.length ∧ i = .int .i64 ((j : Int) + 1)) (fun i => P.length + 1 - (intOf i).toNat)
            case atStart => exact ⟨0, Nat.zero_le _, rfl⟩
            case round =>
              obtain ⟨j, hj, rfl⟩ := hrel
              by_cases hjl : j < P.length
              · obtain ⟨x, hx⟩ : ∃ x, P[j]? = some x := ⟨_, List.getElem?_eq_getElem hjl⟩
                have hxm := List.mem_of_getElem? hx
                have hn := HM.out x hxm
                have hxs := HPS.out x hxm
                have hg := num_get Q x hn
                have hhas : has Q x = true := by simp [has, hn]
                have hql := num_le Q x
                have hnn : 1 ≤ num Q x := by omega
                have hxx := str_eq x
                have HX := Lib.hid hx
                have HG := Lib.hid hg
                have HH := Lib.hid hhas
                clear hx hg hhas hn hxm
                rw [HQL.out] at hql
                go_wp2_with fail
                refine (text_tab_some _ _ _ j x _ _ hT5.a HX.out rfl).mono ?_
                rintro e w6 ⟨rfl, rfl⟩
                go_wp2_with fail
                refine (known_tab _ _ _ _ _ hT5.b (by unfold maxLen; omega)).mono ?_
                rintro e w6 ⟨rfl, rfl⟩
                rw [HH.out]
                go_wp2_with fail
                refine (text_tab_some _ _ _ _ x _ _ hT5.b HG.out (by omega)).mono ?_
                rintro e w6 ⟨rfl, rfl⟩
                go_wp2_with fail
                go_round
                case rel => exact ⟨j + 1, by omega, by go_num⟩
                case measure => simp [intOf]; omega
              · go_wp2_with fail
                go_ret
                exact ⟨rfl, hB05⟩
          · obtain ⟨s, hs⟩ : ∃ s, ss[j]? = some s := ⟨_, List.getElem?_eq_getElem (by omega)⟩
            obtain ⟨sb, off, rfl, hbl, hc⟩ := hss.cell j s hs
            have hc' := (hB.cell (p := ⟨sb, off + j, none⟩) hbl).trans hc
            have hsm := hss.small j s hs
            have hpl := puts_length (ss.drop (j + 1)).reverse []
            simp only [List.length_nil, List.length_reverse, List.length_drop] at hpl
            have HP : Hid (puts [] (ss.drop j).reverse = put (puts [] (ss.drop (j + 1)).reverse) s) := by
              obtain ⟨hk, rfl⟩ := List.getElem?_eq_some_iff.1 hs
              show _ = _
              rw [List.drop_eq_getElem_cons hk, List.reverse_cons, puts_snoc]
            clear hs hc
            go_wp2_with fail
            refine (of_b s hT hB.size hsm (by omega)).mono ?_
            rintro e w4 ⟨rfl, hT4, hB4⟩
            go_wp2_with fail
            go_roundw
            case rel =>
              refine ⟨j, by omega, ?_, by rw [HP.out]; exact hT4, hB.trans hB4⟩
              by_cases h0 : j = 0
              · subst h0; exact .inl ⟨rfl, rfl⟩
              · exact .inr ⟨j - 1, by omega, by congr 1; omega⟩
            case measure => simp [intOf]

end Go.Proofs.Ytgflncpigeppfaa

/-
  The contracts of the document's In, While, Until, Word.
-/
import Derived.Test.YtiblndmblchhmaaIs
namespace Go.Proofs.Ytiblndmblchhmaa
open Go.RowKit Go.Shelf

set_option maxHeartbeats 1000000 in
theorem in_any (c : UInt8) (s : ByteArray) (hs : s.size ≤ 1000000) (w : World) :
    Calls Try.prog 18 #[.int .u8 (c.toNat : Int), .string s] w fun e w' => e = .returned (.bool (s.data.toList.contains c)) ∧ w = w' := by
  go_enter Try.func18, Try.ntmps18
  go_wp2_with fail
  go_loopw [5] (fun s5 wr => ∃ i : Nat, s5 = .int .i64 (i : Int) ∧ i ≤ s.size ∧ (∀ j, j < i → s.data.toList[j]? ≠ some c) ∧ w = wr) (fun s5 _ => s.size - (intOf s5).toNat)
  case atStart => exact ⟨0, rfl, Nat.zero_le _, fun j hj => by omega, rfl⟩
  case round =>
    obtain ⟨i, rfl, hi, hall, rfl⟩ := hrel
    by_cases hlt : i < s.size
    · have hg := get_data hlt
      by_cases hc : s[i] = c
      · have h1 : s.data.toList.contains c = true := by
          rw [List.contains_iff_mem]
          exact List.mem_of_getElem? (by rw [hg, hc])
        have H1 := Lib.hid h1
        have h2 : ((s[i].toNat : Int) == (c.toNat : Int)) = true := by rw [hc]; simp
        have h3 : (s[i].toNat : Int) = (c.toNat : Int) := by rw [hc]
        clear h1 hall hg hc
        go_wp2_with fail
        go_ret
        exact ⟨by rw [H1.out]; rfl, rfl⟩
      · have hn : s[i].toNat ≠ c.toNat := fun e => hc (u8_ext e)
        have h2 : ((s[i].toNat : Int) == (c.toNat : Int)) = false := by simp; omega
        have h3 : ¬ (s[i].toNat : Int) = (c.toNat : Int) := by omega
        have HA : Hid (∀ j, j < i + 1 → s.data.toList[j]? ≠ some c) := by
          show ∀ j, j < i + 1 → s.data.toList[j]? ≠ some c
          intro j hj
          by_cases hji : j = i
          · subst hji
            rw [hg]
            intro e
            exact hc (Option.some.inj e)
          · exact hall j (by omega)
        clear hall hg hc hn
        go_wp2_with fail
        go_roundw
        case rel => exact ⟨i + 1, by go_num, by omega, HA.out, by first | rfl | trivial⟩
        case measure => simp [intOf]; omega
    · have h1 : s.data.toList.contains c = false := by
        rw [Bool.eq_false_iff]
        intro e
        rw [List.contains_iff_mem] at e
        obtain ⟨j, hj⟩ := List.mem_iff_getElem?.1 e
        have := (List.getElem?_eq_some_iff.1 hj).1
        rw [← Lib.size_eq] at this
        exact hall j (by omega) hj
      have H1 := Lib.hid h1
      clear h1 hall
      go_wp2_with fail
      go_ret
      exact ⟨by rw [H1.out]; rfl, rfl⟩

theorem set_blank (c : UInt8) : ([32, 9, 10, 13] : Bs).contains c = isBlank c := by
  have := u8_all (fun c => ([32, 9, 10, 13] : Bs).contains c == isBlank c) (by decide +kernel) c
  simpa using this
theorem set_start (c : UInt8) : ([97, 98, 99, 100, 101, 102, 103, 104, 105, 106, 107, 108, 109, 110, 111, 112, 113, 114, 115, 116, 117, 118, 119, 120, 121, 122, 95] : Bs).contains c = isStart c := by
  have := u8_all (fun c => ([97, 98, 99, 100, 101, 102, 103, 104, 105, 106, 107, 108, 109, 110, 111, 112, 113, 114, 115, 116, 117, 118, 119, 120, 121, 122, 95] : Bs).contains c == isStart c) (by decide +kernel) c
  exact beq_iff_eq.1 this
theorem set_part (c : UInt8) : ([97, 98, 99, 100, 101, 102, 103, 104, 105, 106, 107, 108, 109, 110, 111, 112, 113, 114, 115, 116, 117, 118, 119, 120, 121, 122, 95, 48, 49, 50, 51, 52, 53, 54, 55, 56, 57] : Bs).contains c = isPart c := by
  have := u8_all (fun c => ([97, 98, 99, 100, 101, 102, 103, 104, 105, 106, 107, 108, 109, 110, 111, 112, 113, 114, 115, 116, 117, 118, 119, 120, 121, 122, 95, 48, 49, 50, 51, 52, 53, 54, 55, 56, 57] : Bs).contains c == isPart c) (by decide +kernel) c
  exact beq_iff_eq.1 this
theorem set_dig (c : UInt8) : ([48, 49, 50, 51, 52, 53, 54, 55, 56, 57] : Bs).contains c = isDig c := by
  have := u8_all (fun c => ([48, 49, 50, 51, 52, 53, 54, 55, 56, 57] : Bs).contains c == isDig c) (by decide +kernel) c
  exact beq_iff_eq.1 this
theorem set_line (c : UInt8) : (!([10] : Bs).contains c) = isInLine c := by
  have := u8_all (fun c => (!([10] : Bs).contains c) == isInLine c) (by decide +kernel) c
  exact beq_iff_eq.1 this
theorem set_text (c : UInt8) : (!([34, 10] : Bs).contains c) = isInText c := by
  have := u8_all (fun c => (!([34, 10] : Bs).contains c) == isInText c) (by decide +kernel) c
  exact beq_iff_eq.1 this

set_option maxHeartbeats 1000000 in
theorem while_any (s some' : ByteArray) (a : Nat) (p : UInt8 → Bool) (hp : ∀ c, some'.data.toList.contains c = p c) (ha : a ≤ s.size) (hs : s.size ≤ 1000000) (hs' : some'.size ≤ 1000000) (w : World) :
    Calls Try.prog 20 #[.string s, .int .i64 (a : Int), .string some'] w fun e w' => e = .returned (.int .i64 ((a + spanLen p (s.data.toList.drop a) : Nat) : Int)) ∧ w = w' := by
  obtain ⟨m, hmm⟩ : ∃ m, m = spanLen p (s.data.toList.drop a) := ⟨_, rfl⟩
  rw [← hmm]
  have HA := Lib.hid (hmm ▸ spanLen_all p (s.data.toList.drop a))
  have HE := Lib.hid (hmm ▸ spanLen_end p (s.data.toList.drop a))
  have hle := hmm ▸ spanLen_le p (s.data.toList.drop a)
  rw [List.length_drop, ← Lib.size_eq] at hle
  have HI : Hid (∀ (c : UInt8) (w : World), Calls Try.prog 18 #[.int .u8 (c.toNat : Int), .string some'] w fun e w' => e = .returned (.bool (p c)) ∧ w = w') := by
    intro c w
    rw [← hp c]
    exact in_any c some' hs' w
  clear hmm hp
  go_enter Try.func20, Try.ntmps20
  go_wp2_with fail
  go_loopw [1] (fun s1 wr => ∃ i : Nat, s1 = .int .i64 (i : Int) ∧ a ≤ i ∧ i ≤ a + m ∧ w = wr) (fun s1 _ => a + m - (intOf s1).toNat)
  case atStart => exact ⟨a, rfl, Nat.le_refl _, by omega, rfl⟩
  case round =>
    obtain ⟨i, rfl, hai, him, rfl⟩ := hrel
    by_cases hlt : i < s.size
    · have hget : (s.data.toList.drop a)[i - a]? = some s[i] := by
        rw [List.getElem?_drop, Nat.add_sub_cancel' hai]; exact get_data hlt
      cases hpc : p s[i] with
      | true =>
        have hlm : i - a < m := by
          rcases Nat.lt_or_ge (i - a) m with h | h
          · exact h
          · have e : i - a = m := by omega
            rw [e] at hget
            have := HE.out _ hget
            rw [hpc] at this
            cases this
        have HP := Lib.hid hpc
        clear hpc hget
        go_wp2_with fail
        refine (HI.out _ _).mono ?_
        rintro e w1 ⟨rfl, rfl⟩
        rw [HP.out]
        go_wp2_with fail
        go_roundw
        case rel => exact ⟨i + 1, by go_num, by omega, by omega, by first | rfl | trivial⟩
        case measure => simp [intOf]; omega
      | false =>
        have hlm : i = a + m := by
          rcases Nat.lt_or_ge (i - a) m with h | h
          · obtain ⟨c, h1, h2⟩ := HA.out _ h
            rw [hget] at h1
            cases h1
            rw [hpc] at h2
            cases h2
          · omega
        have HP := Lib.hid hpc
        have HL := Lib.hid hlm
        clear hpc hget hlm
        go_wp2_with fail
        refine (HI.out _ _).mono ?_
        rintro e w1 ⟨rfl, rfl⟩
        rw [HP.out]
        go_wp2_with fail
        go_ret
        exact ⟨by rw [← HL.out]; rfl, rfl⟩
    · have HL : Hid (i = a + m) := by show i = a + m; omega
      go_wp2_with fail
      go_ret
      exact ⟨by rw [← HL.out]; rfl, rfl⟩

set_option maxHeartbeats 1000000 in
theorem until_any (s some' : ByteArray) (a : Nat) (p : UInt8 → Bool) (hp : ∀ c, (!some'.data.toList.contains c) = p c) (ha : a ≤ s.size) (hs : s.size ≤ 1000000) (hs' : some'.size ≤ 1000000) (w : World) :
    Calls Try.prog 19 #[.string s, .int .i64 (a : Int), .string some'] w fun e w' => e = .returned (.int .i64 ((a + spanLen p (s.data.toList.drop a) : Nat) : Int)) ∧ w = w' := by
  obtain ⟨m, hmm⟩ : ∃ m, m = spanLen p (s.data.toList.drop a) := ⟨_, rfl⟩
  rw [← hmm]
  have HA := Lib.hid (hmm ▸ spanLen_all p (s.data.toList.drop a))
  have HE := Lib.hid (hmm ▸ spanLen_end p (s.data.toList.drop a))
  have hle := hmm ▸ spanLen_le p (s.data.toList.drop a)
  rw [List.length_drop, ← Lib.size_eq] at hle
  have HI : Hid (∀ (c : UInt8) (w : World), Calls Try.prog 18 #[.int .u8 (c.toNat : Int), .string some'] w fun e w' => e = .returned (.bool (!p c)) ∧ w = w') := by
    intro c w
    rw [← hp c, Bool.not_not]
    exact in_any c some' hs' w
  clear hmm hp
  go_enter Try.func19, Try.ntmps19
  go_wp2_with fail
  go_loopw [1] (fun s1 wr => ∃ i : Nat, s1 = .int .i64 (i : Int) ∧ a ≤ i ∧ i ≤ a + m ∧ w = wr) (fun s1 _ => a + m - (intOf s1).toNat)
  case atStart => exact ⟨a, rfl, Nat.le_refl _, by omega, rfl⟩
  case round =>
    obtain ⟨i, rfl, hai, him, rfl⟩ := hrel
    by_cases hlt : i < s.size
    · have hget : (s.data.toList.drop a)[i - a]? = some s[i] := by
        rw [List.getElem?_drop, Nat.add_sub_cancel' hai]; exact get_data hlt
      cases hpc : p s[i] with
      | true =>
        have hlm : i - a < m := by
          rcases Nat.lt_or_ge (i - a) m with h | h
          · exact h
          · have e : i - a = m := by omega
            rw [e] at hget
            have := HE.out _ hget
            rw [hpc] at this
            cases this
        have HP := Lib.hid hpc
        clear hpc hget
        go_wp2_with fail
        refine (HI.out _ _).mono ?_
        rintro e w1 ⟨rfl, rfl⟩
        rw [HP.out]
        go_wp2_with fail
        go_roundw
        case rel => exact ⟨i + 1, by go_num, by omega, by omega, by first | rfl | trivial⟩
        case measure => simp [intOf]; omega
      | false =>
        have hlm : i = a + m := by
          rcases Nat.lt_or_ge (i - a) m with h | h
          · obtain ⟨c, h1, h2⟩ := HA.out _ h
            rw [hget] at h1
            cases h1
            rw [hpc] at h2
            cases h2
          · omega
        have HP := Lib.hid hpc
        have HL := Lib.hid hlm
        clear hpc hget hlm
        go_wp2_with fail
        refine (HI.out _ _).mono ?_
        rintro e w1 ⟨rfl, rfl⟩
        rw [HP.out]
        go_wp2_with fail
        go_ret
        exact ⟨by rw [← HL.out]; rfl, rfl⟩
    · have HL : Hid (i = a + m) := by show i = a + m; omega
      go_wp2_with fail
      go_ret
      exact ⟨by rw [← HL.out]; rfl, rfl⟩

theorem wordv_get (p : Nat) (hp : p < 13) : ∃ t, words[p]? = some t ∧ ∀ h, ([Value.string ⟨#[117, 115, 101]⟩, .string ⟨#[116, 121, 112, 101]⟩, .string ⟨#[108, 101, 116]⟩, .string ⟨#[105, 110]⟩, .string ⟨#[105, 102]⟩, .string ⟨#[116, 104, 101, 110]⟩, .string ⟨#[101, 108, 115, 101]⟩, .string ⟨#[102, 117, 110]⟩, .string ⟨#[116, 114, 117, 101]⟩, .string ⟨#[102, 97, 108, 115, 101]⟩, .string ⟨#[105, 110, 116]⟩, .string ⟨#[98, 111, 111, 108]⟩, .string ⟨#[116, 101, 120, 116]⟩] : List Value)[p]'h = .string ⟨t.toArray⟩ := by
  match p, hp with
  | 0, _ => exact ⟨_, rfl, fun _ => rfl⟩
  | 1, _ => exact ⟨_, rfl, fun _ => rfl⟩
  | 2, _ => exact ⟨_, rfl, fun _ => rfl⟩
  | 3, _ => exact ⟨_, rfl, fun _ => rfl⟩
  | 4, _ => exact ⟨_, rfl, fun _ => rfl⟩
  | 5, _ => exact ⟨_, rfl, fun _ => rfl⟩
  | 6, _ => exact ⟨_, rfl, fun _ => rfl⟩
  | 7, _ => exact ⟨_, rfl, fun _ => rfl⟩
  | 8, _ => exact ⟨_, rfl, fun _ => rfl⟩
  | 9, _ => exact ⟨_, rfl, fun _ => rfl⟩
  | 10, _ => exact ⟨_, rfl, fun _ => rfl⟩
  | 11, _ => exact ⟨_, rfl, fun _ => rfl⟩
  | 12, _ => exact ⟨_, rfl, fun _ => rfl⟩

/-- The table of words, as the document's Word lays it. -/
def wordObj : Obj := .cells #[Value.string ⟨#[117, 115, 101]⟩, .string ⟨#[116, 121, 112, 101]⟩, .string ⟨#[108, 101, 116]⟩, .string ⟨#[105, 110]⟩, .string ⟨#[105, 102]⟩, .string ⟨#[116, 104, 101, 110]⟩, .string ⟨#[101, 108, 115, 101]⟩, .string ⟨#[102, 117, 110]⟩, .string ⟨#[116, 114, 117, 101]⟩, .string ⟨#[102, 97, 108, 115, 101]⟩, .string ⟨#[105, 110, 116]⟩, .string ⟨#[98, 111, 111, 108]⟩, .string ⟨#[116, 101, 120, 116]⟩] 9

theorem wordObj_cell (w : World) (p : Nat) (hp : p < 13) : ∃ t, words[p]? = some t ∧ (w.alloc wordObj).cell? ⟨w.heap.size, p, none⟩ = some (.string ⟨t.toArray⟩) := by
  obtain ⟨t, h1, h2⟩ := wordv_get p hp
  refine ⟨t, h1, ?_⟩
  rw [cell_at (heap_alloc_new w wordObj)]
  rw [Array.getElem?_eq_getElem (by simpa using hp)]
  have := h2 (by simpa using hp)
  simpa using this

set_option maxHeartbeats 2000000 in
theorem word_any (s : ByteArray) (w : World) : Calls Try.prog 21 #[.string s] w fun e w' => e = .returned (.bool (isWordB s.data.toList)) ∧ Below w.heap.size w w' := by
  have hB := (Below.refl w.heap.size w).alloc (Nat.le_refl _) wordObj
  have hC := wordObj_cell w
  obtain ⟨w1, hw1⟩ : ∃ w1, w1 = w.alloc wordObj := ⟨_, rfl⟩
  rw [← hw1] at hB
  simp only [← hw1] at hC
  have HW1 : Hid (w.alloc (.cells #[Value.string ⟨#[117, 115, 101]⟩, .string ⟨#[116, 121, 112, 101]⟩, .string ⟨#[108, 101, 116]⟩, .string ⟨#[105, 110]⟩, .string ⟨#[105, 102]⟩, .string ⟨#[116, 104, 101, 110]⟩, .string ⟨#[101, 108, 115, 101]⟩, .string ⟨#[102, 117, 110]⟩, .string ⟨#[116, 114, 117, 101]⟩, .string ⟨#[102, 97, 108, 115, 101]⟩, .string ⟨#[105, 110, 116]⟩, .string ⟨#[98, 111, 111, 108]⟩, .string ⟨#[116, 101, 120, 116]⟩] 9) = w1) := hw1.symm
  have HC := Lib.hid hC
  clear hw1 hC
  go_enter Try.func21, Try.ntmps21
  go_wp2_with fail
  rw [HW1.out]
  go_loopw [4] (fun s4 wr => ∃ i : Nat, s4 = .int .i64 (i : Int) ∧ i ≤ 13 ∧ (∀ j, j < i → words[j]? ≠ some s.data.toList) ∧ w1 = wr) (fun s4 _ => 13 - (intOf s4).toNat)
  case atStart => exact ⟨0, rfl, Nat.zero_le _, fun j hj => by omega, rfl⟩
  case round =>
    obtain ⟨i, rfl, hi, hall, rfl⟩ := hrel
    by_cases hlt : i < 13
    · obtain ⟨t, ht, hc⟩ := HC.out i hlt
      by_cases he : t = s.data.toList
      · have H1 : Hid (isWordB s.data.toList = true) := by
          show isWordB s.data.toList = true
          rw [isWordB, List.contains_iff_mem, ← he]
          exact List.mem_of_getElem? ht
        have e1 : (⟨t.toArray⟩ : ByteArray) = s := by rw [he]
        rw [e1] at hc
        clear ht he hall e1
        go_wp2_with fail
        go_ret
        exact ⟨by rw [H1.out]; rfl, hB⟩
      · have e1 : ((⟨t.toArray⟩ : ByteArray).toList == s.toList) = false := str_ne (by intro e; apply he; rw [← e])
        obtain ⟨X, hX⟩ : ∃ X : ByteArray, X = ⟨t.toArray⟩ := ⟨_, rfl⟩
        rw [← hX] at hc e1
        have HA : Hid (∀ j, j < i + 1 → words[j]? ≠ some s.data.toList) := by
          show ∀ j, j < i + 1 → words[j]? ≠ some s.data.toList
          intro j hj
          by_cases hji : j = i
          · subst hji
            rw [ht]
            intro e
            exact he (Option.some.inj e)
          · exact hall j (by omega)
        clear hall ht he hX
        go_wp2_with fail
        go_roundw
        case rel => exact ⟨i + 1, by go_num, by omega, HA.out, by first | rfl | trivial⟩
        case measure => simp [intOf]; omega
    · have h13 : i = 13 := by omega
      have H1 : Hid (isWordB s.data.toList = false) := by
        show isWordB s.data.toList = false
        rw [isWordB, Bool.eq_false_iff]
        intro e
        rw [List.contains_iff_mem] at e
        obtain ⟨j, hj⟩ := List.mem_iff_getElem?.1 e
        have h2 := (List.getElem?_eq_some_iff.1 hj).1
        have h3 : words.length = 13 := rfl
        exact hall j (by omega) hj
      clear hall
      go_wp2_with fail
      go_ret
      exact ⟨by rw [H1.out]; rfl, hB⟩

end Go.Proofs.Ytiblndmblchhmaa

/-
  The contracts of the document's In, While, Until, Word.
  The contract of the document's Lex: the same tokens, and the same is told.
-/
import Derived.Test.YtijnjoonbjdafaaGreatDoorLxM
namespace Go.Proofs.YtijnjoonbjdafaaGreatDoor
open Go.RowKit Go.Shelf
set_option maxHeartbeats 1000000 in
theorem in_any (c : UInt8) (s : ByteArray) (hs : s.size ≤ 1000000) (w : World) :
    Calls Tryz.prog 130 #[.int .u8 (c.toNat : Int), .string s] w fun e w' => e = .returned (.bool (s.data.toList.contains c)) ∧ w = w' := by
  go_enter Tryz.func130, Tryz.ntmps130
  go_wp2_with fail
  go_loopw [5] (fun s5 wr => ∃ i : Nat, s5 = .int .i64 (i : Int) ∧ i ≤ s.size ∧ (∀ j, j < i → s.data.toList[j]? ≠ some c) ∧ w = wr) (fun s5 _ => s.size - (intOf s5).toNat)
  case atStart => exact ⟨0, rfl, Nat.zero_le _, fun j hj => by omega, rfl⟩
  case round =>
    obtain ⟨i, rfl, hi, hall, rfl⟩ := hrel
    by_cases hlt : i < s.size
    · have hg := get_data hlt
      by_cases hc : s[i] = c
      · have h1 : s.data.toList.contains c = true := by
          rw [List.contains_iff_mem]
          exact List.mem_of_getElem? (by rw [hg, hc])
        have H1 := Lib.hid h1
        have h2 : ((s[i].toNat : Int) == (c.toNat : Int)) = true := by rw [hc]; simp
        have h3 : (s[i].toNat : Int) = (c.toNat : Int) := by rw [hc]
        clear h1 hall hg hc
        go_wp2_with fail
        go_ret
        exact ⟨by rw [H1.out]; rfl, rfl⟩
      · have hn : s[i].toNat ≠ c.toNat := fun e => hc (u8_ext e)
        have h2 : ((s[i].toNat : Int) == (c.toNat : Int)) = false := by simp; omega
        have h3 : ¬ (s[i].toNat : Int) = (c.toNat : Int) := by omega
        have HA : Hid (∀ j, j < i + 1 → s.data.toList[j]? ≠ some c) := by
          show ∀ j, j < i + 1 → s.data.toList[j]? ≠ some c
          intro j hj
          by_cases hji : j = i
          · subst hji
            rw [hg]
            intro e
            exact hc (Option.some.inj e)
          · exact hall j (by omega)
        clear hall hg hc hn
        go_wp2_with fail
        go_roundw
        case rel => exact ⟨i + 1, by go_num, by omega, HA.out, by first | rfl | trivial⟩
        case measure => simp [intOf]; omega
    · have h1 : s.data.toList.contains c = false := by
        rw [Bool.eq_false_iff]
        intro e
        rw [List.contains_iff_mem] at e
        obtain ⟨j, hj⟩ := List.mem_iff_getElem?.1 e
        have := (List.getElem?_eq_some_iff.1 hj).1
        rw [← Lib.size_eq] at this
        exact hall j (by omega) hj
      have H1 := Lib.hid h1
      clear h1 hall
      go_wp2_with fail
      go_ret
      exact ⟨by rw [H1.out]; rfl, rfl⟩
theorem set_blank (c : UInt8) : ([32, 9, 10, 13] : Bs).contains c = isBlank c := by
  have := u8_all (fun c => ([32, 9, 10, 13] : Bs).contains c == isBlank c) (by decide +kernel) c
  simpa using this
theorem set_start (c : UInt8) : ([97, 98, 99, 100, 101, 102, 103, 104, 105, 106, 107, 108, 109, 110, 111, 112, 113, 114, 115, 116, 117, 118, 119, 120, 121, 122, 95] : Bs).contains c = isStart c := by
  have := u8_all (fun c => ([97, 98, 99, 100, 101, 102, 103, 104, 105, 106, 107, 108, 109, 110, 111, 112, 113, 114, 115, 116, 117, 118, 119, 120, 121, 122, 95] : Bs).contains c == isStart c) (by decide +kernel) c
  exact beq_iff_eq.1 this
theorem set_part (c : UInt8) : ([97, 98, 99, 100, 101, 102, 103, 104, 105, 106, 107, 108, 109, 110, 111, 112, 113, 114, 115, 116, 117, 118, 119, 120, 121, 122, 95, 48, 49, 50, 51, 52, 53, 54, 55, 56, 57] : Bs).contains c = isPart c := by
  have := u8_all (fun c => ([97, 98, 99, 100, 101, 102, 103, 104, 105, 106, 107, 108, 109, 110, 111, 112, 113, 114, 115, 116, 117, 118, 119, 120, 121, 122, 95, 48, 49, 50, 51, 52, 53, 54, 55, 56, 57] : Bs).contains c == isPart c) (by decide +kernel) c
  exact beq_iff_eq.1 this
theorem set_dig (c : UInt8) : ([48, 49, 50, 51, 52, 53, 54, 55, 56, 57] : Bs).contains c = isDig c := by
  have := u8_all (fun c => ([48, 49, 50, 51, 52, 53, 54, 55, 56, 57] : Bs).contains c == isDig c) (by decide +kernel) c
  exact beq_iff_eq.1 this
theorem set_line (c : UInt8) : (!([10] : Bs).contains c) = isInLine c := by
  have := u8_all (fun c => (!([10] : Bs).contains c) == isInLine c) (by decide +kernel) c
  exact beq_iff_eq.1 this
theorem set_text (c : UInt8) : (!([34, 10] : Bs).contains c) = isInText c := by
  have := u8_all (fun c => (!([34, 10] : Bs).contains c) == isInText c) (by decide +kernel) c
  exact beq_iff_eq.1 this
set_option maxHeartbeats 1000000 in
theorem while_any (s some' : ByteArray) (a : Nat) (p : UInt8 → Bool) (hp : ∀ c, some'.data.toList.contains c = p c) (ha : a ≤ s.size) (hs : s.size ≤ 1000000) (hs' : some'.size ≤ 1000000) (w : World) :
    Calls Tryz.prog 132 #[.string s, .int .i64 (a : Int), .string some'] w fun e w' => e = .returned (.int .i64 ((a + spanLen p (s.data.toList.drop a) : Nat) : Int)) ∧ w = w' := by
  obtain ⟨m, hmm⟩ : ∃ m, m = spanLen p (s.data.toList.drop a) := ⟨_, rfl⟩
  rw [← hmm]
  have HA := Lib.hid (hmm ▸ spanLen_all p (s.data.toList.drop a))
  have HE := Lib.hid (hmm ▸ spanLen_end p (s.data.toList.drop a))
  have hle := hmm ▸ spanLen_le p (s.data.toList.drop a)
  rw [List.length_drop, ← Lib.size_eq] at hle
  have HI : Hid (∀ (c : UInt8) (w : World), Calls Tryz.prog 130 #[.int .u8 (c.toNat : Int), .string some'] w fun e w' => e = .returned (.bool (p c)) ∧ w = w') := by
    intro c w
    rw [← hp c]
    exact in_any c some' hs' w
  clear hmm hp
  go_enter Tryz.func132, Tryz.ntmps132
  go_wp2_with fail
  go_loopw [1] (fun s1 wr => ∃ i : Nat, s1 = .int .i64 (i : Int) ∧ a ≤ i ∧ i ≤ a + m ∧ w = wr) (fun s1 _ => a + m - (intOf s1).toNat)
  case atStart => exact ⟨a, rfl, Nat.le_refl _, by omega, rfl⟩
  case round =>
    obtain ⟨i, rfl, hai, him, rfl⟩ := hrel
    by_cases hlt : i < s.size
    · have hget : (s.data.toList.drop a)[i - a]? = some s[i] := by
        rw [List.getElem?_drop, Nat.add_sub_cancel' hai]; exact get_data hlt
      cases hpc : p s[i] with
      | true =>
        have hlm : i - a < m := by
          rcases Nat.lt_or_ge (i - a) m with h | h
          · exact h
          · have e : i - a = m := by omega
            rw [e] at hget
            have := HE.out _ hget
            rw [hpc] at this
            cases this
        have HP := Lib.hid hpc
        clear hpc hget
        go_wp2_with fail
        refine (HI.out _ _).mono ?_
        rintro e w1 ⟨rfl, rfl⟩
        rw [HP.out]
        go_wp2_with fail
        go_roundw
        case rel => exact ⟨i + 1, by go_num, by omega, by omega, by first | rfl | trivial⟩
        case measure => simp [intOf]; omega
      | false =>
        have hlm : i = a + m := by
          rcases Nat.lt_or_ge (i - a) m with h | h
          · obtain ⟨c, h1, h2⟩ := HA.out _ h
            rw [hget] at h1
            cases h1
            rw [hpc] at h2
            cases h2
          · omega
        have HP := Lib.hid hpc
        have HL := Lib.hid hlm
        clear hpc hget hlm
        go_wp2_with fail
        refine (HI.out _ _).mono ?_
        rintro e w1 ⟨rfl, rfl⟩
        rw [HP.out]
        go_wp2_with fail
        go_ret
        exact ⟨by rw [← HL.out]; rfl, rfl⟩
    · have HL : Hid (i = a + m) := by show i = a + m; omega
      go_wp2_with fail
      go_ret
      exact ⟨by rw [← HL.out]; rfl, rfl⟩
set_option maxHeartbeats 1000000 in
theorem until_any (s some' : ByteArray) (a : Nat) (p : UInt8 → Bool) (hp : ∀ c, (!some'.data.toList.contains c) = p c) (ha : a ≤ s.size) (hs : s.size ≤ 1000000) (hs' : some'.size ≤ 1000000) (w : World) :
    Calls Tryz.prog 131 #[.string s, .int .i64 (a : Int), .string some'] w fun e w' => e = .returned (.int .i64 ((a + spanLen p (s.data.toList.drop a) : Nat) : Int)) ∧ w = w' := by
  obtain ⟨m, hmm⟩ : ∃ m, m = spanLen p (s.data.toList.drop a) := ⟨_, rfl⟩
  rw [← hmm]
  have HA := Lib.hid (hmm ▸ spanLen_all p (s.data.toList.drop a))
  have HE := Lib.hid (hmm ▸ spanLen_end p (s.data.toList.drop a))
  have hle := hmm ▸ spanLen_le p (s.data.toList.drop a)
  rw [List.length_drop, ← Lib.size_eq] at hle
  have HI : Hid (∀ (c : UInt8) (w : World), Calls Tryz.prog 130 #[.int .u8 (c.toNat : Int), .string some'] w fun e w' => e = .returned (.bool (!p c)) ∧ w = w') := by
    intro c w
    rw [← hp c, Bool.not_not]
    exact in_any c some' hs' w
  clear hmm hp
  go_enter Tryz.func131, Tryz.ntmps131
  go_wp2_with fail
  go_loopw [1] (fun s1 wr => ∃ i : Nat, s1 = .int .i64 (i : Int) ∧ a ≤ i ∧ i ≤ a + m ∧ w = wr) (fun s1 _ => a + m - (intOf s1).toNat)
  case atStart => exact ⟨a, rfl, Nat.le_refl _, by omega, rfl⟩
  case round =>
    obtain ⟨i, rfl, hai, him, rfl⟩ := hrel
    by_cases hlt : i < s.size
    · have hget : (s.data.toList.drop a)[i - a]? = some s[i] := by
        rw [List.getElem?_drop, Nat.add_sub_cancel' hai]; exact get_data hlt
      cases hpc : p s[i] with
      | true =>
        have hlm : i - a < m := by
          rcases Nat.lt_or_ge (i - a) m with h | h
          · exact h
          · have e : i - a = m := by omega
            rw [e] at hget
            have := HE.out _ hget
            rw [hpc] at this
            cases this
        have HP := Lib.hid hpc
        clear hpc hget
        go_wp2_with fail
        refine (HI.out _ _).mono ?_
        rintro e w1 ⟨rfl, rfl⟩
        rw [HP.out]
        go_wp2_with fail
        go_roundw
        case rel => exact ⟨i + 1, by go_num, by omega, by omega, by first | rfl | trivial⟩
        case measure => simp [intOf]; omega
      | false =>
        have hlm : i = a + m := by
          rcases Nat.lt_or_ge (i - a) m with h | h
          · obtain ⟨c, h1, h2⟩ := HA.out _ h
            rw [hget] at h1
            cases h1
            rw [hpc] at h2
            cases h2
          · omega
        have HP := Lib.hid hpc
        have HL := Lib.hid hlm
        clear hpc hget hlm
        go_wp2_with fail
        refine (HI.out _ _).mono ?_
        rintro e w1 ⟨rfl, rfl⟩
        rw [HP.out]
        go_wp2_with fail
        go_ret
        exact ⟨by rw [← HL.out]; rfl, rfl⟩
    · have HL : Hid (i = a + m) := by show i = a + m; omega
      go_wp2_with fail
      go_ret
      exact ⟨by rw [← HL.out]; rfl, rfl⟩
theorem wordv_get (p : Nat) (hp : p < 13) : ∃ t, words[p]? = some t ∧ ∀ h, ([Value.string ⟨#[117, 115, 101]⟩, .string ⟨#[116, 121, 112, 101]⟩, .string ⟨#[108, 101, 116]⟩, .string ⟨#[105, 110]⟩, .string ⟨#[105, 102]⟩, .string ⟨#[116, 104, 101, 110]⟩, .string ⟨#[101, 108, 115, 101]⟩, .string ⟨#[102, 117, 110]⟩, .string ⟨#[116, 114, 117, 101]⟩, .string ⟨#[102, 97, 108, 115, 101]⟩, .string ⟨#[105, 110, 116]⟩, .string ⟨#[98, 111, 111, 108]⟩, .string ⟨#[116, 101, 120, 116]⟩] : List Value)[p]'h = .string ⟨t.toArray⟩ := by
  match p, hp with
  | 0, _ => exact ⟨_, rfl, fun _ => rfl⟩
  | 1, _ => exact ⟨_, rfl, fun _ => rfl⟩
  | 2, _ => exact ⟨_, rfl, fun _ => rfl⟩
  | 3, _ => exact ⟨_, rfl, fun _ => rfl⟩
  | 4, _ => exact ⟨_, rfl, fun _ => rfl⟩
  | 5, _ => exact ⟨_, rfl, fun _ => rfl⟩
  | 6, _ => exact ⟨_, rfl, fun _ => rfl⟩
  | 7, _ => exact ⟨_, rfl, fun _ => rfl⟩
  | 8, _ => exact ⟨_, rfl, fun _ => rfl⟩
  | 9, _ => exact ⟨_, rfl, fun _ => rfl⟩
  | 10, _ => exact ⟨_, rfl, fun _ => rfl⟩
  | 11, _ => exact ⟨_, rfl, fun _ => rfl⟩
  | 12, _ => exact ⟨_, rfl, fun _ => rfl⟩
def wordObj : Obj := .cells #[Value.string ⟨#[117, 115, 101]⟩, .string ⟨#[116, 121, 112, 101]⟩, .string ⟨#[108, 101, 116]⟩, .string ⟨#[105, 110]⟩, .string ⟨#[105, 102]⟩, .string ⟨#[116, 104, 101, 110]⟩, .string ⟨#[101, 108, 115, 101]⟩, .string ⟨#[102, 117, 110]⟩, .string ⟨#[116, 114, 117, 101]⟩, .string ⟨#[102, 97, 108, 115, 101]⟩, .string ⟨#[105, 110, 116]⟩, .string ⟨#[98, 111, 111, 108]⟩, .string ⟨#[116, 101, 120, 116]⟩] 9
theorem wordObj_cell (w : World) (p : Nat) (hp : p < 13) : ∃ t, words[p]? = some t ∧ (w.alloc wordObj).cell? ⟨w.heap.size, p, none⟩ = some (.string ⟨t.toArray⟩) := by
  obtain ⟨t, h1, h2⟩ := wordv_get p hp
  refine ⟨t, h1, ?_⟩
  rw [cell_at (heap_alloc_new w wordObj)]
  rw [Array.getElem?_eq_getElem (by simpa using hp)]
  have := h2 (by simpa using hp)
  simpa using this
set_option maxHeartbeats 2000000 in
theorem word_any (s : ByteArray) (w : World) : Calls Tryz.prog 133 #[.string s] w fun e w' => e = .returned (.bool (isWordB s.data.toList)) ∧ Below w.heap.size w w' := by
  have hB := (Below.refl w.heap.size w).alloc (Nat.le_refl _) wordObj
  have hC := wordObj_cell w
  obtain ⟨w1, hw1⟩ : ∃ w1, w1 = w.alloc wordObj := ⟨_, rfl⟩
  rw [← hw1] at hB
  simp only [← hw1] at hC
  have HW1 : Hid (w.alloc (.cells #[Value.string ⟨#[117, 115, 101]⟩, .string ⟨#[116, 121, 112, 101]⟩, .string ⟨#[108, 101, 116]⟩, .string ⟨#[105, 110]⟩, .string ⟨#[105, 102]⟩, .string ⟨#[116, 104, 101, 110]⟩, .string ⟨#[101, 108, 115, 101]⟩, .string ⟨#[102, 117, 110]⟩, .string ⟨#[116, 114, 117, 101]⟩, .string ⟨#[102, 97, 108, 115, 101]⟩, .string ⟨#[105, 110, 116]⟩, .string ⟨#[98, 111, 111, 108]⟩, .string ⟨#[116, 101, 120, 116]⟩] 9) = w1) := hw1.symm
  have HC := Lib.hid hC
  clear hw1 hC
  go_enter Tryz.func133, Tryz.ntmps133
  go_wp2_with fail
  rw [HW1.out]
  go_loopw [4] (fun s4 wr => ∃ i : Nat, s4 = .int .i64 (i : Int) ∧ i ≤ 13 ∧ (∀ j, j < i → words[j]? ≠ some s.data.toList) ∧ w1 = wr) (fun s4 _ => 13 - (intOf s4).toNat)
  case atStart => exact ⟨0, rfl, Nat.zero_le _, fun j hj => by omega, rfl⟩
  case round =>
    obtain ⟨i, rfl, hi, hall, rfl⟩ := hrel
    by_cases hlt : i < 13
    · obtain ⟨t, ht, hc⟩ := HC.out i hlt
      by_cases he : t = s.data.toList
      · have H1 : Hid (isWordB s.data.toList = true) := by
          show isWordB s.data.toList = true
          rw [isWordB, List.contains_iff_mem, ← he]
          exact List.mem_of_getElem? ht
        have e1 : (⟨t.toArray⟩ : ByteArray) = s := by rw [he]
        rw [e1] at hc
        clear ht he hall e1
        go_wp2_with fail
        go_ret
        exact ⟨by rw [H1.out]; rfl, hB⟩
      · have e1 : ((⟨t.toArray⟩ : ByteArray).toList == s.toList) = false := str_ne (by intro e; apply he; rw [← e])
        obtain ⟨X, hX⟩ : ∃ X : ByteArray, X = ⟨t.toArray⟩ := ⟨_, rfl⟩
        rw [← hX] at hc e1
        have HA : Hid (∀ j, j < i + 1 → words[j]? ≠ some s.data.toList) := by
          show ∀ j, j < i + 1 → words[j]? ≠ some s.data.toList
          intro j hj
          by_cases hji : j = i
          · subst hji
            rw [ht]
            intro e
            exact he (Option.some.inj e)
          · exact hall j (by omega)
        clear hall ht he hX
        go_wp2_with fail
        go_roundw
        case rel => exact ⟨i + 1, by go_num, by omega, HA.out, by first | rfl | trivial⟩
        case measure => simp [intOf]; omega
    · have h13 : i = 13 := by omega
      have H1 : Hid (isWordB s.data.toList = false) := by
        show isWordB s.data.toList = false
        rw [isWordB, Bool.eq_false_iff]
        intro e
        rw [List.contains_iff_mem] at e
        obtain ⟨j, hj⟩ := List.mem_iff_getElem?.1 e
        have h2 := (List.getElem?_eq_some_iff.1 hj).1
        have h3 : words.length = 13 := rfl
        exact hall j (by omega) hj
      clear hall
      go_wp2_with fail
      go_ret
      exact ⟨by rw [H1.out]; rfl, hB⟩
end Go.Proofs.YtijnjoonbjdafaaGreatDoor
namespace Go.Proofs.YtijnjoonbjdafaaGreatDoor
open Go.RowKit Go.Shelf
theorem sg_notR (c : UInt8) : isSg c = true → isBlank c = false ∧ c ≠ 35 ∧ isStart c = false ∧ isDig c = false ∧ c ≠ 34 ∧ c ≠ 45 := by
  have := u8_all (fun c => !isSg c || (!isBlank c && c != 35 && !isStart c && !isDig c && c != 34 && c != 45)) (by decide +kernel) c
  simp at this
  intro h
  simp [h] at this
  exact ⟨this.1.1.1.1.1, this.1.1.1.1.2, this.1.1.1.2, this.1.1.2, this.1.2, this.2⟩
theorem info34 : (Tryz.prog.info? 96).map (fun i => (i.zero, i.size, i.bytes)) = some (some (.agg #[.int .i64 0, .int .i64 0, .string ⟨#[]⟩]), 3, 32) := by kernel_rfl
theorem infoDgR : (Tryz.prog.info? 192).map (fun i => (i.zero, i.size, i.bytes)) = some (some (.agg #[.int .i64 0, .int .i64 0, .string ⟨#[]⟩]), 3, 32) := by kernel_rfl
structure RefI (s : ByteArray) (pre : List Pc) (a : Nat) : Prop where
  le : a ≤ s.size
  eq : pieces 0 s.data.toList = pre ++ pieces a (s.data.toList.drop a)
theorem RefI.start (s : ByteArray) : RefI s [] 0 := ⟨Nat.zero_le _, by simp⟩
theorem drop_ne {s : ByteArray} {a : Nat} (h : a < s.size) : s.data.toList.drop a ≠ [] := by rw [drop_data h]; simp
theorem step_le {s : ByteArray} {a : Nat} (h : a < s.size) : 1 ≤ (stepOf (s.data.toList.drop a)).n ∧ a + (stepOf (s.data.toList.drop a)).n ≤ s.size := by
  have := stepOf_n _ (drop_ne h)
  rw [List.length_drop, ← Lib.size_eq] at this
  omega
theorem RefI.gap {s : ByteArray} {pre : List Pc} {a : Nat} (h : RefI s pre a) (ha : a < s.size) (hk : (stepOf (s.data.toList.drop a)).k = 0) (hd : (stepOf (s.data.toList.drop a)).d = 0) : RefI s pre (a + (stepOf (s.data.toList.drop a)).n) := by
  refine ⟨(step_le ha).2, ?_⟩
  rw [h.eq, pieces_gap a _ (drop_ne ha) hk hd, List.drop_drop]
theorem RefI.piece {s : ByteArray} {pre : List Pc} {a : Nat} (h : RefI s pre a) (ha : a < s.size) (hkd : (stepOf (s.data.toList.drop a)).k ≠ 0 ∨ (stepOf (s.data.toList.drop a)).d ≠ 0) : RefI s (pre ++ [⟨a, stepOf (s.data.toList.drop a)⟩]) (a + (stepOf (s.data.toList.drop a)).n) := by
  refine ⟨(step_le ha).2, ?_⟩
  rw [h.eq, pieces_piece a _ (drop_ne ha) hkd, List.drop_drop, List.append_assoc]
  rfl
theorem RefI.len {s : ByteArray} {pre : List Pc} {a : Nat} (h : RefI s pre a) : (toksOf pre).length ≤ s.size ∧ (toldOf pre).length ≤ s.size := by
  have h1 := congrArg List.length h.eq
  rw [List.length_append] at h1
  have h2 := pieces_le s.data.toList.length 0 s.data.toList (Nat.le_refl _)
  rw [← Lib.size_eq] at h2
  have h3 := toksOf_le pre
  have h4 := toldOf_le pre
  omega
theorem rows_tok {W : World} {B : Nat} {v : Value} {pre : List Pc} {a : Nat} {K : Int} {T : ByteArray} (st : Step) (h : W.ownsRow B 96 3 v ((toksOf pre).length + 1) (tkCells (toksOf pre) ++ [.int .i64 K, .int .i64 (a : Int), .string T])) (hk0 : st.k ≠ 0) (hK : K = (st.k : Int)) (hT : T = ⟨st.t.toArray⟩) :
    W.ownsRow B 96 3 v (toksOf (pre ++ [⟨a, st⟩])).length (tkCells (toksOf (pre ++ [⟨a, st⟩]))) := by
  rw [toksOf_snoc, if_neg hk0, tkCells_snoc, List.length_append]
  subst hK hT
  exact h
theorem rows_tok0 {W : World} {B : Nat} {v : Value} {pre : List Pc} {a : Nat} (st : Step) (h : W.ownsRow B 96 3 v (toksOf pre).length (tkCells (toksOf pre))) (hk0 : st.k = 0) :
    W.ownsRow B 96 3 v (toksOf (pre ++ [⟨a, st⟩])).length (tkCells (toksOf (pre ++ [⟨a, st⟩]))) := by
  rw [toksOf_snoc, if_pos hk0, List.append_nil]
  exact h
theorem rows_dg {W : World} {B : Nat} {v : Value} {pre : List Pc} {a : Nat} {K : Int} (st : Step) (h : W.ownsRow B 192 3 v ((toldOf pre).length + 1) (dgCells (toldOf pre) ++ [.int .i64 (a : Int), .int .i64 K, .string ⟨#[]⟩])) (hk0 : st.d ≠ 0) (hK : K = (st.d : Int)) :
    W.ownsRow B 192 3 v (toldOf (pre ++ [⟨a, st⟩])).length (dgCells (toldOf (pre ++ [⟨a, st⟩]))) := by
  rw [toldOf_snoc, if_neg hk0, dgCells_snoc, List.length_append]
  subst hK
  exact h
theorem rows_dg0 {W : World} {B : Nat} {v : Value} {pre : List Pc} {a : Nat} (st : Step) (h : W.ownsRow B 192 3 v (toldOf pre).length (dgCells (toldOf pre))) (hk0 : st.d = 0) :
    W.ownsRow B 192 3 v (toldOf (pre ++ [⟨a, st⟩])).length (dgCells (toldOf (pre ++ [⟨a, st⟩]))) := by
  rw [toldOf_snoc, if_pos hk0, List.append_nil]
  exact h
theorem row_belowR {W W' : World} {base : Nat} {e : TypeId} {size : Nat} {v : Value} {n : Nat} {xs : List Value} (h : W.ownsRow base e size v n xs) (hb : Below W.heap.size W W') : W'.ownsRow base e size v n xs :=
  ownsRow_same h fun k _ hk => (hb.block k (Array.getElem?_eq_some_iff.1 hk).1).trans hk
theorem grown_below {w W W' : World} {e : TypeId} {v : Value} {n : Nat} {xs : List Value} (hB : Below w.heap.size w W) (hr : W.ownsRow w.heap.size e 3 v n xs) (hg : W.grownBy W' v.ownBlock) : Below w.heap.size w W' :=
  ⟨hg.os.trans hB.os, hg.tape.trans hB.tape, hg.output.trans hB.output, Nat.le_trans hB.size hg.size, fun k hk => (hg.block k (Nat.lt_of_lt_of_le hk hB.size) (by
    intro e1
    have := (hr.lt k e1.symm).1
    omega)).trans (hB.block k hk)⟩
theorem stepOf_blank {c : UInt8} (r : Bs) (h : isBlank c = true) : stepOf (c :: r) = ⟨1, 0, [], 0⟩ := by simp only [stepOf, h, if_true]
theorem stepOf_35 (r : Bs) : stepOf (35 :: r) = ⟨spanLen isInLine (35 :: r), 0, [], 0⟩ := by
  simp only [stepOf, show isBlank 35 = false by decide, Bool.false_eq_true, if_false, if_true]
theorem stepOf_st {c : UInt8} (r : Bs) (hb : isBlank c = false) (h35 : c ≠ 35) (h1 : isStart c = true) : stepOf (c :: r) = ⟨spanLen isPart (c :: r), wordKind ((c :: r).take (spanLen isPart (c :: r))), (c :: r).take (spanLen isPart (c :: r)), 0⟩ := by
  simp only [stepOf, hb, h35, h1, Bool.false_eq_true, if_false, if_true]
theorem stepOf_dg {c : UInt8} (r : Bs) (hb : isBlank c = false) (h35 : c ≠ 35) (h1 : isStart c = false) (h2 : isDig c = true) : stepOf (c :: r) = (if 18 < spanLen isDig (c :: r) then ⟨spanLen isDig (c :: r), 3, [48], 13⟩ else ⟨spanLen isDig (c :: r), 3, (c :: r).take (spanLen isDig (c :: r)), 0⟩) := by
  simp only [stepOf, hb, h35, h1, h2, Bool.false_eq_true, if_false, if_true]
theorem stepOf_sg {c : UInt8} (r : Bs) (hb : isBlank c = false) (h35 : c ≠ 35) (h1 : isStart c = false) (h2 : isDig c = false) (h3 : c ≠ 34) (h4 : ¬ (c = 45 ∧ r.head? = some 62)) (h6 : isSg c = true) : stepOf (c :: r) = ⟨1, 5, [c], 0⟩ := by
  simp only [stepOf, hb, h35, h1, h2, h3, h4, h6, Bool.false_eq_true, if_false, if_true]
theorem stepOf_no {c : UInt8} (r : Bs) (hb : isBlank c = false) (h35 : c ≠ 35) (h1 : isStart c = false) (h2 : isDig c = false) (h3 : c ≠ 34) (h4 : ¬ (c = 45 ∧ r.head? = some 62)) (h6 : isSg c = false) : stepOf (c :: r) = ⟨1, 0, [], 1⟩ := by
  simp only [stepOf, hb, h35, h1, h2, h3, h4, h6, Bool.false_eq_true, if_false]
theorem set_sg (c : UInt8) : ([61, 58, 59, 44, 46, 40, 41, 123, 125, 124, 63] : Bs).contains c = isSg c := rfl
theorem in_blank (c : UInt8) (w : World) : Calls Tryz.prog 130 #[.int .u8 (c.toNat : Int), .string ⟨#[32, 9, 10, 13]⟩] w fun e w' => e = .returned (.bool (isBlank c)) ∧ w = w' := by
  rw [← set_blank]; exact in_any c _ (by decide) w
theorem in_start (c : UInt8) (w : World) : Calls Tryz.prog 130 #[.int .u8 (c.toNat : Int), .string ⟨#[97, 98, 99, 100, 101, 102, 103, 104, 105, 106, 107, 108, 109, 110, 111, 112, 113, 114, 115, 116, 117, 118, 119, 120, 121, 122, 95]⟩] w fun e w' => e = .returned (.bool (isStart c)) ∧ w = w' := by
  rw [← set_start]; exact in_any c _ (by decide) w
theorem in_dig (c : UInt8) (w : World) : Calls Tryz.prog 130 #[.int .u8 (c.toNat : Int), .string ⟨#[48, 49, 50, 51, 52, 53, 54, 55, 56, 57]⟩] w fun e w' => e = .returned (.bool (isDig c)) ∧ w = w' := by
  rw [← set_dig]; exact in_any c _ (by decide) w
theorem in_sg (c : UInt8) (w : World) : Calls Tryz.prog 130 #[.int .u8 (c.toNat : Int), .string ⟨#[61, 58, 59, 44, 46, 40, 41, 123, 125, 124, 63]⟩] w fun e w' => e = .returned (.bool (isSg c)) ∧ w = w' := by
  rw [← set_sg]; exact in_any c _ (by decide) w
theorem mk_toArray' (l : Bs) : (⟨l.toArray⟩ : ByteArray).data.toList = l := by simp
theorem in_sg45 (c : UInt8) (h : c.toNat = 45) (w : World) : Calls Tryz.prog 130 #[.int .u8 45, .string ⟨#[61, 58, 59, 44, 46, 40, 41, 123, 125, 124, 63]⟩] w fun e w' => e = .returned (.bool false) ∧ w = w' := by
  have h2 := in_sg c w
  have e1 : isSg c = false := by
    have : c = 45 := u8_ext h
    rw [this]; decide
  rw [e1, h] at h2
  exact h2
set_option maxRecDepth 20000 in
set_option maxHeartbeats 16000000 in
theorem ref_raw (s : ByteArray) (hs : s.size ≤ 100000) (w : World) :
    Calls Tryz.prog 82 #[.string s] w fun e W' => ∃ v u, e = .returned (.tuple #[v, u]) ∧
      W'.ownsRow w.heap.size 96 3 v ((toksOf (pieces 0 s.data.toList)).length + 1) (tkCells (toksOf (pieces 0 s.data.toList) ++ [⟨6, s.size, []⟩])) ∧
      W'.ownsRow w.heap.size 192 3 u (toldOf (pieces 0 s.data.toList)).length (dgCells (toldOf (pieces 0 s.data.toList))) ∧ Below w.heap.size w W' := by
  obtain ⟨i0, hi, hz0, hz1, hz2⟩ := info_parts info34
  obtain ⟨j0, hj, hy0, hy1, hy2⟩ := info_parts infoDgR
  go_enter Tryz.func82, Tryz.ntmps82
  go_wp2_with fail
  go_loopw [4, 5, 6] (fun s4 s5 s6 wr => ∃ (pre : List Pc) (a : Nat), s6 = .int .i64 (a : Int) ∧ RefI s pre a ∧ wr.ownsRow w.heap.size 96 3 s4 (toksOf pre).length (tkCells (toksOf pre)) ∧ wr.ownsRow w.heap.size 192 3 s5 (toldOf pre).length (dgCells (toldOf pre)) ∧ Below w.heap.size w wr) (fun _ _ s6 _ => s.size - (intOf s6).toNat)
  case atStart => exact ⟨[], 0, rfl, RefI.start s, World.ownsRow_nil _ _ _ _, World.ownsRow_nil _ _ _ _, Below.refl _ _⟩
  case round =>
    obtain ⟨pre, a, rfl, hR, hr0, hr1, hB⟩ := hrel
    have hl0 := hR.len.1
    have hl1 := hR.len.2
    have hle := hR.le
    have hmx : (toksOf pre).length + 1 ≤ maxLen := by unfold maxLen; omega
    have hmy : (toldOf pre).length + 1 ≤ maxLen := by unfold maxLen; omega
    have hbs := hB.size
    have hba : ∀ o, w.heap.size ≤ (wr.alloc o).heap.size := fun o => by rw [World.size_alloc]; omega
    have HR := Lib.hid hR
    clear hR
    by_cases hlt : a < s.size
    · have hd := drop_data hlt
      have hst := step_le hlt
      have HD := Lib.hid hd
      clear hd
      cases hb : isBlank s[a] with
      | true =>
        have h1 : stepOf (s.data.toList.drop a) = ⟨1, 0, [], 0⟩ := by rw [HD.out]; exact stepOf_blank _ hb
        have HG : Hid (RefI s pre (a + 1)) := by
          have := HR.out.gap hlt (by rw [h1]) (by rw [h1])
          rw [h1] at this
          exact this
        have HB := Lib.hid hb
        clear h1 hb hst
        go_wp2_with fail
        refine (in_blank _ _).mono ?_
        rintro e w1 ⟨rfl, rfl⟩
        rw [HB.out]
        go_wp2_with fail
        go_roundw
        case rel => exact ⟨pre, a + 1, by go_num, HG.out, hr0, hr1, hB⟩
        case measure => simp [intOf]; omega
      | false =>
      have HB := Lib.hid hb
      by_cases h35 : s[a] = 35
      · have h1 : stepOf (s.data.toList.drop a) = ⟨spanLen isInLine (s.data.toList.drop a), 0, [], 0⟩ := by rw [HD.out, h35]; exact stepOf_35 _
        have hg := HR.out.gap hlt (by rw [h1]) (by rw [h1])
        have hu := until_any s ⟨#[10]⟩ a isInLine set_line hle (by omega) (by decide)
        rw [h1] at hg hst
        obtain ⟨b, hbb⟩ : ∃ b, b = a + spanLen isInLine (s.data.toList.drop a) := ⟨_, rfl⟩
        simp only [← hbb] at hg hu
        have hab : a < b := by have := hst.1; simp only at this; omega
        have hbs2 := hg.le
        have HG := Lib.hid hg
        have HU := Lib.hid hu
        have h35a : s[a].toNat = 35 := by rw [h35]; rfl
        have H35 := Lib.hid h35a
        clear h1 hb hst hg hu hbb h35 h35a
        go_wp2_with fail
        refine (in_blank _ _).mono ?_
        rintro e w1 ⟨rfl, rfl⟩
        rw [HB.out]
        have k1 : ((s[a].toNat : Int) == 35) = true := by have := H35.out; simp; omega
        have k2 : (s[a].toNat : Int) = 35 := by have := H35.out; omega
        go_wp2_with fail
        refine (HU.out _).mono ?_
        rintro e w1 ⟨rfl, rfl⟩
        go_wp2_with fail
        go_roundw
        case rel => exact ⟨pre, b, rfl, HG.out, hr0, hr1, hB⟩
        case measure => simp [intOf]; omega
      have n35 : s[a].toNat ≠ 35 := fun e => h35 (u8_ext e)
      have k35 : ((s[a].toNat : Int) == 35) = false := by simp; omega
      have k35' : ¬ (s[a].toNat : Int) = 35 := by omega
      clear n35
      cases h1s : isStart s[a] with
      | true =>
        have HS := Lib.hid h1s
        have h1 : stepOf (s.data.toList.drop a) = ⟨spanLen isPart (s.data.toList.drop a), wordKind ((s.data.toList.drop a).take (spanLen isPart (s.data.toList.drop a))), (s.data.toList.drop a).take (spanLen isPart (s.data.toList.drop a)), 0⟩ := by rw [HD.out]; exact stepOf_st _ hb h35 h1s
        have hu := while_any s ⟨#[97, 98, 99, 100, 101, 102, 103, 104, 105, 106, 107, 108, 109, 110, 111, 112, 113, 114, 115, 116, 117, 118, 119, 120, 121, 122, 95, 48, 49, 50, 51, 52, 53, 54, 55, 56, 57]⟩ a isPart set_part hle (by omega) (by decide)
        have HK0 : Hid ((stepOf (s.data.toList.drop a)).k ≠ 0) := by show (stepOf (s.data.toList.drop a)).k ≠ 0; rw [h1]; unfold wordKind; split <;> simp
        have HD0 : Hid ((stepOf (s.data.toList.drop a)).d = 0) := by show (stepOf (s.data.toList.drop a)).d = 0; rw [h1]
        have hg := HR.out.piece hlt (.inl HK0.out)
        have hnn : (stepOf (s.data.toList.drop a)).n = spanLen isPart (s.data.toList.drop a) := by rw [h1]
        rw [hnn] at hg hst
        obtain ⟨b, hbb⟩ : ∃ b, b = a + spanLen isPart (s.data.toList.drop a) := ⟨_, rfl⟩
        have hex : s.extract a b = ⟨((s.data.toList.drop a).take (spanLen isPart (s.data.toList.drop a))).toArray⟩ := by rw [mk_ext, hbb, Nat.add_sub_cancel_left]
        have HTT : Hid (s.extract a b = ⟨(stepOf (s.data.toList.drop a)).t.toArray⟩) := by show s.extract a b = ⟨(stepOf (s.data.toList.drop a)).t.toArray⟩; rw [hex, h1]
        have hkk : ((stepOf (s.data.toList.drop a)).k : Int) = if isWordB (s.extract a b).data.toList then 2 else 1 := by
          rw [h1, hex, mk_toArray']
          simp only [wordKind]
          split <;> rfl
        simp only [← hbb] at hg hu hst
        have hab : a < b := by have := hst.1; omega
        have hbs2 := hg.le
        have HG := Lib.hid hg
        have HU := Lib.hid hu
        clear h1 hst hg hu hbb hnn hex h1s h35 hb
        cases hw : isWordB (s.extract a b).data.toList with
        | true =>
          have HW := Lib.hid hw
          have HKK : Hid ((2 : Int) = ((stepOf (s.data.toList.drop a)).k : Int)) := by show (2 : Int) = ((stepOf (s.data.toList.drop a)).k : Int); rw [hkk, hw]; rfl
          clear hkk hw
          go_wp2_with fail
          refine (in_blank _ _).mono ?_
          rintro e w1 ⟨rfl, rfl⟩
          rw [HB.out]
          go_wp2_with fail
          refine (in_start _ _).mono ?_
          rintro e w1 ⟨rfl, rfl⟩
          rw [HS.out]
          go_wp2_with fail
          refine (HU.out _).mono ?_
          rintro e w1 ⟨rfl, rfl⟩
          go_wp2_with fail
          refine (word_any _ _).mono ?_
          rintro e w1 ⟨rfl, b1⟩
          rw [HW.out]
          have p0 := row_belowR hr0 b1
          have p1 := row_belowR hr1 b1
          have B1 := hB.trans (b1.mono hB.size)
          have hba1 : ∀ o, w.heap.size ≤ (w1.alloc o).heap.size := fun o => by rw [World.size_alloc]; have := B1.size; omega
          go_wp2_with (first | (at_builtin; refine wpList_append_own _ rfl (.tmp 39) (.tmp 47) 90 rfl w.heap.size 96 i0 _ 3 32 Tryz.underlying90 hi hz0 hz1 hz2 rfl (by decide) _ _ _ rfl (p0.alloc _) ⟨w1.heap.size, 0, none⟩ 1 1 [.int .i64 2, .int .i64 (a : Int), .string (s.extract a b)] rfl rfl (cells3_new w1 _ _ _ 96) one3 hmx (by omega) (hba1 _) ?_; intro v' W5 hown5 hg5 hnil5; clear hnil5; obtain ⟨g, cap, rfl⟩ := ownsRow_succ hown5))
          go_roundw
          case rel => exact ⟨pre ++ [⟨a, stepOf (s.data.toList.drop a)⟩], b, by first | rfl | go_num, HG.out, rows_tok _ hown5 HK0.out HKK.out HTT.out, rows_dg0 _ (ownsRow_same (p1.alloc _) (fun k c hk => far_row (p0.alloc _) hg5 hk (fun c fz h => by cases h))) HD0.out, grown_below (B1.alloc B1.size _) (p0.alloc _) hg5⟩
          case measure => simp [intOf]; omega
        | false =>
          have HW := Lib.hid hw
          have HKK : Hid ((1 : Int) = ((stepOf (s.data.toList.drop a)).k : Int)) := by show (1 : Int) = ((stepOf (s.data.toList.drop a)).k : Int); rw [hkk, hw]; rfl
          clear hkk hw
          go_wp2_with fail
          refine (in_blank _ _).mono ?_
          rintro e w1 ⟨rfl, rfl⟩
          rw [HB.out]
          go_wp2_with fail
          refine (in_start _ _).mono ?_
          rintro e w1 ⟨rfl, rfl⟩
          rw [HS.out]
          go_wp2_with fail
          refine (HU.out _).mono ?_
          rintro e w1 ⟨rfl, rfl⟩
          go_wp2_with fail
          refine (word_any _ _).mono ?_
          rintro e w1 ⟨rfl, b1⟩
          rw [HW.out]
          have p0 := row_belowR hr0 b1
          have p1 := row_belowR hr1 b1
          have B1 := hB.trans (b1.mono hB.size)
          have hba1 : ∀ o, w.heap.size ≤ (w1.alloc o).heap.size := fun o => by rw [World.size_alloc]; have := B1.size; omega
          go_wp2_with (first | (at_builtin; refine wpList_append_own _ rfl (.tmp 39) (.tmp 47) 90 rfl w.heap.size 96 i0 _ 3 32 Tryz.underlying90 hi hz0 hz1 hz2 rfl (by decide) _ _ _ rfl (p0.alloc _) ⟨w1.heap.size, 0, none⟩ 1 1 [.int .i64 1, .int .i64 (a : Int), .string (s.extract a b)] rfl rfl (cells3_new w1 _ _ _ 96) one3 hmx (by omega) (hba1 _) ?_; intro v' W5 hown5 hg5 hnil5; clear hnil5; obtain ⟨g, cap, rfl⟩ := ownsRow_succ hown5))
          go_roundw
          case rel => exact ⟨pre ++ [⟨a, stepOf (s.data.toList.drop a)⟩], b, by first | rfl | go_num, HG.out, rows_tok _ hown5 HK0.out HKK.out HTT.out, rows_dg0 _ (ownsRow_same (p1.alloc _) (fun k c hk => far_row (p0.alloc _) hg5 hk (fun c fz h => by cases h))) HD0.out, grown_below (B1.alloc B1.size _) (p0.alloc _) hg5⟩
          case measure => simp [intOf]; omega
      | false =>
      have HS := Lib.hid h1s
      cases h2s : isDig s[a] with
      | true =>
        have HDG := Lib.hid h2s
        have h1 : stepOf (s.data.toList.drop a) = (if 18 < spanLen isDig (s.data.toList.drop a) then ⟨spanLen isDig (s.data.toList.drop a), 3, [48], 13⟩ else ⟨spanLen isDig (s.data.toList.drop a), 3, (s.data.toList.drop a).take (spanLen isDig (s.data.toList.drop a)), 0⟩) := by rw [HD.out]; exact stepOf_dg _ hb h35 h1s h2s
        have hu := while_any s ⟨#[48, 49, 50, 51, 52, 53, 54, 55, 56, 57]⟩ a isDig set_dig hle (by omega) (by decide)
        have HK3 : Hid ((stepOf (s.data.toList.drop a)).k = 3) := by show (stepOf (s.data.toList.drop a)).k = 3; rw [h1]; split <;> rfl
        have HK0 : Hid ((stepOf (s.data.toList.drop a)).k ≠ 0) := by show (stepOf (s.data.toList.drop a)).k ≠ 0; rw [HK3.out]; simp
        have HKK : Hid ((3 : Int) = ((stepOf (s.data.toList.drop a)).k : Int)) := by show (3 : Int) = ((stepOf (s.data.toList.drop a)).k : Int); rw [HK3.out]; rfl
        have hg := HR.out.piece hlt (.inl HK0.out)
        have hnn : (stepOf (s.data.toList.drop a)).n = spanLen isDig (s.data.toList.drop a) := by rw [h1]; split <;> rfl
        rw [hnn] at hg hst
        obtain ⟨b, hbb⟩ : ∃ b, b = a + spanLen isDig (s.data.toList.drop a) := ⟨_, rfl⟩
        have hex : s.extract a b = ⟨((s.data.toList.drop a).take (spanLen isDig (s.data.toList.drop a))).toArray⟩ := by rw [mk_ext, hbb, Nat.add_sub_cancel_left]
        by_cases h18 : 18 < spanLen isDig (s.data.toList.drop a)
        · rw [if_pos h18] at h1
          have HTT : Hid ((⟨#[48]⟩ : ByteArray) = ⟨(stepOf (s.data.toList.drop a)).t.toArray⟩) := by show (⟨#[48]⟩ : ByteArray) = ⟨(stepOf (s.data.toList.drop a)).t.toArray⟩; rw [h1]
          have HD0 : Hid ((stepOf (s.data.toList.drop a)).d ≠ 0) := by show (stepOf (s.data.toList.drop a)).d ≠ 0; rw [h1]; simp
          have HDD : Hid ((13 : Int) = ((stepOf (s.data.toList.drop a)).d : Int)) := by show (13 : Int) = ((stepOf (s.data.toList.drop a)).d : Int); rw [h1]; rfl
          simp only [← hbb] at hg hu hst
          have hab : a + 18 < b := by omega
          have hbs2 := hg.le
          have HG := Lib.hid hg
          have HU := Lib.hid hu
          have k18 : decide ((18 : Int) < (b : Int) - (a : Int)) = true := by simp; omega
          have k18' : (18 : Int) < (b : Int) - (a : Int) := by omega
          clear h1 hst hg hu hbb hnn hex h1s h2s h35 hb h18
          go_wp2_with fail
          refine (in_blank _ _).mono ?_
          rintro e w1 ⟨rfl, rfl⟩
          rw [HB.out]
          go_wp2_with fail
          refine (in_start _ _).mono ?_
          rintro e w1 ⟨rfl, rfl⟩
          rw [HS.out]
          go_wp2_with fail
          refine (in_dig _ _).mono ?_
          rintro e w1 ⟨rfl, rfl⟩
          rw [HDG.out]
          go_wp2_with fail
          refine (HU.out _).mono ?_
          rintro e w1 ⟨rfl, rfl⟩
          go_wp2_with (first | (at_builtin; refine wpList_append_own _ rfl (.tmp 62) (.tmp 65) 54 rfl w.heap.size 192 j0 _ 3 32 Tryz.underlying54 hj hy0 hy1 hy2 rfl (by decide) _ _ _ rfl (hr1.alloc _) ⟨wr.heap.size, 0, none⟩ 1 1 [.int .i64 (a : Int), .int .i64 13, .string ⟨#[]⟩] rfl rfl (cells3_new wr _ _ _ 192) one3 hmy (by omega) (hba _) ?_; intro u' W7 hown7 hg7 hnil7; clear hnil7; obtain ⟨g', cap', rfl⟩ := ownsRow_succ hown7; (have p0 := ownsRow_same (hr0.alloc (.cells #[.int .i64 (a : Int), .int .i64 13, .string ⟨#[]⟩] 192)) (fun k c hk => far_row (hr1.alloc _) hg7 hk (fun c fz h => by cases h))); (have B7 := grown_below (hB.alloc hbs (.cells #[.int .i64 (a : Int), .int .i64 13, .string ⟨#[]⟩] 192)) (hr1.alloc _) hg7); (have hba7 : ∀ o, w.heap.size ≤ (W7.alloc o).heap.size := fun o => by rw [World.size_alloc]; have := B7.size; omega)) | (at_builtin; refine wpList_append_own _ rfl (.tmp 67) (.tmp 71) 90 rfl w.heap.size 96 i0 _ 3 32 Tryz.underlying90 hi hz0 hz1 hz2 rfl (by decide) _ _ _ rfl (p0.alloc _) ⟨W7.heap.size, 0, none⟩ 1 1 [.int .i64 3, .int .i64 (a : Int), .string ⟨#[48]⟩] rfl rfl (cells3_new W7 _ _ _ 96) one3 hmx (by omega) (hba7 _) ?_; intro v' W5 hown5 hg5 hnil5; clear hnil5; obtain ⟨g, cap, rfl⟩ := ownsRow_succ hown5))
          go_roundw
          case rel => exact ⟨pre ++ [⟨a, stepOf (s.data.toList.drop a)⟩], b, by first | rfl | go_num, HG.out, rows_tok _ hown5 HK0.out HKK.out HTT.out, rows_dg _ (ownsRow_same (hown7.alloc _) (fun k c hk => far_row (p0.alloc _) hg5 hk (fun c fz h => by cases h))) HD0.out HDD.out, grown_below (B7.alloc B7.size _) (p0.alloc _) hg5⟩
          case measure => simp [intOf]; omega
        · rw [if_neg h18] at h1
          have HTT : Hid (s.extract a b = ⟨(stepOf (s.data.toList.drop a)).t.toArray⟩) := by show s.extract a b = ⟨(stepOf (s.data.toList.drop a)).t.toArray⟩; rw [hex, h1]
          have HD0 : Hid ((stepOf (s.data.toList.drop a)).d = 0) := by show (stepOf (s.data.toList.drop a)).d = 0; rw [h1]
          have hab0 := hst.1
          simp only [← hbb] at hg hu hst
          have hab : a < b := by omega
          have hab2 : b ≤ a + 18 := by omega
          have hbs2 := hg.le
          have HG := Lib.hid hg
          have HU := Lib.hid hu
          have k18 : decide ((18 : Int) < (b : Int) - (a : Int)) = false := by simp; omega
          have k18' : ¬ (18 : Int) < (b : Int) - (a : Int) := by omega
          clear h1 hst hg hu hbb hnn hex h1s h2s h35 hb h18 hab0
          go_wp2_with fail
          refine (in_blank _ _).mono ?_
          rintro e w1 ⟨rfl, rfl⟩
          rw [HB.out]
          go_wp2_with fail
          refine (in_start _ _).mono ?_
          rintro e w1 ⟨rfl, rfl⟩
          rw [HS.out]
          go_wp2_with fail
          refine (in_dig _ _).mono ?_
          rintro e w1 ⟨rfl, rfl⟩
          rw [HDG.out]
          go_wp2_with fail
          refine (HU.out _).mono ?_
          rintro e w1 ⟨rfl, rfl⟩
          go_wp2_with (first | (at_builtin; refine wpList_append_own _ rfl (.tmp 67) (.tmp 71) 90 rfl w.heap.size 96 i0 _ 3 32 Tryz.underlying90 hi hz0 hz1 hz2 rfl (by decide) _ _ _ rfl (hr0.alloc _) ⟨wr.heap.size, 0, none⟩ 1 1 [.int .i64 3, .int .i64 (a : Int), .string (s.extract a b)] rfl rfl (cells3_new wr _ _ _ 96) one3 hmx (by omega) (hba _) ?_; intro v' W5 hown5 hg5 hnil5; clear hnil5; obtain ⟨g, cap, rfl⟩ := ownsRow_succ hown5))
          go_roundw
          case rel => exact ⟨pre ++ [⟨a, stepOf (s.data.toList.drop a)⟩], b, by first | rfl | go_num, HG.out, rows_tok _ hown5 HK0.out HKK.out HTT.out, rows_dg0 _ (ownsRow_same (hr1.alloc _) (fun k c hk => far_row (hr0.alloc _) hg5 hk (fun c fz h => by cases h))) HD0.out, grown_below (hB.alloc hB.size _) (hr0.alloc _) hg5⟩
          case measure => simp [intOf]; omega
      | false =>
      have HDG := Lib.hid h2s
      by_cases h34 : s[a] = 34
      · have h34a : s[a].toNat = 34 := by rw [h34]; rfl
        have H34 := Lib.hid h34a
        have h1 : stepOf (s.data.toList.drop a) = (if (s.data.toList.drop (a + 1))[spanLen isInText (s.data.toList.drop (a + 1))]? = some 34 then ⟨spanLen isInText (s.data.toList.drop (a + 1)) + 2, 4, (s.data.toList.drop (a + 1)).take (spanLen isInText (s.data.toList.drop (a + 1))), 0⟩ else ⟨spanLen isInText (s.data.toList.drop (a + 1)) + 1, 0, [], 1⟩) := by rw [HD.out, h34, stepOf_34]
        have hu := until_any s ⟨#[34, 10]⟩ (a + 1) isInText set_text (by omega) (by omega) (by decide)
        have hsl := spanLen_le isInText (s.data.toList.drop (a + 1))
        rw [List.length_drop, ← Lib.size_eq] at hsl
        obtain ⟨b, hbb⟩ : ∃ b, b = a + 1 + spanLen isInText (s.data.toList.drop (a + 1)) := ⟨_, rfl⟩
        have hgb : (s.data.toList.drop (a + 1))[spanLen isInText (s.data.toList.drop (a + 1))]? = s.data.toList[b]? := by rw [List.getElem?_drop, hbb]
        have hex : s.extract (a + 1) b = ⟨((s.data.toList.drop (a + 1)).take (spanLen isInText (s.data.toList.drop (a + 1)))).toArray⟩ := by rw [mk_ext, hbb, Nat.add_sub_cancel_left]
        simp only [← hbb] at hu
        have hab : a + 1 ≤ b := by omega
        have hbs2 : b ≤ s.size := by omega
        have hu2 : ∀ w, Calls Tryz.prog 131 #[.string s, .int .i64 ((a : Int) + 1), .string ⟨#[34, 10]⟩] w fun e w' => e = .returned (.int .i64 (b : Int)) ∧ w = w' := fun w => by
          have := hu w
          rw [show ((a + 1 : Nat) : Int) = (a : Int) + 1 by omega] at this
          exact this
        have HU := Lib.hid hu2
        rw [hgb] at h1
        by_cases hq : s.data.toList[b]? = some 34
        · have hbl : b < s.size := by have := (List.getElem?_eq_some_iff.1 hq).1; rw [← Lib.size_eq] at this; exact this
          have hqb : s[b].toNat = 34 := by
            have := get_data hbl
            rw [this] at hq
            rw [Option.some.inj hq]; rfl
          have HQB := Lib.hid hqb
          rw [if_pos hq] at h1
          have HK0 : Hid ((stepOf (s.data.toList.drop a)).k ≠ 0) := by show (stepOf (s.data.toList.drop a)).k ≠ 0; rw [h1]; simp
          have HKK : Hid ((4 : Int) = ((stepOf (s.data.toList.drop a)).k : Int)) := by show (4 : Int) = ((stepOf (s.data.toList.drop a)).k : Int); rw [h1]; rfl
          have HD0 : Hid ((stepOf (s.data.toList.drop a)).d = 0) := by show (stepOf (s.data.toList.drop a)).d = 0; rw [h1]
          have HTT : Hid (s.extract (a + 1) b = ⟨(stepOf (s.data.toList.drop a)).t.toArray⟩) := by show s.extract (a + 1) b = ⟨(stepOf (s.data.toList.drop a)).t.toArray⟩; rw [hex, h1]
          have HG : Hid (RefI s (pre ++ [⟨a, stepOf (s.data.toList.drop a)⟩]) (b + 1)) := by
            have := HR.out.piece hlt (.inl HK0.out)
            have e : a + (stepOf (s.data.toList.drop a)).n = b + 1 := by rw [h1]; simp only; omega
            rw [e] at this
            exact this
          clear h1 hst hu hbb hgb hex h1s h2s h35 hb h34 h34a hq hqb hsl hu2
          go_wp2_with fail
          refine (in_blank _ _).mono ?_
          rintro e w1 ⟨rfl, rfl⟩
          rw [HB.out]
          go_wp2_with fail
          refine (in_start _ _).mono ?_
          rintro e w1 ⟨rfl, rfl⟩
          rw [HS.out]
          go_wp2_with fail
          refine (in_dig _ _).mono ?_
          rintro e w1 ⟨rfl, rfl⟩
          rw [HDG.out]
          have k34 : ((s[a].toNat : Int) == 34) = true := by have := H34.out; simp; omega
          have k34' : (s[a].toNat : Int) = 34 := by have := H34.out; omega
          go_wp2_with fail
          refine (HU.out _).mono ?_
          rintro e w1 ⟨rfl, rfl⟩
          clear k34 k34'
          have q1 : ((s[b].toNat : Int) == 34) = true := by have := HQB.out; simp; omega
          have q2 : (s[b].toNat : Int) = 34 := by have := HQB.out; omega
          go_wp2_with (first | (at_builtin; refine wpList_append_own _ rfl (.tmp 89) (.tmp 97) 90 rfl w.heap.size 96 i0 _ 3 32 Tryz.underlying90 hi hz0 hz1 hz2 rfl (by decide) _ _ _ rfl (hr0.alloc _) ⟨wr.heap.size, 0, none⟩ 1 1 [.int .i64 4, .int .i64 (a : Int), .string (s.extract (a + 1) b)] rfl rfl (cells3_new wr _ _ _ 96) one3 hmx (by omega) (hba _) ?_; intro v' W5 hown5 hg5 hnil5; clear hnil5; obtain ⟨g, cap, rfl⟩ := ownsRow_succ hown5))
          go_roundw
          case rel => exact ⟨pre ++ [⟨a, stepOf (s.data.toList.drop a)⟩], b + 1, by first | rfl | go_num, HG.out, rows_tok _ hown5 HK0.out HKK.out HTT.out, rows_dg0 _ (ownsRow_same (hr1.alloc _) (fun k c hk => far_row (hr0.alloc _) hg5 hk (fun c fz h => by cases h))) HD0.out, grown_below (hB.alloc hB.size _) (hr0.alloc _) hg5⟩
          case measure => simp [intOf]; omega
        · have HNQ : Hid (∀ h : b < s.size, s[b].toNat ≠ 34) := by
            show ∀ h : b < s.size, s[b].toNat ≠ 34
            intro h e
            apply hq
            rw [get_data h]
            exact congrArg some (u8_ext e)
          rw [if_neg hq] at h1
          have HK0 : Hid ((stepOf (s.data.toList.drop a)).k = 0) := by show (stepOf (s.data.toList.drop a)).k = 0; rw [h1]
          have HD0 : Hid ((stepOf (s.data.toList.drop a)).d ≠ 0) := by show (stepOf (s.data.toList.drop a)).d ≠ 0; rw [h1]; simp
          have HDD : Hid ((1 : Int) = ((stepOf (s.data.toList.drop a)).d : Int)) := by show (1 : Int) = ((stepOf (s.data.toList.drop a)).d : Int); rw [h1]; rfl
          have HG : Hid (RefI s (pre ++ [⟨a, stepOf (s.data.toList.drop a)⟩]) b) := by
            have := HR.out.piece hlt (.inr HD0.out)
            have e : a + (stepOf (s.data.toList.drop a)).n = b := by rw [h1]; simp only; omega
            rw [e] at this
            exact this
          clear h1 hst hu hbb hgb hex h1s h2s h35 hb h34 h34a hq hsl hu2
          by_cases hbl : b < s.size
          · have hnq := HNQ.out hbl
            go_wp2_with fail
            refine (in_blank _ _).mono ?_
            rintro e w1 ⟨rfl, rfl⟩
            rw [HB.out]
            go_wp2_with fail
            refine (in_start _ _).mono ?_
            rintro e w1 ⟨rfl, rfl⟩
            rw [HS.out]
            go_wp2_with fail
            refine (in_dig _ _).mono ?_
            rintro e w1 ⟨rfl, rfl⟩
            rw [HDG.out]
            have k34 : ((s[a].toNat : Int) == 34) = true := by have := H34.out; simp; omega
            have k34' : (s[a].toNat : Int) = 34 := by have := H34.out; omega
            go_wp2_with fail
            refine (HU.out _).mono ?_
            rintro e w1 ⟨rfl, rfl⟩
            clear k34 k34'
            have q1 : ((s[b].toNat : Int) == 34) = false := by simp; omega
            have q2 : ¬ (s[b].toNat : Int) = 34 := by omega
            go_wp2_with (first | (at_builtin; refine wpList_append_own _ rfl (.tmp 101) (.tmp 104) 54 rfl w.heap.size 192 j0 _ 3 32 Tryz.underlying54 hj hy0 hy1 hy2 rfl (by decide) _ _ _ rfl (hr1.alloc _) ⟨wr.heap.size, 0, none⟩ 1 1 [.int .i64 (a : Int), .int .i64 1, .string ⟨#[]⟩] rfl rfl (cells3_new wr _ _ _ 192) one3 hmy (by omega) (hba _) ?_; intro u' W7 hown7 hg7 hnil7; clear hnil7; obtain ⟨g', cap', rfl⟩ := ownsRow_succ hown7))
            go_roundw
            case rel => exact ⟨pre ++ [⟨a, stepOf (s.data.toList.drop a)⟩], b, by first | rfl | go_num, HG.out, rows_tok0 _ (ownsRow_same (hr0.alloc _) (fun k c hk => far_row (hr1.alloc _) hg7 hk (fun c fz h => by cases h))) HK0.out, rows_dg _ hown7 HD0.out HDD.out, grown_below (hB.alloc hB.size _) (hr1.alloc _) hg7⟩
            case measure => simp [intOf]; omega
          · have hbe : b = s.size := by omega
            have kb : decide ((b : Int) < (s.size : Int)) = false := by simp; omega
            have kb' : decide (b < s.size) = false := by simp; omega
            go_wp2_with fail
            refine (in_blank _ _).mono ?_
            rintro e w1 ⟨rfl, rfl⟩
            rw [HB.out]
            go_wp2_with fail
            refine (in_start _ _).mono ?_
            rintro e w1 ⟨rfl, rfl⟩
            rw [HS.out]
            go_wp2_with fail
            refine (in_dig _ _).mono ?_
            rintro e w1 ⟨rfl, rfl⟩
            rw [HDG.out]
            have k34 : ((s[a].toNat : Int) == 34) = true := by have := H34.out; simp; omega
            have k34' : (s[a].toNat : Int) = 34 := by have := H34.out; omega
            go_wp2_with fail
            refine (HU.out _).mono ?_
            rintro e w1 ⟨rfl, rfl⟩
            clear k34 k34'
            go_wp2_with (first | (at_builtin; refine wpList_append_own _ rfl (.tmp 101) (.tmp 104) 54 rfl w.heap.size 192 j0 _ 3 32 Tryz.underlying54 hj hy0 hy1 hy2 rfl (by decide) _ _ _ rfl (hr1.alloc _) ⟨wr.heap.size, 0, none⟩ 1 1 [.int .i64 (a : Int), .int .i64 1, .string ⟨#[]⟩] rfl rfl (cells3_new wr _ _ _ 192) one3 hmy (by omega) (hba _) ?_; intro u' W7 hown7 hg7 hnil7; clear hnil7; obtain ⟨g', cap', rfl⟩ := ownsRow_succ hown7))
            go_roundw
            case rel => exact ⟨pre ++ [⟨a, stepOf (s.data.toList.drop a)⟩], b, by first | rfl | go_num, HG.out, rows_tok0 _ (ownsRow_same (hr0.alloc _) (fun k c hk => far_row (hr1.alloc _) hg7 hk (fun c fz h => by cases h))) HK0.out, rows_dg _ hown7 HD0.out HDD.out, grown_below (hB.alloc hB.size _) (hr1.alloc _) hg7⟩
            case measure => simp [intOf]; omega
      have n34 : s[a].toNat ≠ 34 := fun e => h34 (u8_ext e)
      have k34 : ((s[a].toNat : Int) == 34) = false := by simp; omega
      have k34' : ¬ (s[a].toNat : Int) = 34 := by omega
      clear n34
      by_cases h45 : s[a] = 45 ∧ (s.data.toList.drop (a + 1)).head? = some 62
      · obtain ⟨h45a, h62⟩ := h45
        have h45b : s[a].toNat = 45 := by rw [h45a]; rfl
        have H45 := Lib.hid h45b
        obtain ⟨r, hX⟩ : ∃ r, s.data.toList.drop (a + 1) = 62 :: r := by
          cases hX : s.data.toList.drop (a + 1) with
          | nil => rw [hX] at h62; simp at h62
          | cons x r => rw [hX] at h62; simp at h62; exact ⟨r, by rw [h62]⟩
        have hlen : a + 1 < s.size := by
          have := congrArg List.length hX
          rw [List.length_drop, ← Lib.size_eq, List.length_cons] at this
          omega
        have h62b : s[a + 1].toNat = 62 := by
          have := drop_data hlen
          rw [hX] at this
          have e := (List.cons.inj this).1
          rw [← e]; rfl
        have H62 := Lib.hid h62b
        have h1 : stepOf (s.data.toList.drop a) = ⟨2, 5, [45, 62], 0⟩ := by rw [HD.out, h45a, hX, stepOf_arrow]
        have HK0 : Hid ((stepOf (s.data.toList.drop a)).k ≠ 0) := by show (stepOf (s.data.toList.drop a)).k ≠ 0; rw [h1]; simp
        have HKK : Hid ((5 : Int) = ((stepOf (s.data.toList.drop a)).k : Int)) := by show (5 : Int) = ((stepOf (s.data.toList.drop a)).k : Int); rw [h1]; rfl
        have HD0 : Hid ((stepOf (s.data.toList.drop a)).d = 0) := by show (stepOf (s.data.toList.drop a)).d = 0; rw [h1]
        have HTT : Hid ((⟨#[45, 62]⟩ : ByteArray) = ⟨(stepOf (s.data.toList.drop a)).t.toArray⟩) := by show (⟨#[45, 62]⟩ : ByteArray) = ⟨(stepOf (s.data.toList.drop a)).t.toArray⟩; rw [h1]
        have HG : Hid (RefI s (pre ++ [⟨a, stepOf (s.data.toList.drop a)⟩]) (a + 1 + 1)) := by
          have := HR.out.piece hlt (.inl HK0.out)
          have e : a + (stepOf (s.data.toList.drop a)).n = a + 1 + 1 := by rw [h1]; rfl
          rw [e] at this
          exact this
        clear h1 hst h1s h2s h35 hb h34 h45a h45b h62 hX h62b
        go_wp2_with fail
        refine (in_blank _ _).mono ?_
        rintro e w1 ⟨rfl, rfl⟩
        rw [HB.out]
        go_wp2_with fail
        refine (in_start _ _).mono ?_
        rintro e w1 ⟨rfl, rfl⟩
        rw [HS.out]
        go_wp2_with fail
        refine (in_dig _ _).mono ?_
        rintro e w1 ⟨rfl, rfl⟩
        rw [HDG.out]
        have k45 : ((s[a].toNat : Int) == 45) = true := by have := H45.out; simp; omega
        have k45' : (s[a].toNat : Int) = 45 := by have := H45.out; omega
        have k62 : ((s[a + 1].toNat : Int) == 62) = true := by have := H62.out; simp; omega
        have k62' : (s[a + 1].toNat : Int) = 62 := by have := H62.out; omega
        go_wp2_with (first | (at_builtin; refine wpList_append_own _ rfl (.tmp 122) (.tmp 125) 90 rfl w.heap.size 96 i0 _ 3 32 Tryz.underlying90 hi hz0 hz1 hz2 rfl (by decide) _ _ _ rfl (hr0.alloc _) ⟨wr.heap.size, 0, none⟩ 1 1 [.int .i64 5, .int .i64 (a : Int), .string ⟨#[45, 62]⟩] rfl rfl (cells3_new wr _ _ _ 96) one3 hmx (by omega) (hba _) ?_; intro v' W5 hown5 hg5 hnil5; clear hnil5; obtain ⟨g, cap, rfl⟩ := ownsRow_succ hown5))
        go_roundw
        case rel => exact ⟨pre ++ [⟨a, stepOf (s.data.toList.drop a)⟩], a + 1 + 1, by first | rfl | go_num, HG.out, rows_tok _ hown5 HK0.out HKK.out HTT.out, rows_dg0 _ (ownsRow_same (hr1.alloc _) (fun k c hk => far_row (hr0.alloc _) hg5 hk (fun c fz h => by cases h))) HD0.out, grown_below (hB.alloc hB.size _) (hr0.alloc _) hg5⟩
        case measure => simp [intOf]; omega
      have hna : ∀ h : a + 1 < s.size, s[a].toNat = 45 → s[a + 1].toNat ≠ 62 := by
        intro h e1 e2
        apply h45
        refine ⟨u8_ext e1, ?_⟩
        rw [drop_data h]
        exact congrArg some (u8_ext e2)
      have HNA := Lib.hid hna
      clear hna
      cases h6s : isSg s[a] with
      | true =>
        have HSG := Lib.hid h6s
        have h1 : stepOf (s.data.toList.drop a) = ⟨1, 5, [s[a]], 0⟩ := by rw [HD.out]; exact stepOf_sg _ hb h35 h1s h2s h34 h45 h6s
        have n45 : s[a].toNat ≠ 45 := fun e => (sg_notR s[a] h6s).2.2.2.2.2 (u8_ext e)
        have HN45 := Lib.hid n45
        have hex : s.extract a (a + 1) = ⟨[s[a]].toArray⟩ := by rw [mk_ext, Nat.add_sub_cancel_left, HD.out]; rfl
        have HK0 : Hid ((stepOf (s.data.toList.drop a)).k ≠ 0) := by show (stepOf (s.data.toList.drop a)).k ≠ 0; rw [h1]; simp
        have HKK : Hid ((5 : Int) = ((stepOf (s.data.toList.drop a)).k : Int)) := by show (5 : Int) = ((stepOf (s.data.toList.drop a)).k : Int); rw [h1]; rfl
        have HD0 : Hid ((stepOf (s.data.toList.drop a)).d = 0) := by show (stepOf (s.data.toList.drop a)).d = 0; rw [h1]
        have HTT : Hid (s.extract a (a + 1) = ⟨(stepOf (s.data.toList.drop a)).t.toArray⟩) := by show s.extract a (a + 1) = ⟨(stepOf (s.data.toList.drop a)).t.toArray⟩; rw [hex, h1]
        have HG : Hid (RefI s (pre ++ [⟨a, stepOf (s.data.toList.drop a)⟩]) (a + 1)) := by
          have := HR.out.piece hlt (.inl HK0.out)
          have e : a + (stepOf (s.data.toList.drop a)).n = a + 1 := by rw [h1]
          rw [e] at this
          exact this
        clear h1 hst h1s h2s h35 hb h34 h45 h6s n45 hex
        go_wp2_with fail
        refine (in_blank _ _).mono ?_
        rintro e w1 ⟨rfl, rfl⟩
        rw [HB.out]
        go_wp2_with fail
        refine (in_start _ _).mono ?_
        rintro e w1 ⟨rfl, rfl⟩
        rw [HS.out]
        go_wp2_with fail
        refine (in_dig _ _).mono ?_
        rintro e w1 ⟨rfl, rfl⟩
        rw [HDG.out]
        have k45 : ((s[a].toNat : Int) == 45) = false := by have := HN45.out; simp; omega
        have k45' : ¬ (s[a].toNat : Int) = 45 := by have := HN45.out; omega
        go_wp2_with fail
        refine (in_sg _ _).mono ?_
        rintro e w1 ⟨rfl, rfl⟩
        rw [HSG.out]
        go_wp2_with (first | (at_builtin; refine wpList_append_own _ rfl (.tmp 129) (.tmp 136) 90 rfl w.heap.size 96 i0 _ 3 32 Tryz.underlying90 hi hz0 hz1 hz2 rfl (by decide) _ _ _ rfl (hr0.alloc _) ⟨wr.heap.size, 0, none⟩ 1 1 [.int .i64 5, .int .i64 (a : Int), .string (s.extract a (a + 1))] rfl rfl (cells3_new wr _ _ _ 96) one3 hmx (by omega) (hba _) ?_; intro v' W5 hown5 hg5 hnil5; clear hnil5; obtain ⟨g, cap, rfl⟩ := ownsRow_succ hown5))
        go_roundw
        case rel => exact ⟨pre ++ [⟨a, stepOf (s.data.toList.drop a)⟩], a + 1, by first | rfl | go_num, HG.out, rows_tok _ hown5 HK0.out HKK.out HTT.out, rows_dg0 _ (ownsRow_same (hr1.alloc _) (fun k c hk => far_row (hr0.alloc _) hg5 hk (fun c fz h => by cases h))) HD0.out, grown_below (hB.alloc hB.size _) (hr0.alloc _) hg5⟩
        case measure => simp [intOf]; omega
      | false =>
      have HSG := Lib.hid h6s
      have h1 : stepOf (s.data.toList.drop a) = ⟨1, 0, [], 1⟩ := by rw [HD.out]; exact stepOf_no _ hb h35 h1s h2s h34 h45 h6s
      have HK0 : Hid ((stepOf (s.data.toList.drop a)).k = 0) := by show (stepOf (s.data.toList.drop a)).k = 0; rw [h1]
      have HD0 : Hid ((stepOf (s.data.toList.drop a)).d ≠ 0) := by show (stepOf (s.data.toList.drop a)).d ≠ 0; rw [h1]; simp
      have HDD : Hid ((1 : Int) = ((stepOf (s.data.toList.drop a)).d : Int)) := by show (1 : Int) = ((stepOf (s.data.toList.drop a)).d : Int); rw [h1]; rfl
      have HG : Hid (RefI s (pre ++ [⟨a, stepOf (s.data.toList.drop a)⟩]) (a + 1)) := by
        have := HR.out.piece hlt (.inr HD0.out)
        have e : a + (stepOf (s.data.toList.drop a)).n = a + 1 := by rw [h1]
        rw [e] at this
        exact this
      clear h1 hst h1s h2s h35 hb h34 h45 h6s
      by_cases n45 : s[a].toNat = 45
      · by_cases hl2 : a + 1 < s.size
        · have n62 := HNA.out hl2 n45
          have H45 := Lib.hid n45
          clear n45
          go_wp2_with fail
          refine (in_blank _ _).mono ?_
          rintro e w1 ⟨rfl, rfl⟩
          rw [HB.out]
          go_wp2_with fail
          refine (in_start _ _).mono ?_
          rintro e w1 ⟨rfl, rfl⟩
          rw [HS.out]
          go_wp2_with fail
          refine (in_dig _ _).mono ?_
          rintro e w1 ⟨rfl, rfl⟩
          rw [HDG.out]
          have k45 : ((s[a].toNat : Int) == 45) = true := by have := H45.out; simp; omega
          have k45' : (s[a].toNat : Int) = 45 := by have := H45.out; omega
          have k62 : ((s[a + 1].toNat : Int) == 62) = false := by simp; omega
          have k62' : ¬ (s[a + 1].toNat : Int) = 62 := by omega
          go_wp2_with fail
          refine (in_sg45 s[a] H45.out _).mono ?_
          rintro e w1 ⟨rfl, rfl⟩
          go_wp2_with (first | (at_builtin; refine wpList_append_own _ rfl (.tmp 138) (.tmp 141) 54 rfl w.heap.size 192 j0 _ 3 32 Tryz.underlying54 hj hy0 hy1 hy2 rfl (by decide) _ _ _ rfl (hr1.alloc _) ⟨wr.heap.size, 0, none⟩ 1 1 [.int .i64 (a : Int), .int .i64 1, .string ⟨#[]⟩] rfl rfl (cells3_new wr _ _ _ 192) one3 hmy (by omega) (hba _) ?_; intro u' W7 hown7 hg7 hnil7; clear hnil7; obtain ⟨g', cap', rfl⟩ := ownsRow_succ hown7))
          go_roundw
          case rel => exact ⟨pre ++ [⟨a, stepOf (s.data.toList.drop a)⟩], a + 1, by first | rfl | go_num, HG.out, rows_tok0 _ (ownsRow_same (hr0.alloc _) (fun k c hk => far_row (hr1.alloc _) hg7 hk (fun c fz h => by cases h))) HK0.out, rows_dg _ hown7 HD0.out HDD.out, grown_below (hB.alloc hB.size _) (hr1.alloc _) hg7⟩
          case measure => simp [intOf]; omega
        · have H45 := Lib.hid n45
          have kl : decide ((a : Int) + 1 < (s.size : Int)) = false := by simp; omega
          have kl' : ¬ (a : Int) + 1 < (s.size : Int) := by omega
          clear n45
          go_wp2_with fail
          refine (in_blank _ _).mono ?_
          rintro e w1 ⟨rfl, rfl⟩
          rw [HB.out]
          go_wp2_with fail
          refine (in_start _ _).mono ?_
          rintro e w1 ⟨rfl, rfl⟩
          rw [HS.out]
          go_wp2_with fail
          refine (in_dig _ _).mono ?_
          rintro e w1 ⟨rfl, rfl⟩
          rw [HDG.out]
          have k45 : ((s[a].toNat : Int) == 45) = true := by have := H45.out; simp; omega
          have k45' : (s[a].toNat : Int) = 45 := by have := H45.out; omega
          go_wp2_with fail
          refine (in_sg45 s[a] H45.out _).mono ?_
          rintro e w1 ⟨rfl, rfl⟩
          go_wp2_with (first | (at_builtin; refine wpList_append_own _ rfl (.tmp 138) (.tmp 141) 54 rfl w.heap.size 192 j0 _ 3 32 Tryz.underlying54 hj hy0 hy1 hy2 rfl (by decide) _ _ _ rfl (hr1.alloc _) ⟨wr.heap.size, 0, none⟩ 1 1 [.int .i64 (a : Int), .int .i64 1, .string ⟨#[]⟩] rfl rfl (cells3_new wr _ _ _ 192) one3 hmy (by omega) (hba _) ?_; intro u' W7 hown7 hg7 hnil7; clear hnil7; obtain ⟨g', cap', rfl⟩ := ownsRow_succ hown7))
          go_roundw
          case rel => exact ⟨pre ++ [⟨a, stepOf (s.data.toList.drop a)⟩], a + 1, by first | rfl | go_num, HG.out, rows_tok0 _ (ownsRow_same (hr0.alloc _) (fun k c hk => far_row (hr1.alloc _) hg7 hk (fun c fz h => by cases h))) HK0.out, rows_dg _ hown7 HD0.out HDD.out, grown_below (hB.alloc hB.size _) (hr1.alloc _) hg7⟩
          case measure => simp [intOf]; omega
      ·
        go_wp2_with fail
        refine (in_blank _ _).mono ?_
        rintro e w1 ⟨rfl, rfl⟩
        rw [HB.out]
        go_wp2_with fail
        refine (in_start _ _).mono ?_
        rintro e w1 ⟨rfl, rfl⟩
        rw [HS.out]
        go_wp2_with fail
        refine (in_dig _ _).mono ?_
        rintro e w1 ⟨rfl, rfl⟩
        rw [HDG.out]
        have k45 : ((s[a].toNat : Int) == 45) = false := by simp; omega
        have k45' : ¬ (s[a].toNat : Int) = 45 := by omega
        go_wp2_with fail
        refine (in_sg _ _).mono ?_
        rintro e w1 ⟨rfl, rfl⟩
        rw [HSG.out]
        go_wp2_with (first | (at_builtin; refine wpList_append_own _ rfl (.tmp 138) (.tmp 141) 54 rfl w.heap.size 192 j0 _ 3 32 Tryz.underlying54 hj hy0 hy1 hy2 rfl (by decide) _ _ _ rfl (hr1.alloc _) ⟨wr.heap.size, 0, none⟩ 1 1 [.int .i64 (a : Int), .int .i64 1, .string ⟨#[]⟩] rfl rfl (cells3_new wr _ _ _ 192) one3 hmy (by omega) (hba _) ?_; intro u' W7 hown7 hg7 hnil7; clear hnil7; obtain ⟨g', cap', rfl⟩ := ownsRow_succ hown7))
        go_roundw
        case rel => exact ⟨pre ++ [⟨a, stepOf (s.data.toList.drop a)⟩], a + 1, by first | rfl | go_num, HG.out, rows_tok0 _ (ownsRow_same (hr0.alloc _) (fun k c hk => far_row (hr1.alloc _) hg7 hk (fun c fz h => by cases h))) HK0.out, rows_dg _ hown7 HD0.out HDD.out, grown_below (hB.alloc hB.size _) (hr1.alloc _) hg7⟩
        case measure => simp [intOf]; omega
    · have hae : a = s.size := by omega
      have hfin : pieces 0 s.data.toList = pre := by
        rw [HR.out.eq, List.drop_of_length_le (by rw [← Lib.size_eq]; omega), pieces_nil, List.append_nil]
      have HF := Lib.hid hfin
      clear hfin
      subst hae
      go_wp2_with (first | (at_builtin; refine wpList_append_own _ rfl (.tmp 144) (.tmp 148) 90 rfl w.heap.size 96 i0 _ 3 32 Tryz.underlying90 hi hz0 hz1 hz2 rfl (by decide) _ _ _ rfl (hr0.alloc _) ⟨wr.heap.size, 0, none⟩ 1 1 [.int .i64 6, .int .i64 (s.size : Int), .string ⟨#[]⟩] rfl rfl (cells3_new wr _ _ _ 96) one3 hmx (by omega) (hba _) ?_; intro v' W5 hown5 hg5 hnil5; clear hnil5; obtain ⟨g, cap, rfl⟩ := ownsRow_succ hown5))
      go_ret2
      refine ⟨_, _, rfl, ?_, ?_, ?_⟩
      · rw [HF.out, tkCells_snoc]
        exact hown5
      · rw [HF.out]
        exact ownsRow_same (hr1.alloc _) (fun k c hk => far_row (hr0.alloc _) hg5 hk (fun c fz h => by cases h))
      · exact grown_below (hB.alloc hbs _) (hr0.alloc _) hg5
end Go.Proofs.YtijnjoonbjdafaaGreatDoor

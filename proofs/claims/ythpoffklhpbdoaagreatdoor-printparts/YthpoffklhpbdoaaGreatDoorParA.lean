/-
  A type in a record's marks is read just if it is read as what a function takes. No walk.
-/
import Derived.Test.YthpoffklhpbdoaaGreatDoorLwA
namespace Go.Proofs.YthpoffklhpbdoaaGreatDoor
set_option maxRecDepth 100000

theorem recL {t : PT} (h : GT t) : Lz ([123, 107, 58, 32] ++ (prT 0 t ++ [125])) (sK [123] :: nK [107] :: sK [58] :: (uT 0 t ++ [sK [125]])) :=
  .sg (by decide) (.cut (l := [107]) (u := [nK [107]]) (lz_name nm_k) (by decide) (.sg (by decide) (.bl (.cut (lz_T h.vt 0) (by decide) (.sg (by decide) .nil)))))
theorem funL {t : PT} (h : GT t) : Lz (40 :: (prT 0 t ++ [41, 32, 45, 62, 32, 105, 110, 116])) (sK [40] :: (uT 0 t ++ [sK [41], sK [45, 62], wK [105, 110, 116]])) :=
  .sg (by decide) (.cut (lz_T h.vt 0) (by decide) (.sg (by decide) (.bl (.arrow (.bl lw_int)))))
theorem rec_eq (Z : List Tk) : typ 64 (sK [123] :: nK [107] :: sK [58] :: Z) = (((((fieldsP [58] (typ 63) (Z.length + 1 + 1) [] [] (nK [107] :: sK [58] :: Z)).bind fun fs r => .ok (recT fs) r []) : R PT).bind fun t r => if isM [45, 62] r then (arr 63 r.tail).bind fun u r => .ok (.mk 6 [] [] [t, u]) r [] else .ok t r []).bind fun t r => (unionP (arr 64) r.length [t] r).bind fun l r => .ok (joinT l) r []) := rfl
theorem fun_eq (Z : List Tk) : typ 64 (sK [40] :: Z) = (((typ 63 Z).bind fun t r => (want [41] r).bind fun _ r => .ok t r []).bind fun t r => if isM [45, 62] r then (arr 63 r.tail).bind fun u r => .ok (.mk 6 [] [] [t, u]) r [] else .ok t r []).bind fun t r => (unionP (arr 64) r.length [t] r).bind fun l r => .ok (joinT l) r [] := rfl
theorem rec_key {t : PT} (h : GT t) {a : PT} (ha : wT ([123, 107, 58, 32] ++ (prT 0 t ++ [125])) = some a) : typ 63 (uT 0 t ++ [sK [125], ⟨6, 0, []⟩]) = .ok t [sK [125], ⟨6, 0, []⟩] [] := by
  obtain ⟨h1, -⟩ := lz_end (recL h)
  obtain ⟨-, h2⟩ := whole_inv (fun ts => (lvT_eats 64).1 ts) ha
  have h3 := typ_z h1 h2
  simp only [List.cons_append, List.append_assoc, List.nil_append] at h3
  rw [rec_eq] at h3
  obtain ⟨t1, r1, d1, d1', h3, k1⟩ := R.bind_ok_inv h3
  obtain ⟨t2, r2, d2, d2', h3, k2⟩ := R.bind_ok_inv h3
  obtain ⟨fs, r3, d3, d3', h3, k3⟩ := R.bind_ok_inv h3
  rw [fieldsP, name_n, R.bind_ok] at h3
  obtain ⟨d4, h3⟩ := R.tell_ok_inv h3
  rw [want_s, R.bind_ok] at h3
  obtain ⟨d5, h3⟩ := R.tell_ok_inv h3
  obtain ⟨d6, h3⟩ := R.tell_ok_inv h3
  obtain ⟨v, r4, d7, d8, h4, h3⟩ := R.bind_ok_inv h3
  obtain ⟨rfl, rfl, rfl⟩ := r0_less (p := [sK [125]]) h.r0 (by decide) rfl rfl h4
  exact h4
theorem fun_key {t : PT} (h : GT t) {a : PT} (ha : wT (40 :: (prT 0 t ++ [41, 32, 45, 62, 32, 105, 110, 116])) = some a) : typ 63 (uT 0 t ++ [sK [41], sK [45, 62], wK [105, 110, 116], ⟨6, 0, []⟩]) = .ok t [sK [41], sK [45, 62], wK [105, 110, 116], ⟨6, 0, []⟩] [] := by
  obtain ⟨h1, -⟩ := lz_end (funL h)
  obtain ⟨-, h2⟩ := whole_inv (fun ts => (lvT_eats 64).1 ts) ha
  have h3 := typ_z h1 h2
  simp only [List.cons_append, List.append_assoc, List.nil_append] at h3
  rw [fun_eq] at h3
  obtain ⟨t1, r1, d1, d1', h3, k1⟩ := R.bind_ok_inv h3
  obtain ⟨t2, r2, d2, d2', h3, k2⟩ := R.bind_ok_inv h3
  obtain ⟨v, r3, d3, d3', h4, k3⟩ := R.bind_ok_inv h3
  obtain ⟨rfl, rfl, rfl⟩ := r0_less (p := [sK [41], sK [45, 62], wK [105, 110, 116]]) h.r0 (by decide) rfl rfl h4
  exact h4
theorem rec_of_fun {t : PT} (h : GT t) {a : PT} (ha : wT (40 :: (prT 0 t ++ [41, 32, 45, 62, 32, 105, 110, 116])) = some a) : ∃ c, wT ([123, 107, 58, 32] ++ (prT 0 t ++ [125])) = some c := by
  have h5 := (lvT_lc (ts := [sK [41], sK [45, 62], wK [105, 110, 116], ⟨6, 0, []⟩]) (ts' := [sK [125], ⟨6, 0, []⟩]) (by simp) (by simp) 63 63 (Nat.le_refl _) (uT 0 t)).1 t [] [] (fun_key h ha) (fun _ => ⟨rfl, rfl⟩)
  obtain ⟨g1, g2⟩ := lz_end (recL h)
  have h6 : typ 64 ((sK [123] :: nK [107] :: sK [58] :: (uT 0 t ++ [sK [125]])) ++ [⟨6, 0, []⟩]) = .ok (recT [([107], t)]) [⟨6, 0, []⟩] [] := by
    simp only [List.cons_append, List.append_assoc, List.nil_append] at h5 ⊢
    rw [rec_eq, fieldsP, name_n, R.bind_ok, want_s, R.bind_ok, h5]
    have i1 : isM [44] (sK [125] :: [(⟨6, 0, []⟩ : Tk)]) = false := rfl
    have i3 : ¬ (nK [107]).t ∈ ([] : List Bs) := by simp
    have i4 : isM [45, 62] [(⟨6, 0, []⟩ : Tk)] = false := rfl
    simp only [R.bind_ok, i1, want_s, if_neg i3, R.tell_nil, Bool.false_eq_true, if_false, i4]
    rfl
  obtain ⟨r', e1, e2⟩ := typ_z' g1 h6
  obtain ⟨e, rfl, he⟩ := one_6 e2
  exact ⟨_, whole_of g2 he e1⟩
theorem fun_of_rec {t : PT} (h : GT t) {a : PT} (ha : wT ([123, 107, 58, 32] ++ (prT 0 t ++ [125])) = some a) : ∃ c, wT (40 :: (prT 0 t ++ [41, 32, 45, 62, 32, 105, 110, 116])) = some c := by
  have h5 := (lvT_lc (ts := [sK [125], ⟨6, 0, []⟩]) (ts' := [sK [41], sK [45, 62], wK [105, 110, 116], ⟨6, 0, []⟩]) (by simp) (by simp) 63 63 (Nat.le_refl _) (uT 0 t)).1 t [] [] (rec_key h ha) (fun _ => ⟨rfl, rfl⟩)
  obtain ⟨g1, g2⟩ := lz_end (funL h)
  have h6 : typ 64 ((sK [40] :: (uT 0 t ++ [sK [41], sK [45, 62], wK [105, 110, 116]])) ++ [⟨6, 0, []⟩]) = .ok (.mk 6 [] [] [t, tInt]) [⟨6, 0, []⟩] [] := by
    simp only [List.cons_append, List.append_assoc, List.nil_append] at h5 ⊢
    rw [fun_eq, h5]
    have i4 : isM [45, 62] [sK [45, 62], wK [105, 110, 116], (⟨6, 0, []⟩ : Tk)] = true := isM_s _ _
    have i5 : arr 63 [sK [45, 62], wK [105, 110, 116], (⟨6, 0, []⟩ : Tk)].tail = .ok tInt [⟨6, 0, []⟩] [] := rfl
    simp only [R.bind_ok, want_s, R.tell_nil, i4, if_pos, i5]
    rfl
  obtain ⟨r', e1, e2⟩ := typ_z' g1 h6
  obtain ⟨e, rfl, he⟩ := one_6 e2
  exact ⟨_, whole_of g2 he e1⟩

end Go.Proofs.YthpoffklhpbdoaaGreatDoor

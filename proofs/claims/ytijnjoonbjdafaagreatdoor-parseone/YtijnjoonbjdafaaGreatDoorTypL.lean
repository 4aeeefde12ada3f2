/-
  The contracts of the readers of types, at every depth.
-/
import Derived.Test.YtijnjoonbjdafaaGreatDoorRec
namespace Go.Proofs.YtijnjoonbjdafaaGreatDoor
set_option maxRecDepth 20000
open Go.RowKit Go.Shelf
set_option maxHeartbeats 1000000 in
theorem arrow_deep {B M : Nat} {pb : Nat} {all : List Tk} (d : Nat) (hd : 64 < d) (w : World) (ts : List Tk) (told : List Dn) (h : PS B M w pb all ts told) :
    Calls Tryz.prog 80 #[.pointer (some ⟨pb, 0, none⟩), .int .i64 (d : Nat)] w (Post B M w pb all told (vT w.heap.size) (arr 0 ts)) := by
  have HD := Lib.hid (depth_bad (h.alloc zT) d hd)
  have p0 := Lib.hid (h.alloc zT)
  have hF0 := Lib.hid ((Fr.refl B w).alloc zT)
  have HQ := Lib.hid (show arr 0 ts = .bad (deep ts) ts [] from rfl)
  obtain ⟨res, hres⟩ : ∃ res, res = arr 0 ts := ⟨_, rfl⟩
  rw [← hres]
  have HR := Lib.hid (hres.trans HQ.out)
  clear h hres HQ hd
  go_enter Tryz.func80, Tryz.ntmps80
  go_wp2_with fail
  refine HD.out.mono ?_
  rintro e w1 ⟨rfl, b1⟩
  go_wp2_with fail
  exact panics rfl (.bad HR.out (hF0.out.below b1) (p0.out.below b1).nil)
theorem level_T {B M : Nat} {pb : Nat} {all : List Tk} (hM : M ≤ 10000000) (hall : ∀ t ∈ all, t.t.length ≤ 1000000) : ∀ (n d : Nat), d + n = 65 →
    (∀ w ts told, PS B M w pb all ts told → Calls Tryz.prog 80 #[.pointer (some ⟨pb, 0, none⟩), .int .i64 (d : Nat)] w (Post B M w pb all told (vT w.heap.size) (arr n ts))) ∧
    (∀ w ts told, PS B M w pb all ts told → Calls Tryz.prog 43 #[.pointer (some ⟨pb, 0, none⟩), .int .i64 (d : Nat)] w (Post B M w pb all told (vT w.heap.size) (typ n ts)))
  | 0, d, h => by
    have ha := fun w ts told (hp : PS B M w pb all ts told) => arrow_deep d (by omega) w ts told hp
    exact ⟨ha, fun w ts told hp => typ_any 0 d ha w ts told hp⟩
  | n + 1, d, h => by
    obtain ⟨ha, ht⟩ := level_T hM hall n (d + 1) (by omega)
    have hr := fun w ts told (hp : PS B M w pb all ts told) => rec_any hM hall n d (by omega) ht w ts told hp
    have hpl := fun w ts told (hp : PS B M w pb all ts told) => plain_any n d (by omega) ht hr w ts told hp
    have har : ∀ w ts told, PS B M w pb all ts told → Calls Tryz.prog 80 #[.pointer (some ⟨pb, 0, none⟩), .int .i64 (d : Nat)] w (Post B M w pb all told (vT w.heap.size) (arr (n + 1) ts)) := fun w ts told hp => arrow_any n d (by omega) hpl ha w ts told hp
    exact ⟨har, fun w ts told hp => typ_any (n + 1) d har w ts told hp⟩
end Go.Proofs.YtijnjoonbjdafaaGreatDoor

/-
  The contract of the reader of expressions, at every depth.
-/
import Derived.Test.YtijnjoonbjdafaaGreatDoorExF
import Derived.Test.YtijnjoonbjdafaaGreatDoorTypL
namespace Go.Proofs.YtijnjoonbjdafaaGreatDoor
set_option maxRecDepth 20000
open Go.RowKit Go.Shelf
theorem level_E {B M : Nat} {pb : Nat} {all : List Tk} (hM : M ≤ 10000000) (hall : ∀ t ∈ all, t.t.length ≤ 1000000) (hnum : ∀ t ∈ all, t.k = 3 → NumT t.t) : ∀ (n d : Nat), d + n = 65 →
    ∀ w ts told, PS B M w pb all ts told → Calls Tryz.prog 47 #[.pointer (some ⟨pb, 0, none⟩), .int .i64 (d : Nat)] w (Post B M w pb all told (vE w.heap.size) (exp n ts))
  | 0, d, h => fun w ts told hp => expr_deep d (by omega) w ts told hp
  | n + 1, d, h => by
    have he := level_E (B := B) (pb := pb) hM hall hnum n (d + 1) (by omega)
    have ht := (level_T (B := B) (pb := pb) hM hall n (d + 1) (by omega)).2
    have hd : d ≤ 64 := by omega
    have hr := fun (a : Nat) w ts told (hp : PS B M w pb all ts told) => recE_any hM hall n d hd he a w ts told hp
    have hb := fun (a : Nat) w ts told (hp : PS B M w pb all ts told) => brack_any n d hd he ht a w ts told hp
    have hba := fun w ts told (hp : PS B M w pb all ts told) => basic_any n d hd hnum hr hb w ts told hp
    have hc := fun w ts told (hp : PS B M w pb all ts told) => call_any n d hd he hba w ts told hp
    have hf := fun (a : Nat) w ts told (hp : PS B M w pb all ts told) => fun_any n d hd he ht a w ts told hp
    have hl := fun (a : Nat) w ts told (hp : PS B M w pb all ts told) => let_any n d hd he a w ts told hp
    have hi := fun (a : Nat) w ts told (hp : PS B M w pb all ts told) => if_any n d hd he a w ts told hp
    exact fun w ts told hp => expr_any n d hd hf hl hi hc w ts told hp
end Go.Proofs.YtijnjoonbjdafaaGreatDoor

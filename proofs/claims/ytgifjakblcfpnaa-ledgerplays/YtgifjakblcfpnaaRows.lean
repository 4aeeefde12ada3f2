/-
  No cell of these rows narrows 'for every input' (looked for: loops, veiled, ifaces, maps, wideKeys, modest, calm, conditions, laid).
  DERIVED. THE GIVEN ROWS OF THIS SEAT. 5 by the template 'for every input the law returns true; each argument reads behind the call as it read before'; 0 by the template 'total and deterministic' (their statements: YtgifjakblcfpnaaTotals.lean).
  GIVEN WITH THE SEED: the statements are not yours to turn. If you find one false, say at which input.
  Laid BY PROGRAM, IN A SANDBOX (cutbox-rows.mjs): the forced cells as the released guide's own fill.sh prints them over the translation 9f833f2f7d8c2d33… (all of the seat's roots in one cut). By AI agents, Wed Nov 11 2026. No macro, syntax, notation, axiom, sorry.
-/
import Derived.Test.YtgifjakblcfpnaaChecked
import GoSem.Claim
import GoSem.ClaimJoined
import GoSem.ClaimMapViews
import Derived.JoinedTies
import Derived.KernelRfl
namespace Go.Proofs.Ytgifjakblcfpnaa
/- THE CELL 'sum', in the pinned program and in every row, IS THE sha256 OF THE DUMP (.gsa) THAT YtgifjakblcfpnaaProg.lean LOADS. Nothing in Lean hashes anything: it is a label: what it is worth is what the hold of that sum in a sandbox is worth. -/
noncomputable def Try.pinned : Pinned := { name := "ytgifjakblcfpnaa", sum := "9f833f2f7d8c2d330abd63871a6bc8fd266249553f41803a6a5b4c727578f648", checked := Try.checked }
namespace Rows
def none {H : Type} : Left H := { results := [], args := [] }

/-- 'cupellaw02.LedgerPlays': WHATEVER THE INPUT: true; the input reads as it did. -/
def ledgerPlaysSpec : ChangeSpec := { name := "ledgerPlays", fn := fun _ => fun
  | [d1, d2, d3] => { results := [.lit (.bool true)], args := [d1, d2, d3] }
  | _ => none }
def ledgerPlaysRow : OpenClaim := { program := "ytgifjakblcfpnaa", sum := "9f833f2f7d8c2d330abd63871a6bc8fd266249553f41803a6a5b4c727578f648", func := "cupel/cupellaw02.LedgerPlays", spec := "ledgerPlays", apart := false }
def LedgerPlaysSaid : Prop := ledgerPlaysRow.holds Try.pinned (OpenSpec.ofChange ledgerPlaysSpec)

/-- ITS FALSE NEIGHBOUR: 'it returns false'. Refute it at one input. -/
def ledgerPlaysWrong : ChangeSpec := { name := "ledgerPlays", fn := fun _ => fun
  | [d1, d2, d3] => { results := [.lit (.bool false)], args := [d1, d2, d3] }
  | _ => none }
def LedgerPlaysWrongFalsely : Prop := ledgerPlaysRow.holds Try.pinned (OpenSpec.ofChange ledgerPlaysWrong)

/-- 'cupellaw02.LedgerKeeps': WHATEVER THE INPUT: true; the input reads as it did. -/
def ledgerKeepsSpec : ChangeSpec := { name := "ledgerKeeps", fn := fun _ => fun
  | [d1, d2] => { results := [.lit (.bool true)], args := [d1, d2] }
  | _ => none }
def ledgerKeepsRow : OpenClaim := { program := "ytgifjakblcfpnaa", sum := "9f833f2f7d8c2d330abd63871a6bc8fd266249553f41803a6a5b4c727578f648", func := "cupel/cupellaw02.LedgerKeeps", spec := "ledgerKeeps", apart := false }
def LedgerKeepsSaid : Prop := ledgerKeepsRow.holds Try.pinned (OpenSpec.ofChange ledgerKeepsSpec)

/-- ITS FALSE NEIGHBOUR: 'it returns false'. Refute it at one input. -/
def ledgerKeepsWrong : ChangeSpec := { name := "ledgerKeeps", fn := fun _ => fun
  | [d1, d2] => { results := [.lit (.bool false)], args := [d1, d2] }
  | _ => none }
def LedgerKeepsWrongFalsely : Prop := ledgerKeepsRow.holds Try.pinned (OpenSpec.ofChange ledgerKeepsWrong)

/-- 'cupellaw02.LedgerBack': WHATEVER THE INPUT: true; the input reads as it did. -/
def ledgerBackSpec : ChangeSpec := { name := "ledgerBack", fn := fun _ => fun
  | [d1, d2] => { results := [.lit (.bool true)], args := [d1, d2] }
  | _ => none }
def ledgerBackRow : OpenClaim := { program := "ytgifjakblcfpnaa", sum := "9f833f2f7d8c2d330abd63871a6bc8fd266249553f41803a6a5b4c727578f648", func := "cupel/cupellaw02.LedgerBack", spec := "ledgerBack", apart := false }
def LedgerBackSaid : Prop := ledgerBackRow.holds Try.pinned (OpenSpec.ofChange ledgerBackSpec)

/-- ITS FALSE NEIGHBOUR: 'it returns false'. Refute it at one input. -/
def ledgerBackWrong : ChangeSpec := { name := "ledgerBack", fn := fun _ => fun
  | [d1, d2] => { results := [.lit (.bool false)], args := [d1, d2] }
  | _ => none }
def LedgerBackWrongFalsely : Prop := ledgerBackRow.holds Try.pinned (OpenSpec.ofChange ledgerBackWrong)

/-- 'cupellaw02.LedgerTwo': WHATEVER THE INPUT: true; the input reads as it did. -/
def ledgerTwoSpec : ChangeSpec := { name := "ledgerTwo", fn := fun _ => fun
  | [d1, d2, d3] => { results := [.lit (.bool true)], args := [d1, d2, d3] }
  | _ => none }
def ledgerTwoRow : OpenClaim := { program := "ytgifjakblcfpnaa", sum := "9f833f2f7d8c2d330abd63871a6bc8fd266249553f41803a6a5b4c727578f648", func := "cupel/cupellaw02.LedgerTwo", spec := "ledgerTwo", apart := false }
def LedgerTwoSaid : Prop := ledgerTwoRow.holds Try.pinned (OpenSpec.ofChange ledgerTwoSpec)

/-- ITS FALSE NEIGHBOUR: 'it returns false'. Refute it at one input. -/
def ledgerTwoWrong : ChangeSpec := { name := "ledgerTwo", fn := fun _ => fun
  | [d1, d2, d3] => { results := [.lit (.bool false)], args := [d1, d2, d3] }
  | _ => none }
def LedgerTwoWrongFalsely : Prop := ledgerTwoRow.holds Try.pinned (OpenSpec.ofChange ledgerTwoWrong)

/-- 'cupellaw02.LedgerHigh': WHATEVER THE INPUT: true; the input reads as it did. -/
def ledgerHighSpec : ChangeSpec := { name := "ledgerHigh", fn := fun _ => fun
  | [d] => { results := [.lit (.bool true)], args := [d] }
  | _ => none }
def ledgerHighRow : OpenClaim := { program := "ytgifjakblcfpnaa", sum := "9f833f2f7d8c2d330abd63871a6bc8fd266249553f41803a6a5b4c727578f648", func := "cupel/cupellaw02.LedgerHigh", spec := "ledgerHigh", apart := false }
def LedgerHighSaid : Prop := ledgerHighRow.holds Try.pinned (OpenSpec.ofChange ledgerHighSpec)

/-- ITS FALSE NEIGHBOUR: 'it returns false'. Refute it at one input. -/
def ledgerHighWrong : ChangeSpec := { name := "ledgerHigh", fn := fun _ => fun
  | [d] => { results := [.lit (.bool false)], args := [d] }
  | _ => none }
def LedgerHighWrongFalsely : Prop := ledgerHighRow.holds Try.pinned (OpenSpec.ofChange ledgerHighWrong)

/- THE SECOND FORM. 'bulk': how many values and letters a reading holds, each counted each time it is reached (what is shared counts as often as it is met; a slice's spare places count too). A statement '..UptoSaid' is the law's where the arguments, and the package variables that the reading takes, are together of bulk at most 1048576: NARROWER than '..Said'. Prove '..Said' where nothing that the law and all that it calls make is longer than what came in: it says more and counts as full. Else prove '..UptoSaid'. A law counts once. -/
mutual
def uptoBulk {H : Type} : DataW H → Nat
  | .lit (.string bytes) => bytes.length + 1
  | .lit _ => 1
  | .nil => 1
  | .ptr d => uptoBulk d + 1
  | .slice elems spare => uptoBulkAll elems + uptoBulkAll spare + 1
  | .agg parts => uptoBulkAll parts + 1
  | .iface _ d => uptoBulk d + 1
  | .map entries => uptoBulkEntries entries + 1
  | .held _ => 1
def uptoBulkAll {H : Type} : List (DataW H) → Nat
  | [] => 0
  | d :: r => uptoBulk d + uptoBulkAll r
def uptoBulkEntries {H : Type} : List (Lit × DataW H) → Nat
  | [] => 0
  | x :: r => uptoBulkEntry x + uptoBulkEntries r
def uptoBulkEntry {H : Type} : Lit × DataW H → Nat
  | (.string bytes, d) => bytes.length + uptoBulk d + 1
  | (_, d) => uptoBulk d + 1
 end
def uptoSmall : (H : Type) → List (DataW H) → Bool := fun _ ds => decide (uptoBulkAll ds ≤ 1048576)
def OpenSpec.upto (s : _root_.Go.ChangeSpec) : _root_.Go.OpenSpec := { _root_.Go.OpenSpec.ofChange s with cond := some uptoSmall }

/-- 'cupellaw02.LedgerPlays', WHERE WHAT IT READS IS OF BULK AT MOST 1048576: true; the input reads as it did. -/
def ledgerPlaysUptoRow : OpenClaim := { program := "ytgifjakblcfpnaa", sum := "9f833f2f7d8c2d330abd63871a6bc8fd266249553f41803a6a5b4c727578f648", func := "cupel/cupellaw02.LedgerPlays", spec := "ledgerPlays", apart := false, narrowed := true }
def LedgerPlaysUptoSaid : Prop := ledgerPlaysUptoRow.holds Try.pinned (OpenSpec.upto ledgerPlaysSpec)

/-- 'cupellaw02.LedgerKeeps', WHERE WHAT IT READS IS OF BULK AT MOST 1048576: true; the input reads as it did. -/
def ledgerKeepsUptoRow : OpenClaim := { program := "ytgifjakblcfpnaa", sum := "9f833f2f7d8c2d330abd63871a6bc8fd266249553f41803a6a5b4c727578f648", func := "cupel/cupellaw02.LedgerKeeps", spec := "ledgerKeeps", apart := false, narrowed := true }
def LedgerKeepsUptoSaid : Prop := ledgerKeepsUptoRow.holds Try.pinned (OpenSpec.upto ledgerKeepsSpec)

/-- 'cupellaw02.LedgerBack', WHERE WHAT IT READS IS OF BULK AT MOST 1048576: true; the input reads as it did. -/
def ledgerBackUptoRow : OpenClaim := { program := "ytgifjakblcfpnaa", sum := "9f833f2f7d8c2d330abd63871a6bc8fd266249553f41803a6a5b4c727578f648", func := "cupel/cupellaw02.LedgerBack", spec := "ledgerBack", apart := false, narrowed := true }
def LedgerBackUptoSaid : Prop := ledgerBackUptoRow.holds Try.pinned (OpenSpec.upto ledgerBackSpec)

/-- 'cupellaw02.LedgerTwo', WHERE WHAT IT READS IS OF BULK AT MOST 1048576: true; the input reads as it did. -/
def ledgerTwoUptoRow : OpenClaim := { program := "ytgifjakblcfpnaa", sum := "9f833f2f7d8c2d330abd63871a6bc8fd266249553f41803a6a5b4c727578f648", func := "cupel/cupellaw02.LedgerTwo", spec := "ledgerTwo", apart := false, narrowed := true }
def LedgerTwoUptoSaid : Prop := ledgerTwoUptoRow.holds Try.pinned (OpenSpec.upto ledgerTwoSpec)

/-- 'cupellaw02.LedgerHigh', WHERE WHAT IT READS IS OF BULK AT MOST 1048576: true; the input reads as it did. -/
def ledgerHighUptoRow : OpenClaim := { program := "ytgifjakblcfpnaa", sum := "9f833f2f7d8c2d330abd63871a6bc8fd266249553f41803a6a5b4c727578f648", func := "cupel/cupellaw02.LedgerHigh", spec := "ledgerHigh", apart := false, narrowed := true }
def LedgerHighUptoSaid : Prop := ledgerHighUptoRow.holds Try.pinned (OpenSpec.upto ledgerHighSpec)

end Rows
end Go.Proofs.Ytgifjakblcfpnaa

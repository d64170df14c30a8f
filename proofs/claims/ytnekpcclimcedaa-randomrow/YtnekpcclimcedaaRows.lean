/-
  No cell of these rows narrows 'for every input' (looked for: loops, veiled, ifaces, maps, wideKeys, modest, calm, conditions, laid).
  DERIVED. THE GIVEN ROWS OF THIS SEAT. 4 by the template 'for every input the law returns true; each argument reads behind the call as it read before'; 0 by the template 'total and deterministic' (their statements: YtnekpcclimcedaaTotals.lean).
  GIVEN WITH THE SEED: the statements are not yours to turn. If you find one false, say at which input.
  Laid BY PROGRAM, IN A SANDBOX (cutbox-rows.mjs): the forced cells as the released guide's own fill.sh prints them over the translation ff3331c6f02e8fec… (all of the seat's roots in one cut). By AI agents, Wed Nov 11 2026. No macro, syntax, notation, axiom, sorry.
-/
import Derived.Test.YtnekpcclimcedaaChecked
import GoSem.Claim
import GoSem.ClaimJoined
import GoSem.ClaimMapViews
import Derived.JoinedTies
import Derived.KernelRfl
namespace Go.Proofs.Ytnekpcclimcedaa
/- THE CELL 'sum', in the pinned program and in every row, IS THE sha256 OF THE DUMP (.gsa) THAT YtnekpcclimcedaaProg.lean LOADS. Nothing in Lean hashes anything: it is a label: what it is worth is what the hold of that sum in a sandbox is worth. -/
noncomputable def Try.pinned : Pinned := { name := "ytnekpcclimcedaa", sum := "ff3331c6f02e8fec48093f047b50d8dad1428be469be8e97b07215d24bc28614", checked := Try.checked }
namespace Rows
def none {H : Type} : Left H := { results := [], args := [] }

/-- 'ricochetlaw08.RandomNext': WHATEVER THE INPUT: true; the input reads as it did. -/
def randomNextSpec : ChangeSpec := { name := "randomNext", fn := fun _ => fun
  | [d1, d2] => { results := [.lit (.bool true)], args := [d1, d2] }
  | _ => none }
def randomNextRow : OpenClaim := { program := "ytnekpcclimcedaa", sum := "ff3331c6f02e8fec48093f047b50d8dad1428be469be8e97b07215d24bc28614", func := "ricochet/ricochetlaw08.RandomNext", spec := "randomNext", apart := false }
def RandomNextSaid : Prop := randomNextRow.holds Try.pinned (OpenSpec.ofChange randomNextSpec)

/-- ITS FALSE NEIGHBOUR: 'it returns false'. Refute it at one input. -/
def randomNextWrong : ChangeSpec := { name := "randomNext", fn := fun _ => fun
  | [d1, d2] => { results := [.lit (.bool false)], args := [d1, d2] }
  | _ => none }
def RandomNextWrongFalsely : Prop := randomNextRow.holds Try.pinned (OpenSpec.ofChange randomNextWrong)

/-- 'ricochetlaw08.RandomOne': WHATEVER THE INPUT: true; the input reads as it did. -/
def randomOneSpec : ChangeSpec := { name := "randomOne", fn := fun _ => fun
  | [d1, d2] => { results := [.lit (.bool true)], args := [d1, d2] }
  | _ => none }
def randomOneRow : OpenClaim := { program := "ytnekpcclimcedaa", sum := "ff3331c6f02e8fec48093f047b50d8dad1428be469be8e97b07215d24bc28614", func := "ricochet/ricochetlaw08.RandomOne", spec := "randomOne", apart := false }
def RandomOneSaid : Prop := randomOneRow.holds Try.pinned (OpenSpec.ofChange randomOneSpec)

/-- ITS FALSE NEIGHBOUR: 'it returns false'. Refute it at one input. -/
def randomOneWrong : ChangeSpec := { name := "randomOne", fn := fun _ => fun
  | [d1, d2] => { results := [.lit (.bool false)], args := [d1, d2] }
  | _ => none }
def RandomOneWrongFalsely : Prop := randomOneRow.holds Try.pinned (OpenSpec.ofChange randomOneWrong)

/-- 'ricochetlaw08.RandomBelow': WHATEVER THE INPUT: true; the input reads as it did. -/
def randomBelowSpec : ChangeSpec := { name := "randomBelow", fn := fun _ => fun
  | [d1, d2] => { results := [.lit (.bool true)], args := [d1, d2] }
  | _ => none }
def randomBelowRow : OpenClaim := { program := "ytnekpcclimcedaa", sum := "ff3331c6f02e8fec48093f047b50d8dad1428be469be8e97b07215d24bc28614", func := "ricochet/ricochetlaw08.RandomBelow", spec := "randomBelow", apart := false }
def RandomBelowSaid : Prop := randomBelowRow.holds Try.pinned (OpenSpec.ofChange randomBelowSpec)

/-- ITS FALSE NEIGHBOUR: 'it returns false'. Refute it at one input. -/
def randomBelowWrong : ChangeSpec := { name := "randomBelow", fn := fun _ => fun
  | [d1, d2] => { results := [.lit (.bool false)], args := [d1, d2] }
  | _ => none }
def RandomBelowWrongFalsely : Prop := randomBelowRow.holds Try.pinned (OpenSpec.ofChange randomBelowWrong)

/-- 'ricochetlaw08.RandomRow': WHATEVER THE INPUT: true; the input reads as it did. -/
def randomRowSpec : ChangeSpec := { name := "randomRow", fn := fun _ => fun
  | [d1, d2] => { results := [.lit (.bool true)], args := [d1, d2] }
  | _ => none }
def randomRowRow : OpenClaim := { program := "ytnekpcclimcedaa", sum := "ff3331c6f02e8fec48093f047b50d8dad1428be469be8e97b07215d24bc28614", func := "ricochet/ricochetlaw08.RandomRow", spec := "randomRow", apart := false }
def RandomRowSaid : Prop := randomRowRow.holds Try.pinned (OpenSpec.ofChange randomRowSpec)

/-- ITS FALSE NEIGHBOUR: 'it returns false'. Refute it at one input. -/
def randomRowWrong : ChangeSpec := { name := "randomRow", fn := fun _ => fun
  | [d1, d2] => { results := [.lit (.bool false)], args := [d1, d2] }
  | _ => none }
def RandomRowWrongFalsely : Prop := randomRowRow.holds Try.pinned (OpenSpec.ofChange randomRowWrong)

/- THE SECOND FORM. 'bulk': how many values and letters a reading holds, each counted each time it is reached (what is shared counts as often as it is met; a slice's spare places count too). A statement '..UptoSaid' is the law's where the arguments, and the package variables that the reading takes, are together of bulk at most 1048576: NARROWER than '..Said'. Prove '..Said' where nothing that the law and all that it calls make is longer than what came in: it says more and counts as full. Else prove '..UptoSaid'. A law counts once. -/
mutual
def uptoBulk {H : Type} : DataW H → Nat
  | .lit (.string bytes) => bytes.length + 1
  | .lit _ => 1
  | .nil => 1
  | .ptr d => uptoBulk d + 1
  | .slice elems spare => uptoBulkAll elems + uptoBulkAll spare + 1
  | .agg parts => uptoBulkAll parts + 1
  | .iface _ d => uptoBulk d + 1
  | .map entries => uptoBulkEntries entries + 1
  | .held _ => 1
def uptoBulkAll {H : Type} : List (DataW H) → Nat
  | [] => 0
  | d :: r => uptoBulk d + uptoBulkAll r
def uptoBulkEntries {H : Type} : List (Lit × DataW H) → Nat
  | [] => 0
  | x :: r => uptoBulkEntry x + uptoBulkEntries r
def uptoBulkEntry {H : Type} : Lit × DataW H → Nat
  | (.string bytes, d) => bytes.length + uptoBulk d + 1
  | (_, d) => uptoBulk d + 1
 end
def uptoSmall : (H : Type) → List (DataW H) → Bool := fun _ ds => decide (uptoBulkAll ds ≤ 1048576)
def OpenSpec.upto (s : _root_.Go.ChangeSpec) : _root_.Go.OpenSpec := { _root_.Go.OpenSpec.ofChange s with cond := some uptoSmall }

/-- 'ricochetlaw08.RandomNext', WHERE WHAT IT READS IS OF BULK AT MOST 1048576: true; the input reads as it did. -/
def randomNextUptoRow : OpenClaim := { program := "ytnekpcclimcedaa", sum := "ff3331c6f02e8fec48093f047b50d8dad1428be469be8e97b07215d24bc28614", func := "ricochet/ricochetlaw08.RandomNext", spec := "randomNext", apart := false, narrowed := true }
def RandomNextUptoSaid : Prop := randomNextUptoRow.holds Try.pinned (OpenSpec.upto randomNextSpec)

/-- 'ricochetlaw08.RandomOne', WHERE WHAT IT READS IS OF BULK AT MOST 1048576: true; the input reads as it did. -/
def randomOneUptoRow : OpenClaim := { program := "ytnekpcclimcedaa", sum := "ff3331c6f02e8fec48093f047b50d8dad1428be469be8e97b07215d24bc28614", func := "ricochet/ricochetlaw08.RandomOne", spec := "randomOne", apart := false, narrowed := true }
def RandomOneUptoSaid : Prop := randomOneUptoRow.holds Try.pinned (OpenSpec.upto randomOneSpec)

/-- 'ricochetlaw08.RandomBelow', WHERE WHAT IT READS IS OF BULK AT MOST 1048576: true; the input reads as it did. -/
def randomBelowUptoRow : OpenClaim := { program := "ytnekpcclimcedaa", sum := "ff3331c6f02e8fec48093f047b50d8dad1428be469be8e97b07215d24bc28614", func := "ricochet/ricochetlaw08.RandomBelow", spec := "randomBelow", apart := false, narrowed := true }
def RandomBelowUptoSaid : Prop := randomBelowUptoRow.holds Try.pinned (OpenSpec.upto randomBelowSpec)

/-- 'ricochetlaw08.RandomRow', WHERE WHAT IT READS IS OF BULK AT MOST 1048576: true; the input reads as it did. -/
def randomRowUptoRow : OpenClaim := { program := "ytnekpcclimcedaa", sum := "ff3331c6f02e8fec48093f047b50d8dad1428be469be8e97b07215d24bc28614", func := "ricochet/ricochetlaw08.RandomRow", spec := "randomRow", apart := false, narrowed := true }
def RandomRowUptoSaid : Prop := randomRowUptoRow.holds Try.pinned (OpenSpec.upto randomRowSpec)

end Rows
end Go.Proofs.Ytnekpcclimcedaa

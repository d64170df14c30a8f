/-
  No cell of these rows narrows 'for every input' (looked for: loops, veiled, ifaces, maps, wideKeys, modest, calm, conditions, laid).
  DERIVED. THE GIVEN ROWS OF THIS SEAT. 6 by the template 'for every input the law returns true; each argument reads behind the call as it read before'; 0 by the template 'total and deterministic' (their statements: YtodfgekhffeapaaTotals.lean).
  GIVEN WITH THE SEED: the statements are not yours to turn. If you find one false, say at which input.
  Laid BY PROGRAM, IN A SANDBOX (cutbox-rows.mjs): the forced cells as the released guide's own fill.sh prints them over the translation 70a5cfe05487d221… (all of the seat's roots in one cut). By AI agents, Wed Nov 11 2026. No macro, syntax, notation, axiom, sorry.
-/
import Derived.Test.YtodfgekhffeapaaChecked
import GoSem.Claim
import GoSem.ClaimJoined
import GoSem.ClaimMapViews
import Derived.JoinedTies
import Derived.KernelRfl
namespace Go.Proofs.Ytodfgekhffeapaa
/- THE CELL 'sum', in the pinned program and in every row, IS THE sha256 OF THE DUMP (.gsa) THAT YtodfgekhffeapaaProg.lean LOADS. Nothing in Lean hashes anything: it is a label: what it is worth is what the hold of that sum in a sandbox is worth. -/
noncomputable def Try.pinned : Pinned := { name := "ytodfgekhffeapaa", sum := "70a5cfe05487d22136dbec49e6449bd94bdd2bcd0c86a54b3b109bfe35a596ce", checked := Try.checked }
namespace Rows
def none {H : Type} : Left H := { results := [], args := [] }

/-- 'ricochetlaw09.CommandForms': WHATEVER THE INPUT: true; the input reads as it did. -/
def commandFormsSpec : ChangeSpec := { name := "commandForms", fn := fun _ => fun
  | [d1, d2] => { results := [.lit (.bool true)], args := [d1, d2] }
  | _ => none }
def commandFormsRow : OpenClaim := { program := "ytodfgekhffeapaa", sum := "70a5cfe05487d22136dbec49e6449bd94bdd2bcd0c86a54b3b109bfe35a596ce", func := "ricochet/ricochetlaw09.CommandForms", spec := "commandForms", apart := false }
def CommandFormsSaid : Prop := commandFormsRow.holds Try.pinned (OpenSpec.ofChange commandFormsSpec)

/-- ITS FALSE NEIGHBOUR: 'it returns false'. Refute it at one input. -/
def commandFormsWrong : ChangeSpec := { name := "commandForms", fn := fun _ => fun
  | [d1, d2] => { results := [.lit (.bool false)], args := [d1, d2] }
  | _ => none }
def CommandFormsWrongFalsely : Prop := commandFormsRow.holds Try.pinned (OpenSpec.ofChange commandFormsWrong)

/-- 'ricochetlaw09.CommandTakes': WHATEVER THE INPUT: true; the input reads as it did. -/
def commandTakesSpec : ChangeSpec := { name := "commandTakes", fn := fun _ => fun
  | [d] => { results := [.lit (.bool true)], args := [d] }
  | _ => none }
def commandTakesRow : OpenClaim := { program := "ytodfgekhffeapaa", sum := "70a5cfe05487d22136dbec49e6449bd94bdd2bcd0c86a54b3b109bfe35a596ce", func := "ricochet/ricochetlaw09.CommandTakes", spec := "commandTakes", apart := false }
def CommandTakesSaid : Prop := commandTakesRow.holds Try.pinned (OpenSpec.ofChange commandTakesSpec)

/-- ITS FALSE NEIGHBOUR: 'it returns false'. Refute it at one input. -/
def commandTakesWrong : ChangeSpec := { name := "commandTakes", fn := fun _ => fun
  | [d] => { results := [.lit (.bool false)], args := [d] }
  | _ => none }
def CommandTakesWrongFalsely : Prop := commandTakesRow.holds Try.pinned (OpenSpec.ofChange commandTakesWrong)

/-- 'ricochetlaw09.CommandBack': WHATEVER THE INPUT: true; the input reads as it did. -/
def commandBackSpec : ChangeSpec := { name := "commandBack", fn := fun _ => fun
  | [d1, d2] => { results := [.lit (.bool true)], args := [d1, d2] }
  | _ => none }
def commandBackRow : OpenClaim := { program := "ytodfgekhffeapaa", sum := "70a5cfe05487d22136dbec49e6449bd94bdd2bcd0c86a54b3b109bfe35a596ce", func := "ricochet/ricochetlaw09.CommandBack", spec := "commandBack", apart := false }
def CommandBackSaid : Prop := commandBackRow.holds Try.pinned (OpenSpec.ofChange commandBackSpec)

/-- ITS FALSE NEIGHBOUR: 'it returns false'. Refute it at one input. -/
def commandBackWrong : ChangeSpec := { name := "commandBack", fn := fun _ => fun
  | [d1, d2] => { results := [.lit (.bool false)], args := [d1, d2] }
  | _ => none }
def CommandBackWrongFalsely : Prop := commandBackRow.holds Try.pinned (OpenSpec.ofChange commandBackWrong)

/-- 'ricochetlaw09.CommandRows': WHATEVER THE INPUT: true; the input reads as it did. -/
def commandRowsSpec : ChangeSpec := { name := "commandRows", fn := fun _ => fun
  | [d1, d2] => { results := [.lit (.bool true)], args := [d1, d2] }
  | _ => none }
def commandRowsRow : OpenClaim := { program := "ytodfgekhffeapaa", sum := "70a5cfe05487d22136dbec49e6449bd94bdd2bcd0c86a54b3b109bfe35a596ce", func := "ricochet/ricochetlaw09.CommandRows", spec := "commandRows", apart := false }
def CommandRowsSaid : Prop := commandRowsRow.holds Try.pinned (OpenSpec.ofChange commandRowsSpec)

/-- ITS FALSE NEIGHBOUR: 'it returns false'. Refute it at one input. -/
def commandRowsWrong : ChangeSpec := { name := "commandRows", fn := fun _ => fun
  | [d1, d2] => { results := [.lit (.bool false)], args := [d1, d2] }
  | _ => none }
def CommandRowsWrongFalsely : Prop := commandRowsRow.holds Try.pinned (OpenSpec.ofChange commandRowsWrong)

/-- 'ricochetlaw09.CommandSizes': WHATEVER THE INPUT: true; the input reads as it did. -/
def commandSizesSpec : ChangeSpec := { name := "commandSizes", fn := fun _ => fun
  | [d] => { results := [.lit (.bool true)], args := [d] }
  | _ => none }
def commandSizesRow : OpenClaim := { program := "ytodfgekhffeapaa", sum := "70a5cfe05487d22136dbec49e6449bd94bdd2bcd0c86a54b3b109bfe35a596ce", func := "ricochet/ricochetlaw09.CommandSizes", spec := "commandSizes", apart := false }
def CommandSizesSaid : Prop := commandSizesRow.holds Try.pinned (OpenSpec.ofChange commandSizesSpec)

/-- ITS FALSE NEIGHBOUR: 'it returns false'. Refute it at one input. -/
def commandSizesWrong : ChangeSpec := { name := "commandSizes", fn := fun _ => fun
  | [d] => { results := [.lit (.bool false)], args := [d] }
  | _ => none }
def CommandSizesWrongFalsely : Prop := commandSizesRow.holds Try.pinned (OpenSpec.ofChange commandSizesWrong)

/-- 'ricochetlaw09.CommandCuts': WHATEVER THE INPUT: true; the input reads as it did. -/
def commandCutsSpec : ChangeSpec := { name := "commandCuts", fn := fun _ => fun
  | [d] => { results := [.lit (.bool true)], args := [d] }
  | _ => none }
def commandCutsRow : OpenClaim := { program := "ytodfgekhffeapaa", sum := "70a5cfe05487d22136dbec49e6449bd94bdd2bcd0c86a54b3b109bfe35a596ce", func := "ricochet/ricochetlaw09.CommandCuts", spec := "commandCuts", apart := false }
def CommandCutsSaid : Prop := commandCutsRow.holds Try.pinned (OpenSpec.ofChange commandCutsSpec)

/-- ITS FALSE NEIGHBOUR: 'it returns false'. Refute it at one input. -/
def commandCutsWrong : ChangeSpec := { name := "commandCuts", fn := fun _ => fun
  | [d] => { results := [.lit (.bool false)], args := [d] }
  | _ => none }
def CommandCutsWrongFalsely : Prop := commandCutsRow.holds Try.pinned (OpenSpec.ofChange commandCutsWrong)

/- THE SECOND FORM. 'bulk': how many values and letters a reading holds, each counted each time it is reached (what is shared counts as often as it is met; a slice's spare places count too). A statement '..UptoSaid' is the law's where the arguments, and the package variables that the reading takes, are together of bulk at most 1048576: NARROWER than '..Said'. Prove '..Said' where nothing that the law and all that it calls make is longer than what came in: it says more and counts as full. Else prove '..UptoSaid'. A law counts once. -/
mutual
def uptoBulk {H : Type} : DataW H → Nat
  | .lit (.string bytes) => bytes.length + 1
  | .lit _ => 1
  | .nil => 1
  | .ptr d => uptoBulk d + 1
  | .slice elems spare => uptoBulkAll elems + uptoBulkAll spare + 1
  | .agg parts => uptoBulkAll parts + 1
  | .iface _ d => uptoBulk d + 1
  | .map entries => uptoBulkEntries entries + 1
  | .held _ => 1
def uptoBulkAll {H : Type} : List (DataW H) → Nat
  | [] => 0
  | d :: r => uptoBulk d + uptoBulkAll r
def uptoBulkEntries {H : Type} : List (Lit × DataW H) → Nat
  | [] => 0
  | x :: r => uptoBulkEntry x + uptoBulkEntries r
def uptoBulkEntry {H : Type} : Lit × DataW H → Nat
  | (.string bytes, d) => bytes.length + uptoBulk d + 1
  | (_, d) => uptoBulk d + 1
 end
def uptoSmall : (H : Type) → List (DataW H) → Bool := fun _ ds => decide (uptoBulkAll ds ≤ 1048576)
def OpenSpec.upto (s : _root_.Go.ChangeSpec) : _root_.Go.OpenSpec := { _root_.Go.OpenSpec.ofChange s with cond := some uptoSmall }

/-- 'ricochetlaw09.CommandForms', WHERE WHAT IT READS IS OF BULK AT MOST 1048576: true; the input reads as it did. -/
def commandFormsUptoRow : OpenClaim := { program := "ytodfgekhffeapaa", sum := "70a5cfe05487d22136dbec49e6449bd94bdd2bcd0c86a54b3b109bfe35a596ce", func := "ricochet/ricochetlaw09.CommandForms", spec := "commandForms", apart := false, narrowed := true }
def CommandFormsUptoSaid : Prop := commandFormsUptoRow.holds Try.pinned (OpenSpec.upto commandFormsSpec)

/-- 'ricochetlaw09.CommandTakes', WHERE WHAT IT READS IS OF BULK AT MOST 1048576: true; the input reads as it did. -/
def commandTakesUptoRow : OpenClaim := { program := "ytodfgekhffeapaa", sum := "70a5cfe05487d22136dbec49e6449bd94bdd2bcd0c86a54b3b109bfe35a596ce", func := "ricochet/ricochetlaw09.CommandTakes", spec := "commandTakes", apart := false, narrowed := true }
def CommandTakesUptoSaid : Prop := commandTakesUptoRow.holds Try.pinned (OpenSpec.upto commandTakesSpec)

/-- 'ricochetlaw09.CommandBack', WHERE WHAT IT READS IS OF BULK AT MOST 1048576: true; the input reads as it did. -/
def commandBackUptoRow : OpenClaim := { program := "ytodfgekhffeapaa", sum := "70a5cfe05487d22136dbec49e6449bd94bdd2bcd0c86a54b3b109bfe35a596ce", func := "ricochet/ricochetlaw09.CommandBack", spec := "commandBack", apart := false, narrowed := true }
def CommandBackUptoSaid : Prop := commandBackUptoRow.holds Try.pinned (OpenSpec.upto commandBackSpec)

/-- 'ricochetlaw09.CommandRows', WHERE WHAT IT READS IS OF BULK AT MOST 1048576: true; the input reads as it did. -/
def commandRowsUptoRow : OpenClaim := { program := "ytodfgekhffeapaa", sum := "70a5cfe05487d22136dbec49e6449bd94bdd2bcd0c86a54b3b109bfe35a596ce", func := "ricochet/ricochetlaw09.CommandRows", spec := "commandRows", apart := false, narrowed := true }
def CommandRowsUptoSaid : Prop := commandRowsUptoRow.holds Try.pinned (OpenSpec.upto commandRowsSpec)

/-- 'ricochetlaw09.CommandSizes', WHERE WHAT IT READS IS OF BULK AT MOST 1048576: true; the input reads as it did. -/
def commandSizesUptoRow : OpenClaim := { program := "ytodfgekhffeapaa", sum := "70a5cfe05487d22136dbec49e6449bd94bdd2bcd0c86a54b3b109bfe35a596ce", func := "ricochet/ricochetlaw09.CommandSizes", spec := "commandSizes", apart := false, narrowed := true }
def CommandSizesUptoSaid : Prop := commandSizesUptoRow.holds Try.pinned (OpenSpec.upto commandSizesSpec)

/-- 'ricochetlaw09.CommandCuts', WHERE WHAT IT READS IS OF BULK AT MOST 1048576: true; the input reads as it did. -/
def commandCutsUptoRow : OpenClaim := { program := "ytodfgekhffeapaa", sum := "70a5cfe05487d22136dbec49e6449bd94bdd2bcd0c86a54b3b109bfe35a596ce", func := "ricochet/ricochetlaw09.CommandCuts", spec := "commandCuts", apart := false, narrowed := true }
def CommandCutsUptoSaid : Prop := commandCutsUptoRow.holds Try.pinned (OpenSpec.upto commandCutsSpec)

end Rows
end Go.Proofs.Ytodfgekhffeapaa

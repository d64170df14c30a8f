/-
  No cell of these rows narrows 'for every input' (looked for: loops, veiled, ifaces, maps, wideKeys, modest, calm, conditions, laid).
  DERIVED. THE GIVEN ROWS OF THIS SEAT. 7 by the template 'for every input the law returns true; each argument reads behind the call as it read before'; 0 by the template 'total and deterministic' (their statements: YtecjfenpdpdanaaTotals.lean).
  GIVEN WITH THE SEED: the statements are not yours to turn. If you find one false, say at which input.
  Laid BY PROGRAM, IN A SANDBOX (cutbox-rows.mjs): the forced cells as the released guide's own fill.sh prints them over the translation 9c5f0d428d63a6ad… (all of the seat's roots in one cut). By AI agents, Wed Nov 11 2026. No macro, syntax, notation, axiom, sorry.
-/
import Derived.Test.YtecjfenpdpdanaaChecked
import GoSem.Claim
import GoSem.ClaimJoined
import GoSem.ClaimMapViews
import Derived.JoinedTies
import Derived.KernelRfl
namespace Go.Proofs.Ytecjfenpdpdanaa
/- THE CELL 'sum', in the pinned program and in every row, IS THE sha256 OF THE DUMP (.gsa) THAT YtecjfenpdpdanaaProg.lean LOADS. Nothing in Lean hashes anything: it is a label: what it is worth is what the hold of that sum in a sandbox is worth. -/
noncomputable def Try.pinned : Pinned := { name := "ytecjfenpdpdanaa", sum := "9c5f0d428d63a6add7c254f52c2cef63506ff4a1c26235def3ce3a9b5ee18f0b", checked := Try.checked }
namespace Rows
def none {H : Type} : Left H := { results := [], args := [] }

/-- 'ricochetlaw11.TilesReads': WHATEVER THE INPUT: true; the input reads as it did. -/
def tilesReadsSpec : ChangeSpec := { name := "tilesReads", fn := fun _ => fun
  | [d] => { results := [.lit (.bool true)], args := [d] }
  | _ => none }
def tilesReadsRow : OpenClaim := { program := "ytecjfenpdpdanaa", sum := "9c5f0d428d63a6add7c254f52c2cef63506ff4a1c26235def3ce3a9b5ee18f0b", func := "ricochet/ricochetlaw11.TilesReads", spec := "tilesReads", apart := false }
def TilesReadsSaid : Prop := tilesReadsRow.holds Try.pinned (OpenSpec.ofChange tilesReadsSpec)

/-- ITS FALSE NEIGHBOUR: 'it returns false'. Refute it at one input. -/
def tilesReadsWrong : ChangeSpec := { name := "tilesReads", fn := fun _ => fun
  | [d] => { results := [.lit (.bool false)], args := [d] }
  | _ => none }
def TilesReadsWrongFalsely : Prop := tilesReadsRow.holds Try.pinned (OpenSpec.ofChange tilesReadsWrong)

/-- 'ricochetlaw11.TilesTells': WHATEVER THE INPUT: true; the input reads as it did. -/
def tilesTellsSpec : ChangeSpec := { name := "tilesTells", fn := fun _ => fun
  | [d1, d2, d3] => { results := [.lit (.bool true)], args := [d1, d2, d3] }
  | _ => none }
def tilesTellsRow : OpenClaim := { program := "ytecjfenpdpdanaa", sum := "9c5f0d428d63a6add7c254f52c2cef63506ff4a1c26235def3ce3a9b5ee18f0b", func := "ricochet/ricochetlaw11.TilesTells", spec := "tilesTells", apart := false }
def TilesTellsSaid : Prop := tilesTellsRow.holds Try.pinned (OpenSpec.ofChange tilesTellsSpec)

/-- ITS FALSE NEIGHBOUR: 'it returns false'. Refute it at one input. -/
def tilesTellsWrong : ChangeSpec := { name := "tilesTells", fn := fun _ => fun
  | [d1, d2, d3] => { results := [.lit (.bool false)], args := [d1, d2, d3] }
  | _ => none }
def TilesTellsWrongFalsely : Prop := tilesTellsRow.holds Try.pinned (OpenSpec.ofChange tilesTellsWrong)

/-- 'ricochetlaw11.TilesFree': WHATEVER THE INPUT: true; the input reads as it did. -/
def tilesFreeSpec : ChangeSpec := { name := "tilesFree", fn := fun _ => fun
  | [d1, d2] => { results := [.lit (.bool true)], args := [d1, d2] }
  | _ => none }
def tilesFreeRow : OpenClaim := { program := "ytecjfenpdpdanaa", sum := "9c5f0d428d63a6add7c254f52c2cef63506ff4a1c26235def3ce3a9b5ee18f0b", func := "ricochet/ricochetlaw11.TilesFree", spec := "tilesFree", apart := false }
def TilesFreeSaid : Prop := tilesFreeRow.holds Try.pinned (OpenSpec.ofChange tilesFreeSpec)

/-- ITS FALSE NEIGHBOUR: 'it returns false'. Refute it at one input. -/
def tilesFreeWrong : ChangeSpec := { name := "tilesFree", fn := fun _ => fun
  | [d1, d2] => { results := [.lit (.bool false)], args := [d1, d2] }
  | _ => none }
def TilesFreeWrongFalsely : Prop := tilesFreeRow.holds Try.pinned (OpenSpec.ofChange tilesFreeWrong)

/-- 'ricochetlaw11.TilesBack': WHATEVER THE INPUT: true; the input reads as it did. -/
def tilesBackSpec : ChangeSpec := { name := "tilesBack", fn := fun _ => fun
  | [d1, d2] => { results := [.lit (.bool true)], args := [d1, d2] }
  | _ => none }
def tilesBackRow : OpenClaim := { program := "ytecjfenpdpdanaa", sum := "9c5f0d428d63a6add7c254f52c2cef63506ff4a1c26235def3ce3a9b5ee18f0b", func := "ricochet/ricochetlaw11.TilesBack", spec := "tilesBack", apart := false }
def TilesBackSaid : Prop := tilesBackRow.holds Try.pinned (OpenSpec.ofChange tilesBackSpec)

/-- ITS FALSE NEIGHBOUR: 'it returns false'. Refute it at one input. -/
def tilesBackWrong : ChangeSpec := { name := "tilesBack", fn := fun _ => fun
  | [d1, d2] => { results := [.lit (.bool false)], args := [d1, d2] }
  | _ => none }
def TilesBackWrongFalsely : Prop := tilesBackRow.holds Try.pinned (OpenSpec.ofChange tilesBackWrong)

/-- 'ricochetlaw11.TilesCuts': WHATEVER THE INPUT: true; the input reads as it did. -/
def tilesCutsSpec : ChangeSpec := { name := "tilesCuts", fn := fun _ => fun
  | [d1, d2] => { results := [.lit (.bool true)], args := [d1, d2] }
  | _ => none }
def tilesCutsRow : OpenClaim := { program := "ytecjfenpdpdanaa", sum := "9c5f0d428d63a6add7c254f52c2cef63506ff4a1c26235def3ce3a9b5ee18f0b", func := "ricochet/ricochetlaw11.TilesCuts", spec := "tilesCuts", apart := false }
def TilesCutsSaid : Prop := tilesCutsRow.holds Try.pinned (OpenSpec.ofChange tilesCutsSpec)

/-- ITS FALSE NEIGHBOUR: 'it returns false'. Refute it at one input. -/
def tilesCutsWrong : ChangeSpec := { name := "tilesCuts", fn := fun _ => fun
  | [d1, d2] => { results := [.lit (.bool false)], args := [d1, d2] }
  | _ => none }
def TilesCutsWrongFalsely : Prop := tilesCutsRow.holds Try.pinned (OpenSpec.ofChange tilesCutsWrong)

/-- 'ricochetlaw11.TilesTiles': WHATEVER THE INPUT: true; the input reads as it did. -/
def tilesTilesSpec : ChangeSpec := { name := "tilesTiles", fn := fun _ => fun
  | [d1, d2, d3] => { results := [.lit (.bool true)], args := [d1, d2, d3] }
  | _ => none }
def tilesTilesRow : OpenClaim := { program := "ytecjfenpdpdanaa", sum := "9c5f0d428d63a6add7c254f52c2cef63506ff4a1c26235def3ce3a9b5ee18f0b", func := "ricochet/ricochetlaw11.TilesTiles", spec := "tilesTiles", apart := false }
def TilesTilesSaid : Prop := tilesTilesRow.holds Try.pinned (OpenSpec.ofChange tilesTilesSpec)

/-- ITS FALSE NEIGHBOUR: 'it returns false'. Refute it at one input. -/
def tilesTilesWrong : ChangeSpec := { name := "tilesTiles", fn := fun _ => fun
  | [d1, d2, d3] => { results := [.lit (.bool false)], args := [d1, d2, d3] }
  | _ => none }
def TilesTilesWrongFalsely : Prop := tilesTilesRow.holds Try.pinned (OpenSpec.ofChange tilesTilesWrong)

/-- 'ricochetlaw11.TilesLess': WHATEVER THE INPUT: true; the input reads as it did. -/
def tilesLessSpec : ChangeSpec := { name := "tilesLess", fn := fun _ => fun
  | [d1, d2, d3] => { results := [.lit (.bool true)], args := [d1, d2, d3] }
  | _ => none }
def tilesLessRow : OpenClaim := { program := "ytecjfenpdpdanaa", sum := "9c5f0d428d63a6add7c254f52c2cef63506ff4a1c26235def3ce3a9b5ee18f0b", func := "ricochet/ricochetlaw11.TilesLess", spec := "tilesLess", apart := false }
def TilesLessSaid : Prop := tilesLessRow.holds Try.pinned (OpenSpec.ofChange tilesLessSpec)

/-- ITS FALSE NEIGHBOUR: 'it returns false'. Refute it at one input. -/
def tilesLessWrong : ChangeSpec := { name := "tilesLess", fn := fun _ => fun
  | [d1, d2, d3] => { results := [.lit (.bool false)], args := [d1, d2, d3] }
  | _ => none }
def TilesLessWrongFalsely : Prop := tilesLessRow.holds Try.pinned (OpenSpec.ofChange tilesLessWrong)

/- THE SECOND FORM. 'bulk': how many values and letters a reading holds, each counted each time it is reached (what is shared counts as often as it is met; a slice's spare places count too). A statement '..UptoSaid' is the law's where the arguments, and the package variables that the reading takes, are together of bulk at most 1048576: NARROWER than '..Said'. Prove '..Said' where nothing that the law and all that it calls make is longer than what came in: it says more and counts as full. Else prove '..UptoSaid'. A law counts once. -/
mutual
def uptoBulk {H : Type} : DataW H → Nat
  | .lit (.string bytes) => bytes.length + 1
  | .lit _ => 1
  | .nil => 1
  | .ptr d => uptoBulk d + 1
  | .slice elems spare => uptoBulkAll elems + uptoBulkAll spare + 1
  | .agg parts => uptoBulkAll parts + 1
  | .iface _ d => uptoBulk d + 1
  | .map entries => uptoBulkEntries entries + 1
  | .held _ => 1
def uptoBulkAll {H : Type} : List (DataW H) → Nat
  | [] => 0
  | d :: r => uptoBulk d + uptoBulkAll r
def uptoBulkEntries {H : Type} : List (Lit × DataW H) → Nat
  | [] => 0
  | x :: r => uptoBulkEntry x + uptoBulkEntries r
def uptoBulkEntry {H : Type} : Lit × DataW H → Nat
  | (.string bytes, d) => bytes.length + uptoBulk d + 1
  | (_, d) => uptoBulk d + 1
 end
def uptoSmall : (H : Type) → List (DataW H) → Bool := fun _ ds => decide (uptoBulkAll ds ≤ 1048576)
def OpenSpec.upto (s : _root_.Go.ChangeSpec) : _root_.Go.OpenSpec := { _root_.Go.OpenSpec.ofChange s with cond := some uptoSmall }

/-- 'ricochetlaw11.TilesReads', WHERE WHAT IT READS IS OF BULK AT MOST 1048576: true; the input reads as it did. -/
def tilesReadsUptoRow : OpenClaim := { program := "ytecjfenpdpdanaa", sum := "9c5f0d428d63a6add7c254f52c2cef63506ff4a1c26235def3ce3a9b5ee18f0b", func := "ricochet/ricochetlaw11.TilesReads", spec := "tilesReads", apart := false, narrowed := true }
def TilesReadsUptoSaid : Prop := tilesReadsUptoRow.holds Try.pinned (OpenSpec.upto tilesReadsSpec)

/-- 'ricochetlaw11.TilesTells', WHERE WHAT IT READS IS OF BULK AT MOST 1048576: true; the input reads as it did. -/
def tilesTellsUptoRow : OpenClaim := { program := "ytecjfenpdpdanaa", sum := "9c5f0d428d63a6add7c254f52c2cef63506ff4a1c26235def3ce3a9b5ee18f0b", func := "ricochet/ricochetlaw11.TilesTells", spec := "tilesTells", apart := false, narrowed := true }
def TilesTellsUptoSaid : Prop := tilesTellsUptoRow.holds Try.pinned (OpenSpec.upto tilesTellsSpec)

/-- 'ricochetlaw11.TilesFree', WHERE WHAT IT READS IS OF BULK AT MOST 1048576: true; the input reads as it did. -/
def tilesFreeUptoRow : OpenClaim := { program := "ytecjfenpdpdanaa", sum := "9c5f0d428d63a6add7c254f52c2cef63506ff4a1c26235def3ce3a9b5ee18f0b", func := "ricochet/ricochetlaw11.TilesFree", spec := "tilesFree", apart := false, narrowed := true }
def TilesFreeUptoSaid : Prop := tilesFreeUptoRow.holds Try.pinned (OpenSpec.upto tilesFreeSpec)

/-- 'ricochetlaw11.TilesBack', WHERE WHAT IT READS IS OF BULK AT MOST 1048576: true; the input reads as it did. -/
def tilesBackUptoRow : OpenClaim := { program := "ytecjfenpdpdanaa", sum := "9c5f0d428d63a6add7c254f52c2cef63506ff4a1c26235def3ce3a9b5ee18f0b", func := "ricochet/ricochetlaw11.TilesBack", spec := "tilesBack", apart := false, narrowed := true }
def TilesBackUptoSaid : Prop := tilesBackUptoRow.holds Try.pinned (OpenSpec.upto tilesBackSpec)

/-- 'ricochetlaw11.TilesCuts', WHERE WHAT IT READS IS OF BULK AT MOST 1048576: true; the input reads as it did. -/
def tilesCutsUptoRow : OpenClaim := { program := "ytecjfenpdpdanaa", sum := "9c5f0d428d63a6add7c254f52c2cef63506ff4a1c26235def3ce3a9b5ee18f0b", func := "ricochet/ricochetlaw11.TilesCuts", spec := "tilesCuts", apart := false, narrowed := true }
def TilesCutsUptoSaid : Prop := tilesCutsUptoRow.holds Try.pinned (OpenSpec.upto tilesCutsSpec)

/-- 'ricochetlaw11.TilesTiles', WHERE WHAT IT READS IS OF BULK AT MOST 1048576: true; the input reads as it did. -/
def tilesTilesUptoRow : OpenClaim := { program := "ytecjfenpdpdanaa", sum := "9c5f0d428d63a6add7c254f52c2cef63506ff4a1c26235def3ce3a9b5ee18f0b", func := "ricochet/ricochetlaw11.TilesTiles", spec := "tilesTiles", apart := false, narrowed := true }
def TilesTilesUptoSaid : Prop := tilesTilesUptoRow.holds Try.pinned (OpenSpec.upto tilesTilesSpec)

/-- 'ricochetlaw11.TilesLess', WHERE WHAT IT READS IS OF BULK AT MOST 1048576: true; the input reads as it did. -/
def tilesLessUptoRow : OpenClaim := { program := "ytecjfenpdpdanaa", sum := "9c5f0d428d63a6add7c254f52c2cef63506ff4a1c26235def3ce3a9b5ee18f0b", func := "ricochet/ricochetlaw11.TilesLess", spec := "tilesLess", apart := false, narrowed := true }
def TilesLessUptoSaid : Prop := tilesLessUptoRow.holds Try.pinned (OpenSpec.upto tilesLessSpec)

end Rows
end Go.Proofs.Ytecjfenpdpdanaa

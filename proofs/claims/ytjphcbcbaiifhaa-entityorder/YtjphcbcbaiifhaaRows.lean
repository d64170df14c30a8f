/-
  No cell of these rows narrows 'for every input' (looked for: loops, veiled, ifaces, maps, wideKeys, modest, calm, conditions, laid).
  DERIVED. THE GIVEN ROWS OF THIS SEAT. 6 by the template 'for every input the law returns true; each argument reads behind the call as it read before'; 0 by the template 'total and deterministic' (their statements: YtjphcbcbaiifhaaTotals.lean).
  GIVEN WITH THE SEED: the statements are not yours to turn. If you find one false, say at which input.
  Laid BY PROGRAM, IN A SANDBOX (cutbox-rows.mjs): the forced cells as the released guide's own fill.sh prints them over the translation 579471a16dc42e8f… (all of the seat's roots in one cut). By AI agents, Wed Nov 11 2026. No macro, syntax, notation, axiom, sorry.
-/
import Derived.Test.YtjphcbcbaiifhaaChecked
import GoSem.Claim
import GoSem.ClaimJoined
import GoSem.ClaimMapViews
import Derived.JoinedTies
import Derived.KernelRfl
namespace Go.Proofs.Ytjphcbcbaiifhaa
/- THE CELL 'sum', in the pinned program and in every row, IS THE sha256 OF THE DUMP (.gsa) THAT YtjphcbcbaiifhaaProg.lean LOADS. Nothing in Lean hashes anything: it is a label: what it is worth is what the hold of that sum in a sandbox is worth. -/
noncomputable def Try.pinned : Pinned := { name := "ytjphcbcbaiifhaa", sum := "579471a16dc42e8ffa57ef37ee861738731994c1674a288d2d60bd66b4cb4f3b", checked := Try.checked }
namespace Rows
def none {H : Type} : Left H := { results := [], args := [] }

/-- 'ricochetlaw10.EntityForms': WHATEVER THE INPUT: true; the input reads as it did. -/
def entityFormsSpec : ChangeSpec := { name := "entityForms", fn := fun _ => fun
  | [d1, d2] => { results := [.lit (.bool true)], args := [d1, d2] }
  | _ => none }
def entityFormsRow : OpenClaim := { program := "ytjphcbcbaiifhaa", sum := "579471a16dc42e8ffa57ef37ee861738731994c1674a288d2d60bd66b4cb4f3b", func := "ricochet/ricochetlaw10.EntityForms", spec := "entityForms", apart := false }
def EntityFormsSaid : Prop := entityFormsRow.holds Try.pinned (OpenSpec.ofChange entityFormsSpec)

/-- ITS FALSE NEIGHBOUR: 'it returns false'. Refute it at one input. -/
def entityFormsWrong : ChangeSpec := { name := "entityForms", fn := fun _ => fun
  | [d1, d2] => { results := [.lit (.bool false)], args := [d1, d2] }
  | _ => none }
def EntityFormsWrongFalsely : Prop := entityFormsRow.holds Try.pinned (OpenSpec.ofChange entityFormsWrong)

/-- 'ricochetlaw10.EntityPuts': WHATEVER THE INPUT: true; the input reads as it did. -/
def entityPutsSpec : ChangeSpec := { name := "entityPuts", fn := fun _ => fun
  | [d1, d2] => { results := [.lit (.bool true)], args := [d1, d2] }
  | _ => none }
def entityPutsRow : OpenClaim := { program := "ytjphcbcbaiifhaa", sum := "579471a16dc42e8ffa57ef37ee861738731994c1674a288d2d60bd66b4cb4f3b", func := "ricochet/ricochetlaw10.EntityPuts", spec := "entityPuts", apart := false }
def EntityPutsSaid : Prop := entityPutsRow.holds Try.pinned (OpenSpec.ofChange entityPutsSpec)

/-- ITS FALSE NEIGHBOUR: 'it returns false'. Refute it at one input. -/
def entityPutsWrong : ChangeSpec := { name := "entityPuts", fn := fun _ => fun
  | [d1, d2] => { results := [.lit (.bool false)], args := [d1, d2] }
  | _ => none }
def EntityPutsWrongFalsely : Prop := entityPutsRow.holds Try.pinned (OpenSpec.ofChange entityPutsWrong)

/-- 'ricochetlaw10.EntityTakes': WHATEVER THE INPUT: true; the input reads as it did. -/
def entityTakesSpec : ChangeSpec := { name := "entityTakes", fn := fun _ => fun
  | [d1, d2] => { results := [.lit (.bool true)], args := [d1, d2] }
  | _ => none }
def entityTakesRow : OpenClaim := { program := "ytjphcbcbaiifhaa", sum := "579471a16dc42e8ffa57ef37ee861738731994c1674a288d2d60bd66b4cb4f3b", func := "ricochet/ricochetlaw10.EntityTakes", spec := "entityTakes", apart := false }
def EntityTakesSaid : Prop := entityTakesRow.holds Try.pinned (OpenSpec.ofChange entityTakesSpec)

/-- ITS FALSE NEIGHBOUR: 'it returns false'. Refute it at one input. -/
def entityTakesWrong : ChangeSpec := { name := "entityTakes", fn := fun _ => fun
  | [d1, d2] => { results := [.lit (.bool false)], args := [d1, d2] }
  | _ => none }
def EntityTakesWrongFalsely : Prop := entityTakesRow.holds Try.pinned (OpenSpec.ofChange entityTakesWrong)

/-- 'ricochetlaw10.EntityBack': WHATEVER THE INPUT: true; the input reads as it did. -/
def entityBackSpec : ChangeSpec := { name := "entityBack", fn := fun _ => fun
  | [d1, d2] => { results := [.lit (.bool true)], args := [d1, d2] }
  | _ => none }
def entityBackRow : OpenClaim := { program := "ytjphcbcbaiifhaa", sum := "579471a16dc42e8ffa57ef37ee861738731994c1674a288d2d60bd66b4cb4f3b", func := "ricochet/ricochetlaw10.EntityBack", spec := "entityBack", apart := false }
def EntityBackSaid : Prop := entityBackRow.holds Try.pinned (OpenSpec.ofChange entityBackSpec)

/-- ITS FALSE NEIGHBOUR: 'it returns false'. Refute it at one input. -/
def entityBackWrong : ChangeSpec := { name := "entityBack", fn := fun _ => fun
  | [d1, d2] => { results := [.lit (.bool false)], args := [d1, d2] }
  | _ => none }
def EntityBackWrongFalsely : Prop := entityBackRow.holds Try.pinned (OpenSpec.ofChange entityBackWrong)

/-- 'ricochetlaw10.EntityOrder': WHATEVER THE INPUT: true; the input reads as it did. -/
def entityOrderSpec : ChangeSpec := { name := "entityOrder", fn := fun _ => fun
  | [d1, d2] => { results := [.lit (.bool true)], args := [d1, d2] }
  | _ => none }
def entityOrderRow : OpenClaim := { program := "ytjphcbcbaiifhaa", sum := "579471a16dc42e8ffa57ef37ee861738731994c1674a288d2d60bd66b4cb4f3b", func := "ricochet/ricochetlaw10.EntityOrder", spec := "entityOrder", apart := false }
def EntityOrderSaid : Prop := entityOrderRow.holds Try.pinned (OpenSpec.ofChange entityOrderSpec)

/-- ITS FALSE NEIGHBOUR: 'it returns false'. Refute it at one input. -/
def entityOrderWrong : ChangeSpec := { name := "entityOrder", fn := fun _ => fun
  | [d1, d2] => { results := [.lit (.bool false)], args := [d1, d2] }
  | _ => none }
def EntityOrderWrongFalsely : Prop := entityOrderRow.holds Try.pinned (OpenSpec.ofChange entityOrderWrong)

/-- 'ricochetlaw10.EntityKind': WHATEVER THE INPUT: true; the input reads as it did. -/
def entityKindSpec : ChangeSpec := { name := "entityKind", fn := fun _ => fun
  | [d1, d2] => { results := [.lit (.bool true)], args := [d1, d2] }
  | _ => none }
def entityKindRow : OpenClaim := { program := "ytjphcbcbaiifhaa", sum := "579471a16dc42e8ffa57ef37ee861738731994c1674a288d2d60bd66b4cb4f3b", func := "ricochet/ricochetlaw10.EntityKind", spec := "entityKind", apart := false }
def EntityKindSaid : Prop := entityKindRow.holds Try.pinned (OpenSpec.ofChange entityKindSpec)

/-- ITS FALSE NEIGHBOUR: 'it returns false'. Refute it at one input. -/
def entityKindWrong : ChangeSpec := { name := "entityKind", fn := fun _ => fun
  | [d1, d2] => { results := [.lit (.bool false)], args := [d1, d2] }
  | _ => none }
def EntityKindWrongFalsely : Prop := entityKindRow.holds Try.pinned (OpenSpec.ofChange entityKindWrong)

/- THE SECOND FORM. 'bulk': how many values and letters a reading holds, each counted each time it is reached (what is shared counts as often as it is met; a slice's spare places count too). A statement '..UptoSaid' is the law's where the arguments, and the package variables that the reading takes, are together of bulk at most 1048576: NARROWER than '..Said'. Prove '..Said' where nothing that the law and all that it calls make is longer than what came in: it says more and counts as full. Else prove '..UptoSaid'. A law counts once. -/
mutual
def uptoBulk {H : Type} : DataW H → Nat
  | .lit (.string bytes) => bytes.length + 1
  | .lit _ => 1
  | .nil => 1
  | .ptr d => uptoBulk d + 1
  | .slice elems spare => uptoBulkAll elems + uptoBulkAll spare + 1
  | .agg parts => uptoBulkAll parts + 1
  | .iface _ d => uptoBulk d + 1
  | .map entries => uptoBulkEntries entries + 1
  | .held _ => 1
def uptoBulkAll {H : Type} : List (DataW H) → Nat
  | [] => 0
  | d :: r => uptoBulk d + uptoBulkAll r
def uptoBulkEntries {H : Type} : List (Lit × DataW H) → Nat
  | [] => 0
  | x :: r => uptoBulkEntry x + uptoBulkEntries r
def uptoBulkEntry {H : Type} : Lit × DataW H → Nat
  | (.string bytes, d) => bytes.length + uptoBulk d + 1
  | (_, d) => uptoBulk d + 1
 end
def uptoSmall : (H : Type) → List (DataW H) → Bool := fun _ ds => decide (uptoBulkAll ds ≤ 1048576)
def OpenSpec.upto (s : _root_.Go.ChangeSpec) : _root_.Go.OpenSpec := { _root_.Go.OpenSpec.ofChange s with cond := some uptoSmall }

/-- 'ricochetlaw10.EntityForms', WHERE WHAT IT READS IS OF BULK AT MOST 1048576: true; the input reads as it did. -/
def entityFormsUptoRow : OpenClaim := { program := "ytjphcbcbaiifhaa", sum := "579471a16dc42e8ffa57ef37ee861738731994c1674a288d2d60bd66b4cb4f3b", func := "ricochet/ricochetlaw10.EntityForms", spec := "entityForms", apart := false, narrowed := true }
def EntityFormsUptoSaid : Prop := entityFormsUptoRow.holds Try.pinned (OpenSpec.upto entityFormsSpec)

/-- 'ricochetlaw10.EntityPuts', WHERE WHAT IT READS IS OF BULK AT MOST 1048576: true; the input reads as it did. -/
def entityPutsUptoRow : OpenClaim := { program := "ytjphcbcbaiifhaa", sum := "579471a16dc42e8ffa57ef37ee861738731994c1674a288d2d60bd66b4cb4f3b", func := "ricochet/ricochetlaw10.EntityPuts", spec := "entityPuts", apart := false, narrowed := true }
def EntityPutsUptoSaid : Prop := entityPutsUptoRow.holds Try.pinned (OpenSpec.upto entityPutsSpec)

/-- 'ricochetlaw10.EntityTakes', WHERE WHAT IT READS IS OF BULK AT MOST 1048576: true; the input reads as it did. -/
def entityTakesUptoRow : OpenClaim := { program := "ytjphcbcbaiifhaa", sum := "579471a16dc42e8ffa57ef37ee861738731994c1674a288d2d60bd66b4cb4f3b", func := "ricochet/ricochetlaw10.EntityTakes", spec := "entityTakes", apart := false, narrowed := true }
def EntityTakesUptoSaid : Prop := entityTakesUptoRow.holds Try.pinned (OpenSpec.upto entityTakesSpec)

/-- 'ricochetlaw10.EntityBack', WHERE WHAT IT READS IS OF BULK AT MOST 1048576: true; the input reads as it did. -/
def entityBackUptoRow : OpenClaim := { program := "ytjphcbcbaiifhaa", sum := "579471a16dc42e8ffa57ef37ee861738731994c1674a288d2d60bd66b4cb4f3b", func := "ricochet/ricochetlaw10.EntityBack", spec := "entityBack", apart := false, narrowed := true }
def EntityBackUptoSaid : Prop := entityBackUptoRow.holds Try.pinned (OpenSpec.upto entityBackSpec)

/-- 'ricochetlaw10.EntityOrder', WHERE WHAT IT READS IS OF BULK AT MOST 1048576: true; the input reads as it did. -/
def entityOrderUptoRow : OpenClaim := { program := "ytjphcbcbaiifhaa", sum := "579471a16dc42e8ffa57ef37ee861738731994c1674a288d2d60bd66b4cb4f3b", func := "ricochet/ricochetlaw10.EntityOrder", spec := "entityOrder", apart := false, narrowed := true }
def EntityOrderUptoSaid : Prop := entityOrderUptoRow.holds Try.pinned (OpenSpec.upto entityOrderSpec)

/-- 'ricochetlaw10.EntityKind', WHERE WHAT IT READS IS OF BULK AT MOST 1048576: true; the input reads as it did. -/
def entityKindUptoRow : OpenClaim := { program := "ytjphcbcbaiifhaa", sum := "579471a16dc42e8ffa57ef37ee861738731994c1674a288d2d60bd66b4cb4f3b", func := "ricochet/ricochetlaw10.EntityKind", spec := "entityKind", apart := false, narrowed := true }
def EntityKindUptoSaid : Prop := entityKindUptoRow.holds Try.pinned (OpenSpec.upto entityKindSpec)

end Rows
end Go.Proofs.Ytjphcbcbaiifhaa

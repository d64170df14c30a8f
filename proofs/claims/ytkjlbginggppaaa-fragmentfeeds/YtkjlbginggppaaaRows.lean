/-
  No cell of these rows narrows 'for every input' (looked for: loops, veiled, ifaces, maps, wideKeys, modest, calm, conditions, laid).
  DERIVED. THE GIVEN ROWS OF THIS SEAT. 6 by the template 'for every input the law returns true; each argument reads behind the call as it read before'; 0 by the template 'total and deterministic' (their statements: YtkjlbginggppaaaTotals.lean).
  GIVEN WITH THE SEED: the statements are not yours to turn. If you find one false, say at which input.
  Laid BY PROGRAM, IN A SANDBOX (cutbox-rows.mjs): the forced cells as the released guide's own fill.sh prints them over the translation b6059d7e1660105a… (all of the seat's roots in one cut). By AI agents, Wed Nov 11 2026. No macro, syntax, notation, axiom, sorry.
-/
import Derived.Test.YtkjlbginggppaaaChecked
import GoSem.Claim
import GoSem.ClaimJoined
import GoSem.ClaimMapViews
import Derived.JoinedTies
import Derived.KernelRfl
namespace Go.Proofs.Ytkjlbginggppaaa
/- THE CELL 'sum', in the pinned program and in every row, IS THE sha256 OF THE DUMP (.gsa) THAT YtkjlbginggppaaaProg.lean LOADS. Nothing in Lean hashes anything: it is a label: what it is worth is what the hold of that sum in a sandbox is worth. -/
noncomputable def Try.pinned : Pinned := { name := "ytkjlbginggppaaa", sum := "b6059d7e1660105af164c73dc448b9621e5d351c89648ffb6d58983abcf56953", checked := Try.checked }
namespace Rows
def none {H : Type} : Left H := { results := [], args := [] }

/-- 'ricochetlaw15.FragmentSplits': WHATEVER THE INPUT: true; the input reads as it did. -/
def fragmentSplitsSpec : ChangeSpec := { name := "fragmentSplits", fn := fun _ => fun
  | [d1, d2] => { results := [.lit (.bool true)], args := [d1, d2] }
  | _ => none }
def fragmentSplitsRow : OpenClaim := { program := "ytkjlbginggppaaa", sum := "b6059d7e1660105af164c73dc448b9621e5d351c89648ffb6d58983abcf56953", func := "ricochet/ricochetlaw15.FragmentSplits", spec := "fragmentSplits", unfollowed := true, recurses := true, apart := false }
def FragmentSplitsSaid : Prop := fragmentSplitsRow.holds Try.pinned (OpenSpec.ofChange fragmentSplitsSpec)

/-- ITS FALSE NEIGHBOUR: 'it returns false'. Refute it at one input. -/
def fragmentSplitsWrong : ChangeSpec := { name := "fragmentSplits", fn := fun _ => fun
  | [d1, d2] => { results := [.lit (.bool false)], args := [d1, d2] }
  | _ => none }
def FragmentSplitsWrongFalsely : Prop := fragmentSplitsRow.holds Try.pinned (OpenSpec.ofChange fragmentSplitsWrong)

/-- 'ricochetlaw15.FragmentFeeds': WHATEVER THE INPUT: true; the input reads as it did. -/
def fragmentFeedsSpec : ChangeSpec := { name := "fragmentFeeds", fn := fun _ => fun
  | [d1, d2] => { results := [.lit (.bool true)], args := [d1, d2] }
  | _ => none }
def fragmentFeedsRow : OpenClaim := { program := "ytkjlbginggppaaa", sum := "b6059d7e1660105af164c73dc448b9621e5d351c89648ffb6d58983abcf56953", func := "ricochet/ricochetlaw15.FragmentFeeds", spec := "fragmentFeeds", unfollowed := true, recurses := true, apart := false }
def FragmentFeedsSaid : Prop := fragmentFeedsRow.holds Try.pinned (OpenSpec.ofChange fragmentFeedsSpec)

/-- ITS FALSE NEIGHBOUR: 'it returns false'. Refute it at one input. -/
def fragmentFeedsWrong : ChangeSpec := { name := "fragmentFeeds", fn := fun _ => fun
  | [d1, d2] => { results := [.lit (.bool false)], args := [d1, d2] }
  | _ => none }
def FragmentFeedsWrongFalsely : Prop := fragmentFeedsRow.holds Try.pinned (OpenSpec.ofChange fragmentFeedsWrong)

/-- 'ricochetlaw15.FragmentWhole': WHATEVER THE INPUT: true; the input reads as it did. -/
def fragmentWholeSpec : ChangeSpec := { name := "fragmentWhole", fn := fun _ => fun
  | [d1, d2] => { results := [.lit (.bool true)], args := [d1, d2] }
  | _ => none }
def fragmentWholeRow : OpenClaim := { program := "ytkjlbginggppaaa", sum := "b6059d7e1660105af164c73dc448b9621e5d351c89648ffb6d58983abcf56953", func := "ricochet/ricochetlaw15.FragmentWhole", spec := "fragmentWhole", unfollowed := true, recurses := true, apart := false }
def FragmentWholeSaid : Prop := fragmentWholeRow.holds Try.pinned (OpenSpec.ofChange fragmentWholeSpec)

/-- ITS FALSE NEIGHBOUR: 'it returns false'. Refute it at one input. -/
def fragmentWholeWrong : ChangeSpec := { name := "fragmentWhole", fn := fun _ => fun
  | [d1, d2] => { results := [.lit (.bool false)], args := [d1, d2] }
  | _ => none }
def FragmentWholeWrongFalsely : Prop := fragmentWholeRow.holds Try.pinned (OpenSpec.ofChange fragmentWholeWrong)

/-- 'ricochetlaw15.FragmentNil': WHATEVER THE INPUT: true; the input reads as it did. -/
def fragmentNilSpec : ChangeSpec := { name := "fragmentNil", fn := fun _ => fun
  | [d] => { results := [.lit (.bool true)], args := [d] }
  | _ => none }
def fragmentNilRow : OpenClaim := { program := "ytkjlbginggppaaa", sum := "b6059d7e1660105af164c73dc448b9621e5d351c89648ffb6d58983abcf56953", func := "ricochet/ricochetlaw15.FragmentNil", spec := "fragmentNil", unfollowed := true, recurses := true, apart := false }
def FragmentNilSaid : Prop := fragmentNilRow.holds Try.pinned (OpenSpec.ofChange fragmentNilSpec)

/-- ITS FALSE NEIGHBOUR: 'it returns false'. Refute it at one input. -/
def fragmentNilWrong : ChangeSpec := { name := "fragmentNil", fn := fun _ => fun
  | [d] => { results := [.lit (.bool false)], args := [d] }
  | _ => none }
def FragmentNilWrongFalsely : Prop := fragmentNilRow.holds Try.pinned (OpenSpec.ofChange fragmentNilWrong)

/-- 'ricochetlaw15.FragmentSizes': WHATEVER THE INPUT: true; the input reads as it did. -/
def fragmentSizesSpec : ChangeSpec := { name := "fragmentSizes", fn := fun _ => fun
  | [d] => { results := [.lit (.bool true)], args := [d] }
  | _ => none }
def fragmentSizesRow : OpenClaim := { program := "ytkjlbginggppaaa", sum := "b6059d7e1660105af164c73dc448b9621e5d351c89648ffb6d58983abcf56953", func := "ricochet/ricochetlaw15.FragmentSizes", spec := "fragmentSizes", unfollowed := true, recurses := true, apart := false }
def FragmentSizesSaid : Prop := fragmentSizesRow.holds Try.pinned (OpenSpec.ofChange fragmentSizesSpec)

/-- ITS FALSE NEIGHBOUR: 'it returns false'. Refute it at one input. -/
def fragmentSizesWrong : ChangeSpec := { name := "fragmentSizes", fn := fun _ => fun
  | [d] => { results := [.lit (.bool false)], args := [d] }
  | _ => none }
def FragmentSizesWrongFalsely : Prop := fragmentSizesRow.holds Try.pinned (OpenSpec.ofChange fragmentSizesWrong)

/-- 'ricochetlaw15.FragmentTwice': WHATEVER THE INPUT: true; the input reads as it did. -/
def fragmentTwiceSpec : ChangeSpec := { name := "fragmentTwice", fn := fun _ => fun
  | [d1, d2] => { results := [.lit (.bool true)], args := [d1, d2] }
  | _ => none }
def fragmentTwiceRow : OpenClaim := { program := "ytkjlbginggppaaa", sum := "b6059d7e1660105af164c73dc448b9621e5d351c89648ffb6d58983abcf56953", func := "ricochet/ricochetlaw15.FragmentTwice", spec := "fragmentTwice", unfollowed := true, recurses := true, apart := false }
def FragmentTwiceSaid : Prop := fragmentTwiceRow.holds Try.pinned (OpenSpec.ofChange fragmentTwiceSpec)

/-- ITS FALSE NEIGHBOUR: 'it returns false'. Refute it at one input. -/
def fragmentTwiceWrong : ChangeSpec := { name := "fragmentTwice", fn := fun _ => fun
  | [d1, d2] => { results := [.lit (.bool false)], args := [d1, d2] }
  | _ => none }
def FragmentTwiceWrongFalsely : Prop := fragmentTwiceRow.holds Try.pinned (OpenSpec.ofChange fragmentTwiceWrong)

/- THE SECOND FORM. 'bulk': how many values and letters a reading holds, each counted each time it is reached (what is shared counts as often as it is met; a slice's spare places count too). A statement '..UptoSaid' is the law's where the arguments, and the package variables that the reading takes, are together of bulk at most 1048576: NARROWER than '..Said'. Prove '..Said' where nothing that the law and all that it calls make is longer than what came in: it says more and counts as full. Else prove '..UptoSaid'. A law counts once. -/
mutual
def uptoBulk {H : Type} : DataW H → Nat
  | .lit (.string bytes) => bytes.length + 1
  | .lit _ => 1
  | .nil => 1
  | .ptr d => uptoBulk d + 1
  | .slice elems spare => uptoBulkAll elems + uptoBulkAll spare + 1
  | .agg parts => uptoBulkAll parts + 1
  | .iface _ d => uptoBulk d + 1
  | .map entries => uptoBulkEntries entries + 1
  | .held _ => 1
def uptoBulkAll {H : Type} : List (DataW H) → Nat
  | [] => 0
  | d :: r => uptoBulk d + uptoBulkAll r
def uptoBulkEntries {H : Type} : List (Lit × DataW H) → Nat
  | [] => 0
  | x :: r => uptoBulkEntry x + uptoBulkEntries r
def uptoBulkEntry {H : Type} : Lit × DataW H → Nat
  | (.string bytes, d) => bytes.length + uptoBulk d + 1
  | (_, d) => uptoBulk d + 1
 end
def uptoSmall : (H : Type) → List (DataW H) → Bool := fun _ ds => decide (uptoBulkAll ds ≤ 1048576)
def OpenSpec.upto (s : _root_.Go.ChangeSpec) : _root_.Go.OpenSpec := { _root_.Go.OpenSpec.ofChange s with cond := some uptoSmall }

/-- 'ricochetlaw15.FragmentSplits', WHERE WHAT IT READS IS OF BULK AT MOST 1048576: true; the input reads as it did. -/
def fragmentSplitsUptoRow : OpenClaim := { program := "ytkjlbginggppaaa", sum := "b6059d7e1660105af164c73dc448b9621e5d351c89648ffb6d58983abcf56953", func := "ricochet/ricochetlaw15.FragmentSplits", spec := "fragmentSplits", unfollowed := true, recurses := true, apart := false, narrowed := true }
def FragmentSplitsUptoSaid : Prop := fragmentSplitsUptoRow.holds Try.pinned (OpenSpec.upto fragmentSplitsSpec)

/-- 'ricochetlaw15.FragmentFeeds', WHERE WHAT IT READS IS OF BULK AT MOST 1048576: true; the input reads as it did. -/
def fragmentFeedsUptoRow : OpenClaim := { program := "ytkjlbginggppaaa", sum := "b6059d7e1660105af164c73dc448b9621e5d351c89648ffb6d58983abcf56953", func := "ricochet/ricochetlaw15.FragmentFeeds", spec := "fragmentFeeds", unfollowed := true, recurses := true, apart := false, narrowed := true }
def FragmentFeedsUptoSaid : Prop := fragmentFeedsUptoRow.holds Try.pinned (OpenSpec.upto fragmentFeedsSpec)

/-- 'ricochetlaw15.FragmentWhole', WHERE WHAT IT READS IS OF BULK AT MOST 1048576: true; the input reads as it did. -/
def fragmentWholeUptoRow : OpenClaim := { program := "ytkjlbginggppaaa", sum := "b6059d7e1660105af164c73dc448b9621e5d351c89648ffb6d58983abcf56953", func := "ricochet/ricochetlaw15.FragmentWhole", spec := "fragmentWhole", unfollowed := true, recurses := true, apart := false, narrowed := true }
def FragmentWholeUptoSaid : Prop := fragmentWholeUptoRow.holds Try.pinned (OpenSpec.upto fragmentWholeSpec)

/-- 'ricochetlaw15.FragmentNil', WHERE WHAT IT READS IS OF BULK AT MOST 1048576: true; the input reads as it did. -/
def fragmentNilUptoRow : OpenClaim := { program := "ytkjlbginggppaaa", sum := "b6059d7e1660105af164c73dc448b9621e5d351c89648ffb6d58983abcf56953", func := "ricochet/ricochetlaw15.FragmentNil", spec := "fragmentNil", unfollowed := true, recurses := true, apart := false, narrowed := true }
def FragmentNilUptoSaid : Prop := fragmentNilUptoRow.holds Try.pinned (OpenSpec.upto fragmentNilSpec)

/-- 'ricochetlaw15.FragmentSizes', WHERE WHAT IT READS IS OF BULK AT MOST 1048576: true; the input reads as it did. -/
def fragmentSizesUptoRow : OpenClaim := { program := "ytkjlbginggppaaa", sum := "b6059d7e1660105af164c73dc448b9621e5d351c89648ffb6d58983abcf56953", func := "ricochet/ricochetlaw15.FragmentSizes", spec := "fragmentSizes", unfollowed := true, recurses := true, apart := false, narrowed := true }
def FragmentSizesUptoSaid : Prop := fragmentSizesUptoRow.holds Try.pinned (OpenSpec.upto fragmentSizesSpec)

/-- 'ricochetlaw15.FragmentTwice', WHERE WHAT IT READS IS OF BULK AT MOST 1048576: true; the input reads as it did. -/
def fragmentTwiceUptoRow : OpenClaim := { program := "ytkjlbginggppaaa", sum := "b6059d7e1660105af164c73dc448b9621e5d351c89648ffb6d58983abcf56953", func := "ricochet/ricochetlaw15.FragmentTwice", spec := "fragmentTwice", unfollowed := true, recurses := true, apart := false, narrowed := true }
def FragmentTwiceUptoSaid : Prop := fragmentTwiceUptoRow.holds Try.pinned (OpenSpec.upto fragmentTwiceSpec)

end Rows
end Go.Proofs.Ytkjlbginggppaaa

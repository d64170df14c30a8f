/- What each function of layer 1 answers, as a call: contracts of the program's functions. -/
import Derived.Test.YtjphcbcbaiifhaaRows
import Derived.Test.YtjphcbcbaiifhaaFixPlain
import Derived.WalkKit
import Derived.WalkSpells
namespace Go.Proofs.Ytjphcbcbaiifhaa
open Go.RowKit
set_option linter.unusedVariables false
namespace FxW

theorem ret_int {k : IntKind} {a b : Int} {w : World} (h : a = b) : Ending.returned (.int k a) = .returned (.int k b) ∧ w = w := by rw [h]; exact ⟨rfl, rfl⟩

end FxW
end Go.Proofs.Ytjphcbcbaiifhaa
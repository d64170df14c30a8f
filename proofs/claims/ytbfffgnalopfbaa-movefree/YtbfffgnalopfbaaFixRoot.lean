/- What the root of layer 1 answers, as a call: the loop over the bits. -/
import Derived.Test.YtbfffgnalopfbaaFixWalks
namespace Go.Proofs.Ytbfffgnalopfbaa
open Go.RowKit
set_option linter.unusedVariables false
namespace FxW

theorem half_pow (k : Nat) : (2 : Int) ^ (k + 1) / 2 = 2 ^ k := by rw [Int.pow_succ]; omega
/-- the bit that stands at k: 2^(k-1), or 0 -/
def bitAt : Nat → Int
  | 0 => 0
  | k + 1 => 2 ^ k

end FxW
end Go.Proofs.Ytbfffgnalopfbaa
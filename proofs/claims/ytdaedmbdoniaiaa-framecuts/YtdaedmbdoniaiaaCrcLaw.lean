/- The words that the laws of layer 5 share. -/
import Derived.Test.YtdaedmbdoniaiaaCrcRef
import Derived.Test.YtdaedmbdoniaiaaKept
import Derived.Test.YtdaedmbdoniaiaaLie
import Derived.Lib.SlBytesConst
namespace Go.Proofs.Ytdaedmbdoniaiaa
open Go.RowKit
set_option linter.unusedVariables false

theorem u32_nat {a : Int} (h : (Lit.int .u32 a).wf = true) : ∃ n : Nat, a = (n : Int) ∧ n < 4294967296 := by
  simp [Lit.wf, IntKind.min, IntKind.max, IntKind.bits, IntKind.signed] at h
  exact ⟨a.toNat, by omega, by omega⟩
namespace CrL
def ex : List Nat := [49, 50, 51, 52, 53, 54, 55, 56, 57]
theorem ex_sum : Cr.sum ex = 3421780262 := by decide +kernel
theorem ex_lt : ∀ x ∈ ex, x < 256 := by decide

end CrL
end Go.Proofs.Ytdaedmbdoniaiaa
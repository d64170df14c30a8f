/- The words that the laws of layer 4 share. -/
import Derived.Test.YtloobijdpchppaaSerTake
import Derived.Laws.StructEq
namespace Go.Proofs.Ytloobijdpchppaa
open Go.RowKit
set_option linter.unusedVariables false

theorem u16_bd {a : Int} (h : (Lit.int .u16 a).wf = true) : 0 ≤ a ∧ a < 65536 := by
  simp [Lit.wf, IntKind.min, IntKind.max, IntKind.bits, IntKind.signed] at h; omega
theorem u32_bd {a : Int} (h : (Lit.int .u32 a).wf = true) : 0 ≤ a ∧ a < 4294967296 := by
  simp [Lit.wf, IntKind.min, IntKind.max, IntKind.bits, IntKind.signed] at h; omega
theorem rwin_eql (y y' : Bool) (l m l' m' : Int) (w : World) : (binOp .eql 33 (.agg #[.bool y, .int .u16 l, .int .u32 m]) (.agg #[.bool y', .int .u16 l', .int .u32 m'])).run Try.prog w = .ok (.bool ((y == y') && (l == l') && (m == m'))) w := by
  rw [run_eql_struct, run_equalIn_agg (d := 9999) (ht := by kernel_rfl) (hp := by kernel_rfl)]
  simp [go_sem]
  by_cases h0 : y = y' <;> by_cases h : l = l' <;> by_cases h' : m = m' <;> simp [h0, h, h']

theorem win_eql (y y' : Bool) (l m l' m' : Int) (w : World) : (binOp .eql 28 (.agg #[.bool y, .int .u16 l, .int .u32 m]) (.agg #[.bool y', .int .u16 l', .int .u32 m'])).run Try.prog w = .ok (.bool ((y == y') && (l == l') && (m == m'))) w := by
  rw [run_eql_struct, run_equalIn_agg (d := 9999) (ht := by kernel_rfl) (hp := by kernel_rfl)]
  simp [go_sem]
  by_cases h0 : y = y' <;> by_cases h : l = l' <;> by_cases h' : m = m' <;> simp [h0, h, h']

namespace SrL

end SrL
end Go.Proofs.Ytloobijdpchppaa
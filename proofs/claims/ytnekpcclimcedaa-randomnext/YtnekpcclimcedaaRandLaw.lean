/- The words that the laws of layer 8 share. -/
import Derived.Test.YtnekpcclimcedaaRandWalks
namespace Go.Proofs.Ytnekpcclimcedaa
open Go.RowKit
set_option linter.unusedVariables false

theorem u64_nat {a : Int} (h : (Lit.int .u64 a).wf = true) : ∃ n : Nat, a = (n : Int) ∧ n < 18446744073709551616 := by
  simp [Lit.wf, IntKind.min, IntKind.max, IntKind.bits, IntKind.signed] at h
  exact ⟨a.toNat, by omega, by omega⟩
theorem u16_bd {a : Int} (h : (Lit.int .u16 a).wf = true) : 0 ≤ a ∧ a < 65536 := by
  simp [Lit.wf, IntKind.min, IntKind.max, IntKind.bits, IntKind.signed] at h; omega
theorem i64_bd {a : Int} (h : (Lit.int .i64 a).wf = true) : -9223372036854775808 ≤ a ∧ a < 9223372036854775808 := by
  simp [Lit.wf, IntKind.min, IntKind.max, IntKind.bits, IntKind.signed] at h; omega

namespace RaL
set_option maxHeartbeats 400000 in
theorem awake_any (w : World) :
    Calls Try.prog 11 #[] w fun e w' => e = .returned (.bool true) ∧ w' = w := by
  have h1 : ((Ra.nxt 0 : Nat) : Int) = 11400714819323198485 := by decide
  have h2 : ((Ra.num 0 : Nat) : Int) = 16294208416658607535 := by decide
  go_enter Try.func11, Try.ntmps11
  go_wp2_with (go_at_call 7; refine (RaW.next_any 0 _).mono ?_; rintro e w' ⟨rfl, rfl⟩)
  go_ret
  exact ⟨rfl, rfl⟩
end RaL
end Go.Proofs.Ytnekpcclimcedaa

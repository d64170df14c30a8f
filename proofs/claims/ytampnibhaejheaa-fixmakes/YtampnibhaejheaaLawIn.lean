/- What the laws of layer 1 ask first: a program that does something; whether a number is one. -/
import Derived.Test.YtampnibhaejheaaFixRefRoot
namespace Go.Proofs.Ytampnibhaejheaa
open Go.RowKit
set_option linter.unusedVariables false
namespace FxL

set_option maxHeartbeats 400000 in
theorem awake_any (w : World) :
    Calls Try.prog 11 #[] w fun e w' => e = .returned (.bool true) ∧ w' = w := by
  have e1 : (Fx.mul 98304 98304 == 147456) = true := by decide
  have e2 : (Fx.ofI 1 == 65536) = true := by decide
  go_enter Try.func11, Try.ntmps11
  go_wp2_with (first | (go_at_call 16; refine (FxW.mul_any _ _ _).mono ?_; rintro e w' ⟨rfl, rfl⟩) | (go_at_call 22; refine (FxW.of_any _ _).mono ?_; rintro e w' ⟨rfl, rfl⟩))
  go_ret
  exact ⟨rfl, rfl⟩

/-- is it a number? -/
def inB (x : Int) : Bool := decide (-2147483648 ≤ x) && decide (x ≤ 2147483647)
theorem inB_of {x : Int} (h1 : -2147483648 ≤ x) (h2 : x ≤ 2147483647) : inB x = true := by simp [inB, h1, h2]

set_option maxHeartbeats 400000 in
theorem in_any (x : Int) (w : World) :
    Calls Try.prog 30 #[.int .i64 x] w fun e w' => e = .returned (.bool (inB x)) ∧ w' = w := by
  by_cases h1 : -2147483648 ≤ x
  · by_cases h2 : x ≤ 2147483647
    · rw [inB_of h1 h2]
      go_enter Try.func30, Try.ntmps30
      go_wp2
      go_ret
      exact ⟨rfl, rfl⟩
    · have e : inB x = false := by simp [inB]; omega
      rw [e]; clear e
      go_enter Try.func30, Try.ntmps30
      go_wp2
      go_ret
      exact ⟨rfl, rfl⟩
  · have e : inB x = false := by simp [inB]; omega
    rw [e]; clear e
    go_enter Try.func30, Try.ntmps30
    go_wp2
    go_ret
    exact ⟨rfl, rfl⟩
end FxL
end Go.Proofs.Ytampnibhaejheaa

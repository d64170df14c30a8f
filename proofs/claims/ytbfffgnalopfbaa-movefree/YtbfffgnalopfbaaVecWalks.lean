/- What the small functions of layer 2 answer, as a call: squares, roots, what a place may have. -/
import Derived.Test.YtbfffgnalopfbaaFixRef
import Derived.Test.YtbfffgnalopfbaaVecPlain
namespace Go.Proofs.Ytbfffgnalopfbaa
open Go.RowKit
set_option linter.unusedVariables false
namespace VcW
open FxW (ret_int half_pow bitAt)

set_option maxHeartbeats 400000 in
theorem within_any (a : Int) (w : World) :
    Calls Try.prog 77 #[.int .i64 a] w fun e w' => e = .returned (.int .i64 (Vc.within a)) ∧ w' = w := by
  rcases Int.lt_trichotomy a (-134217728) with h | h | h
  · rw [Vc.within_below h]
    go_enter Try.func77, Try.ntmps77
    go_wp2
    go_ret
    exact ⟨rfl, rfl⟩
  · subst h
    go_enter Try.func77, Try.ntmps77
    go_wp2
    go_ret
    exact ⟨rfl, rfl⟩
  · rcases Int.lt_trichotomy a 134217728 with g | g | g
    · rw [Vc.within_in (by omega) (by omega)]
      go_enter Try.func77, Try.ntmps77
      go_wp2
      go_ret
      exact ⟨rfl, rfl⟩
    · subst g
      go_enter Try.func77, Try.ntmps77
      go_wp2
      go_ret
      exact ⟨rfl, rfl⟩
    · rw [Vc.within_above g]
      go_enter Try.func77, Try.ntmps77
      go_wp2
      go_ret
      exact ⟨rfl, rfl⟩
end VcW
end Go.Proofs.Ytbfffgnalopfbaa

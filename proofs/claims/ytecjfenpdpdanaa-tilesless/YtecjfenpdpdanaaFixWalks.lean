/- What each function of layer 1 answers, as a call: contracts of the program's functions. -/
import Derived.Test.YtecjfenpdpdanaaRows
import Derived.Test.YtecjfenpdpdanaaFixPlain
import Derived.WalkKit
import Derived.WalkSpells
namespace Go.Proofs.Ytecjfenpdpdanaa
open Go.RowKit
set_option linter.unusedVariables false
namespace FxW

theorem ret_int {k : IntKind} {a b : Int} {w : World} (h : a = b) : Ending.returned (.int k a) = .returned (.int k b) ∧ w = w := by rw [h]; exact ⟨rfl, rfl⟩

set_option maxHeartbeats 400000 in
theorem hold_any (x : Int) (w : World) :
    Calls Try.prog 57 #[.int .i64 x] w fun e w' => e = .returned (.int .i64 (Fx.hold x)) ∧ w' = w := by
  by_cases h1 : x < -2147483648
  · rw [Fx.hold_below h1]
    go_enter Try.func57, Try.ntmps57
    go_wp2
    go_ret
    exact ⟨rfl, rfl⟩
  · by_cases h2 : 2147483647 < x
    · rw [Fx.hold_above h2]
      go_enter Try.func57, Try.ntmps57
      go_wp2
      go_ret
      exact ⟨rfl, rfl⟩
    · rw [Fx.hold_of (by omega) (by omega)]
      go_enter Try.func57, Try.ntmps57
      go_wp2
      go_ret
      exact ⟨rfl, rfl⟩

set_option maxHeartbeats 400000 in
theorem held_any (x : Int) (w : World) :
    Calls Try.prog 48 #[.int .i64 x] w fun e w' => e = .returned (.int .i64 (Fx.hold x)) ∧ w' = w := by
  have b1 := Fx.hold_lo x
  have b2 := Fx.hold_hi x
  go_enter Try.func48, Try.ntmps48
  go_wp2_with (go_at_call 57; refine (hold_any _ _).mono ?_; rintro e w' ⟨rfl, rfl⟩)
  go_ret
  exact ⟨rfl, rfl⟩

set_option maxHeartbeats 400000 in
theorem of_any (n : Int) (w : World) :
    Calls Try.prog 55 #[.int .i64 n] w fun e w' => e = .returned (.int .i64 (Fx.ofI n)) ∧ w' = w := by
  unfold Fx.ofI
  have b1 := Fx.hold_lo n
  have b2 := Fx.hold_hi n
  go_enter Try.func55, Try.ntmps55
  go_wp2_with (go_at_call 57; refine (hold_any _ _).mono ?_; rintro e w' ⟨rfl, rfl⟩)
  go_ret
  exact ⟨rfl, rfl⟩

set_option maxHeartbeats 400000 in
theorem floor_any (a : Int) (w : World) :
    Calls Try.prog 34 #[.int .i64 a] w fun e w' => e = .returned (.int .i64 (Fx.floor a)) ∧ w' = w := by
  unfold Fx.floor
  have b1 := Fx.hold_lo a
  have b2 := Fx.hold_hi a
  go_enter Try.func34, Try.ntmps34
  go_wp2_with (first | (go_at_call 48; refine (held_any _ _).mono ?_; rintro e w' ⟨rfl, rfl⟩) | (go_at_call 57; refine (hold_any _ _).mono ?_; rintro e w' ⟨rfl, rfl⟩))
  go_ret
  exact ⟨rfl, rfl⟩

end FxW
end Go.Proofs.Ytecjfenpdpdanaa
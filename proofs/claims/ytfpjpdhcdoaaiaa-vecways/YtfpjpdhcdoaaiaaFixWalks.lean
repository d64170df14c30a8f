/- What each function of layer 1 answers, as a call: contracts of the program's functions. -/
import Derived.Test.YtfpjpdhcdoaaiaaRows
import Derived.Test.YtfpjpdhcdoaaiaaFixPlain
import Derived.WalkKit
import Derived.WalkSpells
namespace Go.Proofs.Ytfpjpdhcdoaaiaa
open Go.RowKit
set_option linter.unusedVariables false
namespace FxW

theorem ret_int {k : IntKind} {a b : Int} {w : World} (h : a = b) : Ending.returned (.int k a) = .returned (.int k b) ∧ w = w := by rw [h]; exact ⟨rfl, rfl⟩

set_option maxHeartbeats 400000 in
theorem hold_any (x : Int) (w : World) :
    Calls Try.prog 31 #[.int .i64 x] w fun e w' => e = .returned (.int .i64 (Fx.hold x)) ∧ w' = w := by
  by_cases h1 : x < -2147483648
  · rw [Fx.hold_below h1]
    go_enter Try.func31, Try.ntmps31
    go_wp2
    go_ret
    exact ⟨rfl, rfl⟩
  · by_cases h2 : 2147483647 < x
    · rw [Fx.hold_above h2]
      go_enter Try.func31, Try.ntmps31
      go_wp2
      go_ret
      exact ⟨rfl, rfl⟩
    · rw [Fx.hold_of (by omega) (by omega)]
      go_enter Try.func31, Try.ntmps31
      go_wp2
      go_ret
      exact ⟨rfl, rfl⟩

set_option maxHeartbeats 400000 in
theorem held_any (x : Int) (w : World) :
    Calls Try.prog 38 #[.int .i64 x] w fun e w' => e = .returned (.int .i64 (Fx.hold x)) ∧ w' = w := by
  have b1 := Fx.hold_lo x
  have b2 := Fx.hold_hi x
  go_enter Try.func38, Try.ntmps38
  go_wp2_with (go_at_call 31; refine (hold_any _ _).mono ?_; rintro e w' ⟨rfl, rfl⟩)
  go_ret
  exact ⟨rfl, rfl⟩

set_option maxHeartbeats 400000 in
theorem add_any (a b : Int) (w : World) :
    Calls Try.prog 25 #[.int .i64 a, .int .i64 b] w fun e w' => e = .returned (.int .i64 (Fx.add a b)) ∧ w' = w := by
  unfold Fx.add
  have b1 := Fx.hold_lo a
  have b2 := Fx.hold_hi a
  have b3 := Fx.hold_lo b
  have b4 := Fx.hold_hi b
  go_enter Try.func25, Try.ntmps25
  go_wp2_with (first | (go_at_call 38; refine (held_any _ _).mono ?_; rintro e w' ⟨rfl, rfl⟩) | (go_at_call 31; refine (hold_any _ _).mono ?_; rintro e w' ⟨rfl, rfl⟩))
  go_ret
  exact ⟨rfl, rfl⟩

set_option maxHeartbeats 400000 in
theorem sub_any (a b : Int) (w : World) :
    Calls Try.prog 27 #[.int .i64 a, .int .i64 b] w fun e w' => e = .returned (.int .i64 (Fx.sub a b)) ∧ w' = w := by
  unfold Fx.sub
  have b1 := Fx.hold_lo a
  have b2 := Fx.hold_hi a
  have b3 := Fx.hold_lo b
  have b4 := Fx.hold_hi b
  go_enter Try.func27, Try.ntmps27
  go_wp2_with (first | (go_at_call 38; refine (held_any _ _).mono ?_; rintro e w' ⟨rfl, rfl⟩) | (go_at_call 31; refine (hold_any _ _).mono ?_; rintro e w' ⟨rfl, rfl⟩))
  go_ret
  exact ⟨rfl, rfl⟩

set_option maxHeartbeats 400000 in
theorem mul_any (a b : Int) (w : World) :
    Calls Try.prog 29 #[.int .i64 a, .int .i64 b] w fun e w' => e = .returned (.int .i64 (Fx.mul a b)) ∧ w' = w := by
  unfold Fx.mul
  have b1 := Fx.hold_lo a
  have b2 := Fx.hold_hi a
  have b3 := Fx.hold_lo b
  have b4 := Fx.hold_hi b
  obtain ⟨b5, b6⟩ := Fx.hold_mul a b
  go_enter Try.func29, Try.ntmps29
  go_wp2_with (first | (go_at_call 38; refine (held_any _ _).mono ?_; rintro e w' ⟨rfl, rfl⟩) | (go_at_call 31; refine (hold_any _ _).mono ?_; rintro e w' ⟨rfl, rfl⟩))
  go_ret
  exact ⟨rfl, rfl⟩

set_option maxHeartbeats 400000 in
theorem betw_any (a b p : Int) (hp0 : 0 ≤ p) (hp1 : p ≤ 255) (w : World) :
    Calls Try.prog 35 #[.int .i64 a, .int .i64 b, .int .u8 p] w fun e w' => e = .returned (.int .i64 (Fx.betw a b p)) ∧ w' = w := by
  unfold Fx.betw
  have b1 := Fx.hold_lo a
  have b2 := Fx.hold_hi a
  have b3 := Fx.hold_lo b
  have b4 := Fx.hold_hi b
  obtain ⟨b5, b6⟩ := Fx.part_mul (x := Fx.hold b - Fx.hold a) (p := p) (by omega) (by omega) hp0 hp1
  go_enter Try.func35, Try.ntmps35
  go_wp2_with (first | (go_at_call 38; refine (held_any _ _).mono ?_; rintro e w' ⟨rfl, rfl⟩) | (go_at_call 31; refine (hold_any _ _).mono ?_; rintro e w' ⟨rfl, rfl⟩))
  go_ret
  exact ⟨rfl, rfl⟩

end FxW
end Go.Proofs.Ytfpjpdhcdoaaiaa
/- What the root of the document's own answers of layer 1 gives, as a call: found by halves. -/
import Derived.Test.YtampnibhaejheaaFixRef
namespace Go.Proofs.Ytampnibhaejheaa
open Go.RowKit
set_option linter.unusedVariables false
namespace FxR
open FxW (ret_int)

set_option maxHeartbeats 400000 in
theorem sqrt_any (a : Int) (w : World) :
    Calls Try.prog 25 #[.int .i64 a] w fun e w' => e = .returned (.int .i64 (Fx.sqrt a)) ∧ w' = w := by
  have b1 := Fx.hold_lo a
  have b2 := Fx.hold_hi a
  by_cases h : a ≤ 0
  · have e1 : Fx.sqrt a = 0 := by unfold Fx.sqrt; rw [if_pos h]
    rw [e1]; clear e1
    have hx : decide (0 < Fx.hold a * 65536) = false := by
      by_cases h0 : a = 0
      · subst h0; decide
      · have := Fx.hold_neg (a := a) (by omega); simp; omega
    have hx2 : Fx.hold a ≤ 0 := by simp at hx; omega
    go_enter Try.func25, Try.ntmps25
    go_wp2_with (go_at_call 32; refine (whole_any _ _).mono ?_; rintro e w' ⟨rfl, rfl⟩)
    go_loop [4, 5] (fun l h => l = .int .i64 0 ∧ h = .int .i64 16777216) (fun _ _ => 0)
    case atStart => exact ⟨rfl, rfl⟩
    case round =>
      obtain ⟨rfl, rfl⟩ := hrel
      go_wp2
      go_ret
      exact ⟨rfl, rfl⟩
  · have e1 : Fx.sqrt a = Fx.root (Fx.hold a * 65536) := by unfold Fx.sqrt; rw [if_neg h]
    rw [e1]; clear e1
    have b3 := Fx.hold_pos (a := a) (by omega)
    go_enter Try.func25, Try.ntmps25
    go_wp2_with (go_at_call 32; refine (whole_any _ _).mono ?_; rintro e w' ⟨rfl, rfl⟩)
    go_loop [4, 5] (fun l h => ∃ L H : Int, l = .int .i64 L ∧ h = .int .i64 H ∧ 0 ≤ L ∧ L < H ∧ H ≤ 16777216 ∧ L * L ≤ Fx.hold a * 65536 ∧ Fx.hold a * 65536 < H * H) (fun l h => (intOf h - intOf l).toNat)
    case atStart => exact ⟨0, 16777216, rfl, rfl, by omega, by omega, by omega, by omega, by omega⟩
    case round =>
      obtain ⟨L, H, rfl, rfl, h1, h2, h3, h4, h5⟩ := hrel
      by_cases hlt : L + 1 < H
      · have s0 : 0 ≤ ((L + H) / 2) * ((L + H) / 2) := Int.mul_nonneg (by omega) (by omega)
        have s1 := Fx.sq_mono (x := (L + H) / 2) (y := 16777216) (by omega) (by omega)
        by_cases hc : ((L + H) / 2) * ((L + H) / 2) ≤ Fx.hold a * 65536
        · go_wp2
          go_round
          case rel => exact ⟨(L + H) / 2, H, rfl, rfl, by omega, by omega, by omega, hc, h5⟩
          case measure => simp [intOf]; omega
        · go_wp2
          go_round
          case rel => exact ⟨L, (L + H) / 2, rfl, rfl, by omega, by omega, by omega, h4, by omega⟩
          case measure => simp [intOf]; omega
      · have hH : H = L + 1 := by omega
        subst hH
        go_wp2
        go_ret
        exact ret_int (Fx.root_eq (by omega) h1 h4 h5)
end FxR
end Go.Proofs.Ytampnibhaejheaa

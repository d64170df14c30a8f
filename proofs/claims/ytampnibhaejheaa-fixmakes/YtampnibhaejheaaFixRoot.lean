/- What the root of layer 1 answers, as a call: the loop over the bits. -/
import Derived.Test.YtampnibhaejheaaFixWalks
namespace Go.Proofs.Ytampnibhaejheaa
open Go.RowKit
set_option linter.unusedVariables false
namespace FxW

theorem half_pow (k : Nat) : (2 : Int) ^ (k + 1) / 2 = 2 ^ k := by rw [Int.pow_succ]; omega
/-- the bit that stands at k: 2^(k-1), or 0 -/
def bitAt : Nat → Int
  | 0 => 0
  | k + 1 => 2 ^ k

set_option maxHeartbeats 400000 in
theorem rootdown_any (n : Int) (h0 : 0 ≤ n) (h1 : n < 281474976710656) (w : World) :
    Calls Try.prog 36 #[.int .i64 n] w fun e w' => e = .returned (.int .i64 (Fx.root n)) ∧ w' = w := by
  go_enter Try.func36, Try.ntmps36
  go_wp2
  go_loop [3, 4] (fun r b => ∃ (k : Nat) (R : Int), k ≤ 24 ∧ r = .int .i64 R ∧ b = .int .i64 (bitAt k) ∧ 0 ≤ R ∧ R + 2 ^ k ≤ 16777216 ∧ R * R ≤ n ∧ n < (R + 2 ^ k) * (R + 2 ^ k)) (fun _ b => (intOf b).toNat)
  case atStart => exact ⟨24, 0, by omega, rfl, rfl, by omega, by simp, by omega, by simpa using h1⟩
  case round =>
    obtain ⟨k, R, hk, rfl, rfl, hR0, hR1, hR2, hR3⟩ := hrel
    cases k with
    | zero =>
      have HR3 : Hid (n < (R + 2 ^ 0) * (R + 2 ^ 0)) := hR3
      clear hR3
      simp only [bitAt]
      go_wp2
      go_ret
      have h3 := HR3.out
      exact ret_int (Fx.root_eq h1 hR0 hR2 (by simpa using h3))
    | succ k =>
      have hp : (0 : Int) < 2 ^ k := Int.pow_pos (by omega)
      have e : (2 : Int) ^ (k + 1) = 2 ^ k + 2 ^ k := by rw [Int.pow_succ]; omega
      have hp2 : (2 : Int) ^ (k + 1) / 2 = 2 ^ k := half_pow k
      have hh : bitAt k = 2 ^ k / 2 := by cases k with
        | zero => rfl
        | succ k => rw [half_pow]; rfl
      simp only [bitAt]
      rw [e] at hR1 hR3
      have s1 := Fx.sq_mono (x := R + 2 ^ k) (y := 16777216) (by omega) (by omega)
      have s0 : 0 ≤ (R + 2 ^ k) * (R + 2 ^ k) := Int.mul_nonneg (by omega) (by omega)
      have HH : Hid (bitAt k = 2 ^ k / 2) := hh
      have HR3 : Hid (n < (R + (2 ^ k + 2 ^ k)) * (R + (2 ^ k + 2 ^ k))) := hR3
      clear e hp2 hh hR3
      generalize hP : (2 : Int) ^ k = P at *
      have HP : Hid ((2 : Int) ^ k = P) := hP
      clear hP
      by_cases hc : (R + P) * (R + P) ≤ n
      · go_wp2
        go_round
        case rel => exact ⟨k, R + P, by omega, rfl, congrArg (Value.int .i64) HH.out.symm, by omega, by rw [HP.out]; omega, hc, by rw [HP.out, Int.add_assoc]; exact HR3.out⟩
        case measure => simp [intOf]; omega
      · go_wp2
        go_round
        case rel => exact ⟨k, R, by omega, rfl, congrArg (Value.int .i64) HH.out.symm, by omega, by rw [HP.out]; omega, hR2, by rw [HP.out]; omega⟩
        case measure => simp [intOf]; omega

set_option maxHeartbeats 400000 in
theorem sqrt_any (a : Int) (w : World) :
    Calls Try.prog 24 #[.int .i64 a] w fun e w' => e = .returned (.int .i64 (Fx.sqrt a)) ∧ w' = w := by
  by_cases h : a ≤ 0
  · have e1 : Fx.sqrt a = 0 := by unfold Fx.sqrt; rw [if_pos h]
    rw [e1]; clear e1
    go_enter Try.func24, Try.ntmps24
    go_wp2
    go_ret
    exact ⟨rfl, rfl⟩
  · have e1 : Fx.sqrt a = Fx.root (Fx.hold a * 65536) := by unfold Fx.sqrt; rw [if_neg h]
    rw [e1]; clear e1
    have b1 := Fx.hold_pos (a := a) (by omega)
    have b2 := Fx.hold_hi a
    have b3 := (Fx.root_ok (n := Fx.hold a * 65536) (by omega) (by omega)).1
    have b4 := Fx.root_hi (n := Fx.hold a * 65536) (by omega) (by omega)
    go_enter Try.func24, Try.ntmps24
    go_wp2_with (first | (go_at_call 31; refine (held_any _ _).mono ?_; rintro e w' ⟨rfl, rfl⟩) | (go_at_call 36; refine (rootdown_any _ (by omega) (by omega) _).mono ?_; rintro e w' ⟨rfl, rfl⟩))
    go_ret
    exact ⟨rfl, rfl⟩
end FxW
end Go.Proofs.Ytampnibhaejheaa

/- What the small functions of layer 2 answer, as a call: squares, roots, what a place may have. -/
import Derived.Test.YtfpjpdhcdoaaiaaFixRef
import Derived.Test.YtfpjpdhcdoaaiaaVecPlain
namespace Go.Proofs.Ytfpjpdhcdoaaiaa
open Go.RowKit
set_option linter.unusedVariables false
namespace VcW
open FxW (ret_int half_pow bitAt)

set_option maxHeartbeats 400000 in
theorem square_any (x : Int) (w : World) :
    Calls Try.prog 33 #[.int .i64 x] w fun e w' => e = .returned (.int .u64 (Vc.sq x)) ∧ w' = w := by
  have b1 := Vc.sq_lo x
  have b2 := Vc.sq_hi x
  unfold Vc.sq at b1 b2 ⊢
  go_enter Try.func33, Try.ntmps33
  go_wp2_with (go_at_call 31; refine (FxW.hold_any _ _).mono ?_; rintro e w' ⟨rfl, rfl⟩)
  go_ret
  exact ⟨rfl, rfl⟩

set_option maxHeartbeats 400000 in
theorem rootdown_any (n : Int) (h0 : 0 ≤ n) (h1 : n ≤ 9223372036854775808) (w : World) :
    Calls Try.prog 32 #[.int .u64 n] w fun e w' => e = .returned (.int .i64 (Vc.root n)) ∧ w' = w := by
  go_enter Try.func32, Try.ntmps32
  go_wp2
  go_loop [3, 4] (fun r b => ∃ (k : Nat) (R : Int), k ≤ 32 ∧ r = .int .u64 R ∧ b = .int .u64 (bitAt k) ∧ 0 ≤ R ∧ R + 2 ^ k ≤ 4294967296 ∧ R * R ≤ n ∧ n < (R + 2 ^ k) * (R + 2 ^ k)) (fun _ b => (intOf b).toNat)
  case atStart => exact ⟨32, 0, by omega, rfl, rfl, by omega, by simp, by omega, by simp; omega⟩
  case round =>
    obtain ⟨k, R, hk, rfl, rfl, hR0, hR1, hR2, hR3⟩ := hrel
    cases k with
    | zero =>
      have HR3 : Hid (n < (R + 2 ^ 0) * (R + 2 ^ 0)) := hR3
      have hR1' : R ≤ 4294967296 := by omega
      clear hR3 hR1
      simp only [bitAt]
      go_wp2
      go_ret
      have h3 := HR3.out
      exact ret_int (Vc.root_eq (by omega) hR0 hR2 (by simpa using h3))
    | succ k =>
      have hp : (0 : Int) < 2 ^ k := Int.pow_pos (by omega)
      have e : (2 : Int) ^ (k + 1) = 2 ^ k + 2 ^ k := by rw [Int.pow_succ]; omega
      have hp2 : (2 : Int) ^ (k + 1) / 2 = 2 ^ k := half_pow k
      have hh : bitAt k = 2 ^ k / 2 := by cases k with
        | zero => rfl
        | succ k => rw [half_pow]; rfl
      simp only [bitAt]
      rw [e] at hR1 hR3
      have s1 := Fx.sq_mono (x := R + 2 ^ k) (y := 4294967295) (by omega) (by omega)
      have s0 : 0 ≤ (R + 2 ^ k) * (R + 2 ^ k) := Int.mul_nonneg (by omega) (by omega)
      have HH : Hid (bitAt k = 2 ^ k / 2) := hh
      have HR3 : Hid (n < (R + (2 ^ k + 2 ^ k)) * (R + (2 ^ k + 2 ^ k))) := hR3
      clear e hp2 hh hR3
      generalize hP : (2 : Int) ^ k = P at *
      have HP : Hid ((2 : Int) ^ k = P) := hP
      clear hP
      by_cases hc : (R + P) * (R + P) ≤ n
      · go_wp2
        go_round
        case rel => exact ⟨k, R + P, by omega, rfl, congrArg (Value.int .u64) HH.out.symm, by omega, by rw [HP.out]; omega, hc, by rw [HP.out, Int.add_assoc]; exact HR3.out⟩
        case measure => simp [intOf]; omega
      · go_wp2
        go_round
        case rel => exact ⟨k, R, by omega, rfl, congrArg (Value.int .u64) HH.out.symm, by omega, by rw [HP.out]; omega, hR2, by rw [HP.out]; omega⟩
        case measure => simp [intOf]; omega

set_option maxHeartbeats 400000 in
theorem within_any (a : Int) (w : World) :
    Calls Try.prog 37 #[.int .i64 a] w fun e w' => e = .returned (.int .i64 (Vc.within a)) ∧ w' = w := by
  rcases Int.lt_trichotomy a (-134217728) with h | h | h
  · rw [Vc.within_below h]
    go_enter Try.func37, Try.ntmps37
    go_wp2
    go_ret
    exact ⟨rfl, rfl⟩
  · subst h
    go_enter Try.func37, Try.ntmps37
    go_wp2
    go_ret
    exact ⟨rfl, rfl⟩
  · rcases Int.lt_trichotomy a 134217728 with g | g | g
    · rw [Vc.within_in (by omega) (by omega)]
      go_enter Try.func37, Try.ntmps37
      go_wp2
      go_ret
      exact ⟨rfl, rfl⟩
    · subst g
      go_enter Try.func37, Try.ntmps37
      go_wp2
      go_ret
      exact ⟨rfl, rfl⟩
    · rw [Vc.within_above g]
      go_enter Try.func37, Try.ntmps37
      go_wp2
      go_ret
      exact ⟨rfl, rfl⟩
end VcW
end Go.Proofs.Ytfpjpdhcdoaaiaa

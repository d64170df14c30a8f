/- What each function of the document's own answers of layer 1 gives, as a call. -/
import Derived.Test.YtbfffgnalopfbaaFixRoot
namespace Go.Proofs.Ytbfffgnalopfbaa
open Go.RowKit
set_option linter.unusedVariables false
namespace FxR
open FxW (ret_int)

set_option maxHeartbeats 400000 in
theorem hold_any (x : Int) (w : World) :
    Calls Try.prog 74 #[.int .i64 x] w fun e w' => e = .returned (.int .i64 (Fx.hold x)) ∧ w' = w := by
  by_cases h1 : x < -2147483648
  · rw [Fx.hold_below h1]
    go_enter Try.func74, Try.ntmps74
    go_wp2
    go_ret
    exact ⟨rfl, rfl⟩
  · by_cases h2 : 2147483647 < x
    · rw [Fx.hold_above h2]
      go_enter Try.func74, Try.ntmps74
      go_wp2
      go_ret
      exact ⟨rfl, rfl⟩
    · rw [Fx.hold_of (by omega) (by omega)]
      go_enter Try.func74, Try.ntmps74
      go_wp2
      go_ret
      exact ⟨rfl, rfl⟩

set_option maxHeartbeats 400000 in
theorem whole_any (x : Int) (w : World) :
    Calls Try.prog 75 #[.int .i64 x] w fun e w' => e = .returned (.int .i64 (Fx.hold x)) ∧ w' = w := by
  have b1 := Fx.hold_lo x
  have b2 := Fx.hold_hi x
  go_enter Try.func75, Try.ntmps75
  go_wp2_with (go_at_call 74; refine (hold_any _ _).mono ?_; rintro e w' ⟨rfl, rfl⟩)
  go_ret
  exact ⟨rfl, rfl⟩

theorem ofI_above {n : Int} (h : 40000 < n) : Fx.ofI n = Fx.hold 2621440000 := by
  unfold Fx.ofI Fx.hold; repeat' split
  all_goals omega
theorem ofI_below {n : Int} (h : n < -40000) : Fx.ofI n = Fx.hold (-2621440000) := by
  unfold Fx.ofI Fx.hold; repeat' split
  all_goals omega
theorem ofI_in {n : Int} (h1 : -40000 ≤ n) (h2 : n ≤ 40000) : Fx.ofI n = Fx.hold (n * 65536) := by
  unfold Fx.ofI; rw [Fx.hold_of (x := n) (by omega) (by omega)]

set_option maxHeartbeats 400000 in
theorem add_any (a b : Int) (w : World) :
    Calls Try.prog 50 #[.int .i64 a, .int .i64 b] w fun e w' => e = .returned (.int .i64 (Fx.add a b)) ∧ w' = w := by
  unfold Fx.add
  have b1 := Fx.hold_lo a
  have b2 := Fx.hold_hi a
  have b3 := Fx.hold_lo b
  have b4 := Fx.hold_hi b
  go_enter Try.func50, Try.ntmps50
  go_wp2_with (first | (go_at_call 75; refine (whole_any _ _).mono ?_; rintro e w' ⟨rfl, rfl⟩) | (go_at_call 74; refine (hold_any _ _).mono ?_; rintro e w' ⟨rfl, rfl⟩))
  go_ret
  exact ⟨rfl, rfl⟩

set_option maxHeartbeats 400000 in
theorem sub_any (a b : Int) (w : World) :
    Calls Try.prog 49 #[.int .i64 a, .int .i64 b] w fun e w' => e = .returned (.int .i64 (Fx.sub a b)) ∧ w' = w := by
  unfold Fx.sub
  have b1 := Fx.hold_lo a
  have b2 := Fx.hold_hi a
  have b3 := Fx.hold_lo b
  have b4 := Fx.hold_hi b
  go_enter Try.func49, Try.ntmps49
  go_wp2_with (first | (go_at_call 75; refine (whole_any _ _).mono ?_; rintro e w' ⟨rfl, rfl⟩) | (go_at_call 74; refine (hold_any _ _).mono ?_; rintro e w' ⟨rfl, rfl⟩))
  go_ret
  exact ⟨rfl, rfl⟩

theorem down_much {n d : Int} (h : 0 < d) (c : n < n.tdiv d * d) : n.tdiv d - 1 = n / d := by
  have e := Int.tdiv_eq_ediv (a := n) (b := d)
  rw [Int.sign_eq_one_of_pos h] at e
  split at e
  · rw [e] at c
    have h1 := Int.mul_ediv_add_emod n d
    have h2 := Int.emod_nonneg n (b := d) (by omega)
    rw [Int.add_zero, Int.mul_comm] at c
    omega
  · omega
theorem down_fits {n d : Int} (h : 0 < d) (c : n.tdiv d * d ≤ n) : n.tdiv d = n / d := by
  have e := Int.tdiv_eq_ediv (a := n) (b := d)
  rw [Int.sign_eq_one_of_pos h] at e
  split at e
  · omega
  · rw [e, Int.add_mul, Int.mul_comm] at c
    have h1 := Int.mul_ediv_add_emod n d
    have h3 := Int.emod_lt_of_pos n h
    omega
theorem tdiv_mul_bd {n d m : Int} (h1 : -m ≤ n) (h2 : n ≤ m) : -m ≤ n.tdiv d * d ∧ n.tdiv d * d ≤ m := by
  have h : (n.tdiv d * d).natAbs ≤ n.natAbs := by
    rw [Int.natAbs_mul, Int.natAbs_tdiv]; exact Nat.div_mul_le_self _ _
  omega

theorem betw_eq (a b p : Int) : Fx.betw a b p = Fx.hold ((Fx.hold a * 256 + (Fx.hold b - Fx.hold a) * p) / 256) := by
  unfold Fx.betw; congr 1; omega

theorem div_zero (a b : Int) (h : b = 0) (r : Int) (h1 : Fx.hold a = 0 → r = 0) (h2 : 0 < Fx.hold a → r = 2147483647) (h3 : Fx.hold a < 0 → r = -2147483648) : Fx.div a b = r := by
  unfold Fx.div Fx.outer; rw [if_pos h]
  split
  · exact (h2 (Fx.hold_pos ‹_›)).symm
  · split
    · exact (h3 (Fx.hold_neg ‹_›)).symm
    · exact (h1 (Fx.hold_zero.2 (by omega))).symm
theorem div_pos (a b : Int) (h : 0 < Fx.hold b) : Fx.div a b = Fx.hold (Fx.hold a * 65536 / Fx.hold b) := by
  unfold Fx.div; rw [if_neg (fun e => by rw [← Fx.hold_zero] at e; omega), Int.fdiv_eq_ediv_of_nonneg _ (by omega)]
theorem div_neg (a b : Int) (h : Fx.hold b < 0) : Fx.div a b = Fx.hold (-Fx.hold a * 65536 / -Fx.hold b) := by
  unfold Fx.div; rw [if_neg (fun e => by rw [← Fx.hold_zero] at e; omega), ← Int.fdiv_eq_ediv_of_nonneg _ (by omega : 0 ≤ -Fx.hold b), Int.neg_mul, Int.neg_fdiv_neg]

end FxR
end Go.Proofs.Ytbfffgnalopfbaa
/- The plain functions of layer 1 (numbers in fixed point) and what follows of them; no Go in sight. -/
import Derived.WalkKit
namespace Go.Proofs.Ytbfffgnalopfbaa
set_option linter.unusedVariables false
namespace Fx

/-- a number, held -/
def hold (x : Int) : Int := if x < -2147483648 then -2147483648 else if 2147483647 < x then 2147483647 else x

theorem hold_lo (x : Int) : -2147483648 ≤ hold x := by unfold hold; split <;> (try split) <;> omega
theorem hold_hi (x : Int) : hold x ≤ 2147483647 := by unfold hold; split <;> (try split) <;> omega
theorem hold_of {x : Int} (h1 : -2147483648 ≤ x) (h2 : x ≤ 2147483647) : hold x = x := by
  unfold hold; rw [if_neg (by omega), if_neg (by omega)]
theorem hold_below {x : Int} (h : x < -2147483648) : hold x = -2147483648 := by
  unfold hold; rw [if_pos h]
theorem hold_above {x : Int} (h : 2147483647 < x) : hold x = 2147483647 := by
  unfold hold; rw [if_neg (by omega), if_pos h]
theorem hold_mono {x y : Int} (h : x ≤ y) : hold x ≤ hold y := by
  unfold hold; repeat' split
  all_goals omega
theorem hold_hold (x : Int) : hold (hold x) = hold x := hold_of (hold_lo x) (hold_hi x)

def ofI (n : Int) : Int := hold (hold n * 65536)
def add (a b : Int) : Int := hold (hold a + hold b)
def sub (a b : Int) : Int := hold (hold a - hold b)
def mul (a b : Int) : Int := hold (hold a * hold b / 65536)
def outer (a : Int) : Int := if 0 < a then 2147483647 else if a < 0 then -2147483648 else 0
def div (a b : Int) : Int := if b = 0 then outer a else hold ((hold a * 65536).fdiv (hold b))
def floor (a : Int) : Int := hold a / 65536
def betw (a b p : Int) : Int := hold (hold a + (hold b - hold a) * p / 256)

/-- the root of n, bit by bit from 2^(k-1) on, begun at r -/
def rootFrom (n : Int) : Nat → Int → Int
  | 0, r => r
  | k + 1, r => rootFrom n k (if (r + 2 ^ k) * (r + 2 ^ k) ≤ n then r + 2 ^ k else r)
def root (n : Int) : Int := rootFrom n 24 0
def sqrt (a : Int) : Int := if a ≤ 0 then 0 else root (hold a * 65536)

/-! ### products -/
theorem mul_le_of {x y : Int} {m : Int} (h1 : -m ≤ x) (h2 : x ≤ m) (h3 : -m ≤ y) (h4 : y ≤ m) : -(m * m) ≤ x * y ∧ x * y ≤ m * m := by
  have hm : 0 ≤ m := by omega
  have a1 : 0 ≤ (m - x) * (m + y) := Int.mul_nonneg (by omega) (by omega)
  have a2 : 0 ≤ (m + x) * (m - y) := Int.mul_nonneg (by omega) (by omega)
  have a3 : 0 ≤ (m - x) * (m - y) := Int.mul_nonneg (by omega) (by omega)
  have a4 : 0 ≤ (m + x) * (m + y) := Int.mul_nonneg (by omega) (by omega)
  rw [Int.sub_mul, Int.mul_add, Int.mul_add] at a1
  rw [Int.add_mul, Int.mul_sub, Int.mul_sub] at a2
  rw [Int.sub_mul, Int.mul_sub, Int.mul_sub] at a3
  rw [Int.add_mul, Int.mul_add, Int.mul_add] at a4
  constructor <;> omega
theorem hold_mul (a b : Int) : -4611686018427387904 ≤ hold a * hold b ∧ hold a * hold b ≤ 4611686018427387904 := by
  have := hold_lo a; have := hold_hi a; have := hold_lo b; have := hold_hi b
  exact mul_le_of (m := 2147483648) (by omega) (by omega) (by omega) (by omega)
theorem part_mul {x p : Int} (h1 : -4294967295 ≤ x) (h2 : x ≤ 4294967295) (h3 : 0 ≤ p) (h4 : p ≤ 255) : -1095216660225 ≤ x * p ∧ x * p ≤ 1095216660225 := by
  have a1 : 0 ≤ (4294967295 - x) * p := Int.mul_nonneg (by omega) (by omega)
  have a2 : 0 ≤ (4294967295 + x) * p := Int.mul_nonneg (by omega) (by omega)
  rw [Int.sub_mul] at a1; rw [Int.add_mul] at a2
  constructor <;> omega

/-! ### all answers are numbers -/
theorem ofI_lo (n : Int) : -2147483648 ≤ ofI n := hold_lo _
theorem ofI_hi (n : Int) : ofI n ≤ 2147483647 := hold_hi _
theorem add_lo (a b : Int) : -2147483648 ≤ add a b := hold_lo _
theorem add_hi (a b : Int) : add a b ≤ 2147483647 := hold_hi _
theorem sub_lo (a b : Int) : -2147483648 ≤ sub a b := hold_lo _
theorem sub_hi (a b : Int) : sub a b ≤ 2147483647 := hold_hi _
theorem mul_lo (a b : Int) : -2147483648 ≤ mul a b := hold_lo _
theorem mul_hi (a b : Int) : mul a b ≤ 2147483647 := hold_hi _
theorem betw_lo (a b p : Int) : -2147483648 ≤ betw a b p := hold_lo _
theorem betw_hi (a b p : Int) : betw a b p ≤ 2147483647 := hold_hi _
theorem outer_lo (a : Int) : -2147483648 ≤ outer a := by unfold outer; split <;> (try split) <;> omega
theorem outer_hi (a : Int) : outer a ≤ 2147483647 := by unfold outer; split <;> (try split) <;> omega
theorem div_lo (a b : Int) : -2147483648 ≤ div a b := by
  unfold div; split
  · exact outer_lo a
  · exact hold_lo _
theorem div_hi (a b : Int) : div a b ≤ 2147483647 := by
  unfold div; split
  · exact outer_hi a
  · exact hold_hi _

/-! ### which stands first -/
theorem add_comm' (a b : Int) : add a b = add b a := by unfold add; rw [Int.add_comm]
theorem mul_comm' (a b : Int) : mul a b = mul b a := by unfold mul; rw [Int.mul_comm]

/-! ### division, rounded down -/
theorem fdiv_zero_mod {n d : Int} (h : n.tmod d = 0) : n.tdiv d = n.fdiv d := by
  rw [Int.fdiv_eq_tdiv]
  rw [if_pos (Int.dvd_of_tmod_eq_zero h)]; omega
theorem fdiv_other {n d : Int} (hd0 : d ≠ 0) (h : ¬ n.tmod d = 0) (s : (!decide (n < 0) == decide (d < 0)) = true) : n.tdiv d - 1 = n.fdiv d := by
  rw [Int.fdiv_eq_tdiv, if_neg (fun hd => h (Int.tmod_eq_zero_of_dvd hd))]
  have s1 : 0 < d → d.sign = 1 := Int.sign_eq_one_of_pos
  have s2 : d < 0 → d.sign = -1 := Int.sign_eq_neg_one_of_neg
  by_cases h1 : n < 0 <;> by_cases h2 : d < 0 <;> simp [h1, h2] at s ⊢ <;> omega
theorem fdiv_same {n d : Int} (hd0 : d ≠ 0) (h : ¬ n.tmod d = 0) (s : (!decide (n < 0) == decide (d < 0)) = false) : n.tdiv d = n.fdiv d := by
  rw [Int.fdiv_eq_tdiv, if_neg (fun hd => h (Int.tmod_eq_zero_of_dvd hd))]
  have s1 : 0 < d → d.sign = 1 := Int.sign_eq_one_of_pos
  have s2 : d < 0 → d.sign = -1 := Int.sign_eq_neg_one_of_neg
  by_cases h1 : n < 0 <;> by_cases h2 : d < 0 <;> simp [h1, h2] at s ⊢ <;> omega
theorem tdiv_bd {n d m : Int} (h1 : -m ≤ n) (h2 : n ≤ m) : -m ≤ n.tdiv d ∧ n.tdiv d ≤ m := by
  have h := Int.natAbs_tdiv_le_natAbs n d
  omega

/-! ### roots -/
theorem sq_mono {x y : Int} (h0 : 0 ≤ x) (h : x ≤ y) : x * x ≤ y * y := Int.mul_le_mul h h h0 (by omega)
theorem root_unique {n r s : Int} (hr0 : 0 ≤ r) (hs0 : 0 ≤ s) (hr : r * r ≤ n) (hr' : n < (r + 1) * (r + 1)) (hs : s * s ≤ n) (hs' : n < (s + 1) * (s + 1)) : r = s := by
  by_cases h1 : r < s
  · have := sq_mono (x := r + 1) (y := s) (by omega) (by omega); omega
  · by_cases h2 : s < r
    · have := sq_mono (x := s + 1) (y := r) (by omega) (by omega); omega
    · omega
theorem rootFrom_ok (n : Int) (k : Nat) (r : Int) (h0 : 0 ≤ r) (h1 : r * r ≤ n) (h2 : n < (r + 2 ^ k) * (r + 2 ^ k)) :
    0 ≤ rootFrom n k r ∧ rootFrom n k r * rootFrom n k r ≤ n ∧ n < (rootFrom n k r + 1) * (rootFrom n k r + 1) := by
  induction k generalizing r with
  | zero => exact ⟨h0, h1, by simpa [rootFrom] using h2⟩
  | succ k ih =>
    have hp : (0 : Int) < 2 ^ k := Int.pow_pos (by omega)
    have e : (2 : Int) ^ (k + 1) = 2 ^ k + 2 ^ k := by rw [Int.pow_succ]; omega
    unfold rootFrom
    by_cases hc : (r + 2 ^ k) * (r + 2 ^ k) ≤ n
    · rw [if_pos hc]
      exact ih _ (by omega) hc (by rw [e, ← Int.add_assoc] at h2; exact h2)
    · rw [if_neg hc]
      exact ih _ h0 h1 (by omega)
theorem root_ok {n : Int} (h0 : 0 ≤ n) (h : n < 281474976710656) : 0 ≤ root n ∧ root n * root n ≤ n ∧ n < (root n + 1) * (root n + 1) :=
  rootFrom_ok n 24 0 (by omega) (by omega) (by simpa using h)
theorem root_eq {n r : Int} (hn : n < 281474976710656) (hr0 : 0 ≤ r) (hr : r * r ≤ n) (hr' : n < (r + 1) * (r + 1)) : r = root n := by
  have h0 : 0 ≤ r * r := Int.mul_nonneg hr0 hr0
  obtain ⟨a, b, c⟩ := root_ok (n := n) (by omega) hn
  exact root_unique hr0 a hr hr' b c
theorem root_hi {n : Int} (h0 : 0 ≤ n) (h : n < 281474976710656) : root n ≤ 16777215 := by
  obtain ⟨a, b, c⟩ := root_ok h0 h
  by_cases hh : 16777216 ≤ root n
  · have := sq_mono (x := 16777216) (y := root n) (by omega) hh; omega
  · omega
theorem sqrt_lo (a : Int) : 0 ≤ sqrt a := by
  unfold sqrt; split
  · omega
  · have := hold_hi a
    have : 0 ≤ hold a := by have := hold_mono (x := 0) (y := a) (by omega); simpa [hold] using this
    exact (root_ok (by omega) (by omega)).1
theorem sqrt_hi (a : Int) : sqrt a ≤ 16777215 := by
  unfold sqrt; split
  · omega
  · have := hold_hi a
    have : 0 ≤ hold a := by have := hold_mono (x := 0) (y := a) (by omega); simpa [hold] using this
    exact root_hi (by omega) (by omega)
theorem hold_pos {a : Int} (h : 0 < a) : 0 < hold a := by
  have := hold_mono (x := 1) (y := a) (by omega)
  rw [hold_of (by omega) (by omega)] at this; omega
theorem hold_neg {a : Int} (h : a < 0) : hold a < 0 := by
  have := hold_mono (x := a) (y := -1) (by omega)
  rw [hold_of (x := -1) (by omega) (by omega)] at this; omega
theorem hold_zero {a : Int} : hold a = 0 ↔ a = 0 := by
  constructor
  · intro h
    by_cases h1 : 0 < a
    · have := hold_pos h1; omega
    · by_cases h2 : a < 0
      · have := hold_neg h2; omega
      · omega
  · rintro rfl; rfl
/-- a positive number's root -/
theorem sqrt_ok {a : Int} (h : 0 ≤ a) : sqrt a * sqrt a ≤ hold a * 65536 ∧ hold a * 65536 < (sqrt a + 1) * (sqrt a + 1) := by
  unfold sqrt; split
  · have : a = 0 := by omega
    subst this; decide
  · have := hold_hi a
    have := hold_pos (a := a) (by omega)
    exact (root_ok (by omega) (by omega)).2
theorem sqrt_mono {a b : Int} (h : a ≤ b) : sqrt a ≤ sqrt b := by
  by_cases h0 : a ≤ 0
  · have : sqrt a = 0 := by unfold sqrt; rw [if_pos h0]
    have := sqrt_lo b; omega
  · obtain ⟨a1, a2⟩ := sqrt_ok (a := a) (by omega)
    obtain ⟨b1, b2⟩ := sqrt_ok (a := b) (by omega)
    have := hold_mono h
    by_cases hc : sqrt b < sqrt a
    · have := sq_mono (x := sqrt b + 1) (y := sqrt a) (by have := sqrt_lo b; omega) (by omega); omega
    · omega
end Fx
end Go.Proofs.Ytbfffgnalopfbaa

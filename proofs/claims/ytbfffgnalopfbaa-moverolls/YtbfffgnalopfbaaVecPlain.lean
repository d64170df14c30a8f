/- The plain functions of layer 2 (places and ways) and what follows of them; no Go in sight. -/
import Derived.Test.YtbfffgnalopfbaaFixPlain
namespace Go.Proofs.Ytbfffgnalopfbaa
set_option linter.unusedVariables false
namespace Vc

/-- the square of a number, held -/
def sq (x : Int) : Int := Fx.hold x * Fx.hold x
/-- the root of n, rounded down, n below 2^64 -/
def root (n : Int) : Int := Fx.rootFrom n 32 0
def len (x y : Int) : Int := Fx.hold (root (sq x + sq y))
def dot (ax ay bx b_y : Int) : Int := Fx.add (Fx.mul ax bx) (Fx.mul ay b_y)
/-- a number that a place may have, nearest to a -/
def within (a : Int) : Int := if a < -134217728 then -134217728 else if 134217728 < a then 134217728 else a
/-- may a place have it? -/
def inL (a : Int) : Bool := decide (-134217728 ≤ a) && decide (a ≤ 134217728)
def formedB (x y : Int) : Bool := inL x && inL y

theorem sq_lo (x : Int) : 0 ≤ sq x := by
  unfold sq
  by_cases h : 0 ≤ Fx.hold x
  · exact Int.mul_nonneg h h
  · have := Int.mul_nonneg (a := -Fx.hold x) (b := -Fx.hold x) (by omega) (by omega)
    rwa [Int.neg_mul_neg] at this
theorem sq_hi (x : Int) : sq x ≤ 4611686018427387904 := (Fx.hold_mul x x).2

theorem root_ok {n : Int} (h0 : 0 ≤ n) (h : n < 18446744073709551616) : 0 ≤ root n ∧ root n * root n ≤ n ∧ n < (root n + 1) * (root n + 1) :=
  Fx.rootFrom_ok n 32 0 (by omega) (by omega) (by simpa using h)
theorem root_eq {n r : Int} (hn : n < 18446744073709551616) (hr0 : 0 ≤ r) (hr : r * r ≤ n) (hr' : n < (r + 1) * (r + 1)) : r = root n := by
  have h0 : 0 ≤ r * r := Int.mul_nonneg hr0 hr0
  obtain ⟨a, b, c⟩ := root_ok (n := n) (by omega) hn
  exact Fx.root_unique hr0 a hr hr' b c
theorem root_hi {n : Int} (h0 : 0 ≤ n) (h : n < 18446744073709551616) : root n ≤ 4294967295 := by
  obtain ⟨a, b, c⟩ := root_ok h0 h
  by_cases hh : 4294967296 ≤ root n
  · have := Fx.sq_mono (x := 4294967296) (y := root n) (by omega) hh; omega
  · omega
theorem len_lo (x y : Int) : -2147483648 ≤ len x y := Fx.hold_lo _
theorem len_hi (x y : Int) : len x y ≤ 2147483647 := Fx.hold_hi _

theorem within_in {a : Int} (h1 : -134217728 ≤ a) (h2 : a ≤ 134217728) : within a = a := by
  unfold within; rw [if_neg (by omega), if_neg (by omega)]
theorem within_below {a : Int} (h : a < -134217728) : within a = -134217728 := by
  unfold within; rw [if_pos h]
theorem within_above {a : Int} (h : 134217728 < a) : within a = 134217728 := by
  unfold within; rw [if_neg (by omega), if_pos h]
theorem inL_of {a : Int} (h1 : -134217728 ≤ a) (h2 : a ≤ 134217728) : inL a = true := by simp [inL, h1, h2]
theorem inL_iff {a : Int} : inL a = true ↔ -134217728 ≤ a ∧ a ≤ 134217728 := by simp [inL]
theorem within_eq (a : Int) : (a == within a) = inL a := by
  rw [Bool.eq_iff_iff, inL_iff, beq_iff_eq]; unfold within
  repeat' split
  all_goals omega
theorem formedB_iff {x y : Int} : formedB x y = true ↔ (-134217728 ≤ x ∧ x ≤ 134217728) ∧ (-134217728 ≤ y ∧ y ≤ 134217728) := by
  simp only [formedB, Bool.and_eq_true, inL_iff]
end Vc
end Go.Proofs.Ytbfffgnalopfbaa

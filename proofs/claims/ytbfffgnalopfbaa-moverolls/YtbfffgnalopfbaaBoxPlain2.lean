/- The reference's way to say layer 3, in plain functions, and that it says the same. -/
import Derived.Test.YtbfffgnalopfbaaBoxPlain
namespace Go.Proofs.Ytbfffgnalopfbaa
set_option linter.unusedVariables false

theorem and6 (a b c d e f : Bool) : a = false ∨ (a = true ∧ b = false) ∨ (a = true ∧ b = true ∧ c = false) ∨ (a = true ∧ b = true ∧ c = true ∧ d = false) ∨ (a = true ∧ b = true ∧ c = true ∧ d = true ∧ e = false) ∨ (a = true ∧ b = true ∧ c = true ∧ d = true ∧ e = true ∧ f = false) ∨ (a = true ∧ b = true ∧ c = true ∧ d = true ∧ e = true ∧ f = true) := by
  cases a <;> cases b <;> cases c <;> cases d <;> cases e <;> cases f <;> simp

namespace Bx
def inR (px py lx ly mx my : Int) : Bool := Vc.formedB px py && formed lx ly mx my && decide (lx ≤ px) && decide (px ≤ mx) && decide (ly ≤ py) && decide (py ≤ my)
theorem inR_eq (px py lx ly mx my : Int) : inR px py lx ly mx my = inB px py lx ly mx my := by
  rw [Bool.eq_iff_iff, inB_iff]
  simp only [inR, Bool.and_eq_true, decide_eq_true_eq, Vc.formedB_iff, formed_iff]
  omega
def overlapR (lx ly mx my lx' ly' mx' my' : Int) : Bool := formed lx ly mx my && formed lx' ly' mx' my' && decide (lx' < mx) && decide (lx < mx') && decide (ly' < my) && decide (ly < my')
theorem overlapR_eq (lx ly mx my lx' ly' mx' my' : Int) : overlapR lx ly mx my lx' ly' mx' my' = overlap lx ly mx my lx' ly' mx' my' := by
  rw [Bool.eq_iff_iff]
  simp only [overlapR, overlap, laps, Bool.and_eq_true, decide_eq_true_eq]
  constructor <;> (intro h; simp [h])

def atB (l m f t n d : Int) : Bool := decide (l * d ≤ f * d + (t - f) * n) && decide (f * d + (t - f) * n ≤ m * d)
theorem atB_iff {l m f t n d : Int} : atB l m f t n d = true ↔ at1 l m f t n d := by simp [atB, at1]
theorem mul_bd {a b : Int} (h1 : -268435456 ≤ a) (h2 : a ≤ 268435456) (h3 : 0 ≤ b) (h4 : b ≤ 1073741824) : -288230376151711744 ≤ a * b ∧ a * b ≤ 288230376151711744 := by
  have x1 : 0 ≤ (268435456 - a) * b := Int.mul_nonneg (by omega) h3
  have x2 : 0 ≤ (268435456 + a) * b := Int.mul_nonneg (by omega) h3
  rw [Int.sub_mul] at x1; rw [Int.add_mul] at x2
  constructor <;> omega

/-- when a number, on its way, comes to the nearer one of two -/
structure Cm where
  ok : Bool
  n : Int
  d : Int
def comes (f t l m : Int) : Cm :=
  if f < l ∧ l ≤ t then ⟨true, l - f, t - f⟩ else if m < f ∧ t ≤ m then ⟨true, f - m, f - t⟩ else ⟨false, 0, 0⟩
theorem comes_fits {f t l m : Int} (h : l ≤ m) (hw : t - f ≤ 1073741824) (hw' : f - t ≤ 1073741824) :
    (0 ≤ (comes f t l m).n ∧ (comes f t l m).n ≤ 1073741824) ∧ (0 ≤ (comes f t l m).d ∧ (comes f t l m).d ≤ 1073741824) := by
  unfold comes; split
  · dsimp only; omega
  · split <;> (dsimp only; omega)
/-- where it comes, that is the stay's first time -/
theorem comes_st {f t l m : Int} (h : l ≤ m) (hc : (comes f t l m).ok = true) : (st l m f t).ok = true ∧ (st l m f t).fn = (comes f t l m).n ∧ (st l m f t).fd = (comes f t l m).d ∧ 1 ≤ (comes f t l m).n ∧ 1 ≤ (comes f t l m).d := by
  unfold comes at hc ⊢
  by_cases h1 : f < l ∧ l ≤ t
  · rw [if_pos h1]; unfold st up
    rw [if_neg (by omega), if_neg (by omega)]; dsimp only; rw [if_pos (by omega), if_pos (by omega)]
    refine ⟨rfl, rfl, rfl, ?_, ?_⟩ <;> omega
  · rw [if_neg h1] at hc ⊢
    by_cases h2 : m < f ∧ t ≤ m
    · rw [if_pos h2]; unfold st up
      rw [if_pos (by omega), if_neg (by omega)]; dsimp only; rw [if_pos (by omega), if_pos (by omega)]
      refine ⟨rfl, ?_, ?_, ?_, ?_⟩ <;> omega
    · rw [if_neg h2] at hc; cases hc
/-- where it is there at once, the first time is 0 / 1 -/
theorem comes_not {f t l m : Int} (h : l ≤ m) (hc : (comes f t l m).ok = false) (hs : (st l m f t).ok = true) : (st l m f t).fn = 0 ∧ (st l m f t).fd = 1 ∧ l ≤ f ∧ f ≤ m := by
  unfold comes at hc
  by_cases h1 : f < l ∧ l ≤ t
  · rw [if_pos h1] at hc; cases hc
  · rw [if_neg h1] at hc
    by_cases h2 : m < f ∧ t ≤ m
    · rw [if_pos h2] at hc; cases hc
    · unfold st up at hs ⊢
      by_cases g : t < f
      · rw [if_pos g] at hs ⊢
        by_cases g' : -l < -f ∨ -t < -m
        · rw [if_pos g'] at hs; cases hs
        · rw [if_neg g']; dsimp only; rw [if_neg (by omega), if_neg (by omega)]; refine ⟨rfl, rfl, ?_, ?_⟩ <;> omega
      · rw [if_neg g] at hs ⊢
        by_cases g' : m < f ∨ t < l
        · rw [if_pos g'] at hs; cases hs
        · rw [if_neg g']; dsimp only; rw [if_neg (by omega), if_neg (by omega)]; refine ⟨rfl, rfl, ?_, ?_⟩ <;> omega
/-- at once there: the stay begins at 0 / 1 -/
theorem st_in {f t l m : Int} (h1 : l ≤ f) (h2 : f ≤ m) : (st l m f t).ok = true ∧ (st l m f t).fn = 0 ∧ (st l m f t).fd = 1 := by
  unfold st up
  split
  · rw [if_neg (by omega)]; dsimp only; rw [if_neg (by omega), if_neg (by omega)]; exact ⟨rfl, rfl, rfl⟩
  · rw [if_neg (by omega)]; dsimp only; rw [if_neg (by omega), if_neg (by omega)]; exact ⟨rfl, rfl, rfl⟩
end Bx
end Go.Proofs.Ytbfffgnalopfbaa

/- Numbers by chance, plain: the next state and its number, and that both tell the state. -/
import Derived.Laws.BitsAllLaws
namespace Go.Proofs.Ytnekpcclimcedaa.Ra
set_option linter.unusedVariables false

def nxt (s : Nat) : Nat := (s + 11400714819323198485) % 18446744073709551616
def mixA (x : Nat) : Nat := (x ^^^ x / 1073741824) * 13787848793156543929 % 18446744073709551616
def mixB (x : Nat) : Nat := (x ^^^ x / 134217728) * 10723151780598845931 % 18446744073709551616
def mixC (x : Nat) : Nat := x ^^^ x / 2147483648
/-- a state's number, out of the next one -/
def num (s : Nat) : Nat := mixC (mixB (mixA (nxt s)))
theorem nxt_lt (s : Nat) : nxt s < 18446744073709551616 := Nat.mod_lt _ (by omega)
theorem mixA_lt (s : Nat) : mixA s < 18446744073709551616 := Nat.mod_lt _ (by omega)
theorem mixB_lt (s : Nat) : mixB s < 18446744073709551616 := Nat.mod_lt _ (by omega)
theorem xor_lt {a b : Nat} (ha : a < 18446744073709551616) (hb : b < 18446744073709551616) : a ^^^ b < 18446744073709551616 := Nat.xor_lt_two_pow (n := 64) ha hb
theorem mixC_lt {x : Nat} (h : x < 18446744073709551616) : mixC x < 18446744073709551616 := xor_lt h (by omega)
theorem num_lt (s : Nat) : num s < 18446744073709551616 := mixC_lt (mixB_lt _)
theorem xor_inj {a b : Nat} (h : a ^^^ b = 0) : a = b := by
  have e : (a ^^^ b) ^^^ b = b := by rw [h, Nat.zero_xor]
  rw [Nat.xor_assoc, Nat.xor_self, Nat.xor_zero] at e
  exact e
theorem fold_inj {x y : Nat} (k : Nat) (hk : 0 < k) (h : x ^^^ x / 2 ^ k = y ^^^ y / 2 ^ k) : x = y := by
  have e : (x ^^^ y) ^^^ (x ^^^ y) / 2 ^ k = 0 := by
    rw [← Nat.shiftRight_eq_div_pow, Nat.shiftRight_xor_distrib, Nat.shiftRight_eq_div_pow, Nat.shiftRight_eq_div_pow]
    have : (x ^^^ x / 2 ^ k) ^^^ (y ^^^ y / 2 ^ k) = 0 := by rw [h, Nat.xor_self]
    rw [Nat.xor_assoc, ← Nat.xor_assoc (x / 2 ^ k), Nat.xor_comm (x / 2 ^ k) y, Nat.xor_assoc y, ← Nat.xor_assoc] at this
    exact this
  have e2 := xor_inj e
  have hz : x ^^^ y = 0 := by
    by_cases h0 : x ^^^ y = 0
    · exact h0
    · have : (x ^^^ y) / 2 ^ k < x ^^^ y := Nat.div_lt_self (Nat.pos_of_ne_zero h0) (Nat.one_lt_two_pow (by omega))
      omega
  exact xor_inj hz
theorem nxt_inj {a b : Nat} (ha : a < 18446744073709551616) (hb : b < 18446744073709551616) (h : nxt a = nxt b) : a = b := by unfold nxt at h; omega
theorem back {x c d : Nat} (h : c * d % 18446744073709551616 = 1) : x * c % 18446744073709551616 * d % 18446744073709551616 = x % 18446744073709551616 := by
  rw [Nat.mod_mul_mod, Nat.mul_assoc, Nat.mul_mod, h, Nat.mul_one, Nat.mod_mod]
theorem mixA_inj {a b : Nat} (ha : a < 18446744073709551616) (hb : b < 18446744073709551616) (h : mixA a = mixA b) : a = b := by
  have hinv : 13787848793156543929 * 10871156337175269513 % 18446744073709551616 = 1 := by decide
  have e : (a ^^^ a / 1073741824) * 13787848793156543929 % 18446744073709551616 * 10871156337175269513 % 18446744073709551616 = (b ^^^ b / 1073741824) * 13787848793156543929 % 18446744073709551616 * 10871156337175269513 % 18446744073709551616 := by
    have h' : (a ^^^ a / 1073741824) * 13787848793156543929 % 18446744073709551616 = (b ^^^ b / 1073741824) * 13787848793156543929 % 18446744073709551616 := h
    rw [h']
  have e1 := back (x := a ^^^ a / 1073741824) (c := 13787848793156543929) (d := 10871156337175269513) hinv
  have e2 := back (x := b ^^^ b / 1073741824) (c := 13787848793156543929) (d := 10871156337175269513) hinv
  have l1 := xor_lt ha (show a / 1073741824 < 18446744073709551616 by omega)
  have l2 := xor_lt hb (show b / 1073741824 < 18446744073709551616 by omega)
  have e3 : a ^^^ a / 1073741824 = b ^^^ b / 1073741824 := by
    have := (e1.symm.trans e).trans e2
    rw [Nat.mod_eq_of_lt l1, Nat.mod_eq_of_lt l2] at this
    exact this
  have hp : (1073741824 : Nat) = 2 ^ 30 := by decide
  rw [hp] at e3
  exact fold_inj 30 (by omega) e3
theorem mixB_inj {a b : Nat} (ha : a < 18446744073709551616) (hb : b < 18446744073709551616) (h : mixB a = mixB b) : a = b := by
  have hinv : 10723151780598845931 * 3573116690164977347 % 18446744073709551616 = 1 := by decide
  have e : (a ^^^ a / 134217728) * 10723151780598845931 % 18446744073709551616 * 3573116690164977347 % 18446744073709551616 = (b ^^^ b / 134217728) * 10723151780598845931 % 18446744073709551616 * 3573116690164977347 % 18446744073709551616 := by
    have h' : (a ^^^ a / 134217728) * 10723151780598845931 % 18446744073709551616 = (b ^^^ b / 134217728) * 10723151780598845931 % 18446744073709551616 := h
    rw [h']
  have e1 := back (x := a ^^^ a / 134217728) (c := 10723151780598845931) (d := 3573116690164977347) hinv
  have e2 := back (x := b ^^^ b / 134217728) (c := 10723151780598845931) (d := 3573116690164977347) hinv
  have l1 := xor_lt ha (show a / 134217728 < 18446744073709551616 by omega)
  have l2 := xor_lt hb (show b / 134217728 < 18446744073709551616 by omega)
  have e3 : a ^^^ a / 134217728 = b ^^^ b / 134217728 := by
    have := (e1.symm.trans e).trans e2
    rw [Nat.mod_eq_of_lt l1, Nat.mod_eq_of_lt l2] at this
    exact this
  have hp : (134217728 : Nat) = 2 ^ 27 := by decide
  rw [hp] at e3
  exact fold_inj 27 (by omega) e3
theorem mixC_inj {a b : Nat} (h : mixC a = mixC b) : a = b := by
  have e : a ^^^ a / 2147483648 = b ^^^ b / 2147483648 := h
  have hp : (2147483648 : Nat) = 2 ^ 31 := by decide
  rw [hp] at e
  exact fold_inj 31 (by omega) e
theorem num_inj {a b : Nat} (ha : a < 18446744073709551616) (hb : b < 18446744073709551616) (h : num a = num b) : a = b :=
  nxt_inj ha hb (mixA_inj (nxt_lt _) (nxt_lt _) (mixB_inj (mixA_lt _) (mixA_lt _) (mixC_inj h)))
/-- k steps -/
def steps (s : Nat) : Nat → Nat
  | 0 => s
  | k + 1 => nxt (steps s k)
theorem steps_eq {s : Nat} (h : s < 18446744073709551616) : ∀ k, steps s k = (s + k * 11400714819323198485) % 18446744073709551616
  | 0 => by show s = _; omega
  | k + 1 => by show nxt (steps s k) = _; rw [steps_eq h k]; unfold nxt; omega
theorem steps_lt {s : Nat} (h : s < 18446744073709551616) (k : Nat) : steps s k < 18446744073709551616 := by rw [steps_eq h]; exact Nat.mod_lt _ (by omega)
end Go.Proofs.Ytnekpcclimcedaa.Ra

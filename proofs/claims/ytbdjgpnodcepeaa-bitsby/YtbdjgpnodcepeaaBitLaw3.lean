/- Powers of two in the laws of layer 6 (BtL). -/
import Derived.Test.YtbdjgpnodcepeaaBitLaw2
namespace Go.Proofs.Ytbdjgpnodcepeaa
open Go.RowKit
set_option linter.unusedVariables false

namespace BtL
theorem shl_one {N : Nat} (h : N < 64) : ((2 : Int) ^ N % 18446744073709551616) = ((2 ^ N : Nat) : Int) ∧ 0 < 2 ^ N := by
  have hp : 2 ^ N ≤ 2 ^ 63 := Nat.pow_le_pow_right (by omega) (by omega)
  have hp' : 2 ^ N ≤ 9223372036854775808 := hp
  have e : (2 : Int) ^ N = ((2 ^ N : Nat) : Int) := by simp
  refine ⟨?_, Nat.pow_pos (by omega)⟩
  rw [e]
  generalize 2 ^ N = c at hp'
  omega
theorem wrap_eq (z : Int) : IntKind.i64.wrap z = wrap64 z := by
  simp [wrap64, IntKind.wrap, IntKind.bits, IntKind.signed]
  split <;> omega
theorem wrap_pow {N P : Nat} (h : N < 64) (hP : P = 2 ^ N) : IntKind.u64.wrap ((2 : Int) ^ N) = (P : Int) ∧ ¬ (P : Int) = 0 := by
  have hw : ∀ y : Int, IntKind.u64.wrap y = y % 18446744073709551616 := fun y => by simp [IntKind.wrap, IntKind.bits, IntKind.signed]
  obtain ⟨h1, h2⟩ := shl_one h
  rw [hw, h1, hP]
  refine ⟨rfl, ?_⟩
  generalize 2 ^ N = c at h2
  omega
theorem rblk_lt {p : Nat} {v : Value} {bs : List Nat} {r : Bt.Rd} {w : World} (h : PRd p v bs r w) : ∀ k ∈ rblk v, k < w.heap.size := by
  obtain ⟨_, ⟨oa, cap, rfl, _, hd⟩, _⟩ := h
  intro k hk
  cases oa with
  | none => simp [rblk] at hk
  | some a =>
    simp [rblk] at hk
    subst hk
    exact (hd a rfl).2
end BtL
end Go.Proofs.Ytbdjgpnodcepeaa

/- Numbers of n bits are put, with how many bits there are at most: the program's and the reference's. -/
import Derived.Test.YtloobijdpchppaaBitWr
import Derived.Test.YtloobijdpchppaaBitRf
namespace Go.Proofs.Ytloobijdpchppaa
open Go.RowKit
set_option linter.unusedVariables false

theorem puts_nat (x n : Nat) (h : n ≤ 64) : BtW.puts x (n : Int) = Bt.bits x n := by
  unfold BtW.puts; rw [if_pos (by omega)]; rfl
theorem puts_len (x : Nat) (n : Int) : (BtW.puts x n).length ≤ 64 := by
  unfold BtW.puts
  split
  · rw [Bt.bits_length]; omega
  · simp

namespace BtR
/-- Put, with how many bits there are at most -/
theorem put_b {p : Nat} {M : List Bool} {F : List Nat} {x n : Int} {w : World} {b : Nat} (hx0 : 0 ≤ x) (hx : x < 18446744073709551616) (h : RB p M F w ∧ M.length ≤ b) (hb : b ≤ 549755813888) :
    Calls Try.prog 40 #[.pointer (some ⟨p, 0, none⟩), .int .u64 x, .int .i64 n] w fun e w' => e = .returned (.tuple #[]) ∧ ∃ F', (RB p (M ++ BtW.puts x.toNat n) F' w' ∧ (M ++ BtW.puts x.toNat n).length ≤ b + 64) ∧ Moved F F' w w' :=
  (put_any p M F x n hx0 hx w h.1 (by omega)).mono fun e w' ⟨he, F', h1, h2⟩ => ⟨he, F', ⟨h1, by have := puts_len x.toNat n; rw [List.length_append]; omega⟩, h2⟩
end BtR

namespace BtW
/-- Put, with how many bits there are at most -/
theorem put_b {p : Nat} {M : List Bool} {F : List Nat} {x n : Int} {w : World} {b : Nat} (hx0 : 0 ≤ x) (hx : x < 18446744073709551616) (h : PW p M F w ∧ M.length ≤ b) (hb : b ≤ 549755813888) :
    Calls Try.prog 38 #[.pointer (some ⟨p, 0, none⟩), .int .u64 x, .int .i64 n] w fun e w' => e = .returned (.tuple #[]) ∧ ∃ F', (PW p (M ++ BtW.puts x.toNat n) F' w' ∧ (M ++ BtW.puts x.toNat n).length ≤ b + 64) ∧ Moved F F' w w' :=
  (put_any p M F x n hx0 hx w h.1 (by omega)).mono fun e w' ⟨he, F', h1, h2⟩ => ⟨he, F', ⟨h1, by have := puts_len x.toNat n; rw [List.length_append]; omega⟩, h2⟩
end BtW
end Go.Proofs.Ytloobijdpchppaa

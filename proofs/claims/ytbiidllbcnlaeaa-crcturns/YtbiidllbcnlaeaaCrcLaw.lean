/- The words that the laws of layer 5 share. -/
import Derived.Test.YtbiidllbcnlaeaaCrcRef
import Derived.Test.YtbiidllbcnlaeaaKept
import Derived.Test.YtbiidllbcnlaeaaLie
import Derived.Lib.SlBytesConst
namespace Go.Proofs.Ytbiidllbcnlaeaa
open Go.RowKit
set_option linter.unusedVariables false

theorem u32_nat {a : Int} (h : (Lit.int .u32 a).wf = true) : ∃ n : Nat, a = (n : Int) ∧ n < 4294967296 := by
  simp [Lit.wf, IntKind.min, IntKind.max, IntKind.bits, IntKind.signed] at h
  exact ⟨a.toNat, by omega, by omega⟩
namespace CrL
def ex : List Nat := [49, 50, 51, 52, 53, 54, 55, 56, 57]
theorem ex_sum : Cr.sum ex = 3421780262 := by decide +kernel
theorem ex_lt : ∀ x ∈ ex, x < 256 := by decide

set_option maxHeartbeats 400000 in
theorem awake_any (w : World) :
    Calls Try.prog 7 #[] w fun e w' => e = .returned (.bool true) ∧ Below w.heap.size w w' := by
  have hrow : Row (some ⟨w.heap.size, 0, none⟩) ex (w.alloc (.cells #[.int .u8 49, .int .u8 50, .int .u8 51, .int .u8 52, .int .u8 53, .int .u8 54, .int .u8 55, .int .u8 56, .int .u8 57] 5 (9, 10))) := by
    intro i hi
    refine ⟨w.heap.size, 0, rfl, by simp, ?_⟩
    rw [Nat.zero_add, World.cell?_alloc_mark]
    have hi' : i < 9 := hi
    match i, hi' with
    | 0, _ => rfl
    | 1, _ => rfl
    | 2, _ => rfl
    | 3, _ => rfl
    | 4, _ => rfl
    | 5, _ => rfl
    | 6, _ => rfl
    | 7, _ => rfl
    | 8, _ => rfl
  have hs := ex_sum
  have kc := fun (w : World) (C : Array Value) (n c : Nat) => Lib.run_convert_bytes_const (P := Try.prog) w 22 5 C n c Try.underlying22 Try.underlying5
  go_enter Try.func7, Try.ntmps7
  go_wp2_with (go_at_call 8; with_reducible refine (CrW.sum_any _ ex 9 _ _ rfl (by omega) hrow ex_lt).mono ?_; rintro e w' ⟨rfl, rfl⟩)
  go_ret
  exact ⟨rfl, (Below.refl _ _).alloc (Nat.le_refl _) _⟩
end CrL
end Go.Proofs.Ytbiidllbcnlaeaa

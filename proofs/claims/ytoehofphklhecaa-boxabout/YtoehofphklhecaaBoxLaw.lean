/- What the laws of layer 3 share: what they ask first, their small functions, '==' on boxes and times, and how a box that came in is opened. -/
import Derived.Test.YtoehofphklhecaaBoxCalls
import Derived.ProofKit
import Derived.OpenShut
import Derived.ChangeOld
import Derived.Lib.SmallJoins
import Derived.Laws.IdiomArrays
namespace Go.Proofs.Ytoehofphklhecaa
open Go.RowKit
set_option linter.unusedVariables false

/-- two boxes are compared number by number -/
theorem box_eql (a b c d a' b' c' d' : Int) (w : World) : (binOp .eql 30 (.agg #[.int .i64 a, .int .i64 b, .int .i64 c, .int .i64 d]) (.agg #[.int .i64 a', .int .i64 b', .int .i64 c', .int .i64 d'])).run Try.prog w = .ok (.bool ((a == a') && (b == b') && (c == c') && (d == d'))) w := by
  rw [run_eql_struct, run_equalIn_agg (d := 9999) (ht := by kernel_rfl) (hp := by kernel_rfl)]
  simp [go_sem]
  by_cases h : a = a' <;> by_cases h' : b = b' <;> by_cases h'' : c = c' <;> by_cases h''' : d = d' <;> simp [h, h', h'', h''']

theorem rtime_eql (a b a' b' : Int) (w : World) : (binOp .eql 42 (.agg #[.int .i64 a, .int .i64 b]) (.agg #[.int .i64 a', .int .i64 b'])).run Try.prog w = .ok (.bool ((a == a') && (b == b'))) w := by
  rw [run_eql_struct, run_equalIn_agg (d := 9999) (ht := by kernel_rfl) (hp := by kernel_rfl)]
  simp [go_sem]
  by_cases h : a = a' <;> by_cases h' : b = b' <;> simp [h, h']

theorem time_eql (a b a' b' : Int) (w : World) : (binOp .eql 38 (.agg #[.int .i64 a, .int .i64 b]) (.agg #[.int .i64 a', .int .i64 b'])).run Try.prog w = .ok (.bool ((a == a') && (b == b'))) w := by
  rw [run_eql_struct, run_equalIn_agg (d := 9999) (ht := by kernel_rfl) (hp := by kernel_rfl)]
  simp [go_sem]
  by_cases h : a = a' <;> by_cases h' : b = b' <;> simp [h, h']

namespace BxL

theorem formed0 : Bx.formed 0 0 0 0 = true := by decide
theorem in0 : Bx.inB 0 0 0 0 0 0 = true := by decide

set_option maxHeartbeats 400000 in
theorem awake_any (w : World) :
    Calls Try.prog 10 #[] w fun e w' => e = .returned (.bool true) ∧ Below w.heap.size w w' := by
  have F := BxW.formed_any 0 0 0 0
  have I := BxW.in_any 0 0 0 0 0 0
  rw [formed0] at F
  rw [in0] at I
  go_enter Try.func10, Try.ntmps10
  go_wp2_with (first | (go_at_call 11; refine (F _).mono ?_; rintro e w1 ⟨rfl, hb1⟩) | (go_at_call 14; refine (I _).mono ?_; rintro e w2 ⟨rfl, hb2⟩))
  go_ret
  exact ⟨rfl, hb1.trans (hb2.mono hb1.size)⟩

set_option maxHeartbeats 400000 in
theorem plain_any (a b c d : Int) (w : World) :
    Calls Try.prog 13 #[.agg #[.int .i64 a, .int .i64 b, .int .i64 c, .int .i64 d]] w fun e w' => e = .returned (.agg #[.int .i64 a, .int .i64 b, .int .i64 c, .int .i64 d]) ∧ Below w.heap.size w w' := by
  go_enter Try.func13, Try.ntmps13
  go_wp2
  refine bodyPost_ret (by simp [results, Try.results13, go_sem]) rfl (And.intro rfl ?_)
  repeat (first | exact Below.refl _ _ | refine Below.drew ?_ | refine Below.alloc ?_ (by simp <;> omega) _ | refine Below.setCell ?_ (by simp) _)

set_option maxHeartbeats 400000 in
theorem small_any (a : Int) (w : World) :
    Calls Try.prog 25 #[.int .i64 a] w fun e w' => e = .returned (.int .i64 a) ∧ w' = w := by
  go_enter Try.func25, Try.ntmps25
  go_wp2
  go_ret
  exact ⟨rfl, rfl⟩

/-- are two numbers less than twice a half apart? -/
def near (x y h : Int) : Bool := decide (x - y < 2 * h) && decide (y - x < 2 * h)

set_option maxHeartbeats 400000 in
theorem near_any (x y h : Int) (hx : -2097152 ≤ x ∧ x ≤ 2097152) (hy : -2097152 ≤ y ∧ y ≤ 2097152) (hh : 0 ≤ h ∧ h ≤ 65535) (w : World) :
    Calls Try.prog 26 #[.int .i64 x, .int .i64 y, .int .i64 h] w fun e w' => e = .returned (.bool (near x y h)) ∧ w' = w := by
  unfold near
  by_cases h1 : x - y < 2 * h
  all_goals by_cases h2 : y - x < 2 * h
  all_goals first | (exfalso; omega) | skip
  all_goals
    go_enter Try.func26, Try.ntmps26
    go_wp2
    go_ret
    exact bool_eq (by simp [*]) rfl
end BxL
end Go.Proofs.Ytoehofphklhecaa

/- What the small functions of layer 3 answer, as a call: the program's (BxW). Nothing that lay in memory before turns. -/
import Derived.Test.YtbfffgnalopfbaaVecCalls
import Derived.Test.YtbfffgnalopfbaaKept
import Derived.Test.YtbfffgnalopfbaaLie
import Derived.Test.YtbfffgnalopfbaaBoxPlain
namespace Go.Proofs.Ytbfffgnalopfbaa
open Go.RowKit
set_option linter.unusedVariables false

theorem bool_eq {a b : Bool} {p : Prop} (h : a = b) (hp : p) : Ending.returned (.bool a) = .returned (.bool b) ∧ p := by rw [h]; exact ⟨rfl, hp⟩

namespace BxW

set_option maxHeartbeats 400000 in
theorem has_any (l m n : Int) (w : World) :
    Calls Try.prog 79 #[.agg #[.int .i64 l, .int .i64 m], .int .i64 n] w fun e w' => e = .returned (.bool (Bx.has l m n)) ∧ Below w.heap.size w w' := by
  unfold Bx.has
  by_cases h1 : l ≤ n
  all_goals by_cases h2 : n ≤ m
  all_goals
    go_enter Try.func79, Try.ntmps79
    go_wp2
    go_ret
    exact bool_eq (by simp [*]) (below_one _ _)

set_option maxHeartbeats 400000 in
theorem laps_any (l m l' m' : Int) (w : World) :
    Calls Try.prog 70 #[.agg #[.int .i64 l, .int .i64 m], .agg #[.int .i64 l', .int .i64 m']] w fun e w' => e = .returned (.bool (Bx.laps l m l' m')) ∧ Below w.heap.size w w' := by
  unfold Bx.laps
  by_cases h1 : l < m'
  all_goals by_cases h2 : l' < m
  all_goals
    go_enter Try.func70, Try.ntmps70
    go_wp2
    go_ret
    exact bool_eq (by simp [*]) (((Below.refl _ _).alloc (Nat.le_refl _) _).alloc (by simp) _)

set_option maxHeartbeats 400000 in
theorem alongX_any (lx ly mx my : Int) (w : World) :
    Calls Try.prog 69 #[.agg #[.int .i64 lx, .int .i64 ly, .int .i64 mx, .int .i64 my]] w fun e w' => e = .returned (.agg #[.int .i64 lx, .int .i64 mx]) ∧ Below w.heap.size w w' := by
  go_enter Try.func69, Try.ntmps69
  go_wp2
  exact bodyPost_ret (v := .agg #[.int .i64 lx, .int .i64 mx]) (by simp [results, Try.results69, go_sem]) rfl ⟨rfl, ((Below.refl _ _).alloc (Nat.le_refl _) _).alloc (by simp) _⟩

set_option maxHeartbeats 400000 in
theorem alongY_any (lx ly mx my : Int) (w : World) :
    Calls Try.prog 71 #[.agg #[.int .i64 lx, .int .i64 ly, .int .i64 mx, .int .i64 my]] w fun e w' => e = .returned (.agg #[.int .i64 ly, .int .i64 my]) ∧ Below w.heap.size w w' := by
  go_enter Try.func71, Try.ntmps71
  go_wp2
  exact bodyPost_ret (v := .agg #[.int .i64 ly, .int .i64 my]) (by simp [results, Try.results71, go_sem]) rfl ⟨rfl, ((Below.refl _ _).alloc (Nat.le_refl _) _).alloc (by simp) _⟩

set_option maxHeartbeats 400000 in
theorem formed_any (lx ly mx my : Int) (w : World) :
    Calls Try.prog 37 #[.agg #[.int .i64 lx, .int .i64 ly, .int .i64 mx, .int .i64 my]] w fun e w' => e = .returned (.bool (Bx.formed lx ly mx my)) ∧ Below w.heap.size w w' := by
  unfold Bx.formed
  cases h1 : Vc.formedB lx ly
  all_goals cases h2 : Vc.formedB mx my
  all_goals by_cases h3 : lx ≤ mx
  all_goals by_cases h4 : ly ≤ my
  all_goals
    go_enter Try.func37, Try.ntmps37
    go_wp2_with (go_at_call 54; refine (VcW.formed_any _ _ _).mono ?_; rintro e w' ⟨rfl, hb⟩; have hK : Keep w [(w.heap.size, [.int .i64 lx, .int .i64 ly, .int .i64 mx, .int .i64 my])] w' := Keep.on (by first | assumption | exact ⟨by simp [Lie, LieAt, go_sem], by simp, below_one _ _⟩) hb; have hS := hK; simp only [Keep, Lie, LieAt, Nat.reduceAdd] at hS)
    go_ret
    exact bool_eq (by simp [*]) hK.2.2

end BxW
end Go.Proofs.Ytbfffgnalopfbaa
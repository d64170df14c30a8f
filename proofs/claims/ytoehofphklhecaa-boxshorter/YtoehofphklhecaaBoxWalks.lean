/- What the small functions of layer 3 answer, as a call: the program's (BxW). Nothing that lay in memory before turns. -/
import Derived.Test.YtoehofphklhecaaVecCalls
import Derived.Test.YtoehofphklhecaaKept
import Derived.Test.YtoehofphklhecaaLie
import Derived.Test.YtoehofphklhecaaBoxPlain
namespace Go.Proofs.Ytoehofphklhecaa
open Go.RowKit
set_option linter.unusedVariables false

theorem bool_eq {a b : Bool} {p : Prop} (h : a = b) (hp : p) : Ending.returned (.bool a) = .returned (.bool b) ∧ p := by rw [h]; exact ⟨rfl, hp⟩

namespace BxW

set_option maxHeartbeats 400000 in
theorem has_any (l m n : Int) (w : World) :
    Calls Try.prog 29 #[.agg #[.int .i64 l, .int .i64 m], .int .i64 n] w fun e w' => e = .returned (.bool (Bx.has l m n)) ∧ Below w.heap.size w w' := by
  unfold Bx.has
  by_cases h1 : l ≤ n
  all_goals by_cases h2 : n ≤ m
  all_goals
    go_enter Try.func29, Try.ntmps29
    go_wp2
    go_ret
    exact bool_eq (by simp [*]) (below_one _ _)

set_option maxHeartbeats 400000 in
theorem laps_any (l m l' m' : Int) (w : World) :
    Calls Try.prog 31 #[.agg #[.int .i64 l, .int .i64 m], .agg #[.int .i64 l', .int .i64 m']] w fun e w' => e = .returned (.bool (Bx.laps l m l' m')) ∧ Below w.heap.size w w' := by
  unfold Bx.laps
  by_cases h1 : l < m'
  all_goals by_cases h2 : l' < m
  all_goals
    go_enter Try.func31, Try.ntmps31
    go_wp2
    go_ret
    exact bool_eq (by simp [*]) (((Below.refl _ _).alloc (Nat.le_refl _) _).alloc (by simp) _)

set_option maxHeartbeats 400000 in
theorem alongX_any (lx ly mx my : Int) (w : World) :
    Calls Try.prog 28 #[.agg #[.int .i64 lx, .int .i64 ly, .int .i64 mx, .int .i64 my]] w fun e w' => e = .returned (.agg #[.int .i64 lx, .int .i64 mx]) ∧ Below w.heap.size w w' := by
  go_enter Try.func28, Try.ntmps28
  go_wp2
  exact bodyPost_ret (v := .agg #[.int .i64 lx, .int .i64 mx]) (by simp [results, Try.results28, go_sem]) rfl ⟨rfl, ((Below.refl _ _).alloc (Nat.le_refl _) _).alloc (by simp) _⟩

set_option maxHeartbeats 400000 in
theorem alongY_any (lx ly mx my : Int) (w : World) :
    Calls Try.prog 30 #[.agg #[.int .i64 lx, .int .i64 ly, .int .i64 mx, .int .i64 my]] w fun e w' => e = .returned (.agg #[.int .i64 ly, .int .i64 my]) ∧ Below w.heap.size w w' := by
  go_enter Try.func30, Try.ntmps30
  go_wp2
  exact bodyPost_ret (v := .agg #[.int .i64 ly, .int .i64 my]) (by simp [results, Try.results30, go_sem]) rfl ⟨rfl, ((Below.refl _ _).alloc (Nat.le_refl _) _).alloc (by simp) _⟩

set_option maxHeartbeats 400000 in
theorem right_any (n d : Int) (w : World) :
    Calls Try.prog 32 #[.agg #[.int .i64 n, .int .i64 d]] w fun e w' => e = .returned (.bool (Bx.right n d)) ∧ Below w.heap.size w w' := by
  unfold Bx.right
  by_cases h1 : 1 ≤ d
  all_goals by_cases h2 : d ≤ 1073741824
  all_goals by_cases h3 : 0 ≤ n
  all_goals by_cases h4 : n ≤ 1073741824
  all_goals first | (exfalso; omega) | skip
  all_goals
    go_enter Try.func32, Try.ntmps32
    go_wp2
    go_ret
    exact bool_eq (by simp [*]) (below_one _ _)

set_option maxHeartbeats 400000 in
theorem formed_any (lx ly mx my : Int) (w : World) :
    Calls Try.prog 11 #[.agg #[.int .i64 lx, .int .i64 ly, .int .i64 mx, .int .i64 my]] w fun e w' => e = .returned (.bool (Bx.formed lx ly mx my)) ∧ Below w.heap.size w w' := by
  unfold Bx.formed
  cases h1 : Vc.formedB lx ly
  all_goals cases h2 : Vc.formedB mx my
  all_goals by_cases h3 : lx ≤ mx
  all_goals by_cases h4 : ly ≤ my
  all_goals
    go_enter Try.func11, Try.ntmps11
    go_wp2_with (go_at_call 27; refine (VcW.formed_any _ _ _).mono ?_; rintro e w' ⟨rfl, hb⟩; have hK : Keep w [(w.heap.size, [.int .i64 lx, .int .i64 ly, .int .i64 mx, .int .i64 my])] w' := Keep.on (by first | assumption | exact ⟨by simp [Lie, LieAt, go_sem], by simp, below_one _ _⟩) hb; have hS := hK; simp only [Keep, Lie, LieAt, Nat.reduceAdd] at hS)
    go_ret
    exact bool_eq (by simp [*]) hK.2.2

set_option maxHeartbeats 400000 in
theorem ahead_any (n d n' d' : Int) (w : World) :
    Calls Try.prog 18 #[.agg #[.int .i64 n, .int .i64 d], .agg #[.int .i64 n', .int .i64 d']] w fun e w' => e = .returned (.bool (Bx.ahead n d n' d')) ∧ Below w.heap.size w w' := by
  unfold Bx.ahead
  cases h1 : Bx.right n d
  all_goals cases h2 : Bx.right n' d'
  all_goals by_cases h3 : n * d' < n' * d
  all_goals
    have b1 : Bx.right n d = true → Bx.right n' d' = true → (0 ≤ n * d' ∧ n * d' ≤ 1152921504606846976) ∧ (0 ≤ n' * d ∧ n' * d ≤ 1152921504606846976) := by
      intro a b; obtain ⟨a1, a2, a3, a4⟩ := Bx.right_iff.1 a; obtain ⟨b1, b2, b3, b4⟩ := Bx.right_iff.1 b
      exact ⟨Bx.mul_fit a3 a4 (by omega) b2, Bx.mul_fit b3 b4 (by omega) a2⟩
    simp only [h1, h2, forall_const, Bool.false_eq_true, false_imp_iff, implies_true] at b1
    go_enter Try.func18, Try.ntmps18
    go_wp2_with (go_at_call 32; refine (right_any _ _ _).mono ?_; rintro e w' ⟨rfl, hb⟩; have hK : Keep w [(w.heap.size, [.int .i64 n, .int .i64 d]), (w.heap.size + 1, [.int .i64 n', .int .i64 d'])] w' := Keep.on (by first | assumption | exact ⟨by simp [Lie, LieAt, go_sem, World.cell?_alloc_past, World.frozen?_alloc_past], by simp; omega, ((Below.refl _ _).alloc (Nat.le_refl _) _).alloc (by simp) _⟩) hb; have hS := hK; simp only [Keep, Lie, LieAt, Nat.reduceAdd] at hS)
    go_ret
    exact bool_eq (by simp [*]) hK.2.2
end BxW
end Go.Proofs.Ytoehofphklhecaa

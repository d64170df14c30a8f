/- What the functions of the reference of layer 3 answer, as a call (BxR), and Around's contract of the program. Nothing that lay in memory before turns. -/
import Derived.Test.YtbfffgnalopfbaaBoxCalls
import Derived.Test.YtbfffgnalopfbaaBoxPlain2
namespace Go.Proofs.Ytbfffgnalopfbaa
open Go.RowKit
set_option linter.unusedVariables false

namespace BxR

set_option maxHeartbeats 4000000 in
theorem formed_any (lx ly mx my : Int) (w : World) :
    Calls Try.prog 46 #[.agg #[.int .i64 lx, .int .i64 ly, .int .i64 mx, .int .i64 my]] w fun e w' => e = .returned (.bool (Bx.formed lx ly mx my)) ∧ Below w.heap.size w w' := by
  unfold Bx.formed
  cases h1 : Vc.formedB lx ly
  all_goals cases h2 : Vc.formedB mx my
  all_goals by_cases h3 : lx ≤ mx
  all_goals by_cases h4 : ly ≤ my
  all_goals
    go_enter Try.func46, Try.ntmps46
    go_wp2_with (go_at_call 36; refine (VcR.formed_any _ _ _).mono ?_; rintro e w' ⟨rfl, hb⟩; have hK : Keep w [(w.heap.size, [.int .i64 lx, .int .i64 ly, .int .i64 mx, .int .i64 my])] w' := Keep.on (by first | assumption | exact ⟨by simp [Lie, LieAt, go_sem], by simp, (Below.refl _ _).alloc (Nat.le_refl _) _⟩) hb; have hS := hK; simp only [Keep, Lie, LieAt, Nat.reduceAdd] at hS)
    go_ret
    exact bool_eq (by simp [*]) hK.2.2

set_option maxHeartbeats 8000000 in
theorem overlap_any (lx ly mx my lx' ly' mx' my' : Int) (w : World) :
    Calls Try.prog 48 #[.agg #[.int .i64 lx, .int .i64 ly, .int .i64 mx, .int .i64 my], .agg #[.int .i64 lx', .int .i64 ly', .int .i64 mx', .int .i64 my']] w fun e w' => e = .returned (.bool (Bx.overlap lx ly mx my lx' ly' mx' my')) ∧ Below w.heap.size w w' := by
  rw [← Bx.overlapR_eq]
  unfold Bx.overlapR
  rcases and6 (Bx.formed lx ly mx my) (Bx.formed lx' ly' mx' my') (decide (lx' < mx)) (decide (lx < mx')) (decide (ly' < my)) (decide (ly < my')) with h1 | ⟨h1, h2⟩ | ⟨h1, h2, h3⟩ | ⟨h1, h2, h3, h4⟩ | ⟨h1, h2, h3, h4, h5⟩ | ⟨h1, h2, h3, h4, h5, h6⟩ | ⟨h1, h2, h3, h4, h5, h6⟩
  all_goals
    first | simp only [decide_eq_true_eq, decide_eq_false_iff_not, Int.not_lt] at h3 | skip
    first | simp only [decide_eq_true_eq, decide_eq_false_iff_not, Int.not_lt] at h4 | skip
    first | simp only [decide_eq_true_eq, decide_eq_false_iff_not, Int.not_lt] at h5 | skip
    first | simp only [decide_eq_true_eq, decide_eq_false_iff_not, Int.not_lt] at h6 | skip
    go_enter Try.func48, Try.ntmps48
    go_wp2_with (first | (go_at_call 46; refine (formed_any _ _ _ _ _).mono ?_; rintro e w' ⟨rfl, hb⟩; have hK : Keep w [(w.heap.size, [.int .i64 lx, .int .i64 ly, .int .i64 mx, .int .i64 my]), (w.heap.size + 1, [.int .i64 lx', .int .i64 ly', .int .i64 mx', .int .i64 my'])] w' := Keep.on (by first | assumption | exact ⟨by simp [Lie, LieAt, go_sem, World.cell?_alloc_past, World.frozen?_alloc_past], by simp; omega, ((Below.refl _ _).alloc (Nat.le_refl _) _).alloc (by simp) _⟩) hb; have hS := hK; simp only [Keep, Lie, LieAt, Nat.reduceAdd] at hS))
    go_ret
    exact bool_eq (by first | (simp [*]; done) | (simp [*]; omega)) hK.2.2

end BxR
end Go.Proofs.Ytbfffgnalopfbaa

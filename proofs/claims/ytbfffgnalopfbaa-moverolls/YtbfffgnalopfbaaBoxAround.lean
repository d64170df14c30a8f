/- What both Arounds answer, as a call. -/
import Derived.Test.YtbfffgnalopfbaaBoxCalls
namespace Go.Proofs.Ytbfffgnalopfbaa
open Go.RowKit
set_option linter.unusedVariables false

namespace BxW

set_option maxHeartbeats 4000000 in
theorem around_any (x y h : Int) (w : World) :
    Calls Try.prog 24 #[.agg #[.int .i64 x, .int .i64 y], .int .i64 h] w fun e w' => e = .returned (.agg #[.int .i64 (Fx.sub x h), .int .i64 (Fx.sub y h), .int .i64 (Fx.add x h), .int .i64 (Fx.add y h)]) ∧ Below w.heap.size w w' := by
  go_enter Try.func24, Try.ntmps24
  go_wp2_with fail
  generalize hW : ((w.alloc (.cells #[.int .i64 x, .int .i64 y] 28)).alloc (.cells #[.int .i64 0, .int .i64 0, .int .i64 0, .int .i64 0] 60)).alloc (.cells #[.int .i64 h, .int .i64 h] 28) = W
  have hK : Keep w [(w.heap.size + 1, [.int .i64 0, .int .i64 0, .int .i64 0, .int .i64 0]), (w.heap.size, [.int .i64 x, .int .i64 y]), (w.heap.size + 2, [.int .i64 h, .int .i64 h])] W := by subst hW; exact ⟨by simp [Lie, LieAt, go_sem, World.cell?_alloc_past, World.frozen?_alloc_past], by simp; omega, (((Below.refl _ _).alloc (Nat.le_refl _) _).alloc (by simp) _).alloc (by simp; omega) _⟩
  clear hW
  go_region_held3 (fun u => ((u.cell? ⟨w.heap.size, 0, none⟩ = some (.int .i64 x) ∧ u.frozen? ⟨w.heap.size, 0, none⟩ = false ∧ u.cell? ⟨w.heap.size, 1, none⟩ = some (.int .i64 y) ∧ u.frozen? ⟨w.heap.size, 1, none⟩ = false ∧ w.heap.size < u.heap.size) ∧ (u.cell? ⟨w.heap.size + 2, 0, none⟩ = some (.int .i64 h) ∧ u.frozen? ⟨w.heap.size + 2, 0, none⟩ = false ∧ u.cell? ⟨w.heap.size + 2, 1, none⟩ = some (.int .i64 h) ∧ u.frozen? ⟨w.heap.size + 2, 1, none⟩ = false ∧ w.heap.size + 2 < u.heap.size) ∧ True) ∧ w.heap.size ≤ u.heap.size ∧ Below w.heap.size w u)
    ((show Keep w [(w.heap.size, [.int .i64 x, .int .i64 y]), (w.heap.size + 2, [.int .i64 h, .int .i64 h])] _; first | with_reducible exact Keep.less (by assumption) | with_reducible exact Keep.drew (Keep.less (by assumption)) | (with_reducible refine Keep.far4' (Keep.less (by assumption)) ?_ ?_; (omega); (simp; done))))
    (first | (go_at_call 44; refine (VcW.sub_any _ _ _ _ _).mono ?_; rintro e w' ⟨rfl, hb⟩; have hk : Keep w [(w.heap.size + 1, [.int .i64 0, .int .i64 0, .int .i64 0, .int .i64 0]), (w.heap.size, [.int .i64 x, .int .i64 y]), (w.heap.size + 2, [.int .i64 h, .int .i64 h])] w' := Keep.on (by first | with_reducible assumption | with_reducible exact Keep.drew (by assumption)) hb; have hz := hk; simp only [Keep, Lie, LieAt, Nat.reduceAdd] at hz) | (go_at_call 45; refine (VcW.add_any _ _ _ _ _).mono ?_; rintro e w' ⟨rfl, hb⟩; have hk : Keep w [(w.heap.size + 1, [.int .i64 0, .int .i64 0, .int .i64 0, .int .i64 0]), (w.heap.size, [.int .i64 x, .int .i64 y]), (w.heap.size + 2, [.int .i64 h, .int .i64 h])] w' := Keep.on (by first | with_reducible assumption | with_reducible exact Keep.drew (by assumption)) hb; have hz := hk; simp only [Keep, Lie, LieAt, Nat.reduceAdd] at hz))
  rename_i hH
  go_wp2_with fail
  refine bodyPost_ret (by simp [results, Try.results24, go_sem, *]) rfl (And.intro rfl ?_)
  repeat (first | exact hk.2.2 | refine Below.drew ?_ | refine Below.setCell ?_ (by simp <;> omega) _)
end BxW

namespace BxR

set_option maxHeartbeats 4000000 in
theorem around_any (x y h : Int) (w : World) :
    Calls Try.prog 26 #[.agg #[.int .i64 x, .int .i64 y], .int .i64 h] w fun e w' => e = .returned (.agg #[.int .i64 (Fx.sub x h), .int .i64 (Fx.sub y h), .int .i64 (Fx.add x h), .int .i64 (Fx.add y h)]) ∧ Below w.heap.size w w' := by
  go_enter Try.func26, Try.ntmps26
  go_wp2_with fail
  go_region_held3 (fun w' => w'.cell? ⟨w.heap.size, 0, none⟩ = some (.int .i64 x) ∧ w'.cell? ⟨w.heap.size, 1, none⟩ = some (.int .i64 y)) (simp [go_sem, World.cell?_alloc_past])
    ((go_at_call 49; refine (FxR.sub_any _ _ _).mono ?_; rintro e w' ⟨rfl, rfl⟩))
  go_wp2_with fail
  go_region_held3 (fun w' => w'.cell? ⟨w.heap.size, 0, none⟩ = some (.int .i64 x) ∧ w'.cell? ⟨w.heap.size, 1, none⟩ = some (.int .i64 y)) (simp [go_sem, World.cell?_alloc_past])
    ((go_at_call 50; refine (FxR.add_any _ _ _).mono ?_; rintro e w' ⟨rfl, rfl⟩))
  go_wp2_with fail
  refine bodyPost_ret (by simp [results, Try.results26, go_sem]) rfl (And.intro rfl ?_)
  repeat (first | exact Below.refl _ _ | refine Below.drew ?_ | refine Below.alloc ?_ (by simp <;> omega) _ | refine Below.setCell ?_ (by simp) _)
end BxR

end Go.Proofs.Ytbfffgnalopfbaa

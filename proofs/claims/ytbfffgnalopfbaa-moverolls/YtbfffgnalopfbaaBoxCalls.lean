/- What the functions of layer 3 answer, as a call: the program's (BxW). Nothing that lay in memory before turns. -/
import Derived.Test.YtbfffgnalopfbaaBoxWalks
namespace Go.Proofs.Ytbfffgnalopfbaa
open Go.RowKit
set_option linter.unusedVariables false

theorem and3 (a b c : Bool) : a = false ∨ (a = true ∧ b = false) ∨ (a = true ∧ b = true ∧ c = false) ∨ (a = true ∧ b = true ∧ c = true) := by
  cases a <;> cases b <;> cases c <;> simp
theorem and4 (a b c d : Bool) : a = false ∨ (a = true ∧ b = false) ∨ (a = true ∧ b = true ∧ c = false) ∨ (a = true ∧ b = true ∧ c = true ∧ d = false) ∨ (a = true ∧ b = true ∧ c = true ∧ d = true) := by
  cases a <;> cases b <;> cases c <;> cases d <;> simp

namespace BxW

set_option maxHeartbeats 4000000 in
theorem in_any (px py lx ly mx my : Int) (w : World) :
    Calls Try.prog 66 #[.agg #[.int .i64 px, .int .i64 py], .agg #[.int .i64 lx, .int .i64 ly, .int .i64 mx, .int .i64 my]] w fun e w' => e = .returned (.bool (Bx.inB px py lx ly mx my)) ∧ Below w.heap.size w w' := by
  unfold Bx.inB
  have F := formed_any lx ly mx my
  have HX := has_any lx mx px
  have HY := has_any ly my py
  rcases and3 (Bx.formed lx ly mx my) (Bx.has lx mx px) (Bx.has ly my py) with h1 | ⟨h1, h2⟩ | ⟨h1, h2, h3⟩ | ⟨h1, h2, h3⟩
  all_goals
    first | simp only [h1] at F | skip
    first | simp only [h2] at HX | skip
    first | simp only [h3] at HY | skip
    go_enter Try.func66, Try.ntmps66
    go_wp2_with fail
    generalize hW : (w.alloc (.cells #[.int .i64 px, .int .i64 py] 28)).alloc (.cells #[.int .i64 lx, .int .i64 ly, .int .i64 mx, .int .i64 my] 60) = W
    have hK : Keep w [(w.heap.size, [.int .i64 px, .int .i64 py]), (w.heap.size + 1, [.int .i64 lx, .int .i64 ly, .int .i64 mx, .int .i64 my])] W := by subst hW; exact ⟨by simp [Lie, LieAt, go_sem, World.cell?_alloc_past, World.frozen?_alloc_past], by simp; omega, ((Below.refl _ _).alloc (Nat.le_refl _) _).alloc (by simp) _⟩
    have hS := hK
    simp only [Keep, Lie, LieAt, Nat.reduceAdd] at hS
    obtain ⟨⟨⟨c0, f0, c1, f1, l0⟩, ⟨c2, f2, c3, f3, c4, f4, c5, f5, l1⟩, -⟩, -⟩ := hS
    have ne : Nonempty (KeptW W) := KeptW.one W
    have d0 := KeptW.at l0 c0
    have d1 := KeptW.at l0 c1
    have d2 := KeptW.at l1 c2
    have d3 := KeptW.at l1 c3
    have d4 := KeptW.at l1 c4
    have d5 := KeptW.at l1 c5
    clear hW
    refine wp_region_kept (by kernel_rfl) (by kernel_rfl) ?_
    repeat (go_big_quiet_step (first | (go_at_call 37; exact kept_call (F _)) | (go_at_call 69; exact kept_call (alongX_any _ _ _ _ _)) | (go_at_call 71; exact kept_call (alongY_any _ _ _ _ _)) | (go_at_call_of 79 (Value.agg #[Value.int IntKind.i64 lx, Value.int IntKind.i64 mx]); exact kept_call (HX _)) | (go_at_call_of 79 (Value.agg #[Value.int IntKind.i64 ly, Value.int IntKind.i64 my]); exact kept_call (HY _))))
    refine wpQuiet_nil ?_
    rintro _ ⟨x, rfl⟩
    go_wp2
    go_ret
    exact bool_eq (by simp [*]) (hK.2.2.trans (x.h.mono hK.2.1))

set_option maxHeartbeats 4000000 in
theorem overlap_any (lx ly mx my lx' ly' mx' my' : Int) (w : World) :
    Calls Try.prog 42 #[.agg #[.int .i64 lx, .int .i64 ly, .int .i64 mx, .int .i64 my], .agg #[.int .i64 lx', .int .i64 ly', .int .i64 mx', .int .i64 my']] w fun e w' => e = .returned (.bool (Bx.overlap lx ly mx my lx' ly' mx' my')) ∧ Below w.heap.size w w' := by
  unfold Bx.overlap
  have F := formed_any lx ly mx my
  have G := formed_any lx' ly' mx' my'
  have HX := laps_any lx mx lx' mx'
  have HY := laps_any ly my ly' my'
  rcases and4 (Bx.formed lx ly mx my) (Bx.formed lx' ly' mx' my') (Bx.laps lx mx lx' mx') (Bx.laps ly my ly' my') with h1 | ⟨h1, h2⟩ | ⟨h1, h2, h3⟩ | ⟨h1, h2, h3, h4⟩ | ⟨h1, h2, h3, h4⟩
  all_goals
    first | simp only [h1] at F | skip
    first | simp only [h2] at G | skip
    first | simp only [h3] at HX | skip
    first | simp only [h4] at HY | skip
    go_enter Try.func42, Try.ntmps42
    go_wp2_with fail
    generalize hW : (w.alloc (.cells #[.int .i64 lx, .int .i64 ly, .int .i64 mx, .int .i64 my] 60)).alloc (.cells #[.int .i64 lx', .int .i64 ly', .int .i64 mx', .int .i64 my'] 60) = W
    have hK : Keep w [(w.heap.size, [.int .i64 lx, .int .i64 ly, .int .i64 mx, .int .i64 my]), (w.heap.size + 1, [.int .i64 lx', .int .i64 ly', .int .i64 mx', .int .i64 my'])] W := by subst hW; exact ⟨by simp [Lie, LieAt, go_sem, World.cell?_alloc_past, World.frozen?_alloc_past], by simp; omega, ((Below.refl _ _).alloc (Nat.le_refl _) _).alloc (by simp) _⟩
    have hS := hK
    simp only [Keep, Lie, LieAt, Nat.reduceAdd] at hS
    obtain ⟨⟨⟨c0, f0, c1, f1, c2, f2, c3, f3, l0⟩, ⟨c4, f4, c5, f5, c6, f6, c7, f7, l1⟩, -⟩, -⟩ := hS
    have ne : Nonempty (KeptW W) := KeptW.one W
    have d0 := KeptW.at l0 c0
    have d1 := KeptW.at l0 c1
    have d2 := KeptW.at l0 c2
    have d3 := KeptW.at l0 c3
    have d4 := KeptW.at l1 c4
    have d5 := KeptW.at l1 c5
    have d6 := KeptW.at l1 c6
    have d7 := KeptW.at l1 c7
    clear hW
    refine wp_region_kept (by kernel_rfl) (by kernel_rfl) ?_
    repeat (go_big_quiet_step (first | (go_at_call_of 37 (Value.agg #[Value.int IntKind.i64 lx, Value.int IntKind.i64 ly, Value.int IntKind.i64 mx, Value.int IntKind.i64 my]); exact kept_call (F _)) | (go_at_call 37; exact kept_call (G _)) | (go_at_call 69; exact kept_call (alongX_any _ _ _ _ _)) | (go_at_call 71; exact kept_call (alongY_any _ _ _ _ _)) | (go_at_call_of 70 (Value.agg #[Value.int IntKind.i64 lx, Value.int IntKind.i64 mx]); exact kept_call (HX _)) | (go_at_call 70; exact kept_call (HY _))))
    refine wpQuiet_nil ?_
    rintro _ ⟨x, rfl⟩
    go_wp2
    go_ret
    exact bool_eq (by simp [*]) (hK.2.2.trans (x.h.mono hK.2.1))

end BxW
end Go.Proofs.Ytbfffgnalopfbaa

/- What each function of layer 2 answers, as a call: the program's (VcW) and the document's own (VcR). Nothing that lay in memory before turns. -/
import Derived.Test.YtbfffgnalopfbaaVecWalks
import Derived.WalkSmall
import Derived.StillTactics
import Derived.Laws.Pointers
import Derived.Laws.StructEq
import Derived.Deep.RegionHeld3
import Derived.Deep.QuietTactic
import Derived.BigQuiet
import Derived.Below
namespace Go.Proofs.Ytbfffgnalopfbaa
open Go.RowKit
set_option linter.unusedVariables false

theorem below_three (w : World) (o1 o2 o3 : Obj) : Below w.heap.size w (((w.alloc o1).alloc o2).alloc o3).drew :=
  ((((Below.refl _ _).alloc (Nat.le_refl _) _).alloc (by simp) _).alloc (by simp; omega) _).drew
theorem below_two (w : World) (o1 o2 : Obj) : Below w.heap.size w ((w.alloc o1).alloc o2).drew :=
  (((Below.refl _ _).alloc (Nat.le_refl _) _).alloc (by simp) _).drew
theorem below_one (w : World) (o1 : Obj) : Below w.heap.size w (w.alloc o1) := (Below.refl _ _).alloc (Nat.le_refl _) _
theorem ret_bool {a b : Bool} {p : Prop} (h : a = b) (hp : p) : Ending.returned (.bool a) = .returned (.bool b) ∧ p := by rw [h]; exact ⟨rfl, hp⟩
theorem ret_intp {k : IntKind} {a b : Int} {p : Prop} (h : a = b) (hp : p) : Ending.returned (.int k a) = .returned (.int k b) ∧ p := by rw [h]; exact ⟨rfl, hp⟩

/-- two places are compared number by number -/
theorem vec_eql (ax ay bx b_y : Int) (w : World) : (binOp .eql 28 (.agg #[.int .i64 ax, .int .i64 ay]) (.agg #[.int .i64 bx, .int .i64 b_y])).run Try.prog w = .ok (.bool ((ax == bx) && (ay == b_y))) w := by
  rw [run_eql_struct, run_equalIn_agg (d := 9999) (ht := by kernel_rfl) (hp := by kernel_rfl)]
  simp [go_sem]
  by_cases h : ax = bx <;> by_cases h' : ay = b_y <;> simp [h, h']

namespace VcW

set_option maxHeartbeats 1000000 in
theorem add_any (ax ay bx b_y : Int) (w : World) :
    Calls Try.prog 45 #[.agg #[.int .i64 ax, .int .i64 ay], .agg #[.int .i64 bx, .int .i64 b_y]] w fun e w' => e = .returned (.agg #[.int .i64 (Fx.add ax bx), .int .i64 (Fx.add ay b_y)]) ∧ Below w.heap.size w w' := by
  go_enter Try.func45, Try.ntmps45
  go_wp2_with fail
  go_region_held3 (fun w' => w'.cell? ⟨w.heap.size, 0, none⟩ = some (.int .i64 ax) ∧ w'.cell? ⟨w.heap.size, 1, none⟩ = some (.int .i64 ay) ∧ w'.cell? ⟨w.heap.size + 1, 0, none⟩ = some (.int .i64 bx) ∧ w'.cell? ⟨w.heap.size + 1, 1, none⟩ = some (.int .i64 b_y)) (simp [go_sem, World.cell?_alloc_past])
    ((go_at_call 62; refine (FxW.add_any _ _ _).mono ?_; rintro e w' ⟨rfl, rfl⟩))
  go_wp2_with fail
  exact bodyPost_ret (v := .agg #[.int .i64 (Fx.add ax bx), .int .i64 (Fx.add ay b_y)]) (by simp [results, Try.results45, go_sem]) rfl ⟨rfl, below_three _ _ _ _⟩

set_option maxHeartbeats 1000000 in
theorem sub_any (ax ay bx b_y : Int) (w : World) :
    Calls Try.prog 44 #[.agg #[.int .i64 ax, .int .i64 ay], .agg #[.int .i64 bx, .int .i64 b_y]] w fun e w' => e = .returned (.agg #[.int .i64 (Fx.sub ax bx), .int .i64 (Fx.sub ay b_y)]) ∧ Below w.heap.size w w' := by
  go_enter Try.func44, Try.ntmps44
  go_wp2_with fail
  go_region_held3 (fun w' => w'.cell? ⟨w.heap.size, 0, none⟩ = some (.int .i64 ax) ∧ w'.cell? ⟨w.heap.size, 1, none⟩ = some (.int .i64 ay) ∧ w'.cell? ⟨w.heap.size + 1, 0, none⟩ = some (.int .i64 bx) ∧ w'.cell? ⟨w.heap.size + 1, 1, none⟩ = some (.int .i64 b_y)) (simp [go_sem, World.cell?_alloc_past])
    ((go_at_call 72; refine (FxW.sub_any _ _ _).mono ?_; rintro e w' ⟨rfl, rfl⟩))
  go_wp2_with fail
  exact bodyPost_ret (v := .agg #[.int .i64 (Fx.sub ax bx), .int .i64 (Fx.sub ay b_y)]) (by simp [results, Try.results44, go_sem]) rfl ⟨rfl, below_three _ _ _ _⟩

set_option maxHeartbeats 1000000 in
theorem formed_any (ax ay : Int) (w : World) :
    Calls Try.prog 54 #[.agg #[.int .i64 ax, .int .i64 ay]] w fun e w' => e = .returned (.bool (Vc.formedB ax ay)) ∧ Below w.heap.size w w' := by
  have he := vec_eql
  go_enter Try.func54, Try.ntmps54
  go_wp2_with fail
  go_region_held3 (fun w' => w'.cell? ⟨w.heap.size, 0, none⟩ = some (.int .i64 ax) ∧ w'.cell? ⟨w.heap.size, 1, none⟩ = some (.int .i64 ay)) (simp [go_sem, World.cell?_alloc_past])
    ((go_at_call 77; refine (within_any _ _).mono ?_; rintro e w' ⟨rfl, rfl⟩))
  all_goals rename_i hH
  all_goals clear hH
  all_goals go_wp2
  all_goals go_ret
  all_goals exact ret_bool (by rw [Vc.within_eq, Vc.within_eq]; rfl) (below_two _ _ _)
end VcW

namespace VcR

set_option maxHeartbeats 1000000 in
theorem formed_any (ax ay : Int) (w : World) :
    Calls Try.prog 36 #[.agg #[.int .i64 ax, .int .i64 ay]] w fun e w' => e = .returned (.bool (Vc.formedB ax ay)) ∧ Below w.heap.size w w' := by
  by_cases h1 : -134217728 ≤ ax
  · by_cases h2 : ax ≤ 134217728
    · by_cases h3 : -134217728 ≤ ay
      · by_cases h4 : ay ≤ 134217728
        · have e : Vc.formedB ax ay = true := Vc.formedB_iff.2 ⟨⟨h1, h2⟩, h3, h4⟩
          rw [e]; clear e
          go_enter Try.func36, Try.ntmps36
          go_wp2
          go_ret
          exact ⟨rfl, below_one _ _⟩
        · have e : Vc.formedB ax ay = false := by rw [Bool.eq_false_iff]; intro c; rw [Vc.formedB_iff] at c; omega
          rw [e]; clear e
          go_enter Try.func36, Try.ntmps36
          go_wp2
          go_ret
          exact ⟨rfl, below_one _ _⟩
      · have e : Vc.formedB ax ay = false := by rw [Bool.eq_false_iff]; intro c; rw [Vc.formedB_iff] at c; omega
        rw [e]; clear e
        go_enter Try.func36, Try.ntmps36
        go_wp2
        go_ret
        exact ⟨rfl, below_one _ _⟩
    · have e : Vc.formedB ax ay = false := by rw [Bool.eq_false_iff]; intro c; rw [Vc.formedB_iff] at c; omega
      rw [e]; clear e
      go_enter Try.func36, Try.ntmps36
      go_wp2
      go_ret
      exact ⟨rfl, below_one _ _⟩
  · have e : Vc.formedB ax ay = false := by rw [Bool.eq_false_iff]; intro c; rw [Vc.formedB_iff] at c; omega
    rw [e]; clear e
    go_enter Try.func36, Try.ntmps36
    go_wp2
    go_ret
    exact ⟨rfl, below_one _ _⟩
end VcR
end Go.Proofs.Ytbfffgnalopfbaa

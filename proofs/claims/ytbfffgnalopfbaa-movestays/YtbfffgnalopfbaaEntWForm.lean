/- Whether an entity is formed: the program's (EnW). -/
import Derived.Test.YtbfffgnalopfbaaEntMem
import Derived.Test.YtbfffgnalopfbaaVecCalls
namespace Go.Proofs.Ytbfffgnalopfbaa
open Go.RowKit
set_option linter.unusedVariables false
set_option linter.unusedSimpArgs false

namespace EnW
set_option maxHeartbeats 400000 in
theorem slow_any (x : Int) (w : World) :
    Calls Try.prog 55 #[.int .i64 x] w fun e w' => e = .returned (.bool (decide (-65536 ≤ x ∧ x ≤ 65536))) ∧ w' = w := by
  by_cases h1 : -65536 ≤ x
  · go_enter Try.func55, Try.ntmps55
    go_wp2
    go_ret
    exact bool_ret (by simp [h1]) rfl
  · go_enter Try.func55, Try.ntmps55
    go_wp2
    go_ret
    exact bool_ret (by simp; omega) rfl

theorem vec_any (x y : Int) (w : World) :
    Calls Try.prog 54 #[.agg #[.int .i64 x, .int .i64 y]] w fun e w' => e = .returned (.bool (decide (-134217728 ≤ x ∧ x ≤ 134217728 ∧ -134217728 ≤ y ∧ y ≤ 134217728))) ∧ Turned [] w w' := by
  refine (VcW.formed_any x y w).mono ?_
  rintro e w' ⟨rfl, h⟩
  refine bool_ret ?_ (Turned.ofBelow h)
  unfold Vc.formedB Vc.inL
  rw [Bool.eq_iff_iff]
  simp
  omega

abbrev Pl (e : En.E) : Prop := 1 ≤ e.id ∧ e.id ≤ 8 ∧ ((e.t = 0 ∧ 1 ≤ e.h ∧ e.h ≤ 100) ∨ (e.h = 0 ∧ 1 ≤ e.t ∧ e.t ≤ 20))
abbrev Ba (e : En.E) : Prop := 9 ≤ e.id ∧ e.id ≤ 16 ∧ e.h = 100 ∧ e.t = 0

set_option maxHeartbeats 2000000 in
theorem player_any (e : En.E) (w : World) :
    Calls Try.prog 56 #[enVal e] w fun r w' => r = .returned (.bool (decide (Pl e))) ∧ Turned [] w w' := by
  obtain ⟨id, kind, ax, ay, vx, vy, h, t⟩ := e
  unfold enVal
  go_enter Try.func56, Try.ntmps56
  go_wp2
  all_goals go_ret
  all_goals refine bool_ret ?_ (by exact (Turned.refl _ _).alloc _)
  all_goals refine Bool.eq_iff_iff.2 ?_
  all_goals simp only [Pl, decide_eq_true_iff, Bool.and_eq_true, Bool.false_eq_true, false_iff, true_iff]
  all_goals (try simp only [beq_iff_eq, beq_eq_false_iff_ne, ne_eq, Bool.not_eq_true', Bool.not_eq_false', Bool.and_eq_true, Bool.or_eq_true, decide_eq_true_iff, decide_eq_false_iff_not] at *)
  all_goals omega

set_option maxHeartbeats 2000000 in
theorem ball_any (e : En.E) (w : World) :
    Calls Try.prog 57 #[enVal e] w fun r w' => r = .returned (.bool (decide (Ba e))) ∧ Turned [] w w' := by
  obtain ⟨id, kind, ax, ay, vx, vy, h, t⟩ := e
  unfold enVal
  go_enter Try.func57, Try.ntmps57
  go_wp2
  all_goals go_ret
  all_goals refine bool_ret ?_ (by exact (Turned.refl _ _).alloc _)
  all_goals refine Bool.eq_iff_iff.2 ?_
  all_goals simp only [Ba, decide_eq_true_iff, Bool.and_eq_true, Bool.false_eq_true, false_iff, true_iff]
  all_goals (try simp only [beq_iff_eq, beq_eq_false_iff_ne, ne_eq, Bool.not_eq_true', Bool.not_eq_false', Bool.and_eq_true, Bool.or_eq_true, decide_eq_true_iff, decide_eq_false_iff_not] at *)
  all_goals omega

set_option maxRecDepth 20000 in
set_option maxHeartbeats 8000000 in
theorem formed_any (e : En.E) (w : World) :
    Calls Try.prog 29 #[enVal e] w fun r w' => r = .returned (.bool (decide (En.Formed e))) ∧ Turned [] w w' := by
  have kl := player_any e
  have kb := ball_any e
  obtain ⟨id, kind, ax, ay, vx, vy, h, t⟩ := e
  have ks := fun x u => slow_any x u
  have kp := fun u => vec_any ax ay u
  unfold enVal at kl kb ⊢
  go_enter Try.func29, Try.ntmps29
  go_wp2_with (first | (go_at_call 55; (with_reducible refine (ks _ _).mono ?_); rintro e u ⟨rfl, rfl⟩) | (go_at_call 54; (with_reducible refine (kp _).mono ?_); rintro e u ⟨rfl, HT1⟩; have HT := ((Turned.refl [] w).alloc _).trans HT1 (by simp); have hS := (Struct.new w _ 30).keep HT1 (by simp); have c0 := (hS.2 0 _ rfl).1; have c1 := (hS.2 1 _ rfl).1; have c2 := (hS.2 2 _ rfl).1; have c3 := (hS.2 3 _ rfl).1; have c4 := (hS.2 4 _ rfl).1; have c5 := (hS.2 5 _ rfl).1; have c6 := (hS.2 6 _ rfl).1; have c7 := (hS.2 7 _ rfl).1) | (go_at_call 56; (with_reducible refine (kl _).mono ?_); rintro e u ⟨rfl, HT2⟩; have HT := HT.trans HT2 (by simp)) | (go_at_call 57; (with_reducible refine (kb _).mono ?_); rintro e u ⟨rfl, HT2⟩; have HT := HT.trans HT2 (by simp)))
  all_goals go_ret
  all_goals refine bool_ret ?_ (by assumption)
  all_goals refine Bool.eq_iff_iff.2 ?_
  all_goals simp only [En.Formed, Pl, Ba, decide_eq_true_iff, Bool.and_eq_true, Bool.false_eq_true, false_iff, true_iff]
  all_goals (try simp only [beq_iff_eq, beq_eq_false_iff_ne, ne_eq, Bool.not_eq_true', Bool.not_eq_false', Bool.and_eq_true, Bool.or_eq_true, decide_eq_true_iff, decide_eq_false_iff_not] at *)
  all_goals omega
end EnW
end Go.Proofs.Ytbfffgnalopfbaa

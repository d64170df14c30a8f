/- Whatever ways and boxes are handed in, BoxShorter answers true: a way meets a box just if one of its halves does, and at half of the time. No condition. -/
import Derived.Test.YtoehofphklhecaaRows
import Derived.Test.YtoehofphklhecaaBoxLaw
import Derived.Test.YtoehofphklhecaaBoxMeet
import Derived.Test.YtoehofphklhecaaBoxRef
import Derived.Test.YtoehofphklhecaaBoxPlain4
import Derived.Test.YtoehofphklhecaaBoxOpen
import Derived.WalkKit
import Derived.ProofKit
import Derived.OpenShut
import Derived.ChangeOld
import Derived.Below
import Derived.WalkSmall
import Derived.Lib.SmallJoins
import Derived.Laws.IdiomArrays
namespace Go.Proofs.Ytoehofphklhecaa.boxShorter
open Go.ChangeShapes Go.WideShapes Go.ChangeAt Go.RowKit
set_option linter.unusedVariables false

theorem own : ownKnob Try.prog.godebug = none := by kernel_rfl
theorem laidOut : laidOutB Try.prog = true := by kernel_rfl

/-- two blocks, laid just now -/
theorem name22 {w u : World} {bs : List (Nat × List Value)} {v0 v1 x0 x1 : Value} {t t' : TypeId} (h : Keep w bs u) :
    Keep w ((u.heap.size + 1, [x0, x1]) :: (u.heap.size, [v0, v1]) :: bs) ((u.alloc (.cells #[v0, v1] t)).alloc (.cells #[x0, x1] t')) := by
  have k := Keep.name2 (v0 := x0) (v1 := x1) (t := t') (Keep.name2 (v0 := v0) (v1 := v1) (t := t) h)
  rw [show (u.alloc (.cells #[v0, v1] t)).heap.size = u.heap.size + 1 by simp] at k
  exact k

set_option maxRecDepth 100000 in
set_option maxHeartbeats 4000000 in
theorem walk_out (a0_0 a0_1 a1_0 a1_1 a2_0 a2_1 a2_2 a2_3 : Int) (h : (Vc.formedB a0_0 a0_1 = false) ∨ (a1_0 < -1048576) ∨ (1048576 < a1_0) ∨ (a1_1 < -1048576) ∨ (1048576 < a1_1)) (w : World) :
    Calls Try.prog 7 #[.agg #[.int .i64 a0_0, .int .i64 a0_1], .agg #[.int .i64 a1_0, .int .i64 a1_1], .agg #[.int .i64 a2_0, .int .i64 a2_1, .int .i64 a2_2, .int .i64 a2_3]] w fun e w' => e = .returned (.bool true) ∧ Below w.heap.size w w' := by
  by_cases g0 : Vc.formedB a0_0 a0_1 = false
  · go_enter Try.func7, Try.ntmps7
    go_wp2_with (first | (go_at_call 10; (refine (BxL.awake_any _).mono ?_); rintro e w' ⟨rfl, hb⟩; have hK : Keep w [(w.heap.size, [.int .i64 a0_0, .int .i64 a0_1]), (w.heap.size + 1, [.int .i64 a1_0, .int .i64 a1_1]), (w.heap.size + 2, [.int .i64 a2_0, .int .i64 a2_1, .int .i64 a2_2, .int .i64 a2_3])] w' := Keep.on (by first | assumption | exact ⟨by simp [Lie, LieAt, go_sem, World.cell?_alloc_past, World.frozen?_alloc_past], by simp; omega, (((Below.refl _ _).alloc (Nat.le_refl _) _).alloc (by simp) _).alloc (by simp; omega) _⟩) hb; have hS := hK; simp only [Keep, Lie, LieAt, Nat.reduceAdd] at hS) | (go_at_call 24; (refine (VcR.formed_any _ _ _).mono ?_); rintro e w' ⟨rfl, hb⟩; (first | with_reducible have hK := Keep.on (name22 hK) hb | with_reducible have hK := Keep.on (Keep.name2 hK) hb | with_reducible have hK := Keep.on hK hb); have hS := hK; simp only [Keep, Lie, LieAt, Nat.reduceAdd] at hS))
    go_ret
    exact ⟨rfl, hK.2.2⟩
  · simp only [Bool.not_eq_false] at g0
    by_cases g1 : a1_0 < -1048576
    · go_enter Try.func7, Try.ntmps7
      go_wp2_with (first | (go_at_call 10; (refine (BxL.awake_any _).mono ?_); rintro e w' ⟨rfl, hb⟩; have hK : Keep w [(w.heap.size, [.int .i64 a0_0, .int .i64 a0_1]), (w.heap.size + 1, [.int .i64 a1_0, .int .i64 a1_1]), (w.heap.size + 2, [.int .i64 a2_0, .int .i64 a2_1, .int .i64 a2_2, .int .i64 a2_3])] w' := Keep.on (by first | assumption | exact ⟨by simp [Lie, LieAt, go_sem, World.cell?_alloc_past, World.frozen?_alloc_past], by simp; omega, (((Below.refl _ _).alloc (Nat.le_refl _) _).alloc (by simp) _).alloc (by simp; omega) _⟩) hb; have hS := hK; simp only [Keep, Lie, LieAt, Nat.reduceAdd] at hS) | (go_at_call 24; (refine (VcR.formed_any _ _ _).mono ?_); rintro e w' ⟨rfl, hb⟩; (first | with_reducible have hK := Keep.on (name22 hK) hb | with_reducible have hK := Keep.on (Keep.name2 hK) hb | with_reducible have hK := Keep.on hK hb); have hS := hK; simp only [Keep, Lie, LieAt, Nat.reduceAdd] at hS))
      go_ret
      exact ⟨rfl, hK.2.2⟩
    · skip
      by_cases g2 : 1048576 < a1_0
      · go_enter Try.func7, Try.ntmps7
        go_wp2_with (first | (go_at_call 10; (refine (BxL.awake_any _).mono ?_); rintro e w' ⟨rfl, hb⟩; have hK : Keep w [(w.heap.size, [.int .i64 a0_0, .int .i64 a0_1]), (w.heap.size + 1, [.int .i64 a1_0, .int .i64 a1_1]), (w.heap.size + 2, [.int .i64 a2_0, .int .i64 a2_1, .int .i64 a2_2, .int .i64 a2_3])] w' := Keep.on (by first | assumption | exact ⟨by simp [Lie, LieAt, go_sem, World.cell?_alloc_past, World.frozen?_alloc_past], by simp; omega, (((Below.refl _ _).alloc (Nat.le_refl _) _).alloc (by simp) _).alloc (by simp; omega) _⟩) hb; have hS := hK; simp only [Keep, Lie, LieAt, Nat.reduceAdd] at hS) | (go_at_call 24; (refine (VcR.formed_any _ _ _).mono ?_); rintro e w' ⟨rfl, hb⟩; (first | with_reducible have hK := Keep.on (name22 hK) hb | with_reducible have hK := Keep.on (Keep.name2 hK) hb | with_reducible have hK := Keep.on hK hb); have hS := hK; simp only [Keep, Lie, LieAt, Nat.reduceAdd] at hS))
        go_ret
        exact ⟨rfl, hK.2.2⟩
      · skip
        by_cases g3 : a1_1 < -1048576
        · go_enter Try.func7, Try.ntmps7
          go_wp2_with (first | (go_at_call 10; (refine (BxL.awake_any _).mono ?_); rintro e w' ⟨rfl, hb⟩; have hK : Keep w [(w.heap.size, [.int .i64 a0_0, .int .i64 a0_1]), (w.heap.size + 1, [.int .i64 a1_0, .int .i64 a1_1]), (w.heap.size + 2, [.int .i64 a2_0, .int .i64 a2_1, .int .i64 a2_2, .int .i64 a2_3])] w' := Keep.on (by first | assumption | exact ⟨by simp [Lie, LieAt, go_sem, World.cell?_alloc_past, World.frozen?_alloc_past], by simp; omega, (((Below.refl _ _).alloc (Nat.le_refl _) _).alloc (by simp) _).alloc (by simp; omega) _⟩) hb; have hS := hK; simp only [Keep, Lie, LieAt, Nat.reduceAdd] at hS) | (go_at_call 24; (refine (VcR.formed_any _ _ _).mono ?_); rintro e w' ⟨rfl, hb⟩; (first | with_reducible have hK := Keep.on (name22 hK) hb | with_reducible have hK := Keep.on (Keep.name2 hK) hb | with_reducible have hK := Keep.on hK hb); have hS := hK; simp only [Keep, Lie, LieAt, Nat.reduceAdd] at hS))
          go_ret
          exact ⟨rfl, hK.2.2⟩
        · skip
          by_cases g4 : 1048576 < a1_1
          · go_enter Try.func7, Try.ntmps7
            go_wp2_with (first | (go_at_call 10; (refine (BxL.awake_any _).mono ?_); rintro e w' ⟨rfl, hb⟩; have hK : Keep w [(w.heap.size, [.int .i64 a0_0, .int .i64 a0_1]), (w.heap.size + 1, [.int .i64 a1_0, .int .i64 a1_1]), (w.heap.size + 2, [.int .i64 a2_0, .int .i64 a2_1, .int .i64 a2_2, .int .i64 a2_3])] w' := Keep.on (by first | assumption | exact ⟨by simp [Lie, LieAt, go_sem, World.cell?_alloc_past, World.frozen?_alloc_past], by simp; omega, (((Below.refl _ _).alloc (Nat.le_refl _) _).alloc (by simp) _).alloc (by simp; omega) _⟩) hb; have hS := hK; simp only [Keep, Lie, LieAt, Nat.reduceAdd] at hS) | (go_at_call 24; (refine (VcR.formed_any _ _ _).mono ?_); rintro e w' ⟨rfl, hb⟩; (first | with_reducible have hK := Keep.on (name22 hK) hb | with_reducible have hK := Keep.on (Keep.name2 hK) hb | with_reducible have hK := Keep.on hK hb); have hS := hK; simp only [Keep, Lie, LieAt, Nat.reduceAdd] at hS))
            go_ret
            exact ⟨rfl, hK.2.2⟩
          · skip
            exfalso; rcases h with h | h | h | h | h
            · rw [g0] at h; cases h
            all_goals omega

set_option maxRecDepth 100000 in
set_option maxHeartbeats 4000000 in
theorem walk_end (a0_0 a0_1 a1_0 a1_1 a2_0 a2_1 a2_2 a2_3 : Int) (g0 : Vc.formedB a0_0 a0_1 = true) (g1 : -1048576 ≤ a1_0 ∧ a1_0 ≤ 1048576) (g2 : -1048576 ≤ a1_1 ∧ a1_1 ≤ 1048576) (h : Vc.formedB (a0_0 + a1_0 + a1_0) (a0_1 + a1_1 + a1_1) = false ∨ (Vc.formedB (a0_0 + a1_0 + a1_0) (a0_1 + a1_1 + a1_1) = true ∧ Vc.formedB (a0_0 + a1_0) (a0_1 + a1_1) = false)) (w : World) :
    Calls Try.prog 7 #[.agg #[.int .i64 a0_0, .int .i64 a0_1], .agg #[.int .i64 a1_0, .int .i64 a1_1], .agg #[.int .i64 a2_0, .int .i64 a2_1, .int .i64 a2_2, .int .i64 a2_3]] w fun e w' => e = .returned (.bool true) ∧ Below w.heap.size w w' := by
  have g0' := Vc.formedB_iff.1 g0
  rcases h with h | ⟨h, h'⟩
  all_goals
    go_enter Try.func7, Try.ntmps7
    go_wp2_with (first | (go_at_call 10; (refine (BxL.awake_any _).mono ?_); rintro e w' ⟨rfl, hb⟩; have hK : Keep w [(w.heap.size, [.int .i64 a0_0, .int .i64 a0_1]), (w.heap.size + 1, [.int .i64 a1_0, .int .i64 a1_1]), (w.heap.size + 2, [.int .i64 a2_0, .int .i64 a2_1, .int .i64 a2_2, .int .i64 a2_3])] w' := Keep.on (by first | assumption | exact ⟨by simp [Lie, LieAt, go_sem, World.cell?_alloc_past, World.frozen?_alloc_past], by simp; omega, (((Below.refl _ _).alloc (Nat.le_refl _) _).alloc (by simp) _).alloc (by simp; omega) _⟩) hb; have hS := hK; simp only [Keep, Lie, LieAt, Nat.reduceAdd] at hS) | (go_at_call 24; (refine (VcR.formed_any _ _ _).mono ?_); rintro e w' ⟨rfl, hb⟩; (first | with_reducible have hK := Keep.on (name22 hK) hb | with_reducible have hK := Keep.on (Keep.name2 hK) hb | with_reducible have hK := Keep.on hK hb); have hS := hK; simp only [Keep, Lie, LieAt, Nat.reduceAdd] at hS))
    go_ret
    exact ⟨rfl, hK.2.2⟩

set_option maxRecDepth 100000 in
set_option maxHeartbeats 8000000 in
theorem walk_in (a0_0 a0_1 a1_0 a1_1 a2_0 a2_1 a2_2 a2_3 : Int) (g0 : Vc.formedB a0_0 a0_1 = true) (g1 : -1048576 ≤ a1_0 ∧ a1_0 ≤ 1048576) (g2 : -1048576 ≤ a1_1 ∧ a1_1 ≤ 1048576) (h1 : Vc.formedB (a0_0 + a1_0) (a0_1 + a1_1) = true) (h2 : Vc.formedB (a0_0 + a1_0 + a1_0) (a0_1 + a1_1 + a1_1) = true) (w : World) :
    Calls Try.prog 7 #[.agg #[.int .i64 a0_0, .int .i64 a0_1], .agg #[.int .i64 a1_0, .int .i64 a1_1], .agg #[.int .i64 a2_0, .int .i64 a2_1, .int .i64 a2_2, .int .i64 a2_3]] w fun e w' => e = .returned (.bool true) ∧ Below w.heap.size w w' := by
  have M0 := BxW.meet_any a0_0 a0_1 (a0_0 + a1_0 + a1_0) (a0_1 + a1_1 + a1_1) a2_0 a2_1 a2_2 a2_3
  have M1 := BxW.meet_any a0_0 a0_1 (a0_0 + a1_0) (a0_1 + a1_1) a2_0 a2_1 a2_2 a2_3
  have M2 := BxW.meet_any (a0_0 + a1_0) (a0_1 + a1_1) (a0_0 + a1_0 + a1_0) (a0_1 + a1_1 + a1_1) a2_0 a2_1 a2_2 a2_3
  have hs := Bx.shorter_ok (lx := a2_0) (ly := a2_1) (mx := a2_2) (my := a2_3) g0 h1 h2
  have ht := @Bx.shorter_time a0_0 a0_1 a1_0 a1_1 a2_0 a2_1 a2_2 a2_3
  have hd : Bx.meetOk a0_0 a0_1 (a0_0 + a1_0) (a0_1 + a1_1) a2_0 a2_1 a2_2 a2_3 = true → 1 ≤ Bx.meetD a0_0 a0_1 (a0_0 + a1_0) (a0_1 + a1_1) a2_0 a2_1 a2_2 a2_3 ∧ Bx.meetD a0_0 a0_1 (a0_0 + a1_0) (a0_1 + a1_1) a2_0 a2_1 a2_2 a2_3 ≤ 1073741824 := by
    intro h; rcases Bx.meet_cases a0_0 a0_1 (a0_0 + a1_0) (a0_1 + a1_1) a2_0 a2_1 a2_2 a2_3 with A | A
    · exact ⟨A.2.2.1.1, A.2.2.1.2.1⟩
    · rw [A.1] at h; cases h
  have g0' := Vc.formedB_iff.1 g0
  generalize Bx.meetOk a0_0 a0_1 (a0_0 + a1_0 + a1_0) (a0_1 + a1_1 + a1_1) a2_0 a2_1 a2_2 a2_3 = o0 at *
  generalize Bx.meetOk a0_0 a0_1 (a0_0 + a1_0) (a0_1 + a1_1) a2_0 a2_1 a2_2 a2_3 = o1 at *
  generalize Bx.meetOk (a0_0 + a1_0) (a0_1 + a1_1) (a0_0 + a1_0 + a1_0) (a0_1 + a1_1 + a1_1) a2_0 a2_1 a2_2 a2_3 = o2 at *
  generalize Bx.meetN a0_0 a0_1 (a0_0 + a1_0 + a1_0) (a0_1 + a1_1 + a1_1) a2_0 a2_1 a2_2 a2_3 = n0 at *
  generalize Bx.meetN a0_0 a0_1 (a0_0 + a1_0) (a0_1 + a1_1) a2_0 a2_1 a2_2 a2_3 = n1 at *
  generalize Bx.meetN (a0_0 + a1_0) (a0_1 + a1_1) (a0_0 + a1_0 + a1_0) (a0_1 + a1_1 + a1_1) a2_0 a2_1 a2_2 a2_3 = n2 at *
  generalize Bx.meetD a0_0 a0_1 (a0_0 + a1_0 + a1_0) (a0_1 + a1_1 + a1_1) a2_0 a2_1 a2_2 a2_3 = d0 at *
  generalize Bx.meetD a0_0 a0_1 (a0_0 + a1_0) (a0_1 + a1_1) a2_0 a2_1 a2_2 a2_3 = d1 at *
  generalize Bx.meetD (a0_0 + a1_0) (a0_1 + a1_1) (a0_0 + a1_0 + a1_0) (a0_1 + a1_1 + a1_1) a2_0 a2_1 a2_2 a2_3 = d2 at *
  cases o1
  all_goals cases o2
  all_goals simp only [Bool.or_self, Bool.or_true, Bool.or_false] at hs
  all_goals subst hs
  · clear ht hd
    go_enter Try.func7, Try.ntmps7
    go_wp2_with (first | (go_at_call 10; (refine (BxL.awake_any _).mono ?_); rintro e w' ⟨rfl, hb⟩; have hK : Keep w [(w.heap.size, [.int .i64 a0_0, .int .i64 a0_1]), (w.heap.size + 1, [.int .i64 a1_0, .int .i64 a1_1]), (w.heap.size + 2, [.int .i64 a2_0, .int .i64 a2_1, .int .i64 a2_2, .int .i64 a2_3])] w' := Keep.on (by first | assumption | exact ⟨by simp [Lie, LieAt, go_sem, World.cell?_alloc_past, World.frozen?_alloc_past], by simp; omega, (((Below.refl _ _).alloc (Nat.le_refl _) _).alloc (by simp) _).alloc (by simp; omega) _⟩) hb; have hS := hK; simp only [Keep, Lie, LieAt, Nat.reduceAdd] at hS) | (go_at_call 24; (refine (VcR.formed_any _ _ _).mono ?_); rintro e w' ⟨rfl, hb⟩; (first | with_reducible have hK := Keep.on (name22 hK) hb | with_reducible have hK := Keep.on (Keep.name2 hK) hb | with_reducible have hK := Keep.on hK hb); have hS := hK; simp only [Keep, Lie, LieAt, Nat.reduceAdd] at hS) | (go_at_call 22; (with_reducible refine (M0 _).mono ?_); rintro e w' ⟨rfl, hb⟩; (first | with_reducible have hK := Keep.on (Keep.name2 hK) hb | with_reducible have hK := Keep.on hK hb); have hS := hK; simp only [Keep, Lie, LieAt, Nat.reduceAdd] at hS) | (go_at_call 22; (with_reducible refine (M1 _).mono ?_); rintro e w' ⟨rfl, hb⟩; (first | with_reducible have hK := Keep.on (Keep.name2 hK) hb | with_reducible have hK := Keep.on hK hb); have hS := hK; simp only [Keep, Lie, LieAt, Nat.reduceAdd] at hS) | (go_at_call 22; (with_reducible refine (M2 _).mono ?_); rintro e w' ⟨rfl, hb⟩; (first | with_reducible have hK := Keep.on (Keep.name2 hK) hb | with_reducible have hK := Keep.on hK hb); have hS := hK; simp only [Keep, Lie, LieAt, Nat.reduceAdd] at hS) | (go_at_call 18; (refine (BxW.ahead_any _ _ _ _ _).mono ?_); rintro e w' ⟨rfl, hb⟩; (first | with_reducible have hK := Keep.on (Keep.name2 hK) hb | with_reducible have hK := Keep.on hK hb); have hS := hK; simp only [Keep, Lie, LieAt, Nat.reduceAdd] at hS))
    go_ret
    first | exact ⟨rfl, hK.2.2⟩ | exact ⟨rfl, (hK.alloc _).2.2⟩
  · clear ht hd
    go_enter Try.func7, Try.ntmps7
    go_wp2_with (first | (go_at_call 10; (refine (BxL.awake_any _).mono ?_); rintro e w' ⟨rfl, hb⟩; have hK : Keep w [(w.heap.size, [.int .i64 a0_0, .int .i64 a0_1]), (w.heap.size + 1, [.int .i64 a1_0, .int .i64 a1_1]), (w.heap.size + 2, [.int .i64 a2_0, .int .i64 a2_1, .int .i64 a2_2, .int .i64 a2_3])] w' := Keep.on (by first | assumption | exact ⟨by simp [Lie, LieAt, go_sem, World.cell?_alloc_past, World.frozen?_alloc_past], by simp; omega, (((Below.refl _ _).alloc (Nat.le_refl _) _).alloc (by simp) _).alloc (by simp; omega) _⟩) hb; have hS := hK; simp only [Keep, Lie, LieAt, Nat.reduceAdd] at hS) | (go_at_call 24; (refine (VcR.formed_any _ _ _).mono ?_); rintro e w' ⟨rfl, hb⟩; (first | with_reducible have hK := Keep.on (name22 hK) hb | with_reducible have hK := Keep.on (Keep.name2 hK) hb | with_reducible have hK := Keep.on hK hb); have hS := hK; simp only [Keep, Lie, LieAt, Nat.reduceAdd] at hS) | (go_at_call 22; (with_reducible refine (M0 _).mono ?_); rintro e w' ⟨rfl, hb⟩; (first | with_reducible have hK := Keep.on (Keep.name2 hK) hb | with_reducible have hK := Keep.on hK hb); have hS := hK; simp only [Keep, Lie, LieAt, Nat.reduceAdd] at hS) | (go_at_call 22; (with_reducible refine (M1 _).mono ?_); rintro e w' ⟨rfl, hb⟩; (first | with_reducible have hK := Keep.on (Keep.name2 hK) hb | with_reducible have hK := Keep.on hK hb); have hS := hK; simp only [Keep, Lie, LieAt, Nat.reduceAdd] at hS) | (go_at_call 22; (with_reducible refine (M2 _).mono ?_); rintro e w' ⟨rfl, hb⟩; (first | with_reducible have hK := Keep.on (Keep.name2 hK) hb | with_reducible have hK := Keep.on hK hb); have hS := hK; simp only [Keep, Lie, LieAt, Nat.reduceAdd] at hS) | (go_at_call 18; (refine (BxW.ahead_any _ _ _ _ _).mono ?_); rintro e w' ⟨rfl, hb⟩; (first | with_reducible have hK := Keep.on (Keep.name2 hK) hb | with_reducible have hK := Keep.on hK hb); have hS := hK; simp only [Keep, Lie, LieAt, Nat.reduceAdd] at hS))
    go_ret
    first | exact ⟨rfl, hK.2.2⟩ | exact ⟨rfl, (hK.alloc _).2.2⟩
  · obtain ⟨k1, k2⟩ := hd rfl
    obtain ⟨q1, q2⟩ := Bx.ahead_same (ht rfl rfl)
    clear ht hd
    go_enter Try.func7, Try.ntmps7
    go_wp2_with (first | (go_at_call 10; (refine (BxL.awake_any _).mono ?_); rintro e w' ⟨rfl, hb⟩; have hK : Keep w [(w.heap.size, [.int .i64 a0_0, .int .i64 a0_1]), (w.heap.size + 1, [.int .i64 a1_0, .int .i64 a1_1]), (w.heap.size + 2, [.int .i64 a2_0, .int .i64 a2_1, .int .i64 a2_2, .int .i64 a2_3])] w' := Keep.on (by first | assumption | exact ⟨by simp [Lie, LieAt, go_sem, World.cell?_alloc_past, World.frozen?_alloc_past], by simp; omega, (((Below.refl _ _).alloc (Nat.le_refl _) _).alloc (by simp) _).alloc (by simp; omega) _⟩) hb; have hS := hK; simp only [Keep, Lie, LieAt, Nat.reduceAdd] at hS) | (go_at_call 24; (refine (VcR.formed_any _ _ _).mono ?_); rintro e w' ⟨rfl, hb⟩; (first | with_reducible have hK := Keep.on (name22 hK) hb | with_reducible have hK := Keep.on (Keep.name2 hK) hb | with_reducible have hK := Keep.on hK hb); have hS := hK; simp only [Keep, Lie, LieAt, Nat.reduceAdd] at hS) | (go_at_call 22; (with_reducible refine (M0 _).mono ?_); rintro e w' ⟨rfl, hb⟩; (first | with_reducible have hK := Keep.on (Keep.name2 hK) hb | with_reducible have hK := Keep.on hK hb); have hS := hK; simp only [Keep, Lie, LieAt, Nat.reduceAdd] at hS) | (go_at_call 22; (with_reducible refine (M1 _).mono ?_); rintro e w' ⟨rfl, hb⟩; (first | with_reducible have hK := Keep.on (Keep.name2 hK) hb | with_reducible have hK := Keep.on hK hb); have hS := hK; simp only [Keep, Lie, LieAt, Nat.reduceAdd] at hS) | (go_at_call 22; (with_reducible refine (M2 _).mono ?_); rintro e w' ⟨rfl, hb⟩; (first | with_reducible have hK := Keep.on (Keep.name2 hK) hb | with_reducible have hK := Keep.on hK hb); have hS := hK; simp only [Keep, Lie, LieAt, Nat.reduceAdd] at hS) | (go_at_call 18; (refine (BxW.ahead_any _ _ _ _ _).mono ?_); rintro e w' ⟨rfl, hb⟩; (first | with_reducible have hK := Keep.on (Keep.name2 hK) hb | with_reducible have hK := Keep.on hK hb); have hS := hK; simp only [Keep, Lie, LieAt, Nat.reduceAdd] at hS))
    go_ret
    first | exact ⟨rfl, hK.2.2⟩ | exact ⟨rfl, (hK.alloc _).2.2⟩
  · obtain ⟨k1, k2⟩ := hd rfl
    obtain ⟨q1, q2⟩ := Bx.ahead_same (ht rfl rfl)
    clear ht hd
    go_enter Try.func7, Try.ntmps7
    go_wp2_with (first | (go_at_call 10; (refine (BxL.awake_any _).mono ?_); rintro e w' ⟨rfl, hb⟩; have hK : Keep w [(w.heap.size, [.int .i64 a0_0, .int .i64 a0_1]), (w.heap.size + 1, [.int .i64 a1_0, .int .i64 a1_1]), (w.heap.size + 2, [.int .i64 a2_0, .int .i64 a2_1, .int .i64 a2_2, .int .i64 a2_3])] w' := Keep.on (by first | assumption | exact ⟨by simp [Lie, LieAt, go_sem, World.cell?_alloc_past, World.frozen?_alloc_past], by simp; omega, (((Below.refl _ _).alloc (Nat.le_refl _) _).alloc (by simp) _).alloc (by simp; omega) _⟩) hb; have hS := hK; simp only [Keep, Lie, LieAt, Nat.reduceAdd] at hS) | (go_at_call 24; (refine (VcR.formed_any _ _ _).mono ?_); rintro e w' ⟨rfl, hb⟩; (first | with_reducible have hK := Keep.on (name22 hK) hb | with_reducible have hK := Keep.on (Keep.name2 hK) hb | with_reducible have hK := Keep.on hK hb); have hS := hK; simp only [Keep, Lie, LieAt, Nat.reduceAdd] at hS) | (go_at_call 22; (with_reducible refine (M0 _).mono ?_); rintro e w' ⟨rfl, hb⟩; (first | with_reducible have hK := Keep.on (Keep.name2 hK) hb | with_reducible have hK := Keep.on hK hb); have hS := hK; simp only [Keep, Lie, LieAt, Nat.reduceAdd] at hS) | (go_at_call 22; (with_reducible refine (M1 _).mono ?_); rintro e w' ⟨rfl, hb⟩; (first | with_reducible have hK := Keep.on (Keep.name2 hK) hb | with_reducible have hK := Keep.on hK hb); have hS := hK; simp only [Keep, Lie, LieAt, Nat.reduceAdd] at hS) | (go_at_call 22; (with_reducible refine (M2 _).mono ?_); rintro e w' ⟨rfl, hb⟩; (first | with_reducible have hK := Keep.on (Keep.name2 hK) hb | with_reducible have hK := Keep.on hK hb); have hS := hK; simp only [Keep, Lie, LieAt, Nat.reduceAdd] at hS) | (go_at_call 18; (refine (BxW.ahead_any _ _ _ _ _).mono ?_); rintro e w' ⟨rfl, hb⟩; (first | with_reducible have hK := Keep.on (Keep.name2 hK) hb | with_reducible have hK := Keep.on hK hb); have hS := hK; simp only [Keep, Lie, LieAt, Nat.reduceAdd] at hS))
    go_ret
    first | exact ⟨rfl, hK.2.2⟩ | exact ⟨rfl, (hK.alloc _).2.2⟩

set_option maxHeartbeats 2000000 in
theorem walk (a0_0 : Int) (a0_1 : Int) (a1_0 : Int) (a1_1 : Int) (a2_0 : Int) (a2_1 : Int) (a2_2 : Int) (a2_3 : Int) (w0_0 : (Lit.int .i64 a0_0).wf = true) (w0_1 : (Lit.int .i64 a0_1).wf = true) (w1_0 : (Lit.int .i64 a1_0).wf = true) (w1_1 : (Lit.int .i64 a1_1).wf = true) (w2_0 : (Lit.int .i64 a2_0).wf = true) (w2_1 : (Lit.int .i64 a2_1).wf = true) (w2_2 : (Lit.int .i64 a2_2).wf = true) (w2_3 : (Lit.int .i64 a2_3).wf = true) (w : World) :
    Calls Try.prog 7 #[.agg #[.int .i64 a0_0, .int .i64 a0_1], .agg #[.int .i64 a1_0, .int .i64 a1_1], .agg #[.int .i64 a2_0, .int .i64 a2_1, .int .i64 a2_2, .int .i64 a2_3]] w fun e w' => e = .returned (.bool true) ∧ Below w.heap.size w w' := by
  clear w0_0 w0_1 w1_0 w1_1 w2_0 w2_1 w2_2 w2_3
  cases g0 : Vc.formedB a0_0 a0_1 with
  | false => exact walk_out _ _ _ _ _ _ _ _ (Or.inl g0) w
  | true =>
    by_cases g1 : -1048576 ≤ a1_0 ∧ a1_0 ≤ 1048576
    · by_cases g2 : -1048576 ≤ a1_1 ∧ a1_1 ≤ 1048576
      · cases h2 : Vc.formedB (a0_0 + a1_0 + a1_0) (a0_1 + a1_1 + a1_1) with
        | false => exact walk_end _ _ _ _ _ _ _ _ g0 g1 g2 (Or.inl h2) w
        | true =>
          cases h1 : Vc.formedB (a0_0 + a1_0) (a0_1 + a1_1) with
          | false => exact walk_end _ _ _ _ _ _ _ _ g0 g1 g2 (Or.inr ⟨h2, h1⟩) w
          | true => exact walk_in _ _ _ _ _ _ _ _ g0 g1 g2 h1 h2 w
      · exact walk_out _ _ _ _ _ _ _ _ (by omega) w
    · exact walk_out _ _ _ _ _ _ _ _ (by omega) w

set_option maxRecDepth 100000 in
theorem lifted (os : Os) (started : os.Started) (H : Type) (enc : TypeId × Value → H) :
    ReturnsInHanded {} Try.checked os 7 .any (Rows.boxShorterSpec.pre6 enc Try.prog Try.f7 Rows.boxShorterRow.domain false) (Rows.boxShorterSpec.post enc Try.prog Try.f7 false true false false) := by
  refine returnsInHanded_of_change (C := Try.checked) own started (by kernel_rfl) Try.func7
    (ChangeSpec.witness6 (enc := enc) (C := Try.checked) false ⟨#[], #[.agg #[.int .i64 0, .int .i64 0], .agg #[.int .i64 0, .int .i64 0], .agg #[.int .i64 0, .int .i64 0, .int .i64 0, .int .i64 0]], []⟩ 8 (by kernel_rfl) (by kernel_rfl) (by kernel_rfl) (by kernel_rfl)) ?_
  intro W base args ds gs before hval0 hW hcnd _
  have hval : ∀ (j : Nat) t v, Try.f7.params[j]? = some t → args[j]? = some v → Value.okWide Try.prog W .any base t v := hval0
  have hW' := hW
  obtain ⟨p, q, hA0, hV, rfl, hfz, hnd⟩ := hW
  have hA : DataW.TrodAll enc Try.prog W 0 (fun _ => true) true Try.f7.params.toList args.toList ds p := hA0
  rw [Try.params7] at hA hval
  obtain ⟨v0, vs0, d0, ds0, p0, q0, hargs, rfl, rfl, h0, r0⟩ := trodAll_cons hA
  obtain ⟨v1, vs1, d1, ds1, p1, q1, rfl, rfl, rfl, h1, r1⟩ := trodAll_cons r0
  obtain ⟨v2, vs2, d2, ds2, p2, q2, rfl, rfl, rfl, h2, r2⟩ := trodAll_cons r1
  obtain ⟨rfl, rfl, rfl⟩ := trodAll_nil r2
  obtain rfl : args = #[v0, v1, v2] := by cases args; simp_all
  obtain ⟨rfl, rfl⟩ := trodVars_none hV
  have k0 := h0
  have lt0 : ∀ x ∈ p0, x.block < W.heap.size := by obtain ⟨m, hm⟩ := k0; exact DataW.trod_lt m _ _ _ hm
  have k1 := h1
  have lt1 : ∀ x ∈ p1, x.block < W.heap.size := by obtain ⟨m, hm⟩ := k1; exact DataW.trod_lt m _ _ _ hm
  have k2 := h2
  have lt2 : ∀ x ∈ p2, x.block < W.heap.size := by obtain ⟨m, hm⟩ := k2; exact DataW.trod_lt m _ _ _ hm
  obtain ⟨u0_0, u0_1, y0_0, y0_1, m0, rfl, _, _, g0_0, g0_1⟩ := Go.Joins.open_agg2 Try.underlying24 (by kernel_rfl) (by kernel_rfl) (hval 0 24 v0 rfl rfl) h0
  obtain ⟨a0_0, e0_0, _, w0_0⟩ := DataW.trod_int Try.underlying22 g0_0
  simp at e0_0
  subst e0_0
  obtain ⟨a0_1, e0_1, _, w0_1⟩ := DataW.trod_int Try.underlying22 g0_1
  simp at e0_1
  subst e0_1
  obtain ⟨u1_0, u1_1, y1_0, y1_1, m1, rfl, _, _, g1_0, g1_1⟩ := Go.Joins.open_agg2 Try.underlying24 (by kernel_rfl) (by kernel_rfl) (hval 1 24 v1 rfl rfl) h1
  obtain ⟨a1_0, e1_0, _, w1_0⟩ := DataW.trod_int Try.underlying22 g1_0
  simp at e1_0
  subst e1_0
  obtain ⟨a1_1, e1_1, _, w1_1⟩ := DataW.trod_int Try.underlying22 g1_1
  simp at e1_1
  subst e1_1
  obtain ⟨a2_0, a2_1, a2_2, a2_3, rfl, w2_0, w2_1, w2_2, w2_3⟩ := open_box (hval 2 26 v2 rfl rfl) h2
  clear hA0 hval0
  refine (walk a0_0 a0_1 a1_0 a1_1 a2_0 a2_1 a2_2 a2_3 w0_0 w0_1 w1_0 w1_1 w2_0 w2_1 w2_2 w2_3 W).mono fun e W' ⟨he, bel⟩ => ?_
  subst he
  exact ⟨_, rfl, _, _, _, [], _, [], hW', trodAll_mk1 (shut_bool Try.underlying4 _), (trodAll_cons_mk (Below.trod laidOut (by kernel_rfl) (of_decide_eq_true (by kernel_rfl)) k0 bel lt0) (trodAll_cons_mk (Below.trod laidOut (by kernel_rfl) (of_decide_eq_true (by kernel_rfl)) k1 bel lt1) (trodAll_cons_mk (Below.trod laidOut (by kernel_rfl) (of_decide_eq_true (by kernel_rfl)) k2 bel lt2) trodAll_mk0))), rfl, bel.frame _, fun h => by cases h⟩

theorem over : Rows.boxShorterRow.holds Try.pinned (OpenSpec.ofChange Rows.boxShorterSpec) :=
  OpenClaim.holds_of_wide 7 Try.f7 rfl rfl rfl rfl rfl rfl rfl ⟨rfl, rfl, rfl, rfl, rfl⟩ rfl rfl rfl rfl rfl (by kernel_rfl) Try.func7 (by kernel_rfl)
    (of_decide_eq_true (by kernel_rfl)) (by unfold Func.isWrapper; first | (rw [if_pos (by decide +kernel)]; kernel_rfl) | (rw [if_neg (by decide +kernel)]; exact ⟨rfl, rfl⟩))
    (fun os started H enc _ => lifted os started H enc)

theorem proved : Rows.BoxShorterSaid :=
  over
#print axioms proved
end Go.Proofs.Ytoehofphklhecaa.boxShorter

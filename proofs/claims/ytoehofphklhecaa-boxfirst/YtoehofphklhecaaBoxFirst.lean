/- Whatever ways and boxes are handed in, BoxFirst answers true: at the time that is told the point lies in the box, and a way to and fro meets the same boxes. No condition. -/
import Derived.Test.YtoehofphklhecaaRows
import Derived.Test.YtoehofphklhecaaBoxLaw
import Derived.Test.YtoehofphklhecaaBoxMeet
import Derived.Test.YtoehofphklhecaaBoxRef
import Derived.Test.YtoehofphklhecaaBoxPlain4
import Derived.Test.YtoehofphklhecaaBoxOpen
import Derived.WalkKit
import Derived.ProofKit
import Derived.OpenShut
import Derived.ChangeOld
import Derived.Below
import Derived.WalkSmall
import Derived.Lib.SmallJoins
import Derived.Laws.IdiomArrays
namespace Go.Proofs.Ytoehofphklhecaa.boxFirst
open Go.ChangeShapes Go.WideShapes Go.ChangeAt Go.RowKit
set_option linter.unusedVariables false

theorem own : ownKnob Try.prog.godebug = none := by kernel_rfl
theorem laidOut : laidOutB Try.prog = true := by kernel_rfl

set_option maxHeartbeats 4000000 in
theorem walk_no (a0_0 a0_1 a1_0 a1_1 a2_0 a2_1 a2_2 a2_3 : Int) (hok : Bx.meetOk a0_0 a0_1 a1_0 a1_1 a2_0 a2_1 a2_2 a2_3 = false) (w : World) :
    Calls Try.prog 6 #[.agg #[.int .i64 a0_0, .int .i64 a0_1], .agg #[.int .i64 a1_0, .int .i64 a1_1], .agg #[.int .i64 a2_0, .int .i64 a2_1, .int .i64 a2_2, .int .i64 a2_3]] w fun e w' => e = .returned (.bool true) ∧ Below w.heap.size w w' := by
  have he := time_eql
  have M1 := BxW.meet_any a0_0 a0_1 a1_0 a1_1 a2_0 a2_1 a2_2 a2_3
  have M2 := BxW.meet_any a1_0 a1_1 a0_0 a0_1 a2_0 a2_1 a2_2 a2_3
  rw [← Bx.back_eq a0_0 a0_1 a1_0 a1_1 a2_0 a2_1 a2_2 a2_3, hok] at M2
  rw [hok] at M1
  rcases Bx.meet_cases a0_0 a0_1 a1_0 a1_1 a2_0 a2_1 a2_2 a2_3 with A | ⟨_, z1, z2, _⟩
  · rw [hok] at A; exact absurd A.2.1 (by simp)
  · rw [z1, z2] at M1
    have hno : Vc.formedB a0_0 a0_1 = false ∨ (Vc.formedB a0_0 a0_1 = true ∧ Vc.formedB a1_0 a1_1 = false) ∨ (Vc.formedB a0_0 a0_1 = true ∧ Vc.formedB a1_0 a1_1 = true ∧ Bx.inB a0_0 a0_1 a2_0 a2_1 a2_2 a2_3 = false ∧ Bx.inB a1_0 a1_1 a2_0 a2_1 a2_2 a2_3 = false) := by
      cases h1 : Vc.formedB a0_0 a0_1
      · exact Or.inl rfl
      · cases h2 : Vc.formedB a1_0 a1_1
        · exact Or.inr (Or.inl ⟨rfl, rfl⟩)
        · exact Or.inr (Or.inr ⟨rfl, rfl, Bx.first_no hok h1 h2⟩)
    clear z1 z2 hok
    generalize Bx.meetN a1_0 a1_1 a0_0 a0_1 a2_0 a2_1 a2_2 a2_3 = N' at *
    generalize Bx.meetD a1_0 a1_1 a0_0 a0_1 a2_0 a2_1 a2_2 a2_3 = D' at *
    rcases hno with h1 | ⟨h1, h2⟩ | ⟨h1, h2, h3, h4⟩
    all_goals
      go_enter Try.func6, Try.ntmps6
      go_wp2_with (first | (go_at_call_of 22 (Value.agg #[Value.int IntKind.i64 a0_0, Value.int IntKind.i64 a0_1]); (with_reducible refine (M1 _).mono ?_); rintro e w' ⟨rfl, hb⟩; have hK : Keep w [(w.heap.size, [.int .i64 a0_0, .int .i64 a0_1]), (w.heap.size + 1, [.int .i64 a1_0, .int .i64 a1_1]), (w.heap.size + 2, [.int .i64 a2_0, .int .i64 a2_1, .int .i64 a2_2, .int .i64 a2_3])] w' := Keep.on ⟨by simp [Lie, LieAt, go_sem, World.cell?_alloc_past, World.frozen?_alloc_past], by simp; omega, (((Below.refl _ _).alloc (Nat.le_refl _) _).alloc (by simp) _).alloc (by simp; omega) _⟩ hb; have hS := hK; simp only [Keep, Lie, LieAt, Nat.reduceAdd] at hS) | (go_at_call_of 22 (Value.agg #[Value.int IntKind.i64 a1_0, Value.int IntKind.i64 a1_1]); (with_reducible refine (M2 _).mono ?_); rintro e w' ⟨rfl, hb⟩; (first | with_reducible have hK := Keep.on (Keep.name2 hK) hb | with_reducible have hK := Keep.on hK hb); have hS := hK; simp only [Keep, Lie, LieAt, Nat.reduceAdd] at hS) | (go_at_call 10; (refine (BxL.awake_any _).mono ?_); rintro e w' ⟨rfl, hb⟩; (first | with_reducible have hK := Keep.on (Keep.name2 hK) hb | with_reducible have hK := Keep.on hK hb); have hS := hK; simp only [Keep, Lie, LieAt, Nat.reduceAdd] at hS) | (go_at_call 24; (refine (VcR.formed_any _ _ _).mono ?_); rintro e w' ⟨rfl, hb⟩; (first | with_reducible have hK := Keep.on (Keep.name2 hK) hb | with_reducible have hK := Keep.on hK hb); have hS := hK; simp only [Keep, Lie, LieAt, Nat.reduceAdd] at hS) | (go_at_call 14; (refine (BxW.in_any _ _ _ _ _ _ _).mono ?_); rintro e w' ⟨rfl, hb⟩; (first | with_reducible have hK := Keep.on (Keep.name2 hK) hb | with_reducible have hK := Keep.on hK hb); have hS := hK; simp only [Keep, Lie, LieAt, Nat.reduceAdd] at hS))
      go_ret
      exact ⟨rfl, hK.2.2⟩

set_option maxRecDepth 100000 in
set_option maxHeartbeats 4000000 in
theorem walk_yes (a0_0 a0_1 a1_0 a1_1 a2_0 a2_1 a2_2 a2_3 : Int) (hok : Bx.meetOk a0_0 a0_1 a1_0 a1_1 a2_0 a2_1 a2_2 a2_3 = true) (w : World) :
    Calls Try.prog 6 #[.agg #[.int .i64 a0_0, .int .i64 a0_1], .agg #[.int .i64 a1_0, .int .i64 a1_1], .agg #[.int .i64 a2_0, .int .i64 a2_1, .int .i64 a2_2, .int .i64 a2_3]] w fun e w' => e = .returned (.bool true) ∧ Below w.heap.size w w' := by
  have M1 := BxW.meet_any a0_0 a0_1 a1_0 a1_1 a2_0 a2_1 a2_2 a2_3
  have M2 := BxW.meet_any a1_0 a1_1 a0_0 a0_1 a2_0 a2_1 a2_2 a2_3
  rw [← Bx.back_eq a0_0 a0_1 a1_0 a1_1 a2_0 a2_1 a2_2 a2_3, hok] at M2
  rw [hok] at M1
  rcases Bx.meet_cases a0_0 a0_1 a1_0 a1_1 a2_0 a2_1 a2_2 a2_3 with ⟨hm, _, ⟨e1, e2, e3, e4⟩, X, Y, _⟩ | A
  · have hin := Bx.first_in hok
    obtain ⟨⟨⟨a1, a2⟩, a3, a4⟩, ⟨⟨a5, a6⟩, a7, a8⟩, hf⟩ := Bx.may_iff.1 hm
    obtain ⟨⟨⟨b1, b2⟩, b3, b4⟩, ⟨⟨b5, b6⟩, b7, b8⟩, b9, b10⟩ := Bx.formed_iff.1 hf
    have IN := BxW.in_any a0_0 a0_1 a2_0 a2_1 a2_2 a2_3
    rw [hin] at IN
    unfold Bx.at1 at X Y
    generalize Bx.meetN a0_0 a0_1 a1_0 a1_1 a2_0 a2_1 a2_2 a2_3 = N at *
    generalize Bx.meetD a0_0 a0_1 a1_0 a1_1 a2_0 a2_1 a2_2 a2_3 = D at *
    generalize Bx.meetN a1_0 a1_1 a0_0 a0_1 a2_0 a2_1 a2_2 a2_3 = N' at *
    generalize Bx.meetD a1_0 a1_1 a0_0 a0_1 a2_0 a2_1 a2_2 a2_3 = D' at *
    have p1 := Bx.mul_bd (a := a0_0) (b := D) (by omega) (by omega) (by omega) e2
    have p2 := Bx.mul_bd (a := a1_0 - a0_0) (b := N) (by omega) (by omega) e3 (by omega)
    have p3 := Bx.mul_bd (a := a0_1) (b := D) (by omega) (by omega) (by omega) e2
    have p4 := Bx.mul_bd (a := a1_1 - a0_1) (b := N) (by omega) (by omega) e3 (by omega)
    have p5 := Bx.mul_bd (a := a2_0) (b := D) (by omega) (by omega) (by omega) e2
    have p6 := Bx.mul_bd (a := a2_1) (b := D) (by omega) (by omega) (by omega) e2
    have p7 := Bx.mul_bd (a := a2_2) (b := D) (by omega) (by omega) (by omega) e2
    have p8 := Bx.mul_bd (a := a2_3) (b := D) (by omega) (by omega) (by omega) e2
    obtain ⟨X1, X2⟩ := X
    obtain ⟨Y1, Y2⟩ := Y
    have HH : Hid ((-134217728 ≤ a0_0 ∧ a0_0 ≤ 134217728) ∧ (-134217728 ≤ a0_1 ∧ a0_1 ≤ 134217728) ∧ (-134217728 ≤ a1_0 ∧ a1_0 ≤ 134217728) ∧ (-134217728 ≤ a1_1 ∧ a1_1 ≤ 134217728) ∧ (-288230376151711744 ≤ a0_0 * D ∧ a0_0 * D ≤ 288230376151711744) ∧ (-288230376151711744 ≤ (a1_0 - a0_0) * N ∧ (a1_0 - a0_0) * N ≤ 288230376151711744) ∧ (-288230376151711744 ≤ a0_1 * D ∧ a0_1 * D ≤ 288230376151711744) ∧ (-288230376151711744 ≤ (a1_1 - a0_1) * N ∧ (a1_1 - a0_1) * N ≤ 288230376151711744) ∧ a2_0 * D ≤ a0_0 * D + (a1_0 - a0_0) * N ∧ a0_0 * D + (a1_0 - a0_0) * N ≤ a2_2 * D ∧ a2_1 * D ≤ a0_1 * D + (a1_1 - a0_1) * N ∧ a0_1 * D + (a1_1 - a0_1) * N ≤ a2_3 * D ∧ (-288230376151711744 ≤ a2_0 * D ∧ a2_0 * D ≤ 288230376151711744) ∧ (-288230376151711744 ≤ a2_1 * D ∧ a2_1 * D ≤ 288230376151711744) ∧ (-288230376151711744 ≤ a2_2 * D ∧ a2_2 * D ≤ 288230376151711744) ∧ (-288230376151711744 ≤ a2_3 * D ∧ a2_3 * D ≤ 288230376151711744)) := ⟨⟨a1, a2⟩, ⟨a3, a4⟩, ⟨a5, a6⟩, ⟨a7, a8⟩, p1, p2, p3, p4, X1, X2, Y1, Y2, p5, p6, p7, p8⟩
    clear a1 a2 a3 a4 a5 a6 a7 a8 b1 b2 b3 b4 b5 b6 b7 b8 b9 b10 p1 p2 p3 p4 p5 p6 p7 p8 X1 X2 Y1 Y2 e2 hok
    go_enter Try.func6, Try.ntmps6
    go_wp2_with (first | (go_at_call_of 22 (Value.agg #[Value.int IntKind.i64 a0_0, Value.int IntKind.i64 a0_1]); (with_reducible refine (M1 _).mono ?_); rintro e w' ⟨rfl, hb⟩; have hK : Keep w [(w.heap.size, [.int .i64 a0_0, .int .i64 a0_1]), (w.heap.size + 1, [.int .i64 a1_0, .int .i64 a1_1]), (w.heap.size + 2, [.int .i64 a2_0, .int .i64 a2_1, .int .i64 a2_2, .int .i64 a2_3])] w' := Keep.on ⟨by simp [Lie, LieAt, go_sem, World.cell?_alloc_past, World.frozen?_alloc_past], by simp; omega, (((Below.refl _ _).alloc (Nat.le_refl _) _).alloc (by simp) _).alloc (by simp; omega) _⟩ hb; have hS := hK; simp only [Keep, Lie, LieAt, Nat.reduceAdd] at hS) | (go_at_call_of 22 (Value.agg #[Value.int IntKind.i64 a1_0, Value.int IntKind.i64 a1_1]); (with_reducible refine (M2 _).mono ?_); rintro e w' ⟨rfl, hb⟩; (first | with_reducible have hK := Keep.on (Keep.name2 hK) hb | with_reducible have hK := Keep.on hK hb); have hS := hK; simp only [Keep, Lie, LieAt, Nat.reduceAdd] at hS) | (go_at_call 10; (refine (BxL.awake_any _).mono ?_); rintro e w' ⟨rfl, hb⟩; (first | with_reducible have hK := Keep.on (Keep.name2 hK) hb | with_reducible have hK := Keep.on hK hb); have hS := hK; simp only [Keep, Lie, LieAt, Nat.reduceAdd] at hS))
    clear hS M1 M2
    obtain ⟨r1, -, r3, -, p1, p2, -⟩ := HH.out
    have hS := hK
    simp only [Keep, Lie, LieAt, Nat.reduceAdd] at hS
    obtain ⟨⟨⟨c0, f0, c1, f1, l0⟩, ⟨c2, f2, c3, f3, l1⟩, ⟨c4, f4, c5, f5, l2⟩, ⟨c6, f6, c7, f7, l3⟩, ⟨c8, f8, c9, f9, c10, f10, c11, f11, l4⟩, -⟩, -⟩ := hS
    have ne : Nonempty (KeptW w') := KeptW.one w'
    have d0 := KeptW.at l0 c0
    have d1 := KeptW.at l0 c1
    have d2 := KeptW.at l1 c2
    have d3 := KeptW.at l1 c3
    have d4 := KeptW.at l2 c4
    have d5 := KeptW.at l2 c5
    have d6 := KeptW.at l3 c6
    have d7 := KeptW.at l3 c7
    have d8 := KeptW.at l4 c8
    have d9 := KeptW.at l4 c9
    have d10 := KeptW.at l4 c10
    have d11 := KeptW.at l4 c11
    clear c0 f0 c1 f1 c2 f2 c3 f3 c4 f4 c5 f5 c6 f6 c7 f7 c8 f8 c9 f9 c10 f10 c11 f11 l0 l1 l2 l3 l4
    refine wp_region_kept (by kernel_rfl) (by kernel_rfl) ?_
    repeat (go_big_quiet_step (first | (go_at_call 25; exact kept_same (BxL.small_any _ _))))
    refine wpQuiet_nil ?_
    rintro W2 ⟨x, hx⟩
    have bW2 := x.h
    rw [← hx] at bW2
    clear hx x
    replace hK := hK.on bW2
    clear bW2 ne d0 d1 d2 d3 d4 d5 d6 d7 d8 d9 d10 d11
    clear r1 r3 p1 p2
    go_wp2_with fail
    obtain ⟨-, r2, -, r4, -, -, p3, p4, -⟩ := HH.out
    have hS := hK
    simp only [Keep, Lie, LieAt, Nat.reduceAdd] at hS
    obtain ⟨⟨⟨c0, f0, c1, f1, l0⟩, ⟨c2, f2, c3, f3, l1⟩, ⟨c4, f4, c5, f5, l2⟩, ⟨c6, f6, c7, f7, l3⟩, ⟨c8, f8, c9, f9, c10, f10, c11, f11, l4⟩, -⟩, -⟩ := hS
    have ne : Nonempty (KeptW W2) := KeptW.one W2
    have d0 := KeptW.at l0 c0
    have d1 := KeptW.at l0 c1
    have d2 := KeptW.at l1 c2
    have d3 := KeptW.at l1 c3
    have d4 := KeptW.at l2 c4
    have d5 := KeptW.at l2 c5
    have d6 := KeptW.at l3 c6
    have d7 := KeptW.at l3 c7
    have d8 := KeptW.at l4 c8
    have d9 := KeptW.at l4 c9
    have d10 := KeptW.at l4 c10
    have d11 := KeptW.at l4 c11
    clear c0 f0 c1 f1 c2 f2 c3 f3 c4 f4 c5 f5 c6 f6 c7 f7 c8 f8 c9 f9 c10 f10 c11 f11 l0 l1 l2 l3 l4
    refine wp_region_kept (by kernel_rfl) (by kernel_rfl) ?_
    repeat (go_big_quiet_step (first | (go_at_call 25; exact kept_same (BxL.small_any _ _))))
    refine wpQuiet_nil ?_
    rintro W3 ⟨x, hx⟩
    have bW3 := x.h
    rw [← hx] at bW3
    clear hx x
    replace hK := hK.on bW3
    clear bW3 ne d0 d1 d2 d3 d4 d5 d6 d7 d8 d9 d10 d11
    clear r2 r4 p3 p4
    go_wp2_with fail
    obtain ⟨-, -, -, -, -, -, -, -, X1, X2, Y1, Y2, p5, p6, p7, p8⟩ := HH.out
    clear HH
    generalize a0_0 * D + (a1_0 - a0_0) * N = X at *
    generalize a0_1 * D + (a1_1 - a0_1) * N = Y at *
    have hN : N = 0 ∨ (N == 0) = false := by by_cases h : N = 0 <;> simp [h]
    rcases hN with hN | hN
    all_goals first | subst hN | rw [hN] at IN
    all_goals
      skip
      have hS := hK
      simp only [Keep, Lie, LieAt, Nat.reduceAdd] at hS
      obtain ⟨⟨⟨c0, f0, c1, f1, l0⟩, ⟨c2, f2, c3, f3, l1⟩, ⟨c4, f4, c5, f5, l2⟩, ⟨c6, f6, c7, f7, l3⟩, ⟨c8, f8, c9, f9, c10, f10, c11, f11, l4⟩, -⟩, -⟩ := hS
      have ne : Nonempty (KeptW W3) := KeptW.one W3
      have d0 := KeptW.at l0 c0
      have d1 := KeptW.at l0 c1
      have d2 := KeptW.at l1 c2
      have d3 := KeptW.at l1 c3
      have d4 := KeptW.at l2 c4
      have d5 := KeptW.at l2 c5
      have d6 := KeptW.at l3 c6
      have d7 := KeptW.at l3 c7
      have d8 := KeptW.at l4 c8
      have d9 := KeptW.at l4 c9
      have d10 := KeptW.at l4 c10
      have d11 := KeptW.at l4 c11
      clear c0 f0 c1 f1 c2 f2 c3 f3 c4 f4 c5 f5 c6 f6 c7 f7 c8 f8 c9 f9 c10 f10 c11 f11 l0 l1 l2 l3 l4
      refine wp_region_kept (by kernel_rfl) (by kernel_rfl) ?_
      repeat (go_big_quiet_step (first | (go_at_call 25; exact kept_same (BxL.small_any _ _)) | (go_at_call 14; exact kept_call (IN _))))
      refine wpQuiet_nil ?_
      rintro W4 ⟨x, hx⟩
      have bW4 := x.h
      rw [← hx] at bW4
      clear hx x
      replace hK := hK.on bW4
      clear bW4 ne d0 d1 d2 d3 d4 d5 d6 d7 d8 d9 d10 d11
      go_wp2
      go_ret
      exact ⟨rfl, hK.2.2⟩
  · rw [hok] at A; exact absurd A.1 (by simp)

set_option maxHeartbeats 2000000 in
theorem walk (a0_0 : Int) (a0_1 : Int) (a1_0 : Int) (a1_1 : Int) (a2_0 : Int) (a2_1 : Int) (a2_2 : Int) (a2_3 : Int) (w0_0 : (Lit.int .i64 a0_0).wf = true) (w0_1 : (Lit.int .i64 a0_1).wf = true) (w1_0 : (Lit.int .i64 a1_0).wf = true) (w1_1 : (Lit.int .i64 a1_1).wf = true) (w2_0 : (Lit.int .i64 a2_0).wf = true) (w2_1 : (Lit.int .i64 a2_1).wf = true) (w2_2 : (Lit.int .i64 a2_2).wf = true) (w2_3 : (Lit.int .i64 a2_3).wf = true) (w : World) :
    Calls Try.prog 6 #[.agg #[.int .i64 a0_0, .int .i64 a0_1], .agg #[.int .i64 a1_0, .int .i64 a1_1], .agg #[.int .i64 a2_0, .int .i64 a2_1, .int .i64 a2_2, .int .i64 a2_3]] w fun e w' => e = .returned (.bool true) ∧ Below w.heap.size w w' := by
  cases hok : Bx.meetOk a0_0 a0_1 a1_0 a1_1 a2_0 a2_1 a2_2 a2_3 with
  | false => exact walk_no _ _ _ _ _ _ _ _ hok w
  | true => exact walk_yes _ _ _ _ _ _ _ _ hok w

set_option maxRecDepth 100000 in
theorem lifted (os : Os) (started : os.Started) (H : Type) (enc : TypeId × Value → H) :
    ReturnsInHanded {} Try.checked os 6 .any (Rows.boxFirstSpec.pre6 enc Try.prog Try.f6 Rows.boxFirstRow.domain false) (Rows.boxFirstSpec.post enc Try.prog Try.f6 false true false false) := by
  refine returnsInHanded_of_change (C := Try.checked) own started (by kernel_rfl) Try.func6
    (ChangeSpec.witness6 (enc := enc) (C := Try.checked) false ⟨#[], #[.agg #[.int .i64 0, .int .i64 0], .agg #[.int .i64 0, .int .i64 0], .agg #[.int .i64 0, .int .i64 0, .int .i64 0, .int .i64 0]], []⟩ 8 (by kernel_rfl) (by kernel_rfl) (by kernel_rfl) (by kernel_rfl)) ?_
  intro W base args ds gs before hval0 hW hcnd _
  have hval : ∀ (j : Nat) t v, Try.f6.params[j]? = some t → args[j]? = some v → Value.okWide Try.prog W .any base t v := hval0
  have hW' := hW
  obtain ⟨p, q, hA0, hV, rfl, hfz, hnd⟩ := hW
  have hA : DataW.TrodAll enc Try.prog W 0 (fun _ => true) true Try.f6.params.toList args.toList ds p := hA0
  rw [Try.params6] at hA hval
  obtain ⟨v0, vs0, d0, ds0, p0, q0, hargs, rfl, rfl, h0, r0⟩ := trodAll_cons hA
  obtain ⟨v1, vs1, d1, ds1, p1, q1, rfl, rfl, rfl, h1, r1⟩ := trodAll_cons r0
  obtain ⟨v2, vs2, d2, ds2, p2, q2, rfl, rfl, rfl, h2, r2⟩ := trodAll_cons r1
  obtain ⟨rfl, rfl, rfl⟩ := trodAll_nil r2
  obtain rfl : args = #[v0, v1, v2] := by cases args; simp_all
  obtain ⟨rfl, rfl⟩ := trodVars_none hV
  have k0 := h0
  have lt0 : ∀ x ∈ p0, x.block < W.heap.size := by obtain ⟨m, hm⟩ := k0; exact DataW.trod_lt m _ _ _ hm
  have k1 := h1
  have lt1 : ∀ x ∈ p1, x.block < W.heap.size := by obtain ⟨m, hm⟩ := k1; exact DataW.trod_lt m _ _ _ hm
  have k2 := h2
  have lt2 : ∀ x ∈ p2, x.block < W.heap.size := by obtain ⟨m, hm⟩ := k2; exact DataW.trod_lt m _ _ _ hm
  obtain ⟨u0_0, u0_1, y0_0, y0_1, m0, rfl, _, _, g0_0, g0_1⟩ := Go.Joins.open_agg2 Try.underlying24 (by kernel_rfl) (by kernel_rfl) (hval 0 24 v0 rfl rfl) h0
  obtain ⟨a0_0, e0_0, _, w0_0⟩ := DataW.trod_int Try.underlying22 g0_0
  simp at e0_0
  subst e0_0
  obtain ⟨a0_1, e0_1, _, w0_1⟩ := DataW.trod_int Try.underlying22 g0_1
  simp at e0_1
  subst e0_1
  obtain ⟨u1_0, u1_1, y1_0, y1_1, m1, rfl, _, _, g1_0, g1_1⟩ := Go.Joins.open_agg2 Try.underlying24 (by kernel_rfl) (by kernel_rfl) (hval 1 24 v1 rfl rfl) h1
  obtain ⟨a1_0, e1_0, _, w1_0⟩ := DataW.trod_int Try.underlying22 g1_0
  simp at e1_0
  subst e1_0
  obtain ⟨a1_1, e1_1, _, w1_1⟩ := DataW.trod_int Try.underlying22 g1_1
  simp at e1_1
  subst e1_1
  obtain ⟨a2_0, a2_1, a2_2, a2_3, rfl, w2_0, w2_1, w2_2, w2_3⟩ := open_box (hval 2 26 v2 rfl rfl) h2
  clear hA0 hval0
  refine (walk a0_0 a0_1 a1_0 a1_1 a2_0 a2_1 a2_2 a2_3 w0_0 w0_1 w1_0 w1_1 w2_0 w2_1 w2_2 w2_3 W).mono fun e W' ⟨he, bel⟩ => ?_
  subst he
  exact ⟨_, rfl, _, _, _, [], _, [], hW', trodAll_mk1 (shut_bool Try.underlying4 _), (trodAll_cons_mk (Below.trod laidOut (by kernel_rfl) (of_decide_eq_true (by kernel_rfl)) k0 bel lt0) (trodAll_cons_mk (Below.trod laidOut (by kernel_rfl) (of_decide_eq_true (by kernel_rfl)) k1 bel lt1) (trodAll_cons_mk (Below.trod laidOut (by kernel_rfl) (of_decide_eq_true (by kernel_rfl)) k2 bel lt2) trodAll_mk0))), rfl, bel.frame _, fun h => by cases h⟩

theorem over : Rows.boxFirstRow.holds Try.pinned (OpenSpec.ofChange Rows.boxFirstSpec) :=
  OpenClaim.holds_of_wide 6 Try.f6 rfl rfl rfl rfl rfl rfl rfl ⟨rfl, rfl, rfl, rfl, rfl⟩ rfl rfl rfl rfl rfl (by kernel_rfl) Try.func6 (by kernel_rfl)
    (of_decide_eq_true (by kernel_rfl)) (by unfold Func.isWrapper; first | (rw [if_pos (by decide +kernel)]; kernel_rfl) | (rw [if_neg (by decide +kernel)]; exact ⟨rfl, rfl⟩))
    (fun os started H enc _ => lifted os started H enc)

theorem proved : Rows.BoxFirstSaid :=
  over
#print axioms proved
end Go.Proofs.Ytoehofphklhecaa.boxFirst

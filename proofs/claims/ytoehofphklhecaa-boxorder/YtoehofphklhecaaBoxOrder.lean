/- Whatever three times are handed in, BoxOrder answers true: none is ahead of itself, and being ahead goes round in none. No condition. -/
import Derived.Test.YtoehofphklhecaaRows
import Derived.Test.YtoehofphklhecaaBoxLaw
import Derived.WalkKit
import Derived.ProofKit
import Derived.OpenShut
import Derived.ChangeOld
import Derived.Below
import Derived.WalkSmall
import Derived.Lib.SmallJoins
import Derived.Laws.IdiomArrays
namespace Go.Proofs.Ytoehofphklhecaa.boxOrder
open Go.ChangeShapes Go.WideShapes Go.ChangeAt Go.RowKit
set_option linter.unusedVariables false

theorem own : ownKnob Try.prog.godebug = none := by kernel_rfl
theorem laidOut : laidOutB Try.prog = true := by kernel_rfl

theorem ahead_self (n d : Int) : Bx.ahead n d n d = false := by
  unfold Bx.ahead; simp
theorem ahead_two {n d n' d' : Int} (h : Bx.ahead n d n' d' = true) : Bx.ahead n' d' n d = false := by
  simp only [Bx.ahead, Bool.and_eq_true, decide_eq_true_eq] at h
  rw [Bx.ahead_of h.1.2 h.1.1]
  simp only [decide_eq_false_iff_not]
  omega
theorem ahead_three {n d n' d' n'' d'' : Int} (h : Bx.ahead n d n' d' = true) (k : Bx.ahead n' d' n'' d'' = true) : Bx.ahead n d n'' d'' = true := by
  simp only [Bx.ahead, Bool.and_eq_true, decide_eq_true_eq] at h k
  obtain ⟨⟨h1, h2⟩, h3⟩ := h
  obtain ⟨⟨k1, k2⟩, k3⟩ := k
  rw [Bx.ahead_of h1 k2, decide_eq_true_eq]
  obtain ⟨a1, a2, a3, a4⟩ := Bx.right_iff.1 h1
  obtain ⟨b1, b2, b3, b4⟩ := Bx.right_iff.1 k1
  obtain ⟨c1, c2, c3, c4⟩ := Bx.right_iff.1 k2
  by_cases g : n'' * d ≤ n * d''
  · have := Bx.frac_trans (n1 := n'') (d1 := d'') (n2 := n) (d2 := d) (n3 := n') (d3 := d') (by omega) (by omega) (by omega) g (by omega)
    omega
  · omega

set_option maxHeartbeats 2000000 in
theorem walk (a0_0 : Int) (a0_1 : Int) (a1_0 : Int) (a1_1 : Int) (a2_0 : Int) (a2_1 : Int) (w0_0 : (Lit.int .i64 a0_0).wf = true) (w0_1 : (Lit.int .i64 a0_1).wf = true) (w1_0 : (Lit.int .i64 a1_0).wf = true) (w1_1 : (Lit.int .i64 a1_1).wf = true) (w2_0 : (Lit.int .i64 a2_0).wf = true) (w2_1 : (Lit.int .i64 a2_1).wf = true) (w : World) :
    Calls Try.prog 9 #[.agg #[.int .i64 a0_0, .int .i64 a0_1], .agg #[.int .i64 a1_0, .int .i64 a1_1], .agg #[.int .i64 a2_0, .int .i64 a2_1]] w fun e w' => e = .returned (.bool true) ∧ Below w.heap.size w w' := by
  clear w0_0 w0_1 w1_0 w1_1 w2_0 w2_1
  have i0 := ahead_self a0_0 a0_1
  cases h0 : Bx.ahead a0_0 a0_1 a1_0 a1_1
  all_goals cases h1 : Bx.ahead a1_0 a1_1 a2_0 a2_1
  all_goals cases h2 : Bx.ahead a0_0 a0_1 a2_0 a2_1
  all_goals cases h3 : Bx.ahead a1_0 a1_1 a0_0 a0_1
  all_goals first | (exfalso; have := ahead_two h0; rw [h3] at this; cases this; done) | (exfalso; have := ahead_three h0 h1; rw [h2] at this; cases this; done) | skip
  all_goals
    go_enter Try.func9, Try.ntmps9
    go_wp2_with (first | (go_at_call 10; refine (BxL.awake_any _).mono ?_; rintro e w' ⟨rfl, hb⟩; have hK : Keep w [(w.heap.size, [.int .i64 a0_0, .int .i64 a0_1]), (w.heap.size + 1, [.int .i64 a1_0, .int .i64 a1_1]), (w.heap.size + 2, [.int .i64 a2_0, .int .i64 a2_1])] w' := Keep.on (by first | assumption | exact ⟨by simp [Lie, LieAt, go_sem, World.cell?_alloc_past, World.frozen?_alloc_past], by simp; omega, (((Below.refl _ _).alloc (Nat.le_refl _) _).alloc (by simp) _).alloc (by simp; omega) _⟩) hb; have hS := hK; simp only [Keep, Lie, LieAt, Nat.reduceAdd] at hS) | (go_at_call 18; refine (BxW.ahead_any _ _ _ _ _).mono ?_; rintro e w' ⟨rfl, hb⟩; have hK : Keep w [(w.heap.size, [.int .i64 a0_0, .int .i64 a0_1]), (w.heap.size + 1, [.int .i64 a1_0, .int .i64 a1_1]), (w.heap.size + 2, [.int .i64 a2_0, .int .i64 a2_1])] w' := Keep.on (by first | assumption | exact ⟨by simp [Lie, LieAt, go_sem, World.cell?_alloc_past, World.frozen?_alloc_past], by simp; omega, (((Below.refl _ _).alloc (Nat.le_refl _) _).alloc (by simp) _).alloc (by simp; omega) _⟩) hb; have hS := hK; simp only [Keep, Lie, LieAt, Nat.reduceAdd] at hS))
    go_ret
    exact ⟨rfl, hK.2.2⟩

set_option maxRecDepth 100000 in
theorem lifted (os : Os) (started : os.Started) (H : Type) (enc : TypeId × Value → H) :
    ReturnsInHanded {} Try.checked os 9 .any (Rows.boxOrderSpec.pre6 enc Try.prog Try.f9 Rows.boxOrderRow.domain false) (Rows.boxOrderSpec.post enc Try.prog Try.f9 false true false false) := by
  refine returnsInHanded_of_change (C := Try.checked) own started (by kernel_rfl) Try.func9
    (ChangeSpec.witness6 (enc := enc) (C := Try.checked) false ⟨#[], #[.agg #[.int .i64 0, .int .i64 0], .agg #[.int .i64 0, .int .i64 0], .agg #[.int .i64 0, .int .i64 0]], []⟩ 8 (by kernel_rfl) (by kernel_rfl) (by kernel_rfl) (by kernel_rfl)) ?_
  intro W base args ds gs before hval0 hW hcnd _
  have hval : ∀ (j : Nat) t v, Try.f9.params[j]? = some t → args[j]? = some v → Value.okWide Try.prog W .any base t v := hval0
  have hW' := hW
  obtain ⟨p, q, hA0, hV, rfl, hfz, hnd⟩ := hW
  have hA : DataW.TrodAll enc Try.prog W 0 (fun _ => true) true Try.f9.params.toList args.toList ds p := hA0
  rw [Try.params9] at hA hval
  obtain ⟨v0, vs0, d0, ds0, p0, q0, hargs, rfl, rfl, h0, r0⟩ := trodAll_cons hA
  obtain ⟨v1, vs1, d1, ds1, p1, q1, rfl, rfl, rfl, h1, r1⟩ := trodAll_cons r0
  obtain ⟨v2, vs2, d2, ds2, p2, q2, rfl, rfl, rfl, h2, r2⟩ := trodAll_cons r1
  obtain ⟨rfl, rfl, rfl⟩ := trodAll_nil r2
  obtain rfl : args = #[v0, v1, v2] := by cases args; simp_all
  obtain ⟨rfl, rfl⟩ := trodVars_none hV
  have k0 := h0
  have lt0 : ∀ x ∈ p0, x.block < W.heap.size := by obtain ⟨m, hm⟩ := k0; exact DataW.trod_lt m _ _ _ hm
  have k1 := h1
  have lt1 : ∀ x ∈ p1, x.block < W.heap.size := by obtain ⟨m, hm⟩ := k1; exact DataW.trod_lt m _ _ _ hm
  have k2 := h2
  have lt2 : ∀ x ∈ p2, x.block < W.heap.size := by obtain ⟨m, hm⟩ := k2; exact DataW.trod_lt m _ _ _ hm
  obtain ⟨u0_0, u0_1, y0_0, y0_1, m0, rfl, _, _, g0_0, g0_1⟩ := Go.Joins.open_agg2 Try.underlying38 (by kernel_rfl) (by kernel_rfl) (hval 0 38 v0 rfl rfl) h0
  obtain ⟨a0_0, e0_0, _, w0_0⟩ := DataW.trod_int Try.underlying2 g0_0
  simp at e0_0
  subst e0_0
  obtain ⟨a0_1, e0_1, _, w0_1⟩ := DataW.trod_int Try.underlying2 g0_1
  simp at e0_1
  subst e0_1
  obtain ⟨u1_0, u1_1, y1_0, y1_1, m1, rfl, _, _, g1_0, g1_1⟩ := Go.Joins.open_agg2 Try.underlying38 (by kernel_rfl) (by kernel_rfl) (hval 1 38 v1 rfl rfl) h1
  obtain ⟨a1_0, e1_0, _, w1_0⟩ := DataW.trod_int Try.underlying2 g1_0
  simp at e1_0
  subst e1_0
  obtain ⟨a1_1, e1_1, _, w1_1⟩ := DataW.trod_int Try.underlying2 g1_1
  simp at e1_1
  subst e1_1
  obtain ⟨u2_0, u2_1, y2_0, y2_1, m2, rfl, _, _, g2_0, g2_1⟩ := Go.Joins.open_agg2 Try.underlying38 (by kernel_rfl) (by kernel_rfl) (hval 2 38 v2 rfl rfl) h2
  obtain ⟨a2_0, e2_0, _, w2_0⟩ := DataW.trod_int Try.underlying2 g2_0
  simp at e2_0
  subst e2_0
  obtain ⟨a2_1, e2_1, _, w2_1⟩ := DataW.trod_int Try.underlying2 g2_1
  simp at e2_1
  subst e2_1
  clear hA0 hval0
  refine (walk a0_0 a0_1 a1_0 a1_1 a2_0 a2_1 w0_0 w0_1 w1_0 w1_1 w2_0 w2_1 W).mono fun e W' ⟨he, bel⟩ => ?_
  subst he
  exact ⟨_, rfl, _, _, _, [], _, [], hW', trodAll_mk1 (shut_bool Try.underlying4 _), (trodAll_cons_mk (Below.trod laidOut (by kernel_rfl) (of_decide_eq_true (by kernel_rfl)) k0 bel lt0) (trodAll_cons_mk (Below.trod laidOut (by kernel_rfl) (of_decide_eq_true (by kernel_rfl)) k1 bel lt1) (trodAll_cons_mk (Below.trod laidOut (by kernel_rfl) (of_decide_eq_true (by kernel_rfl)) k2 bel lt2) trodAll_mk0))), rfl, bel.frame _, fun h => by cases h⟩

theorem over : Rows.boxOrderRow.holds Try.pinned (OpenSpec.ofChange Rows.boxOrderSpec) :=
  OpenClaim.holds_of_wide 9 Try.f9 rfl rfl rfl rfl rfl rfl rfl ⟨rfl, rfl, rfl, rfl, rfl⟩ rfl rfl rfl rfl rfl (by kernel_rfl) Try.func9 (by kernel_rfl)
    (of_decide_eq_true (by kernel_rfl)) (by unfold Func.isWrapper; first | (rw [if_pos (by decide +kernel)]; kernel_rfl) | (rw [if_neg (by decide +kernel)]; exact ⟨rfl, rfl⟩))
    (fun os started H enc _ => lifted os started H enc)

theorem proved : Rows.BoxOrderSaid :=
  over
#print axioms proved
end Go.Proofs.Ytoehofphklhecaa.boxOrder

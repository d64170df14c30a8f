/- Whatever times and places are handed in, BoxTimes answers true: which time is ahead, and the box around a place, are told as the reference tells them. No condition. -/
import Derived.Test.YtoehofphklhecaaRows
import Derived.Test.YtoehofphklhecaaBoxLaw
import Derived.Test.YtoehofphklhecaaBoxRef
import Derived.Test.YtoehofphklhecaaBoxAround
import Derived.WalkKit
import Derived.ProofKit
import Derived.OpenShut
import Derived.ChangeOld
import Derived.Below
import Derived.WalkSmall
import Derived.Lib.SmallJoins
import Derived.Laws.IdiomArrays
namespace Go.Proofs.Ytoehofphklhecaa.boxTimes
open Go.ChangeShapes Go.WideShapes Go.ChangeAt Go.RowKit
set_option linter.unusedVariables false

theorem own : ownKnob Try.prog.godebug = none := by kernel_rfl
theorem laidOut : laidOutB Try.prog = true := by kernel_rfl

set_option maxHeartbeats 2000000 in
theorem walk (a0_0 : Int) (a0_1 : Int) (a1_0 : Int) (a1_1 : Int) (a2_0 : Int) (a2_1 : Int) (a2_2 : Int) (w0_0 : (Lit.int .i64 a0_0).wf = true) (w0_1 : (Lit.int .i64 a0_1).wf = true) (w1_0 : (Lit.int .i64 a1_0).wf = true) (w1_1 : (Lit.int .i64 a1_1).wf = true) (w2_0 : (Lit.int .i64 a2_0).wf = true) (w2_1 : (Lit.int .i64 a2_1).wf = true) (w2_2 : (Lit.int .i64 a2_2).wf = true) (w : World) :
    Calls Try.prog 4 #[.agg #[.int .i64 a0_0, .int .i64 a0_1], .agg #[.int .i64 a1_0, .int .i64 a1_1], .agg #[.int .i64 a2_0, .int .i64 a2_1, .int .i64 a2_2]] w fun e w' => e = .returned (.bool true) ∧ Below w.heap.size w w' := by
  clear w0_0 w0_1 w1_0 w1_1 w2_0 w2_1 w2_2
  have he := box_eql
  go_enter Try.func4, Try.ntmps4
  go_wp2_with fail
  generalize hW : World.alloc (World.alloc (World.alloc (World.alloc w _) _) _) _ = W
  have hK : Keep w [(w.heap.size, [.int .i64 a0_0, .int .i64 a0_1]), (w.heap.size + 1, [.int .i64 a1_0, .int .i64 a1_1]), (w.heap.size + 2, [.int .i64 a2_0, .int .i64 a2_1, .int .i64 a2_2]), (w.heap.size + 3, [.int .i64 a2_0, .int .i64 a2_1])] W := by subst hW; exact ⟨by simp [Lie, LieAt, go_sem, World.cell?_alloc_past, World.frozen?_alloc_past], by simp; omega, ((((Below.refl _ _).alloc (Nat.le_refl _) _).alloc (by simp) _).alloc (by simp; omega) _).alloc (by simp; omega) _⟩
  have hS := hK
  simp only [Keep, Lie, LieAt, Nat.reduceAdd] at hS
  obtain ⟨⟨⟨c0, f0, c1, f1, l0⟩, ⟨c2, f2, c3, f3, l1⟩, ⟨c4, f4, c5, f5, c6, f6, l2⟩, ⟨c7, f7, c8, f8, l3⟩, -⟩, -⟩ := hS
  have ne : Nonempty (KeptW W) := KeptW.one W
  have d0 := KeptW.at l0 c0
  have d1 := KeptW.at l0 c1
  have d2 := KeptW.at l1 c2
  have d3 := KeptW.at l1 c3
  have d4 := KeptW.at l2 c4
  have d5 := KeptW.at l2 c5
  have d6 := KeptW.at l2 c6
  have d7 := KeptW.at l3 c7
  have d8 := KeptW.at l3 c8
  clear hW
  refine wp_region_kept (by kernel_rfl) (by kernel_rfl) ?_
  repeat (go_big_quiet_step (first | (go_at_call 10; exact kept_call (BxL.awake_any _)) | (go_at_call 18; exact kept_call (BxW.ahead_any _ _ _ _ _)) | (go_at_call 19; exact kept_call (BxR.ahead_any _ _ _ _ _)) | (go_at_call 20; exact kept_call (BxW.around_any _ _ _ _)) | (go_at_call 21; exact kept_call (BxR.around_any _ _ _ _)) | (go_at_call 13; exact kept_call (BxL.plain_any _ _ _ _ _))))
  refine wpQuiet_nil ?_
  rintro _ ⟨x, rfl⟩
  go_wp2
  go_ret
  exact ⟨rfl, hK.2.2.trans (x.h.mono hK.2.1)⟩

set_option maxRecDepth 100000 in
theorem lifted (os : Os) (started : os.Started) (H : Type) (enc : TypeId × Value → H) :
    ReturnsInHanded {} Try.checked os 4 .any (Rows.boxTimesSpec.pre6 enc Try.prog Try.f4 Rows.boxTimesRow.domain false) (Rows.boxTimesSpec.post enc Try.prog Try.f4 false true false false) := by
  refine returnsInHanded_of_change (C := Try.checked) own started (by kernel_rfl) Try.func4
    (ChangeSpec.witness6 (enc := enc) (C := Try.checked) false ⟨#[], #[.agg #[.int .i64 0, .int .i64 0], .agg #[.int .i64 0, .int .i64 0], .agg #[.int .i64 0, .int .i64 0, .int .i64 0]], []⟩ 8 (by kernel_rfl) (by kernel_rfl) (by kernel_rfl) (by kernel_rfl)) ?_
  intro W base args ds gs before hval0 hW hcnd _
  have hval : ∀ (j : Nat) t v, Try.f4.params[j]? = some t → args[j]? = some v → Value.okWide Try.prog W .any base t v := hval0
  have hW' := hW
  obtain ⟨p, q, hA0, hV, rfl, hfz, hnd⟩ := hW
  have hA : DataW.TrodAll enc Try.prog W 0 (fun _ => true) true Try.f4.params.toList args.toList ds p := hA0
  rw [Try.params4] at hA hval
  obtain ⟨v0, vs0, d0, ds0, p0, q0, hargs, rfl, rfl, h0, r0⟩ := trodAll_cons hA
  obtain ⟨v1, vs1, d1, ds1, p1, q1, rfl, rfl, rfl, h1, r1⟩ := trodAll_cons r0
  obtain ⟨v2, vs2, d2, ds2, p2, q2, rfl, rfl, rfl, h2, r2⟩ := trodAll_cons r1
  obtain ⟨rfl, rfl, rfl⟩ := trodAll_nil r2
  obtain rfl : args = #[v0, v1, v2] := by cases args; simp_all
  obtain ⟨rfl, rfl⟩ := trodVars_none hV
  have k0 := h0
  have lt0 : ∀ x ∈ p0, x.block < W.heap.size := by obtain ⟨m, hm⟩ := k0; exact DataW.trod_lt m _ _ _ hm
  have k1 := h1
  have lt1 : ∀ x ∈ p1, x.block < W.heap.size := by obtain ⟨m, hm⟩ := k1; exact DataW.trod_lt m _ _ _ hm
  have k2 := h2
  have lt2 : ∀ x ∈ p2, x.block < W.heap.size := by obtain ⟨m, hm⟩ := k2; exact DataW.trod_lt m _ _ _ hm
  obtain ⟨u0_0, u0_1, y0_0, y0_1, m0, rfl, _, _, g0_0, g0_1⟩ := Go.Joins.open_agg2 Try.underlying38 (by kernel_rfl) (by kernel_rfl) (hval 0 38 v0 rfl rfl) h0
  obtain ⟨a0_0, e0_0, _, w0_0⟩ := DataW.trod_int Try.underlying2 g0_0
  simp at e0_0
  subst e0_0
  obtain ⟨a0_1, e0_1, _, w0_1⟩ := DataW.trod_int Try.underlying2 g0_1
  simp at e0_1
  subst e0_1
  obtain ⟨u1_0, u1_1, y1_0, y1_1, m1, rfl, _, _, g1_0, g1_1⟩ := Go.Joins.open_agg2 Try.underlying38 (by kernel_rfl) (by kernel_rfl) (hval 1 38 v1 rfl rfl) h1
  obtain ⟨a1_0, e1_0, _, w1_0⟩ := DataW.trod_int Try.underlying2 g1_0
  simp at e1_0
  subst e1_0
  obtain ⟨a1_1, e1_1, _, w1_1⟩ := DataW.trod_int Try.underlying2 g1_1
  simp at e1_1
  subst e1_1
  obtain ⟨a2_0, a2_1, a2_2, rfl, w2_0, w2_1, w2_2⟩ : ∃ b0 b1 b2, v2 = .agg #[.int .i64 b0, .int .i64 b1, .int .i64 b2] ∧ (Lit.int .i64 b0).wf = true ∧ (Lit.int .i64 b1).wf = true ∧ (Lit.int .i64 b2).wf = true := by
    have hv := hval 2 39 v2 rfl rfl
    simp only [Value.okWide, Try.underlying39] at hv
    obtain ⟨cs, rfl, hsz, _⟩ := hv
    obtain ⟨c0, c1, c2, rfl⟩ := Go.Joins.array3 (hsz.trans (show Try.prog.cellsOf 39 = 3 by kernel_rfl))
    obtain ⟨fuel, hf⟩ := h2
    obtain ⟨y0, y1, y2, m, _, g0, g1, g2⟩ := trod_array3 Try.underlying39 (show Try.prog.cellsOf 22 = 1 by kernel_rfl) (by simpa [Value.cells] using hf)
    obtain ⟨b0, e0, _, q0⟩ := DataW.trod_int Try.underlying22 g0
    obtain ⟨b1, e1, _, q1⟩ := DataW.trod_int Try.underlying22 g1
    obtain ⟨b2, e2, _, q2⟩ := DataW.trod_int Try.underlying22 g2
    simp at e0 e1 e2
    subst e0 e1 e2
    exact ⟨b0, b1, b2, rfl, q0, q1, q2⟩
  clear hA0 hval0
  refine (walk a0_0 a0_1 a1_0 a1_1 a2_0 a2_1 a2_2 w0_0 w0_1 w1_0 w1_1 w2_0 w2_1 w2_2 W).mono fun e W' ⟨he, bel⟩ => ?_
  subst he
  exact ⟨_, rfl, _, _, _, [], _, [], hW', trodAll_mk1 (shut_bool Try.underlying4 _), (trodAll_cons_mk (Below.trod laidOut (by kernel_rfl) (of_decide_eq_true (by kernel_rfl)) k0 bel lt0) (trodAll_cons_mk (Below.trod laidOut (by kernel_rfl) (of_decide_eq_true (by kernel_rfl)) k1 bel lt1) (trodAll_cons_mk (Below.trod laidOut (by kernel_rfl) (of_decide_eq_true (by kernel_rfl)) k2 bel lt2) trodAll_mk0))), rfl, bel.frame _, fun h => by cases h⟩

theorem over : Rows.boxTimesRow.holds Try.pinned (OpenSpec.ofChange Rows.boxTimesSpec) :=
  OpenClaim.holds_of_wide 4 Try.f4 rfl rfl rfl rfl rfl rfl rfl ⟨rfl, rfl, rfl, rfl, rfl⟩ rfl rfl rfl rfl rfl (by kernel_rfl) Try.func4 (by kernel_rfl)
    (of_decide_eq_true (by kernel_rfl)) (by unfold Func.isWrapper; first | (rw [if_pos (by decide +kernel)]; kernel_rfl) | (rw [if_neg (by decide +kernel)]; exact ⟨rfl, rfl⟩))
    (fun os started H enc _ => lifted os started H enc)

theorem proved : Rows.BoxTimesSaid :=
  over
#print axioms proved
end Go.Proofs.Ytoehofphklhecaa.boxTimes

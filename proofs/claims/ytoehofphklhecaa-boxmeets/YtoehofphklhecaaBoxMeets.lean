/- Whatever ways and boxes are handed in, BoxMeets answers true: when the way meets the box first, or that it does not, is told as the reference tells it. No condition. -/
import Derived.Test.YtoehofphklhecaaRows
import Derived.Test.YtoehofphklhecaaBoxLaw
import Derived.Test.YtoehofphklhecaaBoxMeet
import Derived.Test.YtoehofphklhecaaBoxRef2
import Derived.Test.YtoehofphklhecaaBoxOpen
import Derived.WalkKit
import Derived.ProofKit
import Derived.OpenShut
import Derived.ChangeOld
import Derived.Below
import Derived.WalkSmall
import Derived.Lib.SmallJoins
import Derived.Laws.IdiomArrays
namespace Go.Proofs.Ytoehofphklhecaa.boxMeets
open Go.ChangeShapes Go.WideShapes Go.ChangeAt Go.RowKit
set_option linter.unusedVariables false

theorem own : ownKnob Try.prog.godebug = none := by kernel_rfl
theorem laidOut : laidOutB Try.prog = true := by kernel_rfl

set_option maxHeartbeats 2000000 in
theorem walk (a0_0 : Int) (a0_1 : Int) (a1_0 : Int) (a1_1 : Int) (a2_0 : Int) (a2_1 : Int) (a2_2 : Int) (a2_3 : Int) (w0_0 : (Lit.int .i64 a0_0).wf = true) (w0_1 : (Lit.int .i64 a0_1).wf = true) (w1_0 : (Lit.int .i64 a1_0).wf = true) (w1_1 : (Lit.int .i64 a1_1).wf = true) (w2_0 : (Lit.int .i64 a2_0).wf = true) (w2_1 : (Lit.int .i64 a2_1).wf = true) (w2_2 : (Lit.int .i64 a2_2).wf = true) (w2_3 : (Lit.int .i64 a2_3).wf = true) (w : World) :
    Calls Try.prog 5 #[.agg #[.int .i64 a0_0, .int .i64 a0_1], .agg #[.int .i64 a1_0, .int .i64 a1_1], .agg #[.int .i64 a2_0, .int .i64 a2_1, .int .i64 a2_2, .int .i64 a2_3]] w fun e w' => e = .returned (.bool true) ∧ Below w.heap.size w w' := by
  clear w0_0 w0_1 w1_0 w1_1 w2_0 w2_1 w2_2 w2_3
  have he := rtime_eql
  have M1 := BxW.meet_any a0_0 a0_1 a1_0 a1_1 a2_0 a2_1 a2_2 a2_3
  have M2 := BxR.meet_any a0_0 a0_1 a1_0 a1_1 a2_0 a2_1 a2_2 a2_3
  generalize Bx.meetN a0_0 a0_1 a1_0 a1_1 a2_0 a2_1 a2_2 a2_3 = N at *
  generalize Bx.meetD a0_0 a0_1 a1_0 a1_1 a2_0 a2_1 a2_2 a2_3 = D at *
  generalize Bx.meetOk a0_0 a0_1 a1_0 a1_1 a2_0 a2_1 a2_2 a2_3 = O at *
  go_enter Try.func5, Try.ntmps5
  go_wp2_with (first | (go_at_call 22; refine (M1 _).mono ?_; rintro e w' ⟨rfl, hb⟩; have hK : Keep w [(w.heap.size, [.int .i64 a0_0, .int .i64 a0_1]), (w.heap.size + 1, [.int .i64 a1_0, .int .i64 a1_1]), (w.heap.size + 2, [.int .i64 a2_0, .int .i64 a2_1, .int .i64 a2_2, .int .i64 a2_3])] w' := Keep.on ⟨by simp [Lie, LieAt, go_sem, World.cell?_alloc_past, World.frozen?_alloc_past], by simp; omega, (((Below.refl _ _).alloc (Nat.le_refl _) _).alloc (by simp) _).alloc (by simp; omega) _⟩ hb; have hS := hK; simp only [Keep, Lie, LieAt, Nat.reduceAdd] at hS))
  clear M1 hS
  replace hK := Keep.name2 (v0 := .int .i64 N) (v1 := .int .i64 D) (t := 38) hK
  generalize hW : w'.alloc (.cells #[.int .i64 N, .int .i64 D] 38) = W at *
  generalize w'.heap.size = n7 at *
  clear hW hb
  refine Code.wp_mono (Q := fun e a' W' => e = Exit.normal ∧ ∃ n9 : Nat, a' = ⟨#[.agg #[.int .i64 a0_0, .int .i64 a0_1], .agg #[.int .i64 a1_0, .int .i64 a1_1], .agg #[.int .i64 a2_0, .int .i64 a2_1, .int .i64 a2_2, .int .i64 a2_3], Value.pointer (some { block := w.heap.size, off := 0 }), Value.pointer (some { block := w.heap.size + 1, off := 0 }), Value.pointer (some { block := w.heap.size + 1 + 1, off := 0 }), .bool false, Value.pointer (some { block := n7, off := 0 }), .bool O, Value.pointer (some { block := n9, off := 0 }), .bool O, .tuple #[.agg #[.int .i64 N, .int .i64 D], .bool O], .agg #[.int .i64 a0_0, .int .i64 a0_1], .agg #[.int .i64 a1_0, .int .i64 a1_1], .agg #[.int .i64 a2_0, .int .i64 a2_1, .int .i64 a2_2, .int .i64 a2_3], .tuple #[.agg #[.int .i64 N, .int .i64 D], .bool O], .agg #[.int .i64 N, .int .i64 D], .bool O, .tuple #[.agg #[.int .i64 N, .int .i64 D], .bool O], .agg #[.int .i64 a0_0, .int .i64 a0_1], .agg #[.int .i64 a1_0, .int .i64 a1_1], .agg #[.int .i64 a2_0, .int .i64 a2_1, .int .i64 a2_2, .int .i64 a2_3], .agg #[.int .i64 a2_0, .int .i64 a2_1, .int .i64 a2_2, .int .i64 a2_3], .tuple #[.agg #[.int .i64 N, .int .i64 D], .bool O], .agg #[.int .i64 N, .int .i64 D], .bool O, undef, undef, undef, undef, undef, undef, undef, undef, undef, undef, undef], []⟩ ∧ Keep w [(n9, [.int .i64 N, .int .i64 D]), (n7, [.int .i64 N, .int .i64 D]), (w.heap.size, [.int .i64 a0_0, .int .i64 a0_1]), (w.heap.size + 1, [.int .i64 a1_0, .int .i64 a1_1]), (w.heap.size + 2, [.int .i64 a2_0, .int .i64 a2_1, .int .i64 a2_2, .int .i64 a2_3])] W') ?tail ?walk
  case walk =>
    go_region_held3 (fun u => ((u.cell? ⟨n7, 0, none⟩ = some (.int .i64 N) ∧ u.frozen? ⟨n7, 0, none⟩ = false ∧ u.cell? ⟨n7, 1, none⟩ = some (.int .i64 D) ∧ u.frozen? ⟨n7, 1, none⟩ = false ∧ n7 < u.heap.size) ∧ (u.cell? ⟨w.heap.size, 0, none⟩ = some (.int .i64 a0_0) ∧ u.frozen? ⟨w.heap.size, 0, none⟩ = false ∧ u.cell? ⟨w.heap.size, 1, none⟩ = some (.int .i64 a0_1) ∧ u.frozen? ⟨w.heap.size, 1, none⟩ = false ∧ w.heap.size < u.heap.size) ∧ (u.cell? ⟨w.heap.size + 1, 0, none⟩ = some (.int .i64 a1_0) ∧ u.frozen? ⟨w.heap.size + 1, 0, none⟩ = false ∧ u.cell? ⟨w.heap.size + 1, 1, none⟩ = some (.int .i64 a1_1) ∧ u.frozen? ⟨w.heap.size + 1, 1, none⟩ = false ∧ w.heap.size + 1 < u.heap.size) ∧ (u.cell? ⟨w.heap.size + 2, 0, none⟩ = some (.int .i64 a2_0) ∧ u.frozen? ⟨w.heap.size + 2, 0, none⟩ = false ∧ u.cell? ⟨w.heap.size + 2, 1, none⟩ = some (.int .i64 a2_1) ∧ u.frozen? ⟨w.heap.size + 2, 1, none⟩ = false ∧ u.cell? ⟨w.heap.size + 2, 2, none⟩ = some (.int .i64 a2_2) ∧ u.frozen? ⟨w.heap.size + 2, 2, none⟩ = false ∧ u.cell? ⟨w.heap.size + 2, 3, none⟩ = some (.int .i64 a2_3) ∧ u.frozen? ⟨w.heap.size + 2, 3, none⟩ = false ∧ w.heap.size + 2 < u.heap.size) ∧ True) ∧ w.heap.size ≤ u.heap.size ∧ Below w.heap.size w u)
      ((show Keep w [(n7, [.int .i64 N, .int .i64 D]), (w.heap.size, [.int .i64 a0_0, .int .i64 a0_1]), (w.heap.size + 1, [.int .i64 a1_0, .int .i64 a1_1]), (w.heap.size + 2, [.int .i64 a2_0, .int .i64 a2_1, .int .i64 a2_2, .int .i64 a2_3])] _; first | with_reducible assumption | with_reducible exact Keep.drew (by assumption) | with_reducible exact Keep.alloc (by assumption) _ | with_reducible exact Keep.drew (Keep.alloc (by assumption) _) | with_reducible exact Keep.far2 (by assumption) (by assumption)))
      (first | (go_at_call 13; refine (BxL.plain_any _ _ _ _ _).mono ?_; rintro e w' ⟨rfl, hb⟩; have hk : Keep w [(n7, [.int .i64 N, .int .i64 D]), (w.heap.size, [.int .i64 a0_0, .int .i64 a0_1]), (w.heap.size + 1, [.int .i64 a1_0, .int .i64 a1_1]), (w.heap.size + 2, [.int .i64 a2_0, .int .i64 a2_1, .int .i64 a2_2, .int .i64 a2_3])] w' := Keep.on (by first | with_reducible assumption | with_reducible exact Keep.drew (by assumption) | with_reducible exact Keep.alloc (by assumption) _ | with_reducible exact Keep.drew (Keep.alloc (by assumption) _)) hb; first | (with_reducible have hz0 := LieAt.new2 hb; have hz := hz0; simp only [LieAt, Nat.reduceAdd] at hz) | (with_reducible have hz0 := LieAt.new2d hb; have hz := hz0; simp only [LieAt, Nat.reduceAdd] at hz) | (with_reducible have hz0 := LieAt.keep (vs := [.int .i64 0, .int .i64 0]) hb (by assumption); have hz := hz0; simp only [LieAt, Nat.reduceAdd] at hz) | skip) | (go_at_call 23; refine (M2 _).mono ?_; rintro e w' ⟨rfl, hb⟩; have hk : Keep w [(n7, [.int .i64 N, .int .i64 D]), (w.heap.size, [.int .i64 a0_0, .int .i64 a0_1]), (w.heap.size + 1, [.int .i64 a1_0, .int .i64 a1_1]), (w.heap.size + 2, [.int .i64 a2_0, .int .i64 a2_1, .int .i64 a2_2, .int .i64 a2_3])] w' := Keep.on (by first | with_reducible assumption | with_reducible exact Keep.drew (by assumption) | with_reducible exact Keep.alloc (by assumption) _ | with_reducible exact Keep.drew (Keep.alloc (by assumption) _)) hb; first | (with_reducible have hz0 := LieAt.new2 hb; have hz := hz0; simp only [LieAt, Nat.reduceAdd] at hz) | (with_reducible have hz0 := LieAt.new2d hb; have hz := hz0; simp only [LieAt, Nat.reduceAdd] at hz) | (with_reducible have hz0 := LieAt.keep (vs := [.int .i64 0, .int .i64 0]) hb (by assumption); have hz := hz0; simp only [LieAt, Nat.reduceAdd] at hz) | skip))
    all_goals exact ⟨rfl, _, rfl, by first | with_reducible exact Keep.name2 (by assumption) | with_reducible exact Keep.nameSet2 (by assumption) (by assumption) (by assumption)⟩
  case tail =>
    rintro _ _ W3 ⟨rfl, n9, rfl, hK⟩
    clear M2
    go_wp2_with (first | (go_at_call 10; refine (BxL.awake_any _).mono ?_; rintro e w' ⟨rfl, hb⟩; (first | with_reducible have hK := Keep.on (Keep.name2 hK) hb | with_reducible have hK := Keep.on hK hb); have hS := hK; simp only [Keep, Lie, LieAt, Nat.reduceAdd] at hS))
    go_ret
    exact ⟨rfl, hK.2.2⟩

set_option maxRecDepth 100000 in
theorem lifted (os : Os) (started : os.Started) (H : Type) (enc : TypeId × Value → H) :
    ReturnsInHanded {} Try.checked os 5 .any (Rows.boxMeetsSpec.pre6 enc Try.prog Try.f5 Rows.boxMeetsRow.domain false) (Rows.boxMeetsSpec.post enc Try.prog Try.f5 false true false false) := by
  refine returnsInHanded_of_change (C := Try.checked) own started (by kernel_rfl) Try.func5
    (ChangeSpec.witness6 (enc := enc) (C := Try.checked) false ⟨#[], #[.agg #[.int .i64 0, .int .i64 0], .agg #[.int .i64 0, .int .i64 0], .agg #[.int .i64 0, .int .i64 0, .int .i64 0, .int .i64 0]], []⟩ 8 (by kernel_rfl) (by kernel_rfl) (by kernel_rfl) (by kernel_rfl)) ?_
  intro W base args ds gs before hval0 hW hcnd _
  have hval : ∀ (j : Nat) t v, Try.f5.params[j]? = some t → args[j]? = some v → Value.okWide Try.prog W .any base t v := hval0
  have hW' := hW
  obtain ⟨p, q, hA0, hV, rfl, hfz, hnd⟩ := hW
  have hA : DataW.TrodAll enc Try.prog W 0 (fun _ => true) true Try.f5.params.toList args.toList ds p := hA0
  rw [Try.params5] at hA hval
  obtain ⟨v0, vs0, d0, ds0, p0, q0, hargs, rfl, rfl, h0, r0⟩ := trodAll_cons hA
  obtain ⟨v1, vs1, d1, ds1, p1, q1, rfl, rfl, rfl, h1, r1⟩ := trodAll_cons r0
  obtain ⟨v2, vs2, d2, ds2, p2, q2, rfl, rfl, rfl, h2, r2⟩ := trodAll_cons r1
  obtain ⟨rfl, rfl, rfl⟩ := trodAll_nil r2
  obtain rfl : args = #[v0, v1, v2] := by cases args; simp_all
  obtain ⟨rfl, rfl⟩ := trodVars_none hV
  have k0 := h0
  have lt0 : ∀ x ∈ p0, x.block < W.heap.size := by obtain ⟨m, hm⟩ := k0; exact DataW.trod_lt m _ _ _ hm
  have k1 := h1
  have lt1 : ∀ x ∈ p1, x.block < W.heap.size := by obtain ⟨m, hm⟩ := k1; exact DataW.trod_lt m _ _ _ hm
  have k2 := h2
  have lt2 : ∀ x ∈ p2, x.block < W.heap.size := by obtain ⟨m, hm⟩ := k2; exact DataW.trod_lt m _ _ _ hm
  obtain ⟨u0_0, u0_1, y0_0, y0_1, m0, rfl, _, _, g0_0, g0_1⟩ := Go.Joins.open_agg2 Try.underlying24 (by kernel_rfl) (by kernel_rfl) (hval 0 24 v0 rfl rfl) h0
  obtain ⟨a0_0, e0_0, _, w0_0⟩ := DataW.trod_int Try.underlying22 g0_0
  simp at e0_0
  subst e0_0
  obtain ⟨a0_1, e0_1, _, w0_1⟩ := DataW.trod_int Try.underlying22 g0_1
  simp at e0_1
  subst e0_1
  obtain ⟨u1_0, u1_1, y1_0, y1_1, m1, rfl, _, _, g1_0, g1_1⟩ := Go.Joins.open_agg2 Try.underlying24 (by kernel_rfl) (by kernel_rfl) (hval 1 24 v1 rfl rfl) h1
  obtain ⟨a1_0, e1_0, _, w1_0⟩ := DataW.trod_int Try.underlying22 g1_0
  simp at e1_0
  subst e1_0
  obtain ⟨a1_1, e1_1, _, w1_1⟩ := DataW.trod_int Try.underlying22 g1_1
  simp at e1_1
  subst e1_1
  obtain ⟨a2_0, a2_1, a2_2, a2_3, rfl, w2_0, w2_1, w2_2, w2_3⟩ := open_box (hval 2 26 v2 rfl rfl) h2
  clear hA0 hval0
  refine (walk a0_0 a0_1 a1_0 a1_1 a2_0 a2_1 a2_2 a2_3 w0_0 w0_1 w1_0 w1_1 w2_0 w2_1 w2_2 w2_3 W).mono fun e W' ⟨he, bel⟩ => ?_
  subst he
  exact ⟨_, rfl, _, _, _, [], _, [], hW', trodAll_mk1 (shut_bool Try.underlying4 _), (trodAll_cons_mk (Below.trod laidOut (by kernel_rfl) (of_decide_eq_true (by kernel_rfl)) k0 bel lt0) (trodAll_cons_mk (Below.trod laidOut (by kernel_rfl) (of_decide_eq_true (by kernel_rfl)) k1 bel lt1) (trodAll_cons_mk (Below.trod laidOut (by kernel_rfl) (of_decide_eq_true (by kernel_rfl)) k2 bel lt2) trodAll_mk0))), rfl, bel.frame _, fun h => by cases h⟩

theorem over : Rows.boxMeetsRow.holds Try.pinned (OpenSpec.ofChange Rows.boxMeetsSpec) :=
  OpenClaim.holds_of_wide 5 Try.f5 rfl rfl rfl rfl rfl rfl rfl ⟨rfl, rfl, rfl, rfl, rfl⟩ rfl rfl rfl rfl rfl (by kernel_rfl) Try.func5 (by kernel_rfl)
    (of_decide_eq_true (by kernel_rfl)) (by unfold Func.isWrapper; first | (rw [if_pos (by decide +kernel)]; kernel_rfl) | (rw [if_neg (by decide +kernel)]; exact ⟨rfl, rfl⟩))
    (fun os started H enc _ => lifted os started H enc)

theorem proved : Rows.BoxMeetsSaid :=
  over
#print axioms proved
end Go.Proofs.Ytoehofphklhecaa.boxMeets

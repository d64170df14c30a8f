/- Whatever ways are handed in, VecDots answers true: an inner product hangs on no order, of a way and itself it isn't below 0, with one turned about it is 0 but for rounding. No condition. -/
import Derived.Test.YtfpjpdhcdoaaiaaRows
import Derived.Test.YtfpjpdhcdoaaiaaVecLaw
import Derived.Test.YtfpjpdhcdoaaiaaKept
import Derived.WalkKit
import Derived.ProofKit
import Derived.OpenShut
import Derived.ChangeOld
import Derived.Below
import Derived.WalkSmall
import Derived.Lib.SmallJoins
import Derived.Laws.IdiomArrays
namespace Go.Proofs.Ytfpjpdhcdoaaiaa.vecDots
open Go.ChangeShapes Go.WideShapes Go.ChangeAt Go.RowKit
set_option linter.unusedVariables false

theorem own : ownKnob Try.prog.godebug = none := by kernel_rfl
theorem laidOut : laidOutB Try.prog = true := by kernel_rfl

theorem dot_turn (ax ay bx b_y : Int) : (Vc.dot ax ay bx b_y == Vc.dot bx b_y ax ay) = true := by
  unfold Vc.dot; rw [Fx.mul_comm' ax bx, Fx.mul_comm' ay b_y]; simp
theorem mul_self (x : Int) : 0 ≤ Fx.mul x x := by
  have h := Vc.sq_lo x
  unfold Vc.sq at h
  have := Fx.hold_mono (x := 0) (y := Fx.hold x * Fx.hold x / 65536) (by omega)
  rw [Fx.hold_of (x := 0) (by omega) (by omega)] at this
  exact this
theorem dot_self (ax ay : Int) : 0 ≤ Vc.dot ax ay ax ay := by
  have h1 := mul_self ax
  have h2 := mul_self ay
  have h3 := Fx.mul_hi ax ax
  have h4 := Fx.mul_hi ay ay
  have e1 : Fx.hold (Fx.mul ax ax) = Fx.mul ax ax := Fx.hold_of (by omega) (by omega)
  have e2 : Fx.hold (Fx.mul ay ay) = Fx.mul ay ay := Fx.hold_of (by omega) (by omega)
  have := Fx.hold_mono (x := 0) (y := Fx.mul ax ax + Fx.mul ay ay) (by omega)
  rw [Fx.hold_of (x := 0) (by omega) (by omega)] at this
  unfold Vc.dot Fx.add; rw [e1, e2]; exact this
theorem dot_about {x y : Int} (hx : -134217728 ≤ x ∧ x ≤ 134217728) (hy : -134217728 ≤ y ∧ y ≤ 134217728) : Vc.dot x y (-y) x = 0 ∨ Vc.dot x y (-y) x = -1 := by
  unfold Vc.dot Fx.add Fx.mul
  rw [Fx.hold_of (x := x) (by omega) (by omega), Fx.hold_of (x := y) (by omega) (by omega), Fx.hold_of (x := -y) (by omega) (by omega), Int.mul_neg, Int.mul_comm y x, Fx.hold_hold, Fx.hold_hold]
  generalize x * y = m
  unfold Fx.hold
  repeat' split
  all_goals omega

set_option maxHeartbeats 2000000 in
theorem walk (a0_0 : Int) (a0_1 : Int) (a1_0 : Int) (a1_1 : Int) (w0_0 : (Lit.int .i64 a0_0).wf = true) (w0_1 : (Lit.int .i64 a0_1).wf = true) (w1_0 : (Lit.int .i64 a1_0).wf = true) (w1_1 : (Lit.int .i64 a1_1).wf = true) (w : World) :
    Calls Try.prog 7 #[.agg #[.int .i64 a0_0, .int .i64 a0_1], .agg #[.int .i64 a1_0, .int .i64 a1_1]] w fun e w' => e = .returned (.bool true) ∧ Below w.heap.size w w' := by
  clear w0_0 w0_1 w1_0 w1_1
  cases h0 : Vc.formedB a0_0 a0_1 with
  | false =>
    go_enter Try.func7, Try.ntmps7
    go_wp2_with (first | (go_at_call 9; refine (VcL.awake_any _).mono ?_; rintro e w' ⟨rfl, hb⟩; have hS : VcL.Two w (.int .i64 a0_0) (.int .i64 a0_1) (.int .i64 a1_0) (.int .i64 a1_1) w' := VcL.two_keep (by first | assumption | exact VcL.two_start _ _ _ _ _ _ _) hb; unfold VcL.Two at hS) | (go_at_call 22; refine (VcW.formed_any _ _ _).mono ?_; rintro e w' ⟨rfl, hb⟩; have hS : VcL.Two w (.int .i64 a0_0) (.int .i64 a0_1) (.int .i64 a1_0) (.int .i64 a1_1) w' := VcL.two_keep (by first | assumption | exact VcL.two_start _ _ _ _ _ _ _) hb; unfold VcL.Two at hS))
    go_ret
    exact ⟨rfl, hS.2.2.2.2.2⟩
  | true =>
    cases h1 : Vc.formedB a1_0 a1_1 with
    | false =>
      go_enter Try.func7, Try.ntmps7
      go_wp2_with (first | (go_at_call 9; refine (VcL.awake_any _).mono ?_; rintro e w' ⟨rfl, hb⟩; have hS : VcL.Two w (.int .i64 a0_0) (.int .i64 a0_1) (.int .i64 a1_0) (.int .i64 a1_1) w' := VcL.two_keep (by first | assumption | exact VcL.two_start _ _ _ _ _ _ _) hb; unfold VcL.Two at hS) | (go_at_call 22; refine (VcW.formed_any _ _ _).mono ?_; rintro e w' ⟨rfl, hb⟩; have hS : VcL.Two w (.int .i64 a0_0) (.int .i64 a0_1) (.int .i64 a1_0) (.int .i64 a1_1) w' := VcL.two_keep (by first | assumption | exact VcL.two_start _ _ _ _ _ _ _) hb; unfold VcL.Two at hS))
      go_ret
      exact ⟨rfl, hS.2.2.2.2.2⟩
    | true =>
      obtain ⟨⟨f0, f1⟩, f2, f3⟩ := Vc.formedB_iff.1 h0
      have e1 := dot_turn a0_0 a0_1 a1_0 a1_1
      have e2 := dot_self a0_0 a0_1
      rcases dot_about ⟨f0, f1⟩ ⟨f2, f3⟩ with t | t
      · have t1 : (Vc.dot a0_0 a0_1 (-a0_1) a0_0 == 0) = true := by simp [t]
        clear t
        go_enter Try.func7, Try.ntmps7
        go_wp2_with (first | (go_at_call 9; refine (VcL.awake_any _).mono ?_; rintro e w' ⟨rfl, hb⟩; have hS : VcL.Two w (.int .i64 a0_0) (.int .i64 a0_1) (.int .i64 a1_0) (.int .i64 a1_1) w' := VcL.two_keep (by first | assumption | exact VcL.two_start _ _ _ _ _ _ _) hb; unfold VcL.Two at hS) | (go_at_call 22; refine (VcW.formed_any _ _ _).mono ?_; rintro e w' ⟨rfl, hb⟩; have hS : VcL.Two w (.int .i64 a0_0) (.int .i64 a0_1) (.int .i64 a1_0) (.int .i64 a1_1) w' := VcL.two_keep (by first | assumption | exact VcL.two_start _ _ _ _ _ _ _) hb; unfold VcL.Two at hS) | (go_at_call 16; refine (VcW.dot_any _ _ _ _ _).mono ?_; rintro e w' ⟨rfl, hb⟩; have hS : VcL.Two w (.int .i64 a0_0) (.int .i64 a0_1) (.int .i64 a1_0) (.int .i64 a1_1) w' := VcL.two_keep (by first | assumption | exact VcL.two_start _ _ _ _ _ _ _) hb; unfold VcL.Two at hS))
        obtain ⟨c0, c1, c2, c3, c4, hB⟩ := hS
        have ne : Nonempty (KeptW w') := KeptW.one w'
        have d0 := KeptW.at (W := w') (b := w.heap.size) (o := 0) (by omega) c0
        have d1 := KeptW.at (W := w') (b := w.heap.size) (o := 1) (by omega) c1
        have d2 := KeptW.at (W := w') (b := w.heap.size + 1) (o := 0) (by omega) c2
        have d3 := KeptW.at (W := w') (b := w.heap.size + 1) (o := 1) (by omega) c3
        refine wp_region_kept (by kernel_rfl) (by kernel_rfl) ?_
        repeat (go_big_quiet_step (first | (go_at_call 16; exact kept_call (VcW.dot_any _ _ _ _ _))))
        refine wpQuiet_nil ?_
        rintro _ ⟨x, rfl⟩
        go_wp2
        go_ret
        exact ⟨rfl, hB.trans (x.h.mono (by omega))⟩
      · have t1 : (Vc.dot a0_0 a0_1 (-a0_1) a0_0 == 0) = false := by simp [t]
        have t2 : (Vc.dot a0_0 a0_1 (-a0_1) a0_0 == -1) = true := by simp [t]
        clear t
        go_enter Try.func7, Try.ntmps7
        go_wp2_with (first | (go_at_call 9; refine (VcL.awake_any _).mono ?_; rintro e w' ⟨rfl, hb⟩; have hS : VcL.Two w (.int .i64 a0_0) (.int .i64 a0_1) (.int .i64 a1_0) (.int .i64 a1_1) w' := VcL.two_keep (by first | assumption | exact VcL.two_start _ _ _ _ _ _ _) hb; unfold VcL.Two at hS) | (go_at_call 22; refine (VcW.formed_any _ _ _).mono ?_; rintro e w' ⟨rfl, hb⟩; have hS : VcL.Two w (.int .i64 a0_0) (.int .i64 a0_1) (.int .i64 a1_0) (.int .i64 a1_1) w' := VcL.two_keep (by first | assumption | exact VcL.two_start _ _ _ _ _ _ _) hb; unfold VcL.Two at hS) | (go_at_call 16; refine (VcW.dot_any _ _ _ _ _).mono ?_; rintro e w' ⟨rfl, hb⟩; have hS : VcL.Two w (.int .i64 a0_0) (.int .i64 a0_1) (.int .i64 a1_0) (.int .i64 a1_1) w' := VcL.two_keep (by first | assumption | exact VcL.two_start _ _ _ _ _ _ _) hb; unfold VcL.Two at hS))
        obtain ⟨c0, c1, c2, c3, c4, hB⟩ := hS
        have ne : Nonempty (KeptW w') := KeptW.one w'
        have d0 := KeptW.at (W := w') (b := w.heap.size) (o := 0) (by omega) c0
        have d1 := KeptW.at (W := w') (b := w.heap.size) (o := 1) (by omega) c1
        have d2 := KeptW.at (W := w') (b := w.heap.size + 1) (o := 0) (by omega) c2
        have d3 := KeptW.at (W := w') (b := w.heap.size + 1) (o := 1) (by omega) c3
        refine wp_region_kept (by kernel_rfl) (by kernel_rfl) ?_
        repeat (go_big_quiet_step (first | (go_at_call 16; exact kept_call (VcW.dot_any _ _ _ _ _))))
        refine wpQuiet_nil ?_
        rintro _ ⟨x, rfl⟩
        go_wp2
        go_ret
        exact ⟨rfl, hB.trans (x.h.mono (by omega))⟩

set_option maxRecDepth 100000 in
theorem lifted (os : Os) (started : os.Started) (H : Type) (enc : TypeId × Value → H) :
    ReturnsInHanded {} Try.checked os 7 .any (Rows.vecDotsSpec.pre6 enc Try.prog Try.f7 Rows.vecDotsRow.domain false) (Rows.vecDotsSpec.post enc Try.prog Try.f7 false true false false) := by
  refine returnsInHanded_of_change (C := Try.checked) own started (by kernel_rfl) Try.func7
    (ChangeSpec.witness6 (enc := enc) (C := Try.checked) false ⟨#[], #[.agg #[.int .i64 0, .int .i64 0], .agg #[.int .i64 0, .int .i64 0]], []⟩ 8 (by kernel_rfl) (by kernel_rfl) (by kernel_rfl) (by kernel_rfl)) ?_
  intro W base args ds gs before hval0 hW hcnd _
  have hval : ∀ (j : Nat) t v, Try.f7.params[j]? = some t → args[j]? = some v → Value.okWide Try.prog W .any base t v := hval0
  have hW' := hW
  obtain ⟨p, q, hA0, hV, rfl, hfz, hnd⟩ := hW
  have hA : DataW.TrodAll enc Try.prog W 0 (fun _ => true) true Try.f7.params.toList args.toList ds p := hA0
  rw [Try.params7] at hA hval
  obtain ⟨v0, vs0, d0, ds0, p0, q0, hargs, rfl, rfl, h0, r0⟩ := trodAll_cons hA
  obtain ⟨v1, vs1, d1, ds1, p1, q1, rfl, rfl, rfl, h1, r1⟩ := trodAll_cons r0
  obtain ⟨rfl, rfl, rfl⟩ := trodAll_nil r1
  obtain rfl : args = #[v0, v1] := by cases args; simp_all
  obtain ⟨rfl, rfl⟩ := trodVars_none hV
  have k0 := h0
  have lt0 : ∀ x ∈ p0, x.block < W.heap.size := by obtain ⟨m, hm⟩ := k0; exact DataW.trod_lt m _ _ _ hm
  have k1 := h1
  have lt1 : ∀ x ∈ p1, x.block < W.heap.size := by obtain ⟨m, hm⟩ := k1; exact DataW.trod_lt m _ _ _ hm
  obtain ⟨u0_0, u0_1, y0_0, y0_1, m0, rfl, _, _, g0_0, g0_1⟩ := Go.Joins.open_agg2 Try.underlying24 (by kernel_rfl) (by kernel_rfl) (hval 0 24 v0 rfl rfl) h0
  obtain ⟨a0_0, e0_0, _, w0_0⟩ := DataW.trod_int Try.underlying22 g0_0
  simp at e0_0
  subst e0_0
  obtain ⟨a0_1, e0_1, _, w0_1⟩ := DataW.trod_int Try.underlying22 g0_1
  simp at e0_1
  subst e0_1
  obtain ⟨u1_0, u1_1, y1_0, y1_1, m1, rfl, _, _, g1_0, g1_1⟩ := Go.Joins.open_agg2 Try.underlying24 (by kernel_rfl) (by kernel_rfl) (hval 1 24 v1 rfl rfl) h1
  obtain ⟨a1_0, e1_0, _, w1_0⟩ := DataW.trod_int Try.underlying22 g1_0
  simp at e1_0
  subst e1_0
  obtain ⟨a1_1, e1_1, _, w1_1⟩ := DataW.trod_int Try.underlying22 g1_1
  simp at e1_1
  subst e1_1
  clear hA0 hval0
  refine (walk a0_0 a0_1 a1_0 a1_1 w0_0 w0_1 w1_0 w1_1 W).mono fun e W' ⟨he, bel⟩ => ?_
  subst he
  exact ⟨_, rfl, _, _, _, [], _, [], hW', trodAll_mk1 (shut_bool Try.underlying4 _), (trodAll_cons_mk (Below.trod laidOut (by kernel_rfl) (of_decide_eq_true (by kernel_rfl)) k0 bel lt0) (trodAll_cons_mk (Below.trod laidOut (by kernel_rfl) (of_decide_eq_true (by kernel_rfl)) k1 bel lt1) trodAll_mk0)), rfl, bel.frame _, fun h => by cases h⟩

theorem over : Rows.vecDotsRow.holds Try.pinned (OpenSpec.ofChange Rows.vecDotsSpec) :=
  OpenClaim.holds_of_wide 7 Try.f7 rfl rfl rfl rfl rfl rfl rfl ⟨rfl, rfl, rfl, rfl, rfl⟩ rfl rfl rfl rfl rfl (by kernel_rfl) Try.func7 (by kernel_rfl)
    (of_decide_eq_true (by kernel_rfl)) (by unfold Func.isWrapper; first | (rw [if_pos (by decide +kernel)]; kernel_rfl) | (rw [if_neg (by decide +kernel)]; exact ⟨rfl, rfl⟩))
    (fun os started H enc _ => lifted os started H enc)

theorem proved : Rows.VecDotsSaid :=
  over
#print axioms proved
end Go.Proofs.Ytfpjpdhcdoaaiaa.vecDots

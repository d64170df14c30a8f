/- Whatever places and part are handed in, VecWays answers true: a part of the way between two places that may be may be, and lies between them. No condition. -/
import Derived.Test.YtfpjpdhcdoaaiaaRows
import Derived.Test.YtfpjpdhcdoaaiaaVecLaw
import Derived.Test.YtfpjpdhcdoaaiaaKept
import Derived.WalkKit
import Derived.ProofKit
import Derived.OpenShut
import Derived.ChangeOld
import Derived.Below
import Derived.WalkSmall
import Derived.Lib.SmallJoins
import Derived.Laws.IdiomArrays
namespace Go.Proofs.Ytfpjpdhcdoaaiaa.vecWays
open Go.ChangeShapes Go.WideShapes Go.ChangeAt Go.RowKit
set_option linter.unusedVariables false

theorem own : ownKnob Try.prog.godebug = none := by kernel_rfl
theorem laidOut : laidOutB Try.prog = true := by kernel_rfl

theorem way_up {x p : Int} (hx : 0 ≤ x) (h1 : 0 ≤ p) (h2 : p ≤ 255) : 0 ≤ x * p / 256 ∧ x * p / 256 ≤ x := by
  have a1 : 0 ≤ x * p := Int.mul_nonneg hx h1
  have a2 : x * p ≤ x * 255 := Int.mul_le_mul_of_nonneg_left h2 hx
  omega
theorem way_down {x p : Int} (hx : x ≤ 0) (h1 : 0 ≤ p) (h2 : p ≤ 255) : x ≤ x * p / 256 ∧ x * p / 256 ≤ 0 := by
  have a1 : 0 ≤ -x * p := Int.mul_nonneg (by omega) h1
  have a2 : -x * p ≤ -x * 255 := Int.mul_le_mul_of_nonneg_left h2 (by omega)
  rw [Int.neg_mul] at a1 a2
  omega
theorem betw_up {a b p : Int} (h : Fx.hold a ≤ Fx.hold b) (h1 : 0 ≤ p) (h2 : p ≤ 255) : Fx.betw a b p = Fx.hold a + (Fx.hold b - Fx.hold a) * p / 256 ∧ Fx.hold a ≤ Fx.betw a b p ∧ Fx.betw a b p ≤ Fx.hold b := by
  obtain ⟨c1, c2⟩ := way_up (x := Fx.hold b - Fx.hold a) (p := p) (by omega) h1 h2
  have := Fx.hold_lo a; have := Fx.hold_hi b
  have e : Fx.betw a b p = Fx.hold a + (Fx.hold b - Fx.hold a) * p / 256 := by unfold Fx.betw; exact Fx.hold_of (by omega) (by omega)
  omega
theorem betw_down {a b p : Int} (h : Fx.hold b ≤ Fx.hold a) (h1 : 0 ≤ p) (h2 : p ≤ 255) : Fx.betw a b p = Fx.hold a + (Fx.hold b - Fx.hold a) * p / 256 ∧ Fx.hold b ≤ Fx.betw a b p ∧ Fx.betw a b p ≤ Fx.hold a := by
  obtain ⟨c1, c2⟩ := way_down (x := Fx.hold b - Fx.hold a) (p := p) (by omega) h1 h2
  have := Fx.hold_lo b; have := Fx.hold_hi a
  have e : Fx.betw a b p = Fx.hold a + (Fx.hold b - Fx.hold a) * p / 256 := by unfold Fx.betw; exact Fx.hold_of (by omega) (by omega)
  omega
theorem betw_zero (a b : Int) : (Fx.betw a b 0 == Fx.hold a) = true := by
  unfold Fx.betw; rw [Int.mul_zero, Int.zero_ediv, Int.add_zero, Fx.hold_hold]; simp
theorem betw_in {a b p : Int} (ha : -134217728 ≤ a ∧ a ≤ 134217728) (hb : -134217728 ≤ b ∧ b ≤ 134217728) (h1 : 0 ≤ p) (h2 : p ≤ 255) :
    (a ≤ b → a ≤ Fx.betw a b p ∧ Fx.betw a b p ≤ b) ∧ (b ≤ a → b ≤ Fx.betw a b p ∧ Fx.betw a b p ≤ a) := by
  have ea : Fx.hold a = a := Fx.hold_of (by omega) (by omega)
  have eb : Fx.hold b = b := Fx.hold_of (by omega) (by omega)
  constructor
  · intro h
    obtain ⟨_, c1, c2⟩ := betw_up (a := a) (b := b) (p := p) (by omega) h1 h2
    omega
  · intro h
    obtain ⟨_, c1, c2⟩ := betw_down (a := a) (b := b) (p := p) (by omega) h1 h2
    omega
theorem betw_tri {a b p : Int} (ha : -134217728 ≤ a ∧ a ≤ 134217728) (hb : -134217728 ≤ b ∧ b ≤ 134217728) (h1 : 0 ≤ p) (h2 : p ≤ 255) :
    (a < b ∧ a ≤ Fx.betw a b p ∧ Fx.betw a b p ≤ b) ∨ (a ≤ b ∧ b ≤ a ∧ a ≤ Fx.betw a b p ∧ Fx.betw a b p ≤ b ∧ b ≤ Fx.betw a b p ∧ Fx.betw a b p ≤ a) ∨ (b < a ∧ b ≤ Fx.betw a b p ∧ Fx.betw a b p ≤ a) := by
  obtain ⟨i1, i2⟩ := betw_in ha hb h1 h2
  rcases Int.lt_trichotomy a b with h | h | h
  · have := i1 (by omega); omega
  · have := i1 (by omega); have := i2 (by omega); omega
  · have := i2 (by omega); omega
theorem betw_none {a b : Int} (ha : -134217728 ≤ a ∧ a ≤ 134217728) : (Fx.betw a b 0 == a) = true := by
  have := betw_zero a b; rwa [Fx.hold_of (by omega) (by omega)] at this
theorem two_alloc {w u : World} {a0 a1 b0 b1 : Value} (h : VcL.Two w a0 a1 b0 b1 u) (o : Obj) : VcL.Two w a0 a1 b0 b1 (u.alloc o) :=
  VcL.two_keep h (below_one u o)
theorem new_cell {u u' : World} {v0 v1 : Value} {t : TypeId} (hb : Below (u.alloc (.cells #[v0, v1] t)).heap.size (u.alloc (.cells #[v0, v1] t)) u') : u'.cell? ⟨u.heap.size, 0, none⟩ = some v0 ∧ u'.cell? ⟨u.heap.size, 1, none⟩ = some v1 :=
  ⟨(hb.cell (p := ⟨u.heap.size, 0, none⟩) (by simp)).trans (by simp [go_sem]), (hb.cell (p := ⟨u.heap.size, 1, none⟩) (by simp)).trans (by simp [go_sem])⟩

set_option maxHeartbeats 2000000 in
theorem walk (a0_0 : Int) (a0_1 : Int) (a1_0 : Int) (a1_1 : Int) (a2 : Int) (w0_0 : (Lit.int .i64 a0_0).wf = true) (w0_1 : (Lit.int .i64 a0_1).wf = true) (w1_0 : (Lit.int .i64 a1_0).wf = true) (w1_1 : (Lit.int .i64 a1_1).wf = true) (w2 : (Lit.int .u8 a2).wf = true) (w : World) :
    Calls Try.prog 8 #[.agg #[.int .i64 a0_0, .int .i64 a0_1], .agg #[.int .i64 a1_0, .int .i64 a1_1], .int .u8 a2] w fun e w' => e = .returned (.bool true) ∧ Below w.heap.size w w' := by
  obtain ⟨p1, p2⟩ := bounds_u8 w2
  clear w0_0 w0_1 w1_0 w1_1 w2
  have he := vec_eql
  cases h0 : Vc.formedB a0_0 a0_1 with
  | false =>
    go_enter Try.func8, Try.ntmps8
    go_wp2_with (first | (go_at_call 9; refine (VcL.awake_any _).mono ?_; rintro e w' ⟨rfl, hb⟩; have hS : VcL.Two w (.int .i64 a0_0) (.int .i64 a0_1) (.int .i64 a1_0) (.int .i64 a1_1) w' := VcL.two_keep (by first | assumption | exact VcL.two_start _ _ _ _ _ _ _) hb; unfold VcL.Two at hS) | (go_at_call 22; refine (VcW.formed_any _ _ _).mono ?_; rintro e w' ⟨rfl, hb⟩; have hS : VcL.Two w (.int .i64 a0_0) (.int .i64 a0_1) (.int .i64 a1_0) (.int .i64 a1_1) w' := VcL.two_keep (by first | assumption | exact VcL.two_start _ _ _ _ _ _ _) hb; unfold VcL.Two at hS))
    go_ret
    exact ⟨rfl, hS.2.2.2.2.2⟩
  | true =>
    cases h1 : Vc.formedB a1_0 a1_1 with
    | false =>
      go_enter Try.func8, Try.ntmps8
      go_wp2_with (first | (go_at_call 9; refine (VcL.awake_any _).mono ?_; rintro e w' ⟨rfl, hb⟩; have hS : VcL.Two w (.int .i64 a0_0) (.int .i64 a0_1) (.int .i64 a1_0) (.int .i64 a1_1) w' := VcL.two_keep (by first | assumption | exact VcL.two_start _ _ _ _ _ _ _) hb; unfold VcL.Two at hS) | (go_at_call 22; refine (VcW.formed_any _ _ _).mono ?_; rintro e w' ⟨rfl, hb⟩; have hS : VcL.Two w (.int .i64 a0_0) (.int .i64 a0_1) (.int .i64 a1_0) (.int .i64 a1_1) w' := VcL.two_keep (by first | assumption | exact VcL.two_start _ _ _ _ _ _ _) hb; unfold VcL.Two at hS))
      go_ret
      exact ⟨rfl, hS.2.2.2.2.2⟩
    | true =>
      obtain ⟨f0, f1⟩ := Vc.formedB_iff.1 h0
      obtain ⟨g0, g1⟩ := Vc.formedB_iff.1 h1
      have t0 := betw_tri f0 g0 p1 p2
      have t1 := betw_tri f1 g1 p1 p2
      have hm : Vc.formedB (Fx.betw a0_0 a1_0 a2) (Fx.betw a0_1 a1_1 a2) = true := by
        rw [Vc.formedB_iff]; omega
      have z0 := betw_none (b := a1_0) f0
      have z1 := betw_none (b := a1_1) f1
      have hz : a2 = 0 ∨ (a2 != 0) = true := by by_cases h : a2 = 0 <;> simp [h]
      rcases hz with hz | hz
      all_goals (first | subst hz | skip)
      all_goals rcases t0 with ⟨i1, i2, i3⟩ | ⟨i1, i2, i3, i4, i5, i6⟩ | ⟨i1, i2, i3⟩
      all_goals rcases t1 with ⟨j1, j2, j3⟩ | ⟨j1, j2, j3, j4, j5, j6⟩ | ⟨j1, j2, j3⟩
      all_goals
        go_enter Try.func8, Try.ntmps8
        go_wp2_with (first | (go_at_call 9; refine (VcL.awake_any _).mono ?_; rintro e w' ⟨rfl, hb⟩; have hS : VcL.Two w (.int .i64 a0_0) (.int .i64 a0_1) (.int .i64 a1_0) (.int .i64 a1_1) w' := VcL.two_keep (by first | assumption | exact VcL.two_start _ _ _ _ _ _ _) hb; unfold VcL.Two at hS) | (go_at_call_of 22 (Value.agg #[Value.int IntKind.i64 a0_0, Value.int IntKind.i64 a0_1]); refine (VcW.formed_any _ _ _).mono ?_; rintro e w' ⟨rfl, hb⟩; have hS : VcL.Two w (.int .i64 a0_0) (.int .i64 a0_1) (.int .i64 a1_0) (.int .i64 a1_1) w' := VcL.two_keep (by first | assumption | exact VcL.two_start _ _ _ _ _ _ _) hb; unfold VcL.Two at hS) | (go_at_call_of 22 (Value.agg #[Value.int IntKind.i64 a1_0, Value.int IntKind.i64 a1_1]); refine (VcW.formed_any _ _ _).mono ?_; rintro e w' ⟨rfl, hb⟩; have hS : VcL.Two w (.int .i64 a0_0) (.int .i64 a0_1) (.int .i64 a1_0) (.int .i64 a1_1) w' := VcL.two_keep (by first | assumption | exact VcL.two_start _ _ _ _ _ _ _) hb; unfold VcL.Two at hS) | (go_at_call 20; refine (VcW.betw_any _ _ _ _ _ p1 p2 _).mono ?_; rintro e w' ⟨rfl, hb⟩; have hS : VcL.Two w (.int .i64 a0_0) (.int .i64 a0_1) (.int .i64 a1_0) (.int .i64 a1_1) w' := VcL.two_keep (by first | assumption | exact VcL.two_start _ _ _ _ _ _ _) hb; unfold VcL.Two at hS))
        refine (VcW.formed_any _ _ _).mono ?_
        rintro e w4 ⟨rfl, hb4⟩
        obtain ⟨m0, m1⟩ := new_cell hb4
        obtain ⟨c0, c1, c2, c3, c4, hB⟩ := VcL.two_keep (two_alloc hS _) hb4
        go_wp2
        go_ret
        exact ⟨rfl, hB⟩

set_option maxRecDepth 100000 in
theorem lifted (os : Os) (started : os.Started) (H : Type) (enc : TypeId × Value → H) :
    ReturnsInHanded {} Try.checked os 8 .any (Rows.vecWaysSpec.pre6 enc Try.prog Try.f8 Rows.vecWaysRow.domain false) (Rows.vecWaysSpec.post enc Try.prog Try.f8 false true false false) := by
  refine returnsInHanded_of_change (C := Try.checked) own started (by kernel_rfl) Try.func8
    (ChangeSpec.witness6 (enc := enc) (C := Try.checked) false ⟨#[], #[.agg #[.int .i64 0, .int .i64 0], .agg #[.int .i64 0, .int .i64 0], .int .u8 0], []⟩ 8 (by kernel_rfl) (by kernel_rfl) (by kernel_rfl) (by kernel_rfl)) ?_
  intro W base args ds gs before hval0 hW hcnd _
  have hval : ∀ (j : Nat) t v, Try.f8.params[j]? = some t → args[j]? = some v → Value.okWide Try.prog W .any base t v := hval0
  have hW' := hW
  obtain ⟨p, q, hA0, hV, rfl, hfz, hnd⟩ := hW
  have hA : DataW.TrodAll enc Try.prog W 0 (fun _ => true) true Try.f8.params.toList args.toList ds p := hA0
  rw [Try.params8] at hA hval
  obtain ⟨v0, vs0, d0, ds0, p0, q0, hargs, rfl, rfl, h0, r0⟩ := trodAll_cons hA
  obtain ⟨v1, vs1, d1, ds1, p1, q1, rfl, rfl, rfl, h1, r1⟩ := trodAll_cons r0
  obtain ⟨v2, vs2, d2, ds2, p2, q2, rfl, rfl, rfl, h2, r2⟩ := trodAll_cons r1
  obtain ⟨rfl, rfl, rfl⟩ := trodAll_nil r2
  obtain rfl : args = #[v0, v1, v2] := by cases args; simp_all
  obtain ⟨rfl, rfl⟩ := trodVars_none hV
  have k0 := h0
  have lt0 : ∀ x ∈ p0, x.block < W.heap.size := by obtain ⟨m, hm⟩ := k0; exact DataW.trod_lt m _ _ _ hm
  have k1 := h1
  have lt1 : ∀ x ∈ p1, x.block < W.heap.size := by obtain ⟨m, hm⟩ := k1; exact DataW.trod_lt m _ _ _ hm
  have k2 := h2
  have lt2 : ∀ x ∈ p2, x.block < W.heap.size := by obtain ⟨m, hm⟩ := k2; exact DataW.trod_lt m _ _ _ hm
  obtain ⟨u0_0, u0_1, y0_0, y0_1, m0, rfl, _, _, g0_0, g0_1⟩ := Go.Joins.open_agg2 Try.underlying24 (by kernel_rfl) (by kernel_rfl) (hval 0 24 v0 rfl rfl) h0
  obtain ⟨a0_0, e0_0, _, w0_0⟩ := DataW.trod_int Try.underlying22 g0_0
  simp at e0_0
  subst e0_0
  obtain ⟨a0_1, e0_1, _, w0_1⟩ := DataW.trod_int Try.underlying22 g0_1
  simp at e0_1
  subst e0_1
  obtain ⟨u1_0, u1_1, y1_0, y1_1, m1, rfl, _, _, g1_0, g1_1⟩ := Go.Joins.open_agg2 Try.underlying24 (by kernel_rfl) (by kernel_rfl) (hval 1 24 v1 rfl rfl) h1
  obtain ⟨a1_0, e1_0, _, w1_0⟩ := DataW.trod_int Try.underlying22 g1_0
  simp at e1_0
  subst e1_0
  obtain ⟨a1_1, e1_1, _, w1_1⟩ := DataW.trod_int Try.underlying22 g1_1
  simp at e1_1
  subst e1_1
  obtain ⟨a2, rfl, _, _, w2⟩ := open_int Try.underlying5 (hval 2 5 v2 rfl rfl) h2
  clear hA0 hval0
  refine (walk a0_0 a0_1 a1_0 a1_1 a2 w0_0 w0_1 w1_0 w1_1 w2 W).mono fun e W' ⟨he, bel⟩ => ?_
  subst he
  exact ⟨_, rfl, _, _, _, [], _, [], hW', trodAll_mk1 (shut_bool Try.underlying4 _), (trodAll_cons_mk (Below.trod laidOut (by kernel_rfl) (of_decide_eq_true (by kernel_rfl)) k0 bel lt0) (trodAll_cons_mk (Below.trod laidOut (by kernel_rfl) (of_decide_eq_true (by kernel_rfl)) k1 bel lt1) (trodAll_cons_mk (Below.trod laidOut (by kernel_rfl) (of_decide_eq_true (by kernel_rfl)) k2 bel lt2) trodAll_mk0))), rfl, bel.frame _, fun h => by cases h⟩

theorem over : Rows.vecWaysRow.holds Try.pinned (OpenSpec.ofChange Rows.vecWaysSpec) :=
  OpenClaim.holds_of_wide 8 Try.f8 rfl rfl rfl rfl rfl rfl rfl ⟨rfl, rfl, rfl, rfl, rfl⟩ rfl rfl rfl rfl rfl (by kernel_rfl) Try.func8 (by kernel_rfl)
    (of_decide_eq_true (by kernel_rfl)) (by unfold Func.isWrapper; first | (rw [if_pos (by decide +kernel)]; kernel_rfl) | (rw [if_neg (by decide +kernel)]; exact ⟨rfl, rfl⟩))
    (fun os started H enc _ => lifted os started H enc)

theorem proved : Rows.VecWaysSaid :=
  over
#print axioms proved
end Go.Proofs.Ytfpjpdhcdoaaiaa.vecWays

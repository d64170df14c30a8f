/- Whatever way is handed in, VecLong answers true: a way that may be isn't shorter than either of its numbers is great nor longer than both together, and turned about it is as long. No condition. -/
import Derived.Test.YtfpjpdhcdoaaiaaRows
import Derived.Test.YtfpjpdhcdoaaiaaVecLaw
import Derived.Test.YtfpjpdhcdoaaiaaKept
import Derived.WalkKit
import Derived.ProofKit
import Derived.OpenShut
import Derived.ChangeOld
import Derived.Below
import Derived.WalkSmall
import Derived.Lib.SmallJoins
import Derived.Laws.IdiomArrays
namespace Go.Proofs.Ytfpjpdhcdoaaiaa.vecLong
open Go.ChangeShapes Go.WideShapes Go.ChangeAt Go.RowKit
set_option linter.unusedVariables false

theorem own : ownKnob Try.prog.godebug = none := by kernel_rfl
theorem laidOut : laidOutB Try.prog = true := by kernel_rfl

theorem size_sq (x : Int) : VcL.size x * VcL.size x = x * x := by
  unfold VcL.size; split
  · rfl
  · rw [Int.neg_mul_neg]
theorem size_lo (x : Int) : 0 ≤ VcL.size x := by unfold VcL.size; split <;> omega
theorem size_hi {x : Int} (h : -134217728 ≤ x ∧ x ≤ 134217728) : VcL.size x ≤ 134217728 := by unfold VcL.size; split <;> omega
theorem size_pos {x : Int} (h : x ≠ 0) : 0 < VcL.size x := by unfold VcL.size; split <;> omega
theorem sq_in {x : Int} (h : -134217728 ≤ x ∧ x ≤ 134217728) : Vc.sq x = VcL.size x * VcL.size x := by
  rw [size_sq]; unfold Vc.sq; rw [Fx.hold_of (by omega) (by omega)]
theorem le_of_sq {a b : Int} (hb : 0 ≤ b) (h : a * a < (b + 1) * (b + 1)) : a ≤ b := by
  by_cases c : a ≤ b
  · exact c
  · have := Fx.sq_mono (x := b + 1) (y := a) (by omega) (by omega); omega
theorem len_in {x y : Int} (hx : -134217728 ≤ x ∧ x ≤ 134217728) (hy : -134217728 ≤ y ∧ y ≤ 134217728) :
    VcL.size x ≤ Vc.len x y ∧ VcL.size y ≤ Vc.len x y ∧ Vc.len x y ≤ VcL.size x + VcL.size y := by
  have x0 := size_lo x; have y0 := size_lo y; have x1 := size_hi hx; have y1 := size_hi hy
  have sx := Fx.sq_mono x0 x1; have sy := Fx.sq_mono y0 y1
  have tx : 0 ≤ VcL.size x * VcL.size x := Int.mul_nonneg x0 x0
  have ty : 0 ≤ VcL.size y * VcL.size y := Int.mul_nonneg y0 y0
  have txy : 0 ≤ VcL.size x * VcL.size y := Int.mul_nonneg x0 y0
  have es : Vc.sq x + Vc.sq y = VcL.size x * VcL.size x + VcL.size y * VcL.size y := by rw [sq_in hx, sq_in hy]
  obtain ⟨r0, r1, r2⟩ := Vc.root_ok (n := Vc.sq x + Vc.sq y) (by omega) (by omega)
  have u1 : VcL.size x ≤ Vc.root (Vc.sq x + Vc.sq y) := le_of_sq r0 (by omega)
  have u2 : VcL.size y ≤ Vc.root (Vc.sq x + Vc.sq y) := le_of_sq r0 (by omega)
  have u3 : Vc.root (Vc.sq x + Vc.sq y) ≤ VcL.size x + VcL.size y := by
    refine le_of_sq (by omega) ?_
    have e : (VcL.size x + VcL.size y) * (VcL.size x + VcL.size y) = VcL.size x * VcL.size x + VcL.size x * VcL.size y + (VcL.size x * VcL.size y + VcL.size y * VcL.size y) := by
      rw [Int.add_mul, Int.mul_add, Int.mul_add, Int.mul_comm (VcL.size y) (VcL.size x)]
    have e' := Fx.sq_mono (x := VcL.size x + VcL.size y) (y := VcL.size x + VcL.size y + 1) (by omega) (by omega)
    have e2 : (VcL.size x + VcL.size y + 1) * (VcL.size x + VcL.size y + 1) = (VcL.size x + VcL.size y) * (VcL.size x + VcL.size y) + (VcL.size x + VcL.size y) + (VcL.size x + VcL.size y + 1) := by
      rw [Int.add_mul, Int.one_mul, Int.mul_add, Int.mul_one]
    omega
  have hh : Vc.len x y = Vc.root (Vc.sq x + Vc.sq y) := by unfold Vc.len; exact Fx.hold_of (by omega) (by omega)
  rw [hh]; exact ⟨u1, u2, u3⟩
theorem len_turn {x y : Int} (hy : -134217728 ≤ y ∧ y ≤ 134217728) : (Vc.len (-y) x == Vc.len x y) = true := by
  have e : Vc.sq (-y) = Vc.sq y := by
    unfold Vc.sq; rw [Fx.hold_of (x := -y) (by omega) (by omega), Fx.hold_of (x := y) (by omega) (by omega), Int.neg_mul_neg]
  unfold Vc.len; rw [e, Int.add_comm]; simp
theorem len_zero : (Vc.len 0 0 == 0) = true := by
  have h : (0 : Int) = Vc.root (Vc.sq 0 + Vc.sq 0) := Vc.root_eq (by decide) (by decide) (by decide) (by decide)
  unfold Vc.len; rw [← h]; decide

set_option maxHeartbeats 2000000 in
theorem walk (a0_0 : Int) (a0_1 : Int) (w0_0 : (Lit.int .i64 a0_0).wf = true) (w0_1 : (Lit.int .i64 a0_1).wf = true) (w : World) :
    Calls Try.prog 6 #[.agg #[.int .i64 a0_0, .int .i64 a0_1]] w fun e w' => e = .returned (.bool true) ∧ Below w.heap.size w w' := by
  clear w0_0 w0_1
  have he := vec_eql
  cases h0 : Vc.formedB a0_0 a0_1 with
  | false =>
    go_enter Try.func6, Try.ntmps6
    go_wp2_with (first | (go_at_call 9; refine (VcL.awake_any _).mono ?_; rintro e w' ⟨rfl, hb⟩; have hS : VcL.One w (.int .i64 a0_0) (.int .i64 a0_1) w' := VcL.one_keep (by first | assumption | exact VcL.one_start _ _ _ _) hb; unfold VcL.One at hS) | (go_at_call 22; refine (VcW.formed_any _ _ _).mono ?_; rintro e w' ⟨rfl, hb⟩; have hS : VcL.One w (.int .i64 a0_0) (.int .i64 a0_1) w' := VcL.one_keep (by first | assumption | exact VcL.one_start _ _ _ _) hb; unfold VcL.One at hS))
    go_ret
    exact ⟨rfl, hS.2.2.2⟩
  | true =>
    obtain ⟨⟨f0, f1⟩, f2, f3⟩ := Vc.formedB_iff.1 h0
    obtain ⟨l1, l2, l3⟩ := len_in ⟨f0, f1⟩ ⟨f2, f3⟩
    have l4 := len_turn (x := a0_0) ⟨f2, f3⟩
    have s1 := size_lo a0_0
    have s2 := size_hi ⟨f0, f1⟩
    have s3 := size_lo a0_1
    have s4 := size_hi ⟨f2, f3⟩
    by_cases z0 : a0_0 = 0
    · by_cases z1 : a0_1 = 0
      · have ez : (Vc.len a0_0 a0_1 == 0) = true := by rw [z0, z1]; exact len_zero
        have ez0 : (a0_0 == 0) = true := by simp [z0]
        have ez1 : (a0_1 == 0) = true := by simp [z1]
        clear z0 z1
        go_enter Try.func6, Try.ntmps6
        go_wp2_with (first | (go_at_call 9; refine (VcL.awake_any _).mono ?_; rintro e w' ⟨rfl, hb⟩; have hS : VcL.One w (.int .i64 a0_0) (.int .i64 a0_1) w' := VcL.one_keep (by first | assumption | exact VcL.one_start _ _ _ _) hb; unfold VcL.One at hS) | (go_at_call 22; refine (VcW.formed_any _ _ _).mono ?_; rintro e w' ⟨rfl, hb⟩; have hS : VcL.One w (.int .i64 a0_0) (.int .i64 a0_1) w' := VcL.one_keep (by first | assumption | exact VcL.one_start _ _ _ _) hb; unfold VcL.One at hS) | (go_at_call 18; refine (VcW.len_any _ _ _).mono ?_; rintro e w' ⟨rfl, hb⟩; have hS : VcL.One w (.int .i64 a0_0) (.int .i64 a0_1) w' := VcL.one_keep (by first | assumption | exact VcL.one_start _ _ _ _) hb; unfold VcL.One at hS))
        obtain ⟨c0, c1, c4, hB⟩ := hS
        have ne : Nonempty (KeptW w') := KeptW.one w'
        have d0 := KeptW.at (W := w') (b := w.heap.size) (o := 0) (by omega) c0
        have d1 := KeptW.at (W := w') (b := w.heap.size) (o := 1) (by omega) c1
        refine wp_region_kept (by kernel_rfl) (by kernel_rfl) ?_
        repeat (go_big_quiet_step (first | (go_at_call 24; exact kept_same (VcL.size_any _ (by omega) (by omega) _)) | (go_at_call 18; exact kept_call (VcW.len_any _ _ _))))
        refine wpQuiet_nil ?_
        rintro _ ⟨x, rfl⟩
        go_wp2
        go_ret
        exact ⟨rfl, hB.trans (x.h.mono (by omega))⟩
      · have p1 := size_pos z1
        have ez : (Vc.len a0_0 a0_1 == 0) = false := by rw [beq_eq_false_iff_ne]; omega
        have ez0 : (a0_0 == 0) = true := by simp [z0]
        have ez1 : (a0_1 == 0) = false := by simp [z1]
        clear z0 z1
        go_enter Try.func6, Try.ntmps6
        go_wp2_with (first | (go_at_call 9; refine (VcL.awake_any _).mono ?_; rintro e w' ⟨rfl, hb⟩; have hS : VcL.One w (.int .i64 a0_0) (.int .i64 a0_1) w' := VcL.one_keep (by first | assumption | exact VcL.one_start _ _ _ _) hb; unfold VcL.One at hS) | (go_at_call 22; refine (VcW.formed_any _ _ _).mono ?_; rintro e w' ⟨rfl, hb⟩; have hS : VcL.One w (.int .i64 a0_0) (.int .i64 a0_1) w' := VcL.one_keep (by first | assumption | exact VcL.one_start _ _ _ _) hb; unfold VcL.One at hS) | (go_at_call 18; refine (VcW.len_any _ _ _).mono ?_; rintro e w' ⟨rfl, hb⟩; have hS : VcL.One w (.int .i64 a0_0) (.int .i64 a0_1) w' := VcL.one_keep (by first | assumption | exact VcL.one_start _ _ _ _) hb; unfold VcL.One at hS))
        obtain ⟨c0, c1, c4, hB⟩ := hS
        have ne : Nonempty (KeptW w') := KeptW.one w'
        have d0 := KeptW.at (W := w') (b := w.heap.size) (o := 0) (by omega) c0
        have d1 := KeptW.at (W := w') (b := w.heap.size) (o := 1) (by omega) c1
        refine wp_region_kept (by kernel_rfl) (by kernel_rfl) ?_
        repeat (go_big_quiet_step (first | (go_at_call 24; exact kept_same (VcL.size_any _ (by omega) (by omega) _)) | (go_at_call 18; exact kept_call (VcW.len_any _ _ _))))
        refine wpQuiet_nil ?_
        rintro _ ⟨x, rfl⟩
        go_wp2
        go_ret
        exact ⟨rfl, hB.trans (x.h.mono (by omega))⟩
    · have p1 := size_pos z0
      have ez : (Vc.len a0_0 a0_1 == 0) = false := by rw [beq_eq_false_iff_ne]; omega
      have ez0 : (a0_0 == 0) = false := by simp [z0]
      clear z0
      go_enter Try.func6, Try.ntmps6
      go_wp2_with (first | (go_at_call 9; refine (VcL.awake_any _).mono ?_; rintro e w' ⟨rfl, hb⟩; have hS : VcL.One w (.int .i64 a0_0) (.int .i64 a0_1) w' := VcL.one_keep (by first | assumption | exact VcL.one_start _ _ _ _) hb; unfold VcL.One at hS) | (go_at_call 22; refine (VcW.formed_any _ _ _).mono ?_; rintro e w' ⟨rfl, hb⟩; have hS : VcL.One w (.int .i64 a0_0) (.int .i64 a0_1) w' := VcL.one_keep (by first | assumption | exact VcL.one_start _ _ _ _) hb; unfold VcL.One at hS) | (go_at_call 18; refine (VcW.len_any _ _ _).mono ?_; rintro e w' ⟨rfl, hb⟩; have hS : VcL.One w (.int .i64 a0_0) (.int .i64 a0_1) w' := VcL.one_keep (by first | assumption | exact VcL.one_start _ _ _ _) hb; unfold VcL.One at hS))
      obtain ⟨c0, c1, c4, hB⟩ := hS
      have ne : Nonempty (KeptW w') := KeptW.one w'
      have d0 := KeptW.at (W := w') (b := w.heap.size) (o := 0) (by omega) c0
      have d1 := KeptW.at (W := w') (b := w.heap.size) (o := 1) (by omega) c1
      refine wp_region_kept (by kernel_rfl) (by kernel_rfl) ?_
      repeat (go_big_quiet_step (first | (go_at_call 24; exact kept_same (VcL.size_any _ (by omega) (by omega) _)) | (go_at_call 18; exact kept_call (VcW.len_any _ _ _))))
      refine wpQuiet_nil ?_
      rintro _ ⟨x, rfl⟩
      go_wp2
      go_ret
      exact ⟨rfl, hB.trans (x.h.mono (by omega))⟩

set_option maxRecDepth 100000 in
theorem lifted (os : Os) (started : os.Started) (H : Type) (enc : TypeId × Value → H) :
    ReturnsInHanded {} Try.checked os 6 .any (Rows.vecLongSpec.pre6 enc Try.prog Try.f6 Rows.vecLongRow.domain false) (Rows.vecLongSpec.post enc Try.prog Try.f6 false true false false) := by
  refine returnsInHanded_of_change (C := Try.checked) own started (by kernel_rfl) Try.func6
    (ChangeSpec.witness6 (enc := enc) (C := Try.checked) false ⟨#[], #[.agg #[.int .i64 0, .int .i64 0]], []⟩ 8 (by kernel_rfl) (by kernel_rfl) (by kernel_rfl) (by kernel_rfl)) ?_
  intro W base args ds gs before hval0 hW hcnd _
  have hval : ∀ (j : Nat) t v, Try.f6.params[j]? = some t → args[j]? = some v → Value.okWide Try.prog W .any base t v := hval0
  have hW' := hW
  obtain ⟨p, q, hA0, hV, rfl, hfz, hnd⟩ := hW
  have hA : DataW.TrodAll enc Try.prog W 0 (fun _ => true) true Try.f6.params.toList args.toList ds p := hA0
  rw [Try.params6] at hA hval
  obtain ⟨v0, vs0, d0, ds0, p0, q0, hargs, rfl, rfl, h0, r0⟩ := trodAll_cons hA
  obtain ⟨rfl, rfl, rfl⟩ := trodAll_nil r0
  obtain rfl : args = #[v0] := by cases args; simp_all
  obtain ⟨rfl, rfl⟩ := trodVars_none hV
  have k0 := h0
  have lt0 : ∀ x ∈ p0, x.block < W.heap.size := by obtain ⟨m, hm⟩ := k0; exact DataW.trod_lt m _ _ _ hm
  obtain ⟨u0_0, u0_1, y0_0, y0_1, m0, rfl, _, _, g0_0, g0_1⟩ := Go.Joins.open_agg2 Try.underlying24 (by kernel_rfl) (by kernel_rfl) (hval 0 24 v0 rfl rfl) h0
  obtain ⟨a0_0, e0_0, _, w0_0⟩ := DataW.trod_int Try.underlying22 g0_0
  simp at e0_0
  subst e0_0
  obtain ⟨a0_1, e0_1, _, w0_1⟩ := DataW.trod_int Try.underlying22 g0_1
  simp at e0_1
  subst e0_1
  clear hA0 hval0
  refine (walk a0_0 a0_1 w0_0 w0_1 W).mono fun e W' ⟨he, bel⟩ => ?_
  subst he
  exact ⟨_, rfl, _, _, _, [], _, [], hW', trodAll_mk1 (shut_bool Try.underlying4 _), (trodAll_cons_mk (Below.trod laidOut (by kernel_rfl) (of_decide_eq_true (by kernel_rfl)) k0 bel lt0) trodAll_mk0), rfl, bel.frame _, fun h => by cases h⟩

theorem over : Rows.vecLongRow.holds Try.pinned (OpenSpec.ofChange Rows.vecLongSpec) :=
  OpenClaim.holds_of_wide 6 Try.f6 rfl rfl rfl rfl rfl rfl rfl ⟨rfl, rfl, rfl, rfl, rfl⟩ rfl rfl rfl rfl rfl (by kernel_rfl) Try.func6 (by kernel_rfl)
    (of_decide_eq_true (by kernel_rfl)) (by unfold Func.isWrapper; first | (rw [if_pos (by decide +kernel)]; kernel_rfl) | (rw [if_neg (by decide +kernel)]; exact ⟨rfl, rfl⟩))
    (fun os started H enc _ => lifted os started H enc)

theorem proved : Rows.VecLongSaid :=
  over
#print axioms proved
end Go.Proofs.Ytfpjpdhcdoaaiaa.vecLong

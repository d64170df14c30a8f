/- Whatever small whole numbers are handed in, FixWhole answers true: they are added, subtracted, multiplied and rounded down as such. No condition. -/
import Derived.Test.YtampnibhaejheaaRows
import Derived.WalkKit
import Derived.Test.YtampnibhaejheaaLawIn
import Derived.ProofKit
import Derived.OpenShut
namespace Go.Proofs.Ytampnibhaejheaa.fixWhole
open Go.ChangeShapes Go.WideShapes Go.ChangeAt Go.RowKit
set_option linter.unusedVariables false      -- a walk need not use every 'w<i>' (that an integer argument fits its kind)

theorem own : ownKnob Try.prog.godebug = none := by kernel_rfl

theorem ofI_small {n : Int} (h1 : -32767 ≤ n) (h2 : n ≤ 32767) : Fx.ofI n = n * 65536 := by
  unfold Fx.ofI; rw [Fx.hold_of (x := n) (by omega) (by omega), Fx.hold_of (by omega) (by omega)]
theorem mul_small {x y : Int} (h1 : -128 ≤ x) (h2 : x ≤ 127) (h3 : -128 ≤ y) (h4 : y ≤ 127) : Fx.mul (x * 65536) (y * 65536) = Fx.ofI (x * y) := by
  obtain ⟨p1, p2⟩ := Fx.mul_le_of (x := x) (y := y) (m := 128) (by omega) (by omega) (by omega) (by omega)
  unfold Fx.ofI Fx.mul
  rw [Fx.hold_of (x := x * 65536) (by omega) (by omega), Fx.hold_of (x := y * 65536) (by omega) (by omega), Fx.hold_of (x := x * y) (by omega) (by omega)]
  have e : x * 65536 * (y * 65536) = x * y * 65536 * 65536 := by rw [Int.mul_assoc, ← Int.mul_assoc 65536 y, Int.mul_comm 65536 y]; simp only [Int.mul_assoc]
  rw [e, Int.mul_ediv_cancel _ (by omega)]

set_option maxHeartbeats 1000000 in
theorem walk (a0 : Int) (a1 : Int) (w0 : (Lit.int .i8 a0).wf = true) (w1 : (Lit.int .i8 a1).wf = true) (w : World) :
    Calls Try.prog 10 #[.int .i8 a0, .int .i8 a1] w fun e w' => e = .returned (.bool true) ∧ Grown w w' := by
  obtain ⟨x1, x2⟩ := bounds_i8 w0
  obtain ⟨x3, x4⟩ := bounds_i8 w1
  obtain ⟨p1, p2⟩ := Fx.mul_le_of (x := a0) (y := a1) (m := 128) (by omega) (by omega) (by omega) (by omega)
  have e1 : (Fx.add (Fx.ofI a0) (Fx.ofI a1) == Fx.ofI (a0 + a1)) = true := by
    rw [ofI_small (n := a0) (by omega) (by omega), ofI_small (n := a1) (by omega) (by omega), ofI_small (n := a0 + a1) (by omega) (by omega)]
    unfold Fx.add; rw [Fx.hold_of (x := a0 * 65536) (by omega) (by omega), Fx.hold_of (x := a1 * 65536) (by omega) (by omega), Fx.hold_of (by omega) (by omega)]; simp; omega
  have e2 : (Fx.sub (Fx.ofI a0) (Fx.ofI a1) == Fx.ofI (a0 - a1)) = true := by
    rw [ofI_small (n := a0) (by omega) (by omega), ofI_small (n := a1) (by omega) (by omega), ofI_small (n := a0 - a1) (by omega) (by omega)]
    unfold Fx.sub; rw [Fx.hold_of (x := a0 * 65536) (by omega) (by omega), Fx.hold_of (x := a1 * 65536) (by omega) (by omega), Fx.hold_of (by omega) (by omega)]; simp; omega
  have e3 : (Fx.mul (Fx.ofI a0) (Fx.ofI a1) == Fx.ofI (a0 * a1)) = true := by
    rw [ofI_small (n := a0) (by omega) (by omega), ofI_small (n := a1) (by omega) (by omega), mul_small x1 x2 x3 x4]; simp
  have e4 : (Fx.floor (Fx.ofI a0) == a0) = true := by
    rw [ofI_small (n := a0) (by omega) (by omega)]; unfold Fx.floor; rw [Fx.hold_of (x := a0 * 65536) (by omega) (by omega)]; simp
  clear w0 w1
  go_enter Try.func10, Try.ntmps10
  go_wp2_with (first | (go_at_call 11; refine (FxL.awake_any _).mono ?_; rintro e w' ⟨rfl, rfl⟩) | (go_at_call 22; refine (FxW.of_any _ _).mono ?_; rintro e w' ⟨rfl, rfl⟩) | (go_at_call 12; refine (FxW.add_any _ _ _).mono ?_; rintro e w' ⟨rfl, rfl⟩) | (go_at_call 14; refine (FxW.sub_any _ _ _).mono ?_; rintro e w' ⟨rfl, rfl⟩) | (go_at_call 16; refine (FxW.mul_any _ _ _).mono ?_; rintro e w' ⟨rfl, rfl⟩) | (go_at_call 26; refine (FxW.floor_any _ _).mono ?_; rintro e w' ⟨rfl, rfl⟩))
  go_ret
  exact ⟨rfl, Grown.refl _⟩

set_option maxRecDepth 100000 in
theorem lifted (os : Os) (started : os.Started) (H : Type) (enc : TypeId × Value → H) :
    ReturnsInHanded {} Try.checked os 10 .any (Rows.fixWholeSpec.pre6 enc Try.prog Try.f10 Rows.fixWholeRow.domain false) (Rows.fixWholeSpec.post enc Try.prog Try.f10 false true false false) := by
  refine returnsInHanded_of_change (C := Try.checked) own started (by kernel_rfl) Try.func10
    (ChangeSpec.witness6 (enc := enc) (C := Try.checked) false ⟨#[], #[.int .i8 0, .int .i8 0], []⟩ 8 (by kernel_rfl) (by kernel_rfl) (by kernel_rfl) (by kernel_rfl)) ?_
  intro W base args ds gs before hval0 hW hcnd _
  have hval : ∀ (j : Nat) t v, Try.f10.params[j]? = some t → args[j]? = some v → Value.okWide Try.prog W .any base t v := hval0
  have hW' := hW
  obtain ⟨p, q, hA0, hV, rfl, hfz, hnd⟩ := hW
  have hA : DataW.TrodAll enc Try.prog W 0 (fun _ => true) true Try.f10.params.toList args.toList ds p := hA0
  rw [Try.params10] at hA hval
  obtain ⟨v0, vs0, d0, ds0, p0, q0, hargs, rfl, rfl, h0, r0⟩ := trodAll_cons hA
  obtain ⟨v1, vs1, d1, ds1, p1, q1, rfl, rfl, rfl, h1, r1⟩ := trodAll_cons r0
  obtain ⟨rfl, rfl, rfl⟩ := trodAll_nil r1
  obtain rfl : args = #[v0, v1] := by cases args; simp_all
  obtain ⟨rfl, rfl⟩ := trodVars_none hV
  obtain ⟨a0, rfl, rfl, rfl, w0⟩ := open_int Try.underlying36 (hval 0 36 v0 rfl rfl) h0
  obtain ⟨a1, rfl, rfl, rfl, w1⟩ := open_int Try.underlying36 (hval 1 36 v1 rfl rfl) h1
  clear hA0 hval0
  simp only [List.append_nil] at hW'
  refine (walk a0 a1 w0 w1 W).mono fun e W' ⟨he, hg⟩ => ?_
  subst he
  exact ⟨_, rfl, post_of_same (pa := []) (pv := []) hW' (fun _ _ _ => (trodAll_cons_mk (shut_bool Try.underlying4 _) trodAll_mk0)) (fun sp _ => (trodAll_cons_mk (shut_int Try.underlying36 w0) (trodAll_cons_mk (shut_int Try.underlying36 w1) trodAll_mk0))) (fun _ _ => rfl) rfl
    (hg.frame _) hg.2.1 (ok_one (by kernel_rfl) rfl (okWide_bool_mk Try.underlying4 _))⟩

theorem over : Rows.fixWholeRow.holds Try.pinned (OpenSpec.ofChange Rows.fixWholeSpec) :=
  OpenClaim.holds_of_wide 10 Try.f10 rfl rfl rfl rfl rfl rfl rfl ⟨rfl, rfl, rfl, rfl, rfl⟩ rfl rfl rfl rfl rfl (by kernel_rfl) Try.func10 (by kernel_rfl)
    (of_decide_eq_true (by kernel_rfl)) (by unfold Func.isWrapper; first | (rw [if_pos (by decide +kernel)]; kernel_rfl) | (rw [if_neg (by decide +kernel)]; exact ⟨rfl, rfl⟩))
    (fun os started H enc _ => lifted os started H enc)

theorem proved : Rows.FixWholeSaid :=
  over
#print axioms proved
end Go.Proofs.Ytampnibhaejheaa.fixWhole

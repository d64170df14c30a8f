/- Whatever number is handed in, FixRoots answers true: a root's square is not above the number, the next one's is. No condition. -/
import Derived.Test.YtampnibhaejheaaRows
import Derived.WalkKit
import Derived.Test.YtampnibhaejheaaLawIn
import Derived.ProofKit
import Derived.OpenShut
namespace Go.Proofs.Ytampnibhaejheaa.fixRoots
open Go.ChangeShapes Go.WideShapes Go.ChangeAt Go.RowKit
set_option linter.unusedVariables false      -- a walk need not use every 'w<i>' (that an integer argument fits its kind)

theorem own : ownKnob Try.prog.godebug = none := by kernel_rfl

set_option maxHeartbeats 1000000 in
theorem walk (a0 : Int) (w0 : (Lit.int .i64 a0).wf = true) (w : World) :
    Calls Try.prog 7 #[.int .i64 a0] w fun e w' => e = .returned (.bool true) ∧ Grown w w' := by
  have b1 := Fx.sqrt_lo a0
  have b2 := Fx.sqrt_hi a0
  have b3 := Fx.hold_lo a0
  have b4 := Fx.hold_hi a0
  by_cases h : a0 < 0
  · have e1 : (Fx.sqrt a0 == 0) = true := by unfold Fx.sqrt; rw [if_pos (by omega)]; rfl
    go_enter Try.func7, Try.ntmps7
    go_wp2_with (first | (go_at_call 11; refine (FxL.awake_any _).mono ?_; rintro e w' ⟨rfl, rfl⟩) | (go_at_call 24; refine (FxW.sqrt_any _ _).mono ?_; rintro e w' ⟨rfl, rfl⟩) | (go_at_call 20; refine (FxW.hold_any _ _).mono ?_; rintro e w' ⟨rfl, rfl⟩))
    go_ret
    exact ⟨rfl, Grown.refl _⟩
  · obtain ⟨s1, s2⟩ := Fx.sqrt_ok (a := a0) (by omega)
    have s3 := Fx.sq_mono (x := Fx.sqrt a0 + 1) (y := 16777216) (by omega) (by omega)
    have s4 : 0 ≤ Fx.sqrt a0 * Fx.sqrt a0 := Int.mul_nonneg b1 b1
    go_enter Try.func7, Try.ntmps7
    go_wp2_with (first | (go_at_call 11; refine (FxL.awake_any _).mono ?_; rintro e w' ⟨rfl, rfl⟩) | (go_at_call 24; refine (FxW.sqrt_any _ _).mono ?_; rintro e w' ⟨rfl, rfl⟩) | (go_at_call 20; refine (FxW.hold_any _ _).mono ?_; rintro e w' ⟨rfl, rfl⟩))
    go_ret
    exact ⟨rfl, Grown.refl _⟩

set_option maxRecDepth 100000 in
theorem lifted (os : Os) (started : os.Started) (H : Type) (enc : TypeId × Value → H) :
    ReturnsInHanded {} Try.checked os 7 .any (Rows.fixRootsSpec.pre6 enc Try.prog Try.f7 Rows.fixRootsRow.domain false) (Rows.fixRootsSpec.post enc Try.prog Try.f7 false true false false) := by
  refine returnsInHanded_of_change (C := Try.checked) own started (by kernel_rfl) Try.func7
    (ChangeSpec.witness6 (enc := enc) (C := Try.checked) false ⟨#[], #[.int .i64 0], []⟩ 8 (by kernel_rfl) (by kernel_rfl) (by kernel_rfl) (by kernel_rfl)) ?_
  intro W base args ds gs before hval0 hW hcnd _
  have hval : ∀ (j : Nat) t v, Try.f7.params[j]? = some t → args[j]? = some v → Value.okWide Try.prog W .any base t v := hval0
  have hW' := hW
  obtain ⟨p, q, hA0, hV, rfl, hfz, hnd⟩ := hW
  have hA : DataW.TrodAll enc Try.prog W 0 (fun _ => true) true Try.f7.params.toList args.toList ds p := hA0
  rw [Try.params7] at hA hval
  obtain ⟨v0, vs0, d0, ds0, p0, q0, hargs, rfl, rfl, h0, r0⟩ := trodAll_cons hA
  obtain ⟨rfl, rfl, rfl⟩ := trodAll_nil r0
  obtain rfl : args = #[v0] := by cases args; simp_all
  obtain ⟨rfl, rfl⟩ := trodVars_none hV
  obtain ⟨a0, rfl, rfl, rfl, w0⟩ := open_int Try.underlying22 (hval 0 22 v0 rfl rfl) h0
  clear hA0 hval0
  simp only [List.append_nil] at hW'
  refine (walk a0 w0 W).mono fun e W' ⟨he, hg⟩ => ?_
  subst he
  exact ⟨_, rfl, post_of_same (pa := []) (pv := []) hW' (fun _ _ _ => (trodAll_cons_mk (shut_bool Try.underlying4 _) trodAll_mk0)) (fun sp _ => (trodAll_cons_mk (shut_int Try.underlying22 w0) trodAll_mk0)) (fun _ _ => rfl) rfl
    (hg.frame _) hg.2.1 (ok_one (by kernel_rfl) rfl (okWide_bool_mk Try.underlying4 _))⟩

theorem over : Rows.fixRootsRow.holds Try.pinned (OpenSpec.ofChange Rows.fixRootsSpec) :=
  OpenClaim.holds_of_wide 7 Try.f7 rfl rfl rfl rfl rfl rfl rfl ⟨rfl, rfl, rfl, rfl, rfl⟩ rfl rfl rfl rfl rfl (by kernel_rfl) Try.func7 (by kernel_rfl)
    (of_decide_eq_true (by kernel_rfl)) (by unfold Func.isWrapper; first | (rw [if_pos (by decide +kernel)]; kernel_rfl) | (rw [if_neg (by decide +kernel)]; exact ⟨rfl, rfl⟩))
    (fun os started H enc _ => lifted os started H enc)

theorem proved : Rows.FixRootsSaid :=
  over
#print axioms proved
end Go.Proofs.Ytampnibhaejheaa.fixRoots

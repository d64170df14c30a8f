/- Whatever numbers and part are handed in, FixWays answers true: a part of the way lies between both ends, at none at the first one, and goes on from part to part. No condition. -/
import Derived.Test.YtampnibhaejheaaRows
import Derived.WalkKit
import Derived.Test.YtampnibhaejheaaLawIn
import Derived.ProofKit
import Derived.OpenShut
namespace Go.Proofs.Ytampnibhaejheaa.fixWays
open Go.ChangeShapes Go.WideShapes Go.ChangeAt Go.RowKit
set_option linter.unusedVariables false      -- a walk need not use every 'w<i>' (that an integer argument fits its kind)

theorem own : ownKnob Try.prog.godebug = none := by kernel_rfl

theorem way_up {x p : Int} (hx : 0 ≤ x) (h1 : 0 ≤ p) (h2 : p ≤ 255) : 0 ≤ x * p / 256 ∧ x * p / 256 ≤ x := by
  have a1 : 0 ≤ x * p := Int.mul_nonneg hx h1
  have a2 : x * p ≤ x * 255 := Int.mul_le_mul_of_nonneg_left h2 hx
  omega
theorem way_down {x p : Int} (hx : x ≤ 0) (h1 : 0 ≤ p) (h2 : p ≤ 255) : x ≤ x * p / 256 ∧ x * p / 256 ≤ 0 := by
  have a1 : 0 ≤ -x * p := Int.mul_nonneg (by omega) h1
  have a2 : -x * p ≤ -x * 255 := Int.mul_le_mul_of_nonneg_left h2 (by omega)
  rw [Int.neg_mul] at a1 a2
  omega
theorem betw_up {a b p : Int} (h : Fx.hold a ≤ Fx.hold b) (h1 : 0 ≤ p) (h2 : p ≤ 255) : Fx.betw a b p = Fx.hold a + (Fx.hold b - Fx.hold a) * p / 256 ∧ Fx.hold a ≤ Fx.betw a b p ∧ Fx.betw a b p ≤ Fx.hold b := by
  obtain ⟨c1, c2⟩ := way_up (x := Fx.hold b - Fx.hold a) (p := p) (by omega) h1 h2
  have := Fx.hold_lo a; have := Fx.hold_hi b
  have e : Fx.betw a b p = Fx.hold a + (Fx.hold b - Fx.hold a) * p / 256 := by unfold Fx.betw; exact Fx.hold_of (by omega) (by omega)
  omega
theorem betw_down {a b p : Int} (h : Fx.hold b ≤ Fx.hold a) (h1 : 0 ≤ p) (h2 : p ≤ 255) : Fx.betw a b p = Fx.hold a + (Fx.hold b - Fx.hold a) * p / 256 ∧ Fx.hold b ≤ Fx.betw a b p ∧ Fx.betw a b p ≤ Fx.hold a := by
  obtain ⟨c1, c2⟩ := way_down (x := Fx.hold b - Fx.hold a) (p := p) (by omega) h1 h2
  have := Fx.hold_lo b; have := Fx.hold_hi a
  have e : Fx.betw a b p = Fx.hold a + (Fx.hold b - Fx.hold a) * p / 256 := by unfold Fx.betw; exact Fx.hold_of (by omega) (by omega)
  omega
theorem betw_zero (a b : Int) : (Fx.betw a b 0 == Fx.hold a) = true := by
  unfold Fx.betw; rw [Int.mul_zero, Int.zero_ediv, Int.add_zero, Fx.hold_hold]; simp

set_option maxHeartbeats 1000000 in
theorem walk (a0 : Int) (a1 : Int) (a2 : Int) (w0 : (Lit.int .i64 a0).wf = true) (w1 : (Lit.int .i64 a1).wf = true) (w2 : (Lit.int .u8 a2).wf = true) (w : World) :
    Calls Try.prog 8 #[.int .i64 a0, .int .i64 a1, .int .u8 a2] w fun e w' => e = .returned (.bool true) ∧ Grown w w' := by
  obtain ⟨p1, p2⟩ := bounds_u8 w2
  clear w0 w1 w2
  have z1 := betw_zero a0 a1
  have z2 : (Fx.betw a0 a1 0 != Fx.hold a0) = false := by have := betw_zero a0 a1; simpa using this
  rcases Int.lt_trichotomy (Fx.hold a0) (Fx.hold a1) with h | h | h
  · have h' : Fx.hold a0 ≤ Fx.hold a1 := Int.le_of_lt h
    obtain ⟨e1, e2, e3⟩ := betw_up h' p1 p2
    by_cases hp : a2 = 255
    · subst hp
      clear e1
      go_enter Try.func8, Try.ntmps8
      go_wp2_with (first | (go_at_call 11; refine (FxL.awake_any _).mono ?_; rintro e w' ⟨rfl, rfl⟩) | (go_at_call 20; refine (FxW.hold_any _ _).mono ?_; rintro e w' ⟨rfl, rfl⟩) | (go_at_call 28; refine (FxW.betw_any _ _ _ (by omega) (by omega) _).mono ?_; rintro e w' ⟨rfl, rfl⟩))
      go_ret
      exact ⟨rfl, Grown.refl _⟩
    · have hp' : (a2 == 255) = false := by simp [hp]
      obtain ⟨f1, f2, f3⟩ := betw_up (p := a2 + 1) h' (by omega) (by omega)
      have g : Fx.betw a0 a1 a2 ≤ Fx.betw a0 a1 (a2 + 1) := by
        rw [e1, f1]
        have := Int.mul_le_mul_of_nonneg_left (show a2 ≤ a2 + 1 by omega) (show 0 ≤ Fx.hold a1 - Fx.hold a0 by omega)
        omega
      have em : (a2 + 1) % 256 = a2 + 1 := by omega
      rw [← em] at g
      clear e1 f1 f2 f3 em hp
      go_enter Try.func8, Try.ntmps8
      go_wp2_with (first | (go_at_call 11; refine (FxL.awake_any _).mono ?_; rintro e w' ⟨rfl, rfl⟩) | (go_at_call 20; refine (FxW.hold_any _ _).mono ?_; rintro e w' ⟨rfl, rfl⟩) | (go_at_call 28; refine (FxW.betw_any _ _ _ (by omega) (by omega) _).mono ?_; rintro e w' ⟨rfl, rfl⟩))
      go_ret
      exact ⟨rfl, Grown.refl _⟩
  · have h' : Fx.hold a0 ≤ Fx.hold a1 := Int.le_of_eq h
    obtain ⟨e1, e2, e3⟩ := betw_up h' p1 p2
    have h'' : Fx.hold a1 ≤ Fx.hold a0 := Int.le_of_eq h.symm
    by_cases hp : a2 = 255
    · subst hp
      clear e1 h
      go_enter Try.func8, Try.ntmps8
      go_wp2_with (first | (go_at_call 11; refine (FxL.awake_any _).mono ?_; rintro e w' ⟨rfl, rfl⟩) | (go_at_call 20; refine (FxW.hold_any _ _).mono ?_; rintro e w' ⟨rfl, rfl⟩) | (go_at_call 28; refine (FxW.betw_any _ _ _ (by omega) (by omega) _).mono ?_; rintro e w' ⟨rfl, rfl⟩))
      go_ret
      exact ⟨rfl, Grown.refl _⟩
    · have hp' : (a2 == 255) = false := by simp [hp]
      obtain ⟨f1, f2, f3⟩ := betw_up (p := a2 + 1) h' (by omega) (by omega)
      have g : Fx.betw a0 a1 a2 ≤ Fx.betw a0 a1 (a2 + 1) := by
        rw [e1, f1]
        have := Int.mul_le_mul_of_nonneg_left (show a2 ≤ a2 + 1 by omega) (show 0 ≤ Fx.hold a1 - Fx.hold a0 by omega)
        omega
      have em : (a2 + 1) % 256 = a2 + 1 := by omega
      rw [← em] at g
      clear e1 f1 f2 f3 em hp h
      go_enter Try.func8, Try.ntmps8
      go_wp2_with (first | (go_at_call 11; refine (FxL.awake_any _).mono ?_; rintro e w' ⟨rfl, rfl⟩) | (go_at_call 20; refine (FxW.hold_any _ _).mono ?_; rintro e w' ⟨rfl, rfl⟩) | (go_at_call 28; refine (FxW.betw_any _ _ _ (by omega) (by omega) _).mono ?_; rintro e w' ⟨rfl, rfl⟩))
      go_ret
      exact ⟨rfl, Grown.refl _⟩
  · have h' : Fx.hold a1 ≤ Fx.hold a0 := Int.le_of_lt h
    obtain ⟨e1, e2, e3⟩ := betw_down h' p1 p2
    by_cases hp : a2 = 255
    · subst hp
      clear e1
      go_enter Try.func8, Try.ntmps8
      go_wp2_with (first | (go_at_call 11; refine (FxL.awake_any _).mono ?_; rintro e w' ⟨rfl, rfl⟩) | (go_at_call 20; refine (FxW.hold_any _ _).mono ?_; rintro e w' ⟨rfl, rfl⟩) | (go_at_call 28; refine (FxW.betw_any _ _ _ (by omega) (by omega) _).mono ?_; rintro e w' ⟨rfl, rfl⟩))
      go_ret
      exact ⟨rfl, Grown.refl _⟩
    · have hp' : (a2 == 255) = false := by simp [hp]
      obtain ⟨f1, f2, f3⟩ := betw_down (p := a2 + 1) h' (by omega) (by omega)
      have g : Fx.betw a0 a1 (a2 + 1) ≤ Fx.betw a0 a1 a2 := by
        rw [e1, f1]
        have := Int.mul_le_mul_of_nonneg_left (show a2 ≤ a2 + 1 by omega) (show 0 ≤ -(Fx.hold a1 - Fx.hold a0) by omega)
        rw [Int.neg_mul, Int.neg_mul] at this
        omega
      have em : (a2 + 1) % 256 = a2 + 1 := by omega
      rw [← em] at g
      clear e1 f1 f2 f3 em hp
      go_enter Try.func8, Try.ntmps8
      go_wp2_with (first | (go_at_call 11; refine (FxL.awake_any _).mono ?_; rintro e w' ⟨rfl, rfl⟩) | (go_at_call 20; refine (FxW.hold_any _ _).mono ?_; rintro e w' ⟨rfl, rfl⟩) | (go_at_call 28; refine (FxW.betw_any _ _ _ (by omega) (by omega) _).mono ?_; rintro e w' ⟨rfl, rfl⟩))
      go_ret
      exact ⟨rfl, Grown.refl _⟩

set_option maxRecDepth 100000 in
theorem lifted (os : Os) (started : os.Started) (H : Type) (enc : TypeId × Value → H) :
    ReturnsInHanded {} Try.checked os 8 .any (Rows.fixWaysSpec.pre6 enc Try.prog Try.f8 Rows.fixWaysRow.domain false) (Rows.fixWaysSpec.post enc Try.prog Try.f8 false true false false) := by
  refine returnsInHanded_of_change (C := Try.checked) own started (by kernel_rfl) Try.func8
    (ChangeSpec.witness6 (enc := enc) (C := Try.checked) false ⟨#[], #[.int .i64 0, .int .i64 0, .int .u8 0], []⟩ 8 (by kernel_rfl) (by kernel_rfl) (by kernel_rfl) (by kernel_rfl)) ?_
  intro W base args ds gs before hval0 hW hcnd _
  have hval : ∀ (j : Nat) t v, Try.f8.params[j]? = some t → args[j]? = some v → Value.okWide Try.prog W .any base t v := hval0
  have hW' := hW
  obtain ⟨p, q, hA0, hV, rfl, hfz, hnd⟩ := hW
  have hA : DataW.TrodAll enc Try.prog W 0 (fun _ => true) true Try.f8.params.toList args.toList ds p := hA0
  rw [Try.params8] at hA hval
  obtain ⟨v0, vs0, d0, ds0, p0, q0, hargs, rfl, rfl, h0, r0⟩ := trodAll_cons hA
  obtain ⟨v1, vs1, d1, ds1, p1, q1, rfl, rfl, rfl, h1, r1⟩ := trodAll_cons r0
  obtain ⟨v2, vs2, d2, ds2, p2, q2, rfl, rfl, rfl, h2, r2⟩ := trodAll_cons r1
  obtain ⟨rfl, rfl, rfl⟩ := trodAll_nil r2
  obtain rfl : args = #[v0, v1, v2] := by cases args; simp_all
  obtain ⟨rfl, rfl⟩ := trodVars_none hV
  obtain ⟨a0, rfl, rfl, rfl, w0⟩ := open_int Try.underlying22 (hval 0 22 v0 rfl rfl) h0
  obtain ⟨a1, rfl, rfl, rfl, w1⟩ := open_int Try.underlying22 (hval 1 22 v1 rfl rfl) h1
  obtain ⟨a2, rfl, rfl, rfl, w2⟩ := open_int Try.underlying5 (hval 2 5 v2 rfl rfl) h2
  clear hA0 hval0
  simp only [List.append_nil] at hW'
  refine (walk a0 a1 a2 w0 w1 w2 W).mono fun e W' ⟨he, hg⟩ => ?_
  subst he
  exact ⟨_, rfl, post_of_same (pa := []) (pv := []) hW' (fun _ _ _ => (trodAll_cons_mk (shut_bool Try.underlying4 _) trodAll_mk0)) (fun sp _ => (trodAll_cons_mk (shut_int Try.underlying22 w0) (trodAll_cons_mk (shut_int Try.underlying22 w1) (trodAll_cons_mk (shut_int Try.underlying5 w2) trodAll_mk0)))) (fun _ _ => rfl) rfl
    (hg.frame _) hg.2.1 (ok_one (by kernel_rfl) rfl (okWide_bool_mk Try.underlying4 _))⟩

theorem over : Rows.fixWaysRow.holds Try.pinned (OpenSpec.ofChange Rows.fixWaysSpec) :=
  OpenClaim.holds_of_wide 8 Try.f8 rfl rfl rfl rfl rfl rfl rfl ⟨rfl, rfl, rfl, rfl, rfl⟩ rfl rfl rfl rfl rfl (by kernel_rfl) Try.func8 (by kernel_rfl)
    (of_decide_eq_true (by kernel_rfl)) (by unfold Func.isWrapper; first | (rw [if_pos (by decide +kernel)]; kernel_rfl) | (rw [if_neg (by decide +kernel)]; exact ⟨rfl, rfl⟩))
    (fun os started H enc _ => lifted os started H enc)

theorem proved : Rows.FixWaysSaid :=
  over
#print axioms proved
end Go.Proofs.Ytampnibhaejheaa.fixWays

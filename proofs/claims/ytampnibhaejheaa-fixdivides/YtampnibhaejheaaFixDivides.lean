/- Whatever numbers are handed in, FixDivides answers true: a quotient that is not held, times the divisor, is not above the number, and with one more it is. No condition. -/
import Derived.Test.YtampnibhaejheaaRows
import Derived.WalkKit
import Derived.Test.YtampnibhaejheaaLawIn
import Derived.ProofKit
import Derived.OpenShut
namespace Go.Proofs.Ytampnibhaejheaa.fixDivides
open Go.ChangeShapes Go.WideShapes Go.ChangeAt Go.RowKit
set_option linter.unusedVariables false      -- a walk need not use every 'w<i>' (that an integer argument fits its kind)

theorem own : ownKnob Try.prog.godebug = none := by kernel_rfl

theorem div_ok {a b : Int} (h1 : -2147483648 ≤ a) (h2 : a ≤ 2147483647) (h3 : 1 ≤ b) (h4 : b ≤ 2147483647) (n1 : Fx.div a b ≠ 2147483647) (n2 : Fx.div a b ≠ -2147483648) :
    Fx.div a b * b ≤ a * 65536 ∧ a * 65536 < (Fx.div a b + 1) * b := by
  have e := FxR.div_pos a b (by rw [Fx.hold_of (by omega) h4]; omega)
  rw [Fx.hold_of h1 h2, Fx.hold_of (x := b) (by omega) h4] at e
  have q : Fx.div a b = a * 65536 / b := by
    rw [e] at n1 n2 ⊢
    unfold Fx.hold at n1 n2 ⊢
    split at n1
    · omega
    · split at n1
      · omega
      · rw [if_neg ‹_›, if_neg ‹_›]
  have m1 := Int.mul_ediv_add_emod (a * 65536) b
  have m2 := Int.emod_nonneg (a * 65536) (b := b) (by omega)
  have m3 := Int.emod_lt_of_pos (a * 65536) (b := b) (by omega)
  rw [q, Int.add_mul, Int.mul_comm (a * 65536 / b) b]
  omega

set_option maxHeartbeats 1000000 in
theorem walk (a0 : Int) (a1 : Int) (w0 : (Lit.int .i64 a0).wf = true) (w1 : (Lit.int .i64 a1).wf = true) (w : World) :
    Calls Try.prog 9 #[.int .i64 a0, .int .i64 a1] w fun e w' => e = .returned (.bool true) ∧ Grown w w' := by
  by_cases ha : FxL.inB a0 = true
  · by_cases hb : FxL.inB a1 = true
    · by_cases hl : a1 < 1
      · go_enter Try.func9, Try.ntmps9
        go_wp2_with (first | (go_at_call 11; refine (FxL.awake_any _).mono ?_; rintro e w' ⟨rfl, rfl⟩) | (go_at_call 30; refine (FxL.in_any _ _).mono ?_; rintro e w' ⟨rfl, rfl⟩))
        go_ret
        exact ⟨rfl, Grown.refl _⟩
      · have a1' : -2147483648 ≤ a0 := by simp [FxL.inB] at ha; omega
        have a2' : a0 ≤ 2147483647 := by simp [FxL.inB] at ha; omega
        have b2' : a1 ≤ 2147483647 := by simp [FxL.inB] at hb; omega
        have d1 := Fx.div_lo a0 a1
        have d2 := Fx.div_hi a0 a1
        by_cases n1 : Fx.div a0 a1 = 2147483647
        · have n1' : (Fx.div a0 a1 == 2147483647) = true := by simp [n1]
          clear n1
          go_enter Try.func9, Try.ntmps9
          go_wp2_with (first | (go_at_call 11; refine (FxL.awake_any _).mono ?_; rintro e w' ⟨rfl, rfl⟩) | (go_at_call 30; refine (FxL.in_any _ _).mono ?_; rintro e w' ⟨rfl, rfl⟩) | (go_at_call 18; refine (FxW.div_any _ _ _).mono ?_; rintro e w' ⟨rfl, rfl⟩))
          go_ret
          exact ⟨rfl, Grown.refl _⟩
        · have n1' : (Fx.div a0 a1 == 2147483647) = false := by simp [n1]
          by_cases n2 : Fx.div a0 a1 = -2147483648
          · have n2' : (Fx.div a0 a1 == -2147483648) = true := by simp [n2]
            clear n1 n2
            go_enter Try.func9, Try.ntmps9
            go_wp2_with (first | (go_at_call 11; refine (FxL.awake_any _).mono ?_; rintro e w' ⟨rfl, rfl⟩) | (go_at_call 30; refine (FxL.in_any _ _).mono ?_; rintro e w' ⟨rfl, rfl⟩) | (go_at_call 18; refine (FxW.div_any _ _ _).mono ?_; rintro e w' ⟨rfl, rfl⟩))
            go_ret
            exact ⟨rfl, Grown.refl _⟩
          · have n2' : (Fx.div a0 a1 == -2147483648) = false := by simp [n2]
            obtain ⟨q1, q2⟩ := div_ok a1' a2' (by omega) b2' n1 n2
            obtain ⟨q3, q4⟩ := Fx.mul_le_of (x := Fx.div a0 a1) (y := a1) (m := 2147483648) (by omega) (by omega) (by omega) (by omega)
            obtain ⟨q5, q6⟩ := Fx.mul_le_of (x := Fx.div a0 a1 + 1) (y := a1) (m := 2147483648) (by omega) (by omega) (by omega) (by omega)
            clear n1 n2
            go_enter Try.func9, Try.ntmps9
            go_wp2_with (first | (go_at_call 11; refine (FxL.awake_any _).mono ?_; rintro e w' ⟨rfl, rfl⟩) | (go_at_call 30; refine (FxL.in_any _ _).mono ?_; rintro e w' ⟨rfl, rfl⟩) | (go_at_call 18; refine (FxW.div_any _ _ _).mono ?_; rintro e w' ⟨rfl, rfl⟩))
            go_ret
            exact ⟨rfl, Grown.refl _⟩
    · have hb' : FxL.inB a1 = false := by simpa using hb
      clear hb
      go_enter Try.func9, Try.ntmps9
      go_wp2_with (first | (go_at_call 11; refine (FxL.awake_any _).mono ?_; rintro e w' ⟨rfl, rfl⟩) | (go_at_call 30; refine (FxL.in_any _ _).mono ?_; rintro e w' ⟨rfl, rfl⟩))
      go_ret
      exact ⟨rfl, Grown.refl _⟩
  · have ha' : FxL.inB a0 = false := by simpa using ha
    clear ha
    go_enter Try.func9, Try.ntmps9
    go_wp2_with (first | (go_at_call 11; refine (FxL.awake_any _).mono ?_; rintro e w' ⟨rfl, rfl⟩) | (go_at_call 30; refine (FxL.in_any _ _).mono ?_; rintro e w' ⟨rfl, rfl⟩))
    go_ret
    exact ⟨rfl, Grown.refl _⟩

set_option maxRecDepth 100000 in
theorem lifted (os : Os) (started : os.Started) (H : Type) (enc : TypeId × Value → H) :
    ReturnsInHanded {} Try.checked os 9 .any (Rows.fixDividesSpec.pre6 enc Try.prog Try.f9 Rows.fixDividesRow.domain false) (Rows.fixDividesSpec.post enc Try.prog Try.f9 false true false false) := by
  refine returnsInHanded_of_change (C := Try.checked) own started (by kernel_rfl) Try.func9
    (ChangeSpec.witness6 (enc := enc) (C := Try.checked) false ⟨#[], #[.int .i64 0, .int .i64 0], []⟩ 8 (by kernel_rfl) (by kernel_rfl) (by kernel_rfl) (by kernel_rfl)) ?_
  intro W base args ds gs before hval0 hW hcnd _
  have hval : ∀ (j : Nat) t v, Try.f9.params[j]? = some t → args[j]? = some v → Value.okWide Try.prog W .any base t v := hval0
  have hW' := hW
  obtain ⟨p, q, hA0, hV, rfl, hfz, hnd⟩ := hW
  have hA : DataW.TrodAll enc Try.prog W 0 (fun _ => true) true Try.f9.params.toList args.toList ds p := hA0
  rw [Try.params9] at hA hval
  obtain ⟨v0, vs0, d0, ds0, p0, q0, hargs, rfl, rfl, h0, r0⟩ := trodAll_cons hA
  obtain ⟨v1, vs1, d1, ds1, p1, q1, rfl, rfl, rfl, h1, r1⟩ := trodAll_cons r0
  obtain ⟨rfl, rfl, rfl⟩ := trodAll_nil r1
  obtain rfl : args = #[v0, v1] := by cases args; simp_all
  obtain ⟨rfl, rfl⟩ := trodVars_none hV
  obtain ⟨a0, rfl, rfl, rfl, w0⟩ := open_int Try.underlying22 (hval 0 22 v0 rfl rfl) h0
  obtain ⟨a1, rfl, rfl, rfl, w1⟩ := open_int Try.underlying22 (hval 1 22 v1 rfl rfl) h1
  clear hA0 hval0
  simp only [List.append_nil] at hW'
  refine (walk a0 a1 w0 w1 W).mono fun e W' ⟨he, hg⟩ => ?_
  subst he
  exact ⟨_, rfl, post_of_same (pa := []) (pv := []) hW' (fun _ _ _ => (trodAll_cons_mk (shut_bool Try.underlying4 _) trodAll_mk0)) (fun sp _ => (trodAll_cons_mk (shut_int Try.underlying22 w0) (trodAll_cons_mk (shut_int Try.underlying22 w1) trodAll_mk0))) (fun _ _ => rfl) rfl
    (hg.frame _) hg.2.1 (ok_one (by kernel_rfl) rfl (okWide_bool_mk Try.underlying4 _))⟩

theorem over : Rows.fixDividesRow.holds Try.pinned (OpenSpec.ofChange Rows.fixDividesSpec) :=
  OpenClaim.holds_of_wide 9 Try.f9 rfl rfl rfl rfl rfl rfl rfl ⟨rfl, rfl, rfl, rfl, rfl⟩ rfl rfl rfl rfl rfl (by kernel_rfl) Try.func9 (by kernel_rfl)
    (of_decide_eq_true (by kernel_rfl)) (by unfold Func.isWrapper; first | (rw [if_pos (by decide +kernel)]; kernel_rfl) | (rw [if_neg (by decide +kernel)]; exact ⟨rfl, rfl⟩))
    (fun os started H enc _ => lifted os started H enc)

theorem proved : Rows.FixDividesSaid :=
  over
#print axioms proved
end Go.Proofs.Ytampnibhaejheaa.fixDivides

/- For all numbers a, b and c the law CrcMixes answers true. -/
import Derived.Test.YtbiidllbcnlaeaaRows
import Derived.Test.YtbiidllbcnlaeaaCrcLaw
import Derived.WalkKit
import Derived.ProofKit
import Derived.OpenShut
import Derived.ChangeOld
import Derived.Below
import Derived.WalkSmall
import Derived.Lib.SmallJoins
import Derived.Laws.IdiomArrays
namespace Go.Proofs.Ytbiidllbcnlaeaa.crcMixes
open Go.ChangeShapes Go.WideShapes Go.ChangeAt Go.RowKit
set_option linter.unusedVariables false

theorem own : ownKnob Try.prog.godebug = none := by kernel_rfl
theorem laidOut : laidOutB Try.prog = true := by kernel_rfl

theorem four4_inj {a b : Nat} (ha : a < 4294967296) (hb : b < 4294967296) (h0 : a % 256 = b % 256) (h1 : a / 256 % 256 = b / 256 % 256) (h2 : a / 65536 % 256 = b / 65536 % 256) (h3 : a / 16777216 % 256 = b / 16777216 % 256) : a = b := by omega
theorem first_told {a b c : Nat} (ha : a < 4294967296) (hb : b < 4294967296) (h : a ≠ b) : Cr.sum (Cr.four4 a ++ Cr.four4 c) ≠ Cr.sum (Cr.four4 b ++ Cr.four4 c) := by
  intro e
  obtain ⟨h0, h1, h2, h3⟩ := Cr.tells (pre := []) (post := Cr.four4 c) (by simp) (Cr.four4_lt c) (by omega) (by omega) (by omega) (by omega) (by omega) (by omega) (by omega) (by omega) e
  exact h (four4_inj ha hb h0 h1 h2 h3)
theorem last_told {a b c : Nat} (ha : a < 4294967296) (hb : b < 4294967296) (h : a ≠ b) : Cr.sum (Cr.four4 c ++ Cr.four4 a) ≠ Cr.sum (Cr.four4 c ++ Cr.four4 b) := by
  intro e
  obtain ⟨h0, h1, h2, h3⟩ := Cr.tells (pre := Cr.four4 c) (post := []) (Cr.four4_lt c) (by simp) (by omega) (by omega) (by omega) (by omega) (by omega) (by omega) (by omega) (by omega) e
  exact h (four4_inj ha hb h0 h1 h2 h3)

set_option maxHeartbeats 2000000 in
theorem walk (a0 : Int) (a1 : Int) (a2 : Int) (w0 : (Lit.int .u32 a0).wf = true) (w1 : (Lit.int .u32 a1).wf = true) (w2 : (Lit.int .u32 a2).wf = true) (w : World) :
    Calls Try.prog 5 #[.int .u32 a0, .int .u32 a1, .int .u32 a2] w fun e w' => e = .returned (.bool true) ∧ Below w.heap.size w w' := by
  obtain ⟨a, rfl, ha⟩ := u32_nat w0
  obtain ⟨b, rfl, hb⟩ := u32_nat w1
  obtain ⟨c, rfl, hc⟩ := u32_nat w2
  clear w0 w1 w2
  by_cases h : a = b
  · subst h
    go_enter Try.func5, Try.ntmps5
    go_wp2_with (first | (go_at_call 7; refine (CrL.awake_any _).mono ?_; rintro e w' ⟨rfl, HB⟩) | (go_at_call 10; with_reducible refine (CrW.mix_any a c ha hc _).mono ?_; rintro e w' ⟨rfl, rfl⟩) | (go_at_call 10; with_reducible refine (CrW.mix_any c a hc ha _).mono ?_; rintro e w' ⟨rfl, rfl⟩))
    go_ret
    exact ⟨rfl, HB⟩
  · have h0 : ((a : Int) == (b : Int)) = false := by rw [beq_eq_false_iff_ne]; omega
    have h1 : (((Cr.sum (Cr.four4 a ++ Cr.four4 c) : Nat) : Int) == ((Cr.sum (Cr.four4 b ++ Cr.four4 c) : Nat) : Int)) = false := by
      have := first_told (c := c) ha hb h
      rw [beq_eq_false_iff_ne]; omega
    have h2 : (((Cr.sum (Cr.four4 c ++ Cr.four4 a) : Nat) : Int) == ((Cr.sum (Cr.four4 c ++ Cr.four4 b) : Nat) : Int)) = false := by
      have := last_told (c := c) ha hb h
      rw [beq_eq_false_iff_ne]; omega
    go_enter Try.func5, Try.ntmps5
    go_wp2_with (first | (go_at_call 7; refine (CrL.awake_any _).mono ?_; rintro e w' ⟨rfl, HB⟩) | (go_at_call 10; with_reducible refine (CrW.mix_any a c ha hc _).mono ?_; rintro e w' ⟨rfl, rfl⟩) | (go_at_call 10; with_reducible refine (CrW.mix_any b c hb hc _).mono ?_; rintro e w' ⟨rfl, rfl⟩) | (go_at_call 10; with_reducible refine (CrW.mix_any c a hc ha _).mono ?_; rintro e w' ⟨rfl, rfl⟩) | (go_at_call 10; with_reducible refine (CrW.mix_any c b hc hb _).mono ?_; rintro e w' ⟨rfl, rfl⟩))
    go_ret
    exact ⟨rfl, HB⟩

set_option maxRecDepth 100000 in
theorem lifted (os : Os) (started : os.Started) (H : Type) (enc : TypeId × Value → H) :
    ReturnsInHanded {} Try.checked os 5 .any (Rows.crcMixesSpec.pre6 enc Try.prog Try.f5 Rows.crcMixesRow.domain false) (Rows.crcMixesSpec.post enc Try.prog Try.f5 false true false false) := by
  refine returnsInHanded_of_change (C := Try.checked) own started (by kernel_rfl) Try.func5
    (ChangeSpec.witness6 (enc := enc) (C := Try.checked) false ⟨#[], #[.int .u32 0, .int .u32 0, .int .u32 0], []⟩ 8 (by kernel_rfl) (by kernel_rfl) (by kernel_rfl) (by kernel_rfl)) ?_
  intro W base args ds gs before hval0 hW hcnd _
  have hval : ∀ (j : Nat) t v, Try.f5.params[j]? = some t → args[j]? = some v → Value.okWide Try.prog W .any base t v := hval0
  have hW' := hW
  obtain ⟨p, q, hA0, hV, rfl, hfz, hnd⟩ := hW
  have hA : DataW.TrodAll enc Try.prog W 0 (fun _ => true) true Try.f5.params.toList args.toList ds p := hA0
  rw [Try.params5] at hA hval
  obtain ⟨v0, vs0, d0, ds0, p0, q0, hargs, rfl, rfl, h0, r0⟩ := trodAll_cons hA
  obtain ⟨v1, vs1, d1, ds1, p1, q1, rfl, rfl, rfl, h1, r1⟩ := trodAll_cons r0
  obtain ⟨v2, vs2, d2, ds2, p2, q2, rfl, rfl, rfl, h2, r2⟩ := trodAll_cons r1
  obtain ⟨rfl, rfl, rfl⟩ := trodAll_nil r2
  obtain rfl : args = #[v0, v1, v2] := by cases args; simp_all
  obtain ⟨rfl, rfl⟩ := trodVars_none hV
  have k0 := h0
  have lt0 : ∀ x ∈ p0, x.block < W.heap.size := by obtain ⟨m, hm⟩ := k0; exact DataW.trod_lt m _ _ _ hm
  have k1 := h1
  have lt1 : ∀ x ∈ p1, x.block < W.heap.size := by obtain ⟨m, hm⟩ := k1; exact DataW.trod_lt m _ _ _ hm
  have k2 := h2
  have lt2 : ∀ x ∈ p2, x.block < W.heap.size := by obtain ⟨m, hm⟩ := k2; exact DataW.trod_lt m _ _ _ hm
  obtain ⟨a0, rfl, _, _, w0⟩ := open_int Try.underlying23 (hval 0 23 v0 rfl rfl) h0
  obtain ⟨a1, rfl, _, _, w1⟩ := open_int Try.underlying23 (hval 1 23 v1 rfl rfl) h1
  obtain ⟨a2, rfl, _, _, w2⟩ := open_int Try.underlying23 (hval 2 23 v2 rfl rfl) h2
  clear hA0 hval0
  refine (walk a0 a1 a2 w0 w1 w2 W).mono fun e W' ⟨he, bel⟩ => ?_
  subst he
  exact ⟨_, rfl, _, _, _, [], _, [], hW', trodAll_mk1 (shut_bool Try.underlying4 _), (trodAll_cons_mk (Below.trod laidOut (by kernel_rfl) (of_decide_eq_true (by kernel_rfl)) k0 bel lt0) (trodAll_cons_mk (Below.trod laidOut (by kernel_rfl) (of_decide_eq_true (by kernel_rfl)) k1 bel lt1) (trodAll_cons_mk (Below.trod laidOut (by kernel_rfl) (of_decide_eq_true (by kernel_rfl)) k2 bel lt2) trodAll_mk0))), rfl, bel.frame _, fun h => by cases h⟩

theorem over : Rows.crcMixesRow.holds Try.pinned (OpenSpec.ofChange Rows.crcMixesSpec) :=
  OpenClaim.holds_of_wide 5 Try.f5 rfl rfl rfl rfl rfl rfl rfl ⟨rfl, rfl, rfl, rfl, rfl⟩ rfl rfl rfl rfl rfl (by kernel_rfl) Try.func5 (by kernel_rfl)
    (of_decide_eq_true (by kernel_rfl)) (by unfold Func.isWrapper; first | (rw [if_pos (by decide +kernel)]; kernel_rfl) | (rw [if_neg (by decide +kernel)]; exact ⟨rfl, rfl⟩))
    (fun os started H enc _ => lifted os started H enc)

theorem proved : Rows.CrcMixesSaid :=
  over
#print axioms proved
end Go.Proofs.Ytbiidllbcnlaeaa.crcMixes

/- No channel does nothing, whatever header is taken. -/
import Derived.Test.YtloobijdpchppaaRows
import Derived.Test.YtloobijdpchppaaChLaw
import Derived.WalkKit
import Derived.ProofKit
import Derived.OpenShut
import Derived.ChangeOld
import Derived.Below
import Derived.WalkSmall
import Derived.Lib.SmallJoins
import Derived.Laws.IdiomArrays
namespace Go.Proofs.Ytloobijdpchppaa.channelNil
open Go.ChangeShapes Go.WideShapes Go.ChangeAt Go.RowKit
set_option linter.unusedVariables false

theorem own : ownKnob Try.prog.godebug = none := by kernel_rfl
theorem laidOut : laidOutB Try.prog = true := by kernel_rfl

theorem leaf_of {k : IntKind} {v : Value} (h : (Leaf.int k).ok v) : ∃ z, v = .int k z ∧ (Lit.int k z).wf = true := h
theorem leafb_of {v : Value} (h : Leaf.bool.ok v) : ∃ b, v = .bool b := h
theorem flat0_of (cs : List Value) (h : AllOk [.int .u16, .bool, .int .u16, .int .u32] cs) : ∃ x0 x1 x2 x3, cs = [.int .u16 x0, .bool x1, .int .u16 x2, .int .u32 x3] ∧ (Lit.int .u16 x0).wf = true ∧ (Lit.int .u16 x2).wf = true ∧ (Lit.int .u32 x3).wf = true := by
  have hl := h.length
  obtain ⟨c0, c1, c2, c3, rfl⟩ : ∃ c0 c1 c2 c3, cs = [c0, c1, c2, c3] := by
    match cs, hl with
    | [c0, c1, c2, c3], _ => exact ⟨c0, c1, c2, c3, rfl⟩
  obtain ⟨x0, e0, y0⟩ := leaf_of h.1
  obtain ⟨x1, e1⟩ := leafb_of h.2.1
  obtain ⟨x2, e2, y2⟩ := leaf_of h.2.2.1
  obtain ⟨x3, e3, y3⟩ := leaf_of h.2.2.2.1
  exact ⟨x0, x1, x2, x3, by rw [e0, e1, e2, e3], y0, y2, y3⟩

set_option maxRecDepth 20000 in
set_option maxHeartbeats 4000000 in
theorem walk (a0_0 : Int) (a0_1 : Bool) (a0_2 : Int) (a0_3 : Int) (w0_0 : (Lit.int .u16 a0_0).wf = true) (w0_2 : (Lit.int .u16 a0_2).wf = true) (w0_3 : (Lit.int .u32 a0_3).wf = true) (w : World) :
    Calls Try.prog 6 #[.agg #[.int .u16 a0_0, .bool a0_1, .int .u16 a0_2, .int .u32 a0_3]] w fun e w' => e = .returned (.bool true) ∧ Below w.heap.size w w' := by
  have heq := hd_eql
  have hwf := win_field
  have HT0 : Turned [] w w := Turned.refl _ _
  go_enter Try.func6, Try.ntmps6
  go_wp2_with (first | (go_at_call 8; (with_reducible refine (ChL.awake_any _).mono ?_); rintro e u0 ⟨rfl, HT1⟩; have HT0 := HT0.trans HT1 (by simp)) | (go_at_call 11; (with_reducible refine (ChW.take_nil _ _ _ _ _).mono ?_); rintro e u0 ⟨rfl, HT1⟩; have HT0 := (HT0.alloc _).trans HT1 (by simp)) | (go_at_call 9; (with_reducible refine (ChW.send_nil _).mono ?_); rintro e u0 ⟨rfl, HT1⟩; have HT0 := HT0.trans HT1 (by simp)) | (go_at_call 14; (with_reducible refine (ChW.open_nil _).mono ?_); rintro e u9 ⟨rfl, hu⟩; rw [hu]; clear hu u9) | (go_at_call 16; (with_reducible refine (ChW.window_nil _).mono ?_); rintro e u0 ⟨rfl, HT1⟩; have HT0 := HT0.trans (Turned.ofBelow HT1) (by simp)))
  go_ret
  exact ⟨rfl, HT0.none⟩

set_option maxRecDepth 100000 in
theorem lifted (os : Os) (started : os.Started) (H : Type) (enc : TypeId × Value → H) :
    ReturnsInHanded {} Try.checked os 6 .any (Rows.channelNilSpec.pre6 enc Try.prog Try.f6 Rows.channelNilRow.domain false) (Rows.channelNilSpec.post enc Try.prog Try.f6 false true false false) := by
  refine returnsInHanded_of_change (C := Try.checked) own started (by kernel_rfl) Try.func6
    (ChangeSpec.witness6 (enc := enc) (C := Try.checked) false ⟨#[], #[.agg #[.int .u16 0, .bool false, .int .u16 0, .int .u32 0]], []⟩ 8 (by kernel_rfl) (by kernel_rfl) (by kernel_rfl) (by kernel_rfl)) ?_
  intro W base args ds gs before hval0 hW hcnd _
  have hval : ∀ (j : Nat) t v, Try.f6.params[j]? = some t → args[j]? = some v → Value.okWide Try.prog W .any base t v := hval0
  have hW' := hW
  obtain ⟨p, q, hA0, hV, rfl, hfz, hnd⟩ := hW
  have hA : DataW.TrodAll enc Try.prog W 0 (fun _ => true) true Try.f6.params.toList args.toList ds p := hA0
  rw [Try.params6] at hA hval
  obtain ⟨v0, vs0, d0, ds0, p0, q0, hargs, rfl, rfl, h0, r0⟩ := trodAll_cons hA
  obtain ⟨rfl, rfl, rfl⟩ := trodAll_nil r0
  obtain rfl : args = #[v0] := by cases args; simp_all
  obtain ⟨rfl, rfl⟩ := trodVars_none hV
  have k0 := h0
  have lt0 : ∀ x ∈ p0, x.block < W.heap.size := by obtain ⟨m, hm⟩ := k0; exact DataW.trod_lt m _ _ _ hm
  obtain ⟨cs0, rfl, ok0⟩ := open_flat (d := 8) (ks := [.int .u16, .bool, .int .u16, .int .u32]) (Or.inl ⟨_, Try.underlying38⟩) (by kernel_rfl) (hval 0 38 v0 rfl rfl) h0
  obtain ⟨a0_0, a0_1, a0_2, a0_3, rfl, w0_0, w0_2, w0_3⟩ := flat0_of cs0 ok0
  clear hA0 hval0
  refine (walk a0_0 a0_1 a0_2 a0_3 w0_0 w0_2 w0_3 W).mono fun e W' ⟨he, bel⟩ => ?_
  subst he
  exact ⟨_, rfl, _, _, _, [], _, [], hW', trodAll_mk1 (shut_bool Try.underlying4 _), (trodAll_cons_mk (Below.trod laidOut (by kernel_rfl) (of_decide_eq_true (by kernel_rfl)) k0 bel lt0) trodAll_mk0), rfl, bel.frame _, fun h => by cases h⟩

theorem over : Rows.channelNilRow.holds Try.pinned (OpenSpec.ofChange Rows.channelNilSpec) :=
  OpenClaim.holds_of_wide 6 Try.f6 rfl rfl rfl rfl rfl rfl rfl ⟨rfl, rfl, rfl, rfl, rfl⟩ rfl rfl rfl rfl rfl (by kernel_rfl) Try.func6 (by kernel_rfl)
    (of_decide_eq_true (by kernel_rfl)) (by unfold Func.isWrapper; first | (rw [if_pos (by decide +kernel)]; kernel_rfl) | (rw [if_neg (by decide +kernel)]; exact ⟨rfl, rfl⟩))
    (fun os started H enc _ => lifted os started H enc)

theorem proved : Rows.ChannelNilSaid :=
  over
#print axioms proved
end Go.Proofs.Ytloobijdpchppaa.channelNil

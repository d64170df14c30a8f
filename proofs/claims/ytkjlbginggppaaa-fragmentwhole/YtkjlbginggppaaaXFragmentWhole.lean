/- Four messages' parts, of other ids, fed once each in whatever order, give each message just with its last part: FragmentWhole returns true for every input, without a panic and without changing its arguments. -/
import Derived.Test.YtkjlbginggppaaaJ6
import Derived.Test.YtkjlbginggppaaaRows
import Derived.WalkKit
import Derived.ProofKit
import Derived.OpenShut
import Derived.ChangeOld
import Derived.Below
import Derived.WalkSmall
import Derived.Lib.SmallJoins
import Derived.Laws.IdiomArrays
namespace Go.Proofs.Ytkjlbginggppaaa.fragmentWhole
open Go.ChangeShapes Go.WideShapes Go.ChangeAt Go.RowKit
set_option linter.unusedVariables false

theorem own : ownKnob Try.prog.godebug = none := by kernel_rfl
theorem laidOut : laidOutB Try.prog = true := by kernel_rfl

theorem leaf_of {k : IntKind} {v : Value} (h : (Leaf.int k).ok v) : ∃ z, v = .int k z ∧ (Lit.int k z).wf = true := h
theorem leafb_of {v : Value} (h : Leaf.bool.ok v) : ∃ b, v = .bool b := h
theorem flat0_of (cs : List Value) (h : AllOk [.int .u16, .int .u16, .int .u8, .int .u16, .int .u16, .int .u8, .int .u16, .int .u16, .int .u8, .int .u16, .int .u16, .int .u8] cs) : ∃ x0 x1 x2 x3 x4 x5 x6 x7 x8 x9 x10 x11, cs = [.int .u16 x0, .int .u16 x1, .int .u8 x2, .int .u16 x3, .int .u16 x4, .int .u8 x5, .int .u16 x6, .int .u16 x7, .int .u8 x8, .int .u16 x9, .int .u16 x10, .int .u8 x11] ∧ (Lit.int .u16 x0).wf = true ∧ (Lit.int .u16 x1).wf = true ∧ (Lit.int .u8 x2).wf = true ∧ (Lit.int .u16 x3).wf = true ∧ (Lit.int .u16 x4).wf = true ∧ (Lit.int .u8 x5).wf = true ∧ (Lit.int .u16 x6).wf = true ∧ (Lit.int .u16 x7).wf = true ∧ (Lit.int .u8 x8).wf = true ∧ (Lit.int .u16 x9).wf = true ∧ (Lit.int .u16 x10).wf = true ∧ (Lit.int .u8 x11).wf = true := by
  have hl := h.length
  obtain ⟨c0, c1, c2, c3, c4, c5, c6, c7, c8, c9, c10, c11, rfl⟩ : ∃ c0 c1 c2 c3 c4 c5 c6 c7 c8 c9 c10 c11, cs = [c0, c1, c2, c3, c4, c5, c6, c7, c8, c9, c10, c11] := by
    match cs, hl with
    | [c0, c1, c2, c3, c4, c5, c6, c7, c8, c9, c10, c11], _ => exact ⟨c0, c1, c2, c3, c4, c5, c6, c7, c8, c9, c10, c11, rfl⟩
  obtain ⟨x0, e0, y0⟩ := leaf_of h.1
  obtain ⟨x1, e1, y1⟩ := leaf_of h.2.1
  obtain ⟨x2, e2, y2⟩ := leaf_of h.2.2.1
  obtain ⟨x3, e3, y3⟩ := leaf_of h.2.2.2.1
  obtain ⟨x4, e4, y4⟩ := leaf_of h.2.2.2.2.1
  obtain ⟨x5, e5, y5⟩ := leaf_of h.2.2.2.2.2.1
  obtain ⟨x6, e6, y6⟩ := leaf_of h.2.2.2.2.2.2.1
  obtain ⟨x7, e7, y7⟩ := leaf_of h.2.2.2.2.2.2.2.1
  obtain ⟨x8, e8, y8⟩ := leaf_of h.2.2.2.2.2.2.2.2.1
  obtain ⟨x9, e9, y9⟩ := leaf_of h.2.2.2.2.2.2.2.2.2.1
  obtain ⟨x10, e10, y10⟩ := leaf_of h.2.2.2.2.2.2.2.2.2.2.1
  obtain ⟨x11, e11, y11⟩ := leaf_of h.2.2.2.2.2.2.2.2.2.2.2.1
  exact ⟨x0, x1, x2, x3, x4, x5, x6, x7, x8, x9, x10, x11, by rw [e0, e1, e2, e3, e4, e5, e6, e7, e8, e9, e10, e11], y0, y1, y2, y3, y4, y5, y6, y7, y8, y9, y10, y11⟩

/-- four numbers, by their place -/
def four (a b c d : Nat) : Nat → Nat
  | 0 => a
  | 1 => b
  | 2 => c
  | _ => d
theorem four_lt {a b c d n : Nat} (ha : a < n) (hb : b < n) (hc : c < n) (hd : d < n) : ∀ m, m < 4 → four a b c d m < n := by
  intro m hm
  match m, hm with
  | 0, _ => exact ha
  | 1, _ => exact hb
  | 2, _ => exact hc
  | 3, _ => exact hd

set_option linter.unusedSimpArgs false in
set_option maxRecDepth 20000 in
set_option maxHeartbeats 4000000 in
theorem walk (a0_0 : Int) (a0_1 : Int) (a0_2 : Int) (a0_3 : Int) (a0_4 : Int) (a0_5 : Int) (a0_6 : Int) (a0_7 : Int) (a0_8 : Int) (a0_9 : Int) (a0_10 : Int) (a0_11 : Int) (a1_o : Option Addr) (a1_n a1_c : Nat) (w0_0 : (Lit.int .u16 a0_0).wf = true) (w0_1 : (Lit.int .u16 a0_1).wf = true) (w0_2 : (Lit.int .u8 a0_2).wf = true) (w0_3 : (Lit.int .u16 a0_3).wf = true) (w0_4 : (Lit.int .u16 a0_4).wf = true) (w0_5 : (Lit.int .u8 a0_5).wf = true) (w0_6 : (Lit.int .u16 a0_6).wf = true) (w0_7 : (Lit.int .u16 a0_7).wf = true) (w0_8 : (Lit.int .u8 a0_8).wf = true) (w0_9 : (Lit.int .u16 a0_9).wf = true) (w0_10 : (Lit.int .u16 a0_10).wf = true) (w0_11 : (Lit.int .u8 a0_11).wf = true) (w1_m : a1_n ≤ maxLen) (w1_l : a1_n ≤ a1_c) (w : World) (w1 : Ints .u16 a1_o a1_n w) :
    Calls Try.prog 5 #[.agg #[.int .u16 a0_0, .int .u16 a0_1, .int .u8 a0_2, .int .u16 a0_3, .int .u16 a0_4, .int .u8 a0_5, .int .u16 a0_6, .int .u16 a0_7, .int .u8 a0_8, .int .u16 a0_9, .int .u16 a0_10, .int .u8 a0_11], .slice a1_o a1_n a1_c] w fun e w' => e = .returned (.bool true) ∧ Below w.heap.size w w' := by
  obtain ⟨q0, rfl, hq0⟩ := FgL.u16_nat w0_0
  obtain ⟨s0, rfl, hs0⟩ := FgL.u16_nat w0_1
  obtain ⟨x0, rfl, hx0⟩ := FgL.u8_nat w0_2
  obtain ⟨q1, rfl, hq1⟩ := FgL.u16_nat w0_3
  obtain ⟨s1, rfl, hs1⟩ := FgL.u16_nat w0_4
  obtain ⟨x1, rfl, hx1⟩ := FgL.u8_nat w0_5
  obtain ⟨q2, rfl, hq2⟩ := FgL.u16_nat w0_6
  obtain ⟨s2, rfl, hs2⟩ := FgL.u16_nat w0_7
  obtain ⟨x2, rfl, hx2⟩ := FgL.u8_nat w0_8
  obtain ⟨q3, rfl, hq3⟩ := FgL.u16_nat w0_9
  obtain ⟨s3, rfl, hs3⟩ := FgL.u16_nat w0_10
  obtain ⟨x3, rfl, hx3⟩ := FgL.u8_nat w0_11
  refine (FgL.whole_any (four q0 q1 q2 q3) (four s0 s1 s2 s3) (four x0 x1 x2 x3) (four_lt hq0 hq1 hq2 hq3) (four_lt hs0 hs1 hs2 hs3) (four_lt hx0 hx1 hx2 hx3) a1_o a1_n a1_c w w1_m w1_l w1).mono ?_
  rintro e w' ⟨rfl, ht⟩
  exact ⟨rfl, ht.none⟩

set_option maxRecDepth 100000 in
theorem lifted (os : Os) (started : os.Started) (H : Type) (enc : TypeId × Value → H) :
    ReturnsInHanded {} Try.checked os 5 .any (Rows.fragmentWholeSpec.pre6 enc Try.prog Try.f5 Rows.fragmentWholeRow.domain false) (Rows.fragmentWholeSpec.post enc Try.prog Try.f5 false true false false) := by
  refine returnsInHanded_of_change (C := Try.checked) own started (by kernel_rfl) Try.func5
    (ChangeSpec.witness6 (enc := enc) (C := Try.checked) false ⟨#[], #[.agg #[.int .u16 0, .int .u16 0, .int .u8 0, .int .u16 0, .int .u16 0, .int .u8 0, .int .u16 0, .int .u16 0, .int .u8 0, .int .u16 0, .int .u16 0, .int .u8 0], .slice none 0 0], []⟩ 8 (by kernel_rfl) (by kernel_rfl) (by kernel_rfl) (by kernel_rfl)) ?_
  intro W base args ds gs before hval0 hW hcnd _
  have hval : ∀ (j : Nat) t v, Try.f5.params[j]? = some t → args[j]? = some v → Value.okWide Try.prog W .any base t v := hval0
  have hW' := hW
  obtain ⟨p, q, hA0, hV, rfl, hfz, hnd⟩ := hW
  have hA : DataW.TrodAll enc Try.prog W 0 (fun _ => true) true Try.f5.params.toList args.toList ds p := hA0
  rw [Try.params5] at hA hval
  obtain ⟨v0, vs0, d0, ds0, p0, q0, hargs, rfl, rfl, h0, r0⟩ := trodAll_cons hA
  obtain ⟨v1, vs1, d1, ds1, p1, q1, rfl, rfl, rfl, h1, r1⟩ := trodAll_cons r0
  obtain ⟨rfl, rfl, rfl⟩ := trodAll_nil r1
  obtain rfl : args = #[v0, v1] := by cases args; simp_all
  obtain ⟨rfl, rfl⟩ := trodVars_none hV
  have k0 := h0
  have lt0 : ∀ x ∈ p0, x.block < W.heap.size := by obtain ⟨m, hm⟩ := k0; exact DataW.trod_lt m _ _ _ hm
  have k1 := h1
  have lt1 : ∀ x ∈ p1, x.block < W.heap.size := by obtain ⟨m, hm⟩ := k1; exact DataW.trod_lt m _ _ _ hm
  obtain ⟨cs0, rfl, ok0⟩ := open_flat (d := 8) (ks := [.int .u16, .int .u16, .int .u8, .int .u16, .int .u16, .int .u8, .int .u16, .int .u16, .int .u8, .int .u16, .int .u16, .int .u8]) (Or.inr ⟨_, _, Try.underlying52⟩) (by kernel_rfl) (hval 0 52 v0 rfl rfl) h0
  obtain ⟨a0_0, a0_1, a0_2, a0_3, a0_4, a0_5, a0_6, a0_7, a0_8, a0_9, a0_10, a0_11, rfl, w0_0, w0_1, w0_2, w0_3, w0_4, w0_5, w0_6, w0_7, w0_8, w0_9, w0_10, w0_11⟩ := flat0_of cs0 ok0
  obtain ⟨a1_o, a1_n, a1_c, rfl, w1_m, w1_l, w1⟩ := open_row Try.underlying53 Try.underlying22 (by kernel_rfl) (hval 1 53 v1 rfl rfl) h1
  clear hA0 hval0
  refine (walk a0_0 a0_1 a0_2 a0_3 a0_4 a0_5 a0_6 a0_7 a0_8 a0_9 a0_10 a0_11 a1_o a1_n a1_c w0_0 w0_1 w0_2 w0_3 w0_4 w0_5 w0_6 w0_7 w0_8 w0_9 w0_10 w0_11 w1_m w1_l W w1).mono fun e W' ⟨he, bel⟩ => ?_
  subst he
  exact ⟨_, rfl, _, _, _, [], _, [], hW', trodAll_mk1 (shut_bool Try.underlying4 _), (trodAll_cons_mk (Below.trod laidOut (by kernel_rfl) (of_decide_eq_true (by kernel_rfl)) k0 bel lt0) (trodAll_cons_mk (Below.trod laidOut (by kernel_rfl) (of_decide_eq_true (by kernel_rfl)) k1 bel lt1) trodAll_mk0)), rfl, bel.frame _, fun h => by cases h⟩

theorem over : Rows.fragmentWholeRow.holds Try.pinned (OpenSpec.ofChange Rows.fragmentWholeSpec) :=
  OpenClaim.holds_of_wide 5 Try.f5 rfl rfl rfl rfl rfl rfl rfl ⟨rfl, rfl, rfl, rfl, rfl⟩ rfl rfl rfl rfl rfl (by kernel_rfl) Try.func5 (by kernel_rfl)
    (of_decide_eq_true (by kernel_rfl)) (by unfold Func.isWrapper; first | (rw [if_pos (by decide +kernel)]; kernel_rfl) | (rw [if_neg (by decide +kernel)]; exact ⟨rfl, rfl⟩))
    (fun os started H enc _ => lifted os started H enc)

theorem proved : Rows.FragmentWholeSaid :=
  over
#print axioms proved
end Go.Proofs.Ytkjlbginggppaaa.fragmentWhole

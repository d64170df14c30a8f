/- Whatever the window, and whatever number comes: the window behind it, and whether it was new and is had, are the chapter's. -/
import Derived.Test.YthnjakegphogeaaRows
import Derived.Test.YthnjakegphogeaaSerLaw
import Derived.Test.YthnjakegphogeaaKept
import Derived.Test.YthnjakegphogeaaLie
import Derived.WalkKit
import Derived.ProofKit
import Derived.OpenShut
import Derived.ChangeOld
import Derived.Below
import Derived.WalkSmall
import Derived.Lib.SmallJoins
import Derived.Laws.IdiomArrays
namespace Go.Proofs.Ythnjakegphogeaa.serialTakes
open Go.ChangeShapes Go.WideShapes Go.ChangeAt Go.RowKit
set_option linter.unusedVariables false

theorem own : ownKnob Try.prog.godebug = none := by kernel_rfl
theorem laidOut : laidOutB Try.prog = true := by kernel_rfl

set_option maxHeartbeats 2000000 in
theorem walk (a0_0 : Bool) (a0_1 : Int) (a0_2 : Int) (a1 : Int) (a2 : Int) (w0_1 : (Lit.int .u16 a0_1).wf = true) (w0_2 : (Lit.int .u32 a0_2).wf = true) (w1 : (Lit.int .u16 a1).wf = true) (w2 : (Lit.int .u16 a2).wf = true) (w : World) :
    Calls Try.prog 4 #[.agg #[.bool a0_0, .int .u16 a0_1, .int .u32 a0_2], .int .u16 a1, .int .u16 a2] w fun e w' => e = .returned (.bool true) ∧ Below w.heap.size w w' := by
  obtain ⟨l0, h0⟩ := u16_bd w0_1
  obtain ⟨l1, h1⟩ := u32_bd w0_2
  obtain ⟨l2, h2⟩ := u16_bd w1
  obtain ⟨l3, h3⟩ := u16_bd w2
  have he := rwin_eql
  clear w0_1 w0_2 w1 w2
  go_enter Try.func4, Try.ntmps4
  go_wp2_with (first | (go_at_call 12; refine (SrW.take_any _ _ _ _ _ l1 h1).mono ?_; rintro e u1 ⟨rfl, hb⟩; have hK1 : Keep w [(w.heap.size, [.bool a0_0, .int .u16 a0_1, .int .u32 a0_2]), (w.heap.size + 1, [.bool a0_0, .int .u16 a0_1, .int .u32 a0_2])] u1 := Keep.on ⟨by simp [Lie, LieAt, go_sem, World.cell?_alloc_past, World.frozen?_alloc_past], by simp; omega, below_two _ _ _⟩ hb; have hS := hK1; simp only [Keep, Lie, LieAt, Nat.reduceAdd] at hS; clear hb) | (go_at_call 13; refine (SrR.take_any _ _ _ _ _ l0 h0 l1 h1 l2 h2).mono ?_; rintro e u2 ⟨rfl, hb⟩; have hK2 := Keep.on (Keep.name3 hK1) hb; have hS2 := hK2; simp only [Keep, Lie, LieAt, Nat.reduceAdd] at hS2; clear hb))
  clear hS hS2 hK1
  have hK := Keep.name3 (v0 := .bool true) (v1 := .int .u16 (Sr.last a0_0 a0_1 a1)) (v2 := .int .u32 (Sr.mask a0_0 a0_1 a0_2 a1)) (t := 29) hK2
  clear hK2
  generalize u2.alloc (.cells #[.bool true, .int .u16 (Sr.last a0_0 a0_1 a1), .int .u32 (Sr.mask a0_0 a0_1 a0_2 a1)] 29) = W at hK ⊢
  generalize u2.heap.size = c2 at hK ⊢
  generalize u1.heap.size = c1 at hK ⊢
  have hS := hK
  simp only [Keep, Lie, LieAt, Nat.reduceAdd] at hS
  obtain ⟨⟨⟨c0, -, c1', -, c2', -, l5⟩, ⟨c3, -, c4, -, c5, -, l6⟩, ⟨c6, -, c7, -, c8, -, l7⟩, ⟨c9, -, c10, -, c11, -, l8⟩, -⟩, -⟩ := hS
  have ne : Nonempty (KeptW W) := KeptW.one W
  have d0 := KeptW.at l5 c0
  have d1 := KeptW.at l5 c1'
  have d2 := KeptW.at l5 c2'
  have d3 := KeptW.at l6 c3
  have d4 := KeptW.at l6 c4
  have d5 := KeptW.at l6 c5
  have d6 := KeptW.at l7 c6
  have d7 := KeptW.at l7 c7
  have d8 := KeptW.at l7 c8
  have d9 := KeptW.at l8 c9
  have d10 := KeptW.at l8 c10
  have d11 := KeptW.at l8 c11
  refine wp_region_kept (by kernel_rfl) (by kernel_rfl) ?_
  repeat (go_big_quiet_step (first | (go_at_call 8; exact kept_same (SrL.awake_any _)) | (go_at_call 14; exact kept_call (SrW.has_any _ _ _ _ _ l1 h1)) | (go_at_call 15; exact kept_call (SrR.has_any _ _ _ _ _ l0 h0 l1 h1 l3 h3))))
  refine wpQuiet_nil ?_
  rintro _ ⟨x, rfl⟩
  go_wp2
  go_ret
  exact ⟨rfl, hK.2.2.trans (x.h.mono hK.2.1)⟩

set_option maxRecDepth 100000 in
theorem lifted (os : Os) (started : os.Started) (H : Type) (enc : TypeId × Value → H) :
    ReturnsInHanded {} Try.checked os 4 .any (Rows.serialTakesSpec.pre6 enc Try.prog Try.f4 Rows.serialTakesRow.domain false) (Rows.serialTakesSpec.post enc Try.prog Try.f4 false true false false) := by
  refine returnsInHanded_of_change (C := Try.checked) own started (by kernel_rfl) Try.func4
    (ChangeSpec.witness6 (enc := enc) (C := Try.checked) false ⟨#[], #[.agg #[.bool false, .int .u16 0, .int .u32 0], .int .u16 0, .int .u16 0], []⟩ 8 (by kernel_rfl) (by kernel_rfl) (by kernel_rfl) (by kernel_rfl)) ?_
  intro W base args ds gs before hval0 hW hcnd _
  have hval : ∀ (j : Nat) t v, Try.f4.params[j]? = some t → args[j]? = some v → Value.okWide Try.prog W .any base t v := hval0
  have hW' := hW
  obtain ⟨p, q, hA0, hV, rfl, hfz, hnd⟩ := hW
  have hA : DataW.TrodAll enc Try.prog W 0 (fun _ => true) true Try.f4.params.toList args.toList ds p := hA0
  rw [Try.params4] at hA hval
  obtain ⟨v0, vs0, d0, ds0, p0, q0, hargs, rfl, rfl, h0, r0⟩ := trodAll_cons hA
  obtain ⟨v1, vs1, d1, ds1, p1, q1, rfl, rfl, rfl, h1, r1⟩ := trodAll_cons r0
  obtain ⟨v2, vs2, d2, ds2, p2, q2, rfl, rfl, rfl, h2, r2⟩ := trodAll_cons r1
  obtain ⟨rfl, rfl, rfl⟩ := trodAll_nil r2
  obtain rfl : args = #[v0, v1, v2] := by cases args; simp_all
  obtain ⟨rfl, rfl⟩ := trodVars_none hV
  have k0 := h0
  have lt0 : ∀ x ∈ p0, x.block < W.heap.size := by obtain ⟨m, hm⟩ := k0; exact DataW.trod_lt m _ _ _ hm
  have k1 := h1
  have lt1 : ∀ x ∈ p1, x.block < W.heap.size := by obtain ⟨m, hm⟩ := k1; exact DataW.trod_lt m _ _ _ hm
  have k2 := h2
  have lt2 : ∀ x ∈ p2, x.block < W.heap.size := by obtain ⟨m, hm⟩ := k2; exact DataW.trod_lt m _ _ _ hm
  obtain ⟨u0_0, u0_1, u0_2, y0_0, y0_1, y0_2, m0, rfl, _, _, g0_0, g0_1, g0_2⟩ := Go.Joins.open_agg3 Try.underlying28 (by kernel_rfl) (by kernel_rfl) (hval 0 28 v0 rfl rfl) h0
  obtain ⟨a0_0, e0_0, _⟩ := DataW.trod_bool Try.underlying4 g0_0
  simp at e0_0
  subst e0_0
  obtain ⟨a0_1, e0_1, _, w0_1⟩ := DataW.trod_int Try.underlying22 g0_1
  simp at e0_1
  subst e0_1
  obtain ⟨a0_2, e0_2, _, w0_2⟩ := DataW.trod_int Try.underlying26 g0_2
  simp at e0_2
  subst e0_2
  obtain ⟨a1, rfl, _, _, w1⟩ := open_int Try.underlying22 (hval 1 22 v1 rfl rfl) h1
  obtain ⟨a2, rfl, _, _, w2⟩ := open_int Try.underlying22 (hval 2 22 v2 rfl rfl) h2
  clear hA0 hval0
  refine (walk a0_0 a0_1 a0_2 a1 a2 w0_1 w0_2 w1 w2 W).mono fun e W' ⟨he, bel⟩ => ?_
  subst he
  exact ⟨_, rfl, _, _, _, [], _, [], hW', trodAll_mk1 (shut_bool Try.underlying4 _), (trodAll_cons_mk (Below.trod laidOut (by kernel_rfl) (of_decide_eq_true (by kernel_rfl)) k0 bel lt0) (trodAll_cons_mk (Below.trod laidOut (by kernel_rfl) (of_decide_eq_true (by kernel_rfl)) k1 bel lt1) (trodAll_cons_mk (Below.trod laidOut (by kernel_rfl) (of_decide_eq_true (by kernel_rfl)) k2 bel lt2) trodAll_mk0))), rfl, bel.frame _, fun h => by cases h⟩

theorem over : Rows.serialTakesRow.holds Try.pinned (OpenSpec.ofChange Rows.serialTakesSpec) :=
  OpenClaim.holds_of_wide 4 Try.f4 rfl rfl rfl rfl rfl rfl rfl ⟨rfl, rfl, rfl, rfl, rfl⟩ rfl rfl rfl rfl rfl (by kernel_rfl) Try.func4 (by kernel_rfl)
    (of_decide_eq_true (by kernel_rfl)) (by unfold Func.isWrapper; first | (rw [if_pos (by decide +kernel)]; kernel_rfl) | (rw [if_neg (by decide +kernel)]; exact ⟨rfl, rfl⟩))
    (fun os started H enc _ => lifted os started H enc)

theorem proved : Rows.SerialTakesSaid :=
  over
#print axioms proved
end Go.Proofs.Ythnjakegphogeaa.serialTakes

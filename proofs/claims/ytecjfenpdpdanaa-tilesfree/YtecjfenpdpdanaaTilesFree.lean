/- Of all maps of up to 1100 tiles and all boxes it is told whether a wall overlaps as the reference of layer 11 tells it. -/
import Derived.Test.YtecjfenpdpdanaaRows
import Derived.Test.YtecjfenpdpdanaaTilLaw2
import Derived.Test.YtecjfenpdpdanaaFlat
import Derived.WalkKit
import Derived.ProofKit
import Derived.OpenShut
import Derived.ChangeOld
import Derived.Below
import Derived.WalkSmall
import Derived.Lib.SmallJoins
import Derived.Laws.IdiomArrays
namespace Go.Proofs.Ytecjfenpdpdanaa.tilesFree
open Go.ChangeShapes Go.WideShapes Go.ChangeAt Go.RowKit
set_option linter.unusedVariables false

theorem own : ownKnob Try.prog.godebug = none := by kernel_rfl
theorem laidOut : laidOutB Try.prog = true := by kernel_rfl

theorem leaf_of {k : IntKind} {v : Value} (h : (Leaf.int k).ok v) : ∃ z, v = .int k z ∧ (Lit.int k z).wf = true := h
theorem leafb_of {v : Value} (h : Leaf.bool.ok v) : ∃ b, v = .bool b := h
theorem flat1_of (cs : List Value) (h : AllOk [.int .i64, .int .i64, .int .i64, .int .i64] cs) : ∃ x0 x1 x2 x3, cs = [.int .i64 x0, .int .i64 x1, .int .i64 x2, .int .i64 x3] ∧ (Lit.int .i64 x0).wf = true ∧ (Lit.int .i64 x1).wf = true ∧ (Lit.int .i64 x2).wf = true ∧ (Lit.int .i64 x3).wf = true := by
  have hl := h.length
  obtain ⟨c0, c1, c2, c3, rfl⟩ : ∃ c0 c1 c2 c3, cs = [c0, c1, c2, c3] := by
    match cs, hl with
    | [c0, c1, c2, c3], _ => exact ⟨c0, c1, c2, c3, rfl⟩
  obtain ⟨x0, e0, y0⟩ := leaf_of h.1
  obtain ⟨x1, e1, y1⟩ := leaf_of h.2.1
  obtain ⟨x2, e2, y2⟩ := leaf_of h.2.2.1
  obtain ⟨x3, e3, y3⟩ := leaf_of h.2.2.2.1
  exact ⟨x0, x1, x2, x3, by rw [e0, e1, e2, e3], y0, y1, y2, y3⟩

set_option maxRecDepth 20000 in
set_option maxHeartbeats 8000000 in
theorem walk (a0_m : Ti.M) (a0_oa : Option Addr) (a0_ca : Nat) (a0_ob : Option Addr) (a0_cb : Nat) (a1_0 : Int) (a1_1 : Int) (a1_2 : Int) (a1_3 : Int) (w1_0 : (Lit.int .i64 a1_0).wf = true) (w1_1 : (Lit.int .i64 a1_1).wf = true) (w1_2 : (Lit.int .i64 a1_2).wf = true) (w1_3 : (Lit.int .i64 a1_3).wf = true) (w : World) (w0 : MapIn a0_m a0_oa a0_ca a0_ob a0_cb w) :
    Calls Try.prog 5 #[mapVal a0_m a0_oa a0_ca a0_ob a0_cb, .agg #[.int .i64 a1_0, .int .i64 a1_1, .int .i64 a1_2, .int .i64 a1_3]] w fun e w' => e = .returned (.bool true) ∧ Below w.heap.size w w' := by
  have kA := TiL.awake_any
  obtain ⟨nw, hnw⟩ : ∃ n, n = a0_m.ws.length := ⟨_, rfl⟩
  obtain ⟨ns, hns⟩ : ∃ n, n = a0_m.sp.length := ⟨_, rfl⟩
  have kf := fun u => TiL.few_any a0_m a0_oa a0_ca a0_ob a0_cb u
  unfold mapVal at kf ⊢
  rw [← hnw, ← hns] at kf ⊢
  obtain ⟨W0, hW0⟩ : ∃ W0, W0 = (w.alloc (.cells #[.int .i64 a0_m.W, .int .i64 a0_m.H, .slice a0_oa nw a0_ca, .slice a0_ob ns a0_cb] 26)).alloc (.cells #[.int .i64 a1_0, .int .i64 a1_1, .int .i64 a1_2, .int .i64 a1_3] 46) := ⟨_, rfl⟩
  obtain ⟨B, hB⟩ : ∃ b, b = w.heap.size := ⟨_, rfl⟩
  obtain ⟨C, hC⟩ : ∃ b, b = w.heap.size + 1 := ⟨_, rfl⟩
  have hT : Turned [] w W0 := by rw [hW0]; exact ((Turned.refl [] w).alloc _).alloc _
  have hS : Struct B [.int .i64 a0_m.W, .int .i64 a0_m.H, .slice a0_oa nw a0_ca, .slice a0_ob ns a0_cb] W0 := by
    have h0 := Struct.new w [.int .i64 a0_m.W, .int .i64 a0_m.H, .slice a0_oa nw a0_ca, .slice a0_ob ns a0_cb] 26
    rw [← hB] at h0
    rw [hW0]; exact (h0.keep ((Turned.refl [] _).alloc _) (by simp))
  have hP : Struct C [.int .i64 a1_0, .int .i64 a1_1, .int .i64 a1_2, .int .i64 a1_3] W0 := by
    have h0 := Struct.new (w.alloc (.cells #[.int .i64 a0_m.W, .int .i64 a0_m.H, .slice a0_oa nw a0_ca, .slice a0_ob ns a0_cb] 26)) [.int .i64 a1_0, .int .i64 a1_1, .int .i64 a1_2, .int .i64 a1_3] 46
    rw [show (w.alloc (.cells #[.int .i64 a0_m.W, .int .i64 a0_m.H, .slice a0_oa nw a0_ca, .slice a0_ob ns a0_cb] 26)).heap.size = w.heap.size + 1 by simp, ← hC] at h0
    rw [hW0]; exact h0
  have HT0 : Turned [] W0 W0 := Turned.refl _ _
  by_cases hfew : nw ≤ 1100 ∧ ns ≤ 1100
  · have hM := (w0.at (by rw [← hnw]; exact hfew.1) (by rw [← hns]; exact hfew.2)).calm hT
    have hq : (decide (nw ≤ 1100) && decide (ns ≤ 1100)) = true := by simpa using hfew
    rw [hq] at kf
    obtain ⟨q, hfr⟩ : ∃ q, q = Ti.freeB a0_m ⟨a1_0, a1_1, a1_2, a1_3⟩ := ⟨_, rfl⟩
    have k1 := fun (u : World) (h : MapAt a0_m a0_oa a0_ob u) => TiL.free_w a0_m a0_oa a0_ca a0_ob a0_cb a1_0 a1_1 a1_2 a1_3 u h
    have k2 := fun (u : World) (h : MapAt a0_m a0_oa a0_ob u) => TiL.free_r a0_m a0_oa a0_ca a0_ob a0_cb a1_0 a1_1 a1_2 a1_3 u h
    unfold mapVal at k1 k2
    rw [← hnw, ← hns, ← hfr] at k1 k2
    clear hfew hq hnw hns hfr
    go_enter Try.func5, Try.ntmps5
    go_wp2_with fail
    rw [← hW0, ← hC, ← hB]
    clear hW0 hB hC
    go_wp2_with (first | (go_at_call 10; (with_reducible refine (kA _).mono ?_); rintro e u0 ⟨rfl, HT1⟩; have HT0 := HT0.trans HT1 (by simp); have hSn := hS.keep HT0 (by simp); have d0 := (hSn.2 0 _ rfl).1; have d1 := (hSn.2 1 _ rfl).1; have d2 := (hSn.2 2 _ rfl).1; have d3 := (hSn.2 3 _ rfl).1; have hPn := hP.keep HT0 (by simp); have c0 := (hPn.2 0 _ rfl).1; have c1 := (hPn.2 1 _ rfl).1; have c2 := (hPn.2 2 _ rfl).1; have c3 := (hPn.2 3 _ rfl).1) | (go_at_call 14; (with_reducible refine (kf _).mono ?_); rintro e u0 ⟨rfl, HT1⟩; have HT0 := HT0.trans HT1 (by simp); have hSn := hS.keep HT0 (by simp); have d0 := (hSn.2 0 _ rfl).1; have d1 := (hSn.2 1 _ rfl).1; have d2 := (hSn.2 2 _ rfl).1; have d3 := (hSn.2 3 _ rfl).1; have hPn := hP.keep HT0 (by simp); have c0 := (hPn.2 0 _ rfl).1; have c1 := (hPn.2 1 _ rfl).1; have c2 := (hPn.2 2 _ rfl).1; have c3 := (hPn.2 3 _ rfl).1; have kd0 := KeptW.at hSn.1 (hSn.2 0 _ rfl).1; have kd1 := KeptW.at hSn.1 (hSn.2 1 _ rfl).1; have kd2 := KeptW.at hSn.1 (hSn.2 2 _ rfl).1; have kd3 := KeptW.at hSn.1 (hSn.2 3 _ rfl).1; have kc0 := KeptW.at hPn.1 (hPn.2 0 _ rfl).1; have kc1 := KeptW.at hPn.1 (hPn.2 1 _ rfl).1; have kc2 := KeptW.at hPn.1 (hPn.2 2 _ rfl).1; have kc3 := KeptW.at hPn.1 (hPn.2 3 _ rfl).1; have ne : Nonempty (KeptW u0) := KeptW.one u0; have hMn := hM.calm HT0; have g1 := fun (v : KeptW u0) => TiL.quiet (k1 v.u (hMn.calm (Turned.ofBelow v.h))); have g2 := fun (v : KeptW u0) => TiL.quiet (k2 v.u (hMn.calm (Turned.ofBelow v.h)))))
    refine wp_region_kept (by kernel_rfl) (by kernel_rfl) ?_
    repeat (go_big_quiet_step (first | (go_at_call 21; with_reducible exact g1 _) | (go_at_call 22; with_reducible exact g2 _)))
    refine wpQuiet_nil ?_
    rintro _ ⟨y, rfl⟩
    go_wp2_with fail
    go_ret
    exact ⟨rfl, (hT.trans (HT0.trans (Turned.ofBelow y.h) (by simp)) (by simp)).none⟩
  · have hq : (decide (nw ≤ 1100) && decide (ns ≤ 1100)) = false := by simpa using hfew
    rw [hq] at kf
    clear hfew hq hnw hns
    go_enter Try.func5, Try.ntmps5
    go_wp2_with fail
    rw [← hW0, ← hC, ← hB]
    clear hW0 hB hC
    go_wp2_with (first | (go_at_call 10; (with_reducible refine (kA _).mono ?_); rintro e u0 ⟨rfl, HT1⟩; have HT0 := HT0.trans HT1 (by simp); have hSn := hS.keep HT0 (by simp); have d0 := (hSn.2 0 _ rfl).1; have d1 := (hSn.2 1 _ rfl).1; have d2 := (hSn.2 2 _ rfl).1; have d3 := (hSn.2 3 _ rfl).1; have hPn := hP.keep HT0 (by simp); have c0 := (hPn.2 0 _ rfl).1; have c1 := (hPn.2 1 _ rfl).1; have c2 := (hPn.2 2 _ rfl).1; have c3 := (hPn.2 3 _ rfl).1) | (go_at_call 14; (with_reducible refine (kf _).mono ?_); rintro e u0 ⟨rfl, HT1⟩; have HT0 := HT0.trans HT1 (by simp); have hSn := hS.keep HT0 (by simp); have d0 := (hSn.2 0 _ rfl).1; have d1 := (hSn.2 1 _ rfl).1; have d2 := (hSn.2 2 _ rfl).1; have d3 := (hSn.2 3 _ rfl).1; have hPn := hP.keep HT0 (by simp); have c0 := (hPn.2 0 _ rfl).1; have c1 := (hPn.2 1 _ rfl).1; have c2 := (hPn.2 2 _ rfl).1; have c3 := (hPn.2 3 _ rfl).1))
    go_ret
    exact ⟨rfl, (hT.trans HT0 (by simp)).none⟩

set_option maxRecDepth 100000 in
theorem lifted (os : Os) (started : os.Started) (H : Type) (enc : TypeId × Value → H) :
    ReturnsInHanded {} Try.checked os 5 .any (Rows.tilesFreeSpec.pre6 enc Try.prog Try.f5 Rows.tilesFreeRow.domain false) (Rows.tilesFreeSpec.post enc Try.prog Try.f5 false true false false) := by
  refine returnsInHanded_of_change (C := Try.checked) own started (by kernel_rfl) Try.func5
    (ChangeSpec.witness6 (enc := enc) (C := Try.checked) false ⟨#[], #[.agg #[.int .i64 0, .int .i64 0, .slice none 0 0, .slice none 0 0], .agg #[.int .i64 0, .int .i64 0, .int .i64 0, .int .i64 0]], []⟩ 8 (by kernel_rfl) (by kernel_rfl) (by kernel_rfl) (by kernel_rfl)) ?_
  intro W base args ds gs before hval0 hW hcnd _
  have hval : ∀ (j : Nat) t v, Try.f5.params[j]? = some t → args[j]? = some v → Value.okWide Try.prog W .any base t v := hval0
  have hW' := hW
  obtain ⟨p, q, hA0, hV, rfl, hfz, hnd⟩ := hW
  have hA : DataW.TrodAll enc Try.prog W 0 (fun _ => true) true Try.f5.params.toList args.toList ds p := hA0
  rw [Try.params5] at hA hval
  obtain ⟨v0, vs0, d0, ds0, p0, q0, hargs, rfl, rfl, h0, r0⟩ := trodAll_cons hA
  obtain ⟨v1, vs1, d1, ds1, p1, q1, rfl, rfl, rfl, h1, r1⟩ := trodAll_cons r0
  obtain ⟨rfl, rfl, rfl⟩ := trodAll_nil r1
  obtain rfl : args = #[v0, v1] := by cases args; simp_all
  obtain ⟨rfl, rfl⟩ := trodVars_none hV
  have k0 := h0
  have lt0 : ∀ x ∈ p0, x.block < W.heap.size := by obtain ⟨m, hm⟩ := k0; exact DataW.trod_lt m _ _ _ hm
  have k1 := h1
  have lt1 : ∀ x ∈ p1, x.block < W.heap.size := by obtain ⟨m, hm⟩ := k1; exact DataW.trod_lt m _ _ _ hm
  obtain ⟨a0_m, a0_oa, a0_ca, a0_ob, a0_cb, rfl, w0⟩ := open_map (hval 0 26 v0 rfl rfl) h0
  obtain ⟨cs1, rfl, ok1⟩ := open_flat (d := 8) (ks := [.int .i64, .int .i64, .int .i64, .int .i64]) (Or.inl ⟨_, Try.underlying46⟩) (by kernel_rfl) (hval 1 46 v1 rfl rfl) h1
  obtain ⟨a1_0, a1_1, a1_2, a1_3, rfl, w1_0, w1_1, w1_2, w1_3⟩ := flat1_of cs1 ok1
  clear hA0 hval0
  refine (walk a0_m a0_oa a0_ca a0_ob a0_cb a1_0 a1_1 a1_2 a1_3 w1_0 w1_1 w1_2 w1_3 W w0).mono fun e W' ⟨he, bel⟩ => ?_
  subst he
  exact ⟨_, rfl, _, _, _, [], _, [], hW', trodAll_mk1 (shut_bool Try.underlying4 _), (trodAll_cons_mk (Below.trod laidOut (by kernel_rfl) (of_decide_eq_true (by kernel_rfl)) k0 bel lt0) (trodAll_cons_mk (Below.trod laidOut (by kernel_rfl) (of_decide_eq_true (by kernel_rfl)) k1 bel lt1) trodAll_mk0)), rfl, bel.frame _, fun h => by cases h⟩

theorem over : Rows.tilesFreeRow.holds Try.pinned (OpenSpec.ofChange Rows.tilesFreeSpec) :=
  OpenClaim.holds_of_wide 5 Try.f5 rfl rfl rfl rfl rfl rfl rfl ⟨rfl, rfl, rfl, rfl, rfl⟩ rfl rfl rfl rfl rfl (by kernel_rfl) Try.func5 (by kernel_rfl)
    (of_decide_eq_true (by kernel_rfl)) (by unfold Func.isWrapper; first | (rw [if_pos (by decide +kernel)]; kernel_rfl) | (rw [if_neg (by decide +kernel)]; exact ⟨rfl, rfl⟩))
    (fun os started H enc _ => lifted os started H enc)

theorem proved : Rows.TilesFreeSaid :=
  over
#print axioms proved
end Go.Proofs.Ytecjfenpdpdanaa.tilesFree

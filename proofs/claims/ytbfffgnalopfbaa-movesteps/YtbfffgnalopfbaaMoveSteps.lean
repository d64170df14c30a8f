/- Of all maps of up to 1100 tiles and spawns, all entities and all that is entered, Walk, Roll and Stands answer what the reference of layer 12 answers. -/
import Derived.Test.YtbfffgnalopfbaaRows
import Derived.Test.YtbfffgnalopfbaaMvWalks
import Derived.Test.YtbfffgnalopfbaaMvLaw
import Derived.Test.YtbfffgnalopfbaaFlat
import Derived.WalkKit
import Derived.ProofKit
import Derived.OpenShut
import Derived.ChangeOld
import Derived.Below
import Derived.WalkSmall
import Derived.Lib.SmallJoins
import Derived.Laws.IdiomArrays
namespace Go.Proofs.Ytbfffgnalopfbaa.moveSteps
open Go.ChangeShapes Go.WideShapes Go.ChangeAt Go.RowKit
set_option linter.unusedVariables false

theorem own : ownKnob Try.prog.godebug = none := by kernel_rfl
theorem laidOut : laidOutB Try.prog = true := by kernel_rfl

theorem leaf_of {k : IntKind} {v : Value} (h : (Leaf.int k).ok v) : ∃ z, v = .int k z ∧ (Lit.int k z).wf = true := h
theorem leafb_of {v : Value} (h : Leaf.bool.ok v) : ∃ b, v = .bool b := h
theorem flat2_of (cs : List Value) (h : AllOk [.int .i8, .int .i8] cs) : ∃ x0 x1, cs = [.int .i8 x0, .int .i8 x1] ∧ (Lit.int .i8 x0).wf = true ∧ (Lit.int .i8 x1).wf = true := by
  have hl := h.length
  obtain ⟨c0, c1, rfl⟩ : ∃ c0 c1, cs = [c0, c1] := by
    match cs, hl with
    | [c0, c1], _ => exact ⟨c0, c1, rfl⟩
  obtain ⟨x0, e0, y0⟩ := leaf_of h.1
  obtain ⟨x1, e1, y1⟩ := leaf_of h.2.1
  exact ⟨x0, x1, by rw [e0, e1], y0, y1⟩

set_option maxRecDepth 20000 in
set_option maxHeartbeats 8000000 in
theorem walk (a0_m : Ti.M) (a0_oa : Option Addr) (a0_ca : Nat) (a0_ob : Option Addr) (a0_cb : Nat) (a1 : En.E) (a2_0 : Int) (a2_1 : Int) (w1_k : AllOk [.int .i64, .int .i64, .int .i64, .int .i64, .int .i64, .int .i64, .int .i64, .int .i64] (enEnc a1)) (w2_0 : (Lit.int .i8 a2_0).wf = true) (w2_1 : (Lit.int .i8 a2_1).wf = true) (w : World) (w0 : MapIn a0_m a0_oa a0_ca a0_ob a0_cb w) :
    Calls Try.prog 3 #[mapVal a0_m a0_oa a0_ca a0_ob a0_cb, enVal a1, .agg #[.int .i8 a2_0, .int .i8 a2_1]] w fun e w' => e = .returned (.bool true) ∧ Below w.heap.size w w' := by
  have K := MvW.contracts
  have kA := MvL.awake_any K
  obtain ⟨nw, hnw⟩ : ∃ n, n = a0_m.ws.length := ⟨_, rfl⟩
  obtain ⟨ns, hns⟩ : ∃ n, n = a0_m.sp.length := ⟨_, rfl⟩
  have kf := fun u => MvL.few_any a0_m a0_oa a0_ca a0_ob a0_cb u
  unfold mapVal at kf ⊢
  rw [← hnw, ← hns] at kf ⊢
  have hewf := en_wf w1_k
  have hx := i8_in w2_0
  have hy := i8_in w2_1
  obtain ⟨W0, hW0⟩ : ∃ W0, W0 = ((w.alloc (.cells #[.int .i64 a0_m.W, .int .i64 a0_m.H, .slice a0_oa nw a0_ca, .slice a0_ob ns a0_cb] 25)).alloc (.cells #[.int .i64 a1.id, .int .i64 a1.kind, .int .i64 a1.ax, .int .i64 a1.ay, .int .i64 a1.vx, .int .i64 a1.vy, .int .i64 a1.h, .int .i64 a1.t] 30)).alloc (.cells #[.int .i8 a2_0, .int .i8 a2_1] 32) := ⟨_, rfl⟩
  obtain ⟨B, hB⟩ : ∃ b, b = w.heap.size := ⟨_, rfl⟩
  obtain ⟨C, hC⟩ : ∃ b, b = w.heap.size + 1 := ⟨_, rfl⟩
  obtain ⟨D, hD⟩ : ∃ b, b = w.heap.size + 1 + 1 := ⟨_, rfl⟩
  have hsz : W0.heap.size = w.heap.size + 3 := by rw [hW0]; simp
  have hT : Turned [] w W0 := by rw [hW0]; exact (((Turned.refl [] w).alloc _).alloc _).alloc _
  have hS : Struct B [.int .i64 a0_m.W, .int .i64 a0_m.H, .slice a0_oa nw a0_ca, .slice a0_ob ns a0_cb] W0 := by
    have h0 := Struct.new w [.int .i64 a0_m.W, .int .i64 a0_m.H, .slice a0_oa nw a0_ca, .slice a0_ob ns a0_cb] 25
    rw [← hB] at h0
    rw [hW0]; exact ((h0.keep ((Turned.refl [] _).alloc _) (by simp)).keep ((Turned.refl [] _).alloc _) (by simp))
  have hE : Struct C [.int .i64 a1.id, .int .i64 a1.kind, .int .i64 a1.ax, .int .i64 a1.ay, .int .i64 a1.vx, .int .i64 a1.vy, .int .i64 a1.h, .int .i64 a1.t] W0 := by
    have h0 := Struct.new (w.alloc (.cells #[.int .i64 a0_m.W, .int .i64 a0_m.H, .slice a0_oa nw a0_ca, .slice a0_ob ns a0_cb] 25)) [.int .i64 a1.id, .int .i64 a1.kind, .int .i64 a1.ax, .int .i64 a1.ay, .int .i64 a1.vx, .int .i64 a1.vy, .int .i64 a1.h, .int .i64 a1.t] 30
    rw [show (w.alloc (.cells #[.int .i64 a0_m.W, .int .i64 a0_m.H, .slice a0_oa nw a0_ca, .slice a0_ob ns a0_cb] 25)).heap.size = w.heap.size + 1 by simp, ← hC] at h0
    rw [hW0]; exact (h0.keep ((Turned.refl [] _).alloc _) (by simp))
  have hQ : Struct D [.int .i8 a2_0, .int .i8 a2_1] W0 := by
    have h0 := Struct.new ((w.alloc (.cells #[.int .i64 a0_m.W, .int .i64 a0_m.H, .slice a0_oa nw a0_ca, .slice a0_ob ns a0_cb] 25)).alloc (.cells #[.int .i64 a1.id, .int .i64 a1.kind, .int .i64 a1.ax, .int .i64 a1.ay, .int .i64 a1.vx, .int .i64 a1.vy, .int .i64 a1.h, .int .i64 a1.t] 30)) [.int .i8 a2_0, .int .i8 a2_1] 32
    rw [show ((w.alloc (.cells #[.int .i64 a0_m.W, .int .i64 a0_m.H, .slice a0_oa nw a0_ca, .slice a0_ob ns a0_cb] 25)).alloc (.cells #[.int .i64 a1.id, .int .i64 a1.kind, .int .i64 a1.ax, .int .i64 a1.ay, .int .i64 a1.vx, .int .i64 a1.vy, .int .i64 a1.h, .int .i64 a1.t] 30)).heap.size = w.heap.size + 1 + 1 by simp, ← hD] at h0
    rw [hW0]; exact h0
  have HT0 : Turned [] W0 W0 := Turned.refl _ _
  by_cases hfew : nw ≤ 1100 ∧ ns ≤ 1100
  · have hM := (w0.at (by rw [← hnw]; exact hfew.1) (by rw [← hns]; exact hfew.2)).calm hT
    have hq : (decide (nw ≤ 1100) && decide (ns ≤ 1100)) = true := by simpa using hfew
    rw [hq] at kf
    have k1 := fun (u : World) (h : MapAt a0_m a0_oa a0_ob u) => K.walk a0_m a0_oa a0_ca a0_ob a0_cb a1 a2_0 a2_1 hewf hx hy u h
    have k2 := fun (u : World) (h : MapAt a0_m a0_oa a0_ob u) => MvR.walk_any a0_m a0_oa a0_ca a0_ob a0_cb a1 a2_0 a2_1 hx hy u h
    have k3 := fun (u : World) (h : MapAt a0_m a0_oa a0_ob u) => K.roll a0_m a0_oa a0_ca a0_ob a0_cb a1 hewf u h
    have k4 := fun (u : World) (h : MapAt a0_m a0_oa a0_ob u) => MvR.roll_any a0_m a0_oa a0_ca a0_ob a0_cb a1 u h
    have k5 := fun (u : World) (h : MapAt a0_m a0_oa a0_ob u) => K.stands a0_m a0_oa a0_ca a0_ob a0_cb a1.ax a1.ay u h
    have k6 := fun (u : World) (h : MapAt a0_m a0_oa a0_ob u) => MvR.stands_any a0_m a0_oa a0_ca a0_ob a0_cb a1.ax a1.ay u h
    obtain ⟨x, hxx⟩ : ∃ x, x = Mv.walk a0_m a1 a2_0 a2_1 := ⟨_, rfl⟩
    obtain ⟨y, hyy⟩ : ∃ x, x = Mv.roll a0_m a1 := ⟨_, rfl⟩
    obtain ⟨z, hzz⟩ : ∃ x, x = Mv.stands a0_m a1.ax a1.ay := ⟨_, rfl⟩
    rw [← hxx] at k1 k2
    rw [← hyy] at k3 k4
    rw [← hzz] at k5 k6
    unfold mapVal enVal at k1 k2 k3 k4
    unfold mapVal at k5 k6
    rw [← hnw, ← hns] at k1 k2 k3 k4 k5 k6
    have s1 := fun u => mv_same x u
    have s2 := fun u => mv_same y u
    have s3 : (z == z) = true := by simp
    clear hfew hq hnw hns hxx hyy hzz
    go_enter Try.func3, Try.ntmps3
    go_wp2_with fail
    rw [← hW0, ← hD, ← hC, ← hB]
    clear hW0 hsz hB hC hD
    go_wp2_with (first | (go_at_call 8; (with_reducible refine (kA _).mono ?_); rintro r u0 ⟨rfl, HT1⟩; have HT0 := HT0.trans HT1 (by simp); have hSn := hS.keep HT0 (by simp); have d0 := (hSn.2 0 _ rfl).1; have d1 := (hSn.2 1 _ rfl).1; have d2 := (hSn.2 2 _ rfl).1; have d3 := (hSn.2 3 _ rfl).1; have hEn := hE.keep HT0 (by simp); have c0 := (hEn.2 0 _ rfl).1; have c1 := (hEn.2 1 _ rfl).1; have c2 := (hEn.2 2 _ rfl).1; have c3 := (hEn.2 3 _ rfl).1; have c4 := (hEn.2 4 _ rfl).1; have c5 := (hEn.2 5 _ rfl).1; have c6 := (hEn.2 6 _ rfl).1; have c7 := (hEn.2 7 _ rfl).1; have hQn := hQ.keep HT0 (by simp); have f0 := (hQn.2 0 _ rfl).1; have f1 := (hQn.2 1 _ rfl).1) | (go_at_call 9; (with_reducible refine (kf _).mono ?_); rintro r u0 ⟨rfl, HT1⟩; have HT0 := HT0.trans HT1 (by simp); have hSn := hS.keep HT0 (by simp); have d0 := (hSn.2 0 _ rfl).1; have d1 := (hSn.2 1 _ rfl).1; have d2 := (hSn.2 2 _ rfl).1; have d3 := (hSn.2 3 _ rfl).1; have hEn := hE.keep HT0 (by simp); have c0 := (hEn.2 0 _ rfl).1; have c1 := (hEn.2 1 _ rfl).1; have c2 := (hEn.2 2 _ rfl).1; have c3 := (hEn.2 3 _ rfl).1; have c4 := (hEn.2 4 _ rfl).1; have c5 := (hEn.2 5 _ rfl).1; have c6 := (hEn.2 6 _ rfl).1; have c7 := (hEn.2 7 _ rfl).1; have hQn := hQ.keep HT0 (by simp); have f0 := (hQn.2 0 _ rfl).1; have f1 := (hQn.2 1 _ rfl).1; have dd0 := fun o => ((hS.keep (HT0.alloc o) (by simp)).2 0 _ rfl).1; have dd1 := fun o => ((hS.keep (HT0.alloc o) (by simp)).2 1 _ rfl).1; have dd2 := fun o => ((hS.keep (HT0.alloc o) (by simp)).2 2 _ rfl).1; have dd3 := fun o => ((hS.keep (HT0.alloc o) (by simp)).2 3 _ rfl).1))
    obtain ⟨V, hV⟩ : ∃ V, V = u0.alloc (.cells #[.int .i64 a0_m.W, .int .i64 a0_m.H, .slice a0_oa nw a0_ca, .slice a0_ob ns a0_cb] 35) := ⟨_, rfl⟩
    obtain ⟨O, hO⟩ : ∃ b, b = u0.heap.size := ⟨_, rfl⟩
    have hP : Struct O [.int .i64 a0_m.W, .int .i64 a0_m.H, .slice a0_oa nw a0_ca, .slice a0_ob ns a0_cb] V := by rw [hV, hO]; exact Struct.new u0 [.int .i64 a0_m.W, .int .i64 a0_m.H, .slice a0_oa nw a0_ca, .slice a0_ob ns a0_cb] _
    have HTV : Turned [] W0 V := by rw [hV]; exact HT0.alloc _
    rw [← hV, ← hO]
    have hSv := hS.keep HTV (by simp)
    have hEv := hE.keep HTV (by simp)
    have hQv := hQ.keep HTV (by simp)
    clear hV hO d0 d1 d2 d3 dd0 dd1 dd2 dd3 c0 c1 c2 c3 c4 c5 c6 c7 f0 f1
    have kd0 := KeptW.at hSv.1 (hSv.2 0 _ rfl).1
    have kd1 := KeptW.at hSv.1 (hSv.2 1 _ rfl).1
    have kd2 := KeptW.at hSv.1 (hSv.2 2 _ rfl).1
    have kd3 := KeptW.at hSv.1 (hSv.2 3 _ rfl).1
    have kc0 := KeptW.at hEv.1 (hEv.2 0 _ rfl).1
    have kc1 := KeptW.at hEv.1 (hEv.2 1 _ rfl).1
    have kc2 := KeptW.at hEv.1 (hEv.2 2 _ rfl).1
    have kc3 := KeptW.at hEv.1 (hEv.2 3 _ rfl).1
    have kc4 := KeptW.at hEv.1 (hEv.2 4 _ rfl).1
    have kc5 := KeptW.at hEv.1 (hEv.2 5 _ rfl).1
    have kc6 := KeptW.at hEv.1 (hEv.2 6 _ rfl).1
    have kc7 := KeptW.at hEv.1 (hEv.2 7 _ rfl).1
    have kf0 := KeptW.at hQv.1 (hQv.2 0 _ rfl).1
    have kf1 := KeptW.at hQv.1 (hQv.2 1 _ rfl).1
    have ko0 := KeptW.at hP.1 (hP.2 0 _ rfl).1
    have ko1 := KeptW.at hP.1 (hP.2 1 _ rfl).1
    have ko2 := KeptW.at hP.1 (hP.2 2 _ rfl).1
    have ko3 := KeptW.at hP.1 (hP.2 3 _ rfl).1
    have ne : Nonempty (KeptW V) := KeptW.one V
    have hMv := hM.calm HTV
    have g1 := fun (v : KeptW V) => MvL.quiet (k1 v.u (hMv.calm (Turned.ofBelow v.h)))
    have g2 := fun (v : KeptW V) => MvL.quiet (k2 v.u (hMv.calm (Turned.ofBelow v.h)))
    have g3 := fun (v : KeptW V) => MvL.quiet (k3 v.u (hMv.calm (Turned.ofBelow v.h)))
    have g4 := fun (v : KeptW V) => MvL.quiet (k4 v.u (hMv.calm (Turned.ofBelow v.h)))
    have g5 := fun (v : KeptW V) => MvL.quiet (k5 v.u (hMv.calm (Turned.ofBelow v.h)))
    have g6 := fun (v : KeptW V) => MvL.quiet (k6 v.u (hMv.calm (Turned.ofBelow v.h)))
    refine wp_region_kept (by kernel_rfl) (by kernel_rfl) ?_
    repeat (go_big_quiet_step (first | (go_at_call 10; with_reducible exact g1 _) | (go_at_call 11; with_reducible exact g2 _) | (go_at_call 12; with_reducible exact g3 _) | (go_at_call 13; with_reducible exact g4 _) | (go_at_call 14; with_reducible exact g5 _) | (go_at_call 15; with_reducible exact g6 _)))
    refine wpQuiet_nil ?_
    rintro _ ⟨v, rfl⟩
    go_wp2_with fail
    go_ret
    exact ⟨rfl, (hT.trans (HTV.trans (Turned.ofBelow v.h) (by simp)) (by simp)).none⟩
  · have hq : (decide (nw ≤ 1100) && decide (ns ≤ 1100)) = false := by simpa using hfew
    rw [hq] at kf
    clear hfew hq hnw hns
    go_enter Try.func3, Try.ntmps3
    go_wp2_with fail
    rw [← hW0, ← hD, ← hC, ← hB]
    clear hW0 hsz hB hC hD
    go_wp2_with (first | (go_at_call 8; (with_reducible refine (kA _).mono ?_); rintro r u0 ⟨rfl, HT1⟩; have HT0 := HT0.trans HT1 (by simp); have hSn := hS.keep HT0 (by simp); have d0 := (hSn.2 0 _ rfl).1; have d1 := (hSn.2 1 _ rfl).1; have d2 := (hSn.2 2 _ rfl).1; have d3 := (hSn.2 3 _ rfl).1; have hEn := hE.keep HT0 (by simp); have c0 := (hEn.2 0 _ rfl).1; have c1 := (hEn.2 1 _ rfl).1; have c2 := (hEn.2 2 _ rfl).1; have c3 := (hEn.2 3 _ rfl).1; have c4 := (hEn.2 4 _ rfl).1; have c5 := (hEn.2 5 _ rfl).1; have c6 := (hEn.2 6 _ rfl).1; have c7 := (hEn.2 7 _ rfl).1; have hQn := hQ.keep HT0 (by simp); have f0 := (hQn.2 0 _ rfl).1; have f1 := (hQn.2 1 _ rfl).1) | (go_at_call 9; (with_reducible refine (kf _).mono ?_); rintro r u0 ⟨rfl, HT1⟩; have HT0 := HT0.trans HT1 (by simp); have hSn := hS.keep HT0 (by simp); have d0 := (hSn.2 0 _ rfl).1; have d1 := (hSn.2 1 _ rfl).1; have d2 := (hSn.2 2 _ rfl).1; have d3 := (hSn.2 3 _ rfl).1; have hEn := hE.keep HT0 (by simp); have c0 := (hEn.2 0 _ rfl).1; have c1 := (hEn.2 1 _ rfl).1; have c2 := (hEn.2 2 _ rfl).1; have c3 := (hEn.2 3 _ rfl).1; have c4 := (hEn.2 4 _ rfl).1; have c5 := (hEn.2 5 _ rfl).1; have c6 := (hEn.2 6 _ rfl).1; have c7 := (hEn.2 7 _ rfl).1; have hQn := hQ.keep HT0 (by simp); have f0 := (hQn.2 0 _ rfl).1; have f1 := (hQn.2 1 _ rfl).1))
    go_ret
    exact ⟨rfl, (hT.trans HT0 (by simp)).none⟩

set_option maxRecDepth 100000 in
theorem lifted (os : Os) (started : os.Started) (H : Type) (enc : TypeId × Value → H) :
    ReturnsInHanded {} Try.checked os 3 .any (Rows.moveStepsSpec.pre6 enc Try.prog Try.f3 Rows.moveStepsRow.domain false) (Rows.moveStepsSpec.post enc Try.prog Try.f3 false true false false) := by
  refine returnsInHanded_of_change (C := Try.checked) own started (by kernel_rfl) Try.func3
    (ChangeSpec.witness6 (enc := enc) (C := Try.checked) false ⟨#[], #[.agg #[.int .i64 0, .int .i64 0, .slice none 0 0, .slice none 0 0], .agg #[.int .i64 0, .int .i64 0, .int .i64 0, .int .i64 0, .int .i64 0, .int .i64 0, .int .i64 0, .int .i64 0], .agg #[.int .i8 0, .int .i8 0]], []⟩ 8 (by kernel_rfl) (by kernel_rfl) (by kernel_rfl) (by kernel_rfl)) ?_
  intro W base args ds gs before hval0 hW hcnd _
  have hval : ∀ (j : Nat) t v, Try.f3.params[j]? = some t → args[j]? = some v → Value.okWide Try.prog W .any base t v := hval0
  have hW' := hW
  obtain ⟨p, q, hA0, hV, rfl, hfz, hnd⟩ := hW
  have hA : DataW.TrodAll enc Try.prog W 0 (fun _ => true) true Try.f3.params.toList args.toList ds p := hA0
  rw [Try.params3] at hA hval
  obtain ⟨v0, vs0, d0, ds0, p0, q0, hargs, rfl, rfl, h0, r0⟩ := trodAll_cons hA
  obtain ⟨v1, vs1, d1, ds1, p1, q1, rfl, rfl, rfl, h1, r1⟩ := trodAll_cons r0
  obtain ⟨v2, vs2, d2, ds2, p2, q2, rfl, rfl, rfl, h2, r2⟩ := trodAll_cons r1
  obtain ⟨rfl, rfl, rfl⟩ := trodAll_nil r2
  obtain rfl : args = #[v0, v1, v2] := by cases args; simp_all
  obtain ⟨rfl, rfl⟩ := trodVars_none hV
  have k0 := h0
  have lt0 : ∀ x ∈ p0, x.block < W.heap.size := by obtain ⟨m, hm⟩ := k0; exact DataW.trod_lt m _ _ _ hm
  have k1 := h1
  have lt1 : ∀ x ∈ p1, x.block < W.heap.size := by obtain ⟨m, hm⟩ := k1; exact DataW.trod_lt m _ _ _ hm
  have k2 := h2
  have lt2 : ∀ x ∈ p2, x.block < W.heap.size := by obtain ⟨m, hm⟩ := k2; exact DataW.trod_lt m _ _ _ hm
  obtain ⟨a0_m, a0_oa, a0_ca, a0_ob, a0_cb, rfl, w0⟩ := open_map (hval 0 25 v0 rfl rfl) h0
  obtain ⟨cs1, rfl, ok1⟩ := open_flat (d := 8) (ks := [.int .i64, .int .i64, .int .i64, .int .i64, .int .i64, .int .i64, .int .i64, .int .i64]) (Or.inl ⟨_, Try.underlying30⟩) (by kernel_rfl) (hval 1 30 v1 rfl rfl) h1
  obtain ⟨a1, rfl⟩ := enEnc_of cs1 ok1
  have w1_k := ok1
  obtain ⟨cs2, rfl, ok2⟩ := open_flat (d := 8) (ks := [.int .i8, .int .i8]) (Or.inr ⟨_, _, Try.underlying32⟩) (by kernel_rfl) (hval 2 32 v2 rfl rfl) h2
  obtain ⟨a2_0, a2_1, rfl, w2_0, w2_1⟩ := flat2_of cs2 ok2
  clear hA0 hval0
  refine (walk a0_m a0_oa a0_ca a0_ob a0_cb a1 a2_0 a2_1 w1_k w2_0 w2_1 W w0).mono fun e W' ⟨he, bel⟩ => ?_
  subst he
  exact ⟨_, rfl, _, _, _, [], _, [], hW', trodAll_mk1 (shut_bool Try.underlying4 _), (trodAll_cons_mk (Below.trod laidOut (by kernel_rfl) (of_decide_eq_true (by kernel_rfl)) k0 bel lt0) (trodAll_cons_mk (Below.trod laidOut (by kernel_rfl) (of_decide_eq_true (by kernel_rfl)) k1 bel lt1) (trodAll_cons_mk (Below.trod laidOut (by kernel_rfl) (of_decide_eq_true (by kernel_rfl)) k2 bel lt2) trodAll_mk0))), rfl, bel.frame _, fun h => by cases h⟩

theorem over : Rows.moveStepsRow.holds Try.pinned (OpenSpec.ofChange Rows.moveStepsSpec) :=
  OpenClaim.holds_of_wide 3 Try.f3 rfl rfl rfl rfl rfl rfl rfl ⟨rfl, rfl, rfl, rfl, rfl⟩ rfl rfl rfl rfl rfl (by kernel_rfl) Try.func3 (by kernel_rfl)
    (of_decide_eq_true (by kernel_rfl)) (by unfold Func.isWrapper; first | (rw [if_pos (by decide +kernel)]; kernel_rfl) | (rw [if_neg (by decide +kernel)]; exact ⟨rfl, rfl⟩))
    (fun os started H enc _ => lifted os started H enc)

theorem proved : Rows.MoveStepsSaid :=
  over
#print axioms proved
end Go.Proofs.Ytbfffgnalopfbaa.moveSteps

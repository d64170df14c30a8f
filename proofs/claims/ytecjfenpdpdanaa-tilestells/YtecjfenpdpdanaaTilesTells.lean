/- Of all maps of up to 1100 tiles it is told whether they can be read, of which text, and which tiles are walls, as the reference of layer 11 tells it. -/
import Derived.Test.YtecjfenpdpdanaaRows
import Derived.Test.YtecjfenpdpdanaaTilLaw2
import Derived.Test.YtecjfenpdpdanaaFlat
import Derived.WalkKit
import Derived.ProofKit
import Derived.OpenShut
import Derived.ChangeOld
import Derived.Below
import Derived.WalkSmall
import Derived.Lib.SmallJoins
import Derived.Laws.IdiomArrays
namespace Go.Proofs.Ytecjfenpdpdanaa.tilesTells
open Go.ChangeShapes Go.WideShapes Go.ChangeAt Go.RowKit
set_option linter.unusedVariables false

theorem own : ownKnob Try.prog.godebug = none := by kernel_rfl
theorem laidOut : laidOutB Try.prog = true := by kernel_rfl

set_option maxRecDepth 20000 in
set_option maxHeartbeats 8000000 in
theorem walk (a0_m : Ti.M) (a0_oa : Option Addr) (a0_ca : Nat) (a0_ob : Option Addr) (a0_cb : Nat) (a1 : Int) (a2 : Int) (w1 : (Lit.int .i64 a1).wf = true) (w2 : (Lit.int .i64 a2).wf = true) (w : World) (w0 : MapIn a0_m a0_oa a0_ca a0_ob a0_cb w) :
    Calls Try.prog 4 #[mapVal a0_m a0_oa a0_ca a0_ob a0_cb, .int .i64 a1, .int .i64 a2] w fun e w' => e = .returned (.bool true) ∧ Below w.heap.size w w' := by
  have kA := TiL.awake_any
  obtain ⟨nw, hnw⟩ : ∃ n, n = a0_m.ws.length := ⟨_, rfl⟩
  obtain ⟨ns, hns⟩ : ∃ n, n = a0_m.sp.length := ⟨_, rfl⟩
  have kf := fun u => TiL.few_any a0_m a0_oa a0_ca a0_ob a0_cb u
  unfold mapVal at kf ⊢
  rw [← hnw, ← hns] at kf ⊢
  obtain ⟨W0, hW0⟩ : ∃ W0, W0 = w.alloc (.cells #[.int .i64 a0_m.W, .int .i64 a0_m.H, .slice a0_oa nw a0_ca, .slice a0_ob ns a0_cb] 26) := ⟨_, rfl⟩
  obtain ⟨B, hB⟩ : ∃ b, b = w.heap.size := ⟨_, rfl⟩
  have hT : Turned [] w W0 := by rw [hW0]; exact (Turned.refl [] w).alloc _
  have hS : Struct B [.int .i64 a0_m.W, .int .i64 a0_m.H, .slice a0_oa nw a0_ca, .slice a0_ob ns a0_cb] W0 := by
    have h0 := Struct.new w [.int .i64 a0_m.W, .int .i64 a0_m.H, .slice a0_oa nw a0_ca, .slice a0_ob ns a0_cb] 26
    rw [← hB] at h0
    rw [hW0]; exact h0
  have HT0 : Turned [] W0 W0 := Turned.refl _ _
  by_cases hfew : nw ≤ 1100 ∧ ns ≤ 1100
  · have hM := (w0.at (by rw [← hnw]; exact hfew.1) (by rw [← hns]; exact hfew.2)).calm hT
    have hq : (decide (nw ≤ 1100) && decide (ns ≤ 1100)) = true := by simpa using hfew
    rw [hq] at kf
    obtain ⟨fo, hfo⟩ : ∃ q, q = Ti.formedB a0_m := ⟨_, rfl⟩
    obtain ⟨wa, hwa⟩ : ∃ q, q = Ti.wallB a0_m a1 a2 := ⟨_, rfl⟩
    obtain ⟨S, hSS⟩ : ∃ q, q = Ti.str (Ti.ansT a0_m) := ⟨_, rfl⟩
    obtain ⟨E, hE⟩ : ∃ q, q = Ti.ansF a0_m := ⟨_, rfl⟩
    have k1 := fun (u : World) (h : MapAt a0_m a0_oa a0_ob u) => TiW.text_any a0_m a0_oa a0_ca a0_ob a0_cb u h
    have k2 := fun (u : World) (h : MapAt a0_m a0_oa a0_ob u) => TiR.text_any a0_m a0_oa a0_ca a0_ob a0_cb u h
    have k3 := fun (u : World) (h : MapAt a0_m a0_oa a0_ob u) => TiW.formed_any a0_m a0_oa a0_ca a0_ob a0_cb u h
    have k4 := fun (u : World) (h : MapAt a0_m a0_oa a0_ob u) => TiR.formed_any a0_m a0_oa a0_ca a0_ob a0_cb u h
    have k5 := fun (u : World) (h : MapAt a0_m a0_oa a0_ob u) => TiW.wall_any a0_m a0_oa a0_ca a0_ob a0_cb a1 a2 u h
    have k6 := fun (u : World) (h : MapAt a0_m a0_oa a0_ob u) => TiR.wall_any a0_m a0_oa a0_ca a0_ob a0_cb a1 a2 u h
    unfold mapVal at k1 k2 k3 k4 k5 k6
    rw [← hnw, ← hns] at k1 k2 k3 k4 k5 k6
    rw [← hfo] at k3 k4
    rw [← hwa] at k5 k6
    rw [← hSS, ← hE] at k1 k2
    have i1 : (fo == fo) = true := by simp
    have i3 : (E == E) = true := by simp
    have i4 : (wa == wa) = true := by simp
    clear hfew hq hnw hns hfo hwa hSS hE
    go_enter Try.func4, Try.ntmps4
    go_wp2_with fail
    rw [← hW0, ← hB]
    clear hW0 hB
    go_wp2_with (first | (go_at_call 10; (with_reducible refine (kA _).mono ?_); rintro e u0 ⟨rfl, HT1⟩; have HT0 := HT0.trans HT1 (by simp); have hSn := hS.keep HT0 (by simp); have d0 := (hSn.2 0 _ rfl).1; have d1 := (hSn.2 1 _ rfl).1; have d2 := (hSn.2 2 _ rfl).1; have d3 := (hSn.2 3 _ rfl).1) | (go_at_call 14; (with_reducible refine (kf _).mono ?_); rintro e u0 ⟨rfl, HT1⟩; have HT0 := HT0.trans HT1 (by simp); have hSn := hS.keep HT0 (by simp); have d0 := (hSn.2 0 _ rfl).1; have d1 := (hSn.2 1 _ rfl).1; have d2 := (hSn.2 2 _ rfl).1; have d3 := (hSn.2 3 _ rfl).1; have dd0 := fun o => ((hS.keep (HT0.alloc o) (by simp)).2 0 _ rfl).1; have dd1 := fun o => ((hS.keep (HT0.alloc o) (by simp)).2 1 _ rfl).1; have dd2 := fun o => ((hS.keep (HT0.alloc o) (by simp)).2 2 _ rfl).1; have dd3 := fun o => ((hS.keep (HT0.alloc o) (by simp)).2 3 _ rfl).1; have hV := Struct.new u0 [.int .i64 a0_m.W, .int .i64 a0_m.H, .slice a0_oa nw a0_ca, .slice a0_ob ns a0_cb] 30; have HT0 := HT0.alloc (.cells #[.int .i64 a0_m.W, .int .i64 a0_m.H, .slice a0_oa nw a0_ca, .slice a0_ob ns a0_cb] 30); have HV0 := Turned.refl [] (u0.alloc (.cells #[.int .i64 a0_m.W, .int .i64 a0_m.H, .slice a0_oa nw a0_ca, .slice a0_ob ns a0_cb] 30))) | (go_at_call 15; (with_reducible refine (k1 _ (hM.calm HT0)).mono ?_); rintro e u1 ⟨rfl, HT2⟩; have HT0 := HT0.trans HT2 (by simp); have hSn := hS.keep HT0 (by simp); have d0 := (hSn.2 0 _ rfl).1; have d1 := (hSn.2 1 _ rfl).1; have d2 := (hSn.2 2 _ rfl).1; have d3 := (hSn.2 3 _ rfl).1; have HV0 := HV0.trans HT2 (by simp); have hVn := hV.keep HV0 (by simp); have c0 := (hVn.2 0 _ rfl).1; have c1 := (hVn.2 1 _ rfl).1; have c2 := (hVn.2 2 _ rfl).1; have c3 := (hVn.2 3 _ rfl).1) | (go_at_call 16; (with_reducible refine (k2 _ (hM.calm HT0)).mono ?_); rintro e u2 ⟨rfl, HT3⟩; have HT0 := HT0.trans HT3 (by simp); have hSn := hS.keep HT0 (by simp); have d0 := (hSn.2 0 _ rfl).1; have d1 := (hSn.2 1 _ rfl).1; have d2 := (hSn.2 2 _ rfl).1; have d3 := (hSn.2 3 _ rfl).1; have HV0 := HV0.trans HT3 (by simp); have hVn := hV.keep HV0 (by simp); have c0 := (hVn.2 0 _ rfl).1; have c1 := (hVn.2 1 _ rfl).1; have c2 := (hVn.2 2 _ rfl).1; have c3 := (hVn.2 3 _ rfl).1; have kd0 := KeptW.at hSn.1 (hSn.2 0 _ rfl).1; have kd1 := KeptW.at hSn.1 (hSn.2 1 _ rfl).1; have kd2 := KeptW.at hSn.1 (hSn.2 2 _ rfl).1; have kd3 := KeptW.at hSn.1 (hSn.2 3 _ rfl).1; have kc0 := KeptW.at hVn.1 (hVn.2 0 _ rfl).1; have kc1 := KeptW.at hVn.1 (hVn.2 1 _ rfl).1; have kc2 := KeptW.at hVn.1 (hVn.2 2 _ rfl).1; have kc3 := KeptW.at hVn.1 (hVn.2 3 _ rfl).1; have ne : Nonempty (KeptW u2) := KeptW.one u2; have hMn := hM.calm HT0; have g3 := fun (v : KeptW u2) => TiL.quiet (k3 v.u (hMn.calm (Turned.ofBelow v.h))); have g4 := fun (v : KeptW u2) => TiL.quiet (k4 v.u (hMn.calm (Turned.ofBelow v.h))); have g5 := fun (v : KeptW u2) => TiL.quiet (k5 v.u (hMn.calm (Turned.ofBelow v.h))); have g6 := fun (v : KeptW u2) => TiL.quiet (k6 v.u (hMn.calm (Turned.ofBelow v.h)))))
    refine wp_region_kept (by kernel_rfl) (by kernel_rfl) ?_
    repeat (go_big_quiet_step (first | (go_at_call 17; with_reducible exact g3 _) | (go_at_call 18; with_reducible exact g4 _) | (go_at_call 19; with_reducible exact g5 _) | (go_at_call 20; with_reducible exact g6 _)))
    refine wpQuiet_nil ?_
    rintro _ ⟨y, rfl⟩
    go_wp2_with fail
    go_ret
    exact ⟨rfl, (hT.trans (HT0.trans (Turned.ofBelow y.h) (by simp)) (by simp)).none⟩
  · have hq : (decide (nw ≤ 1100) && decide (ns ≤ 1100)) = false := by simpa using hfew
    rw [hq] at kf
    clear hfew hq hnw hns
    go_enter Try.func4, Try.ntmps4
    go_wp2_with fail
    rw [← hW0, ← hB]
    clear hW0 hB
    go_wp2_with (first | (go_at_call 10; (with_reducible refine (kA _).mono ?_); rintro e u0 ⟨rfl, HT1⟩; have HT0 := HT0.trans HT1 (by simp); have hSn := hS.keep HT0 (by simp); have d0 := (hSn.2 0 _ rfl).1; have d1 := (hSn.2 1 _ rfl).1; have d2 := (hSn.2 2 _ rfl).1; have d3 := (hSn.2 3 _ rfl).1) | (go_at_call 14; (with_reducible refine (kf _).mono ?_); rintro e u0 ⟨rfl, HT1⟩; have HT0 := HT0.trans HT1 (by simp); have hSn := hS.keep HT0 (by simp); have d0 := (hSn.2 0 _ rfl).1; have d1 := (hSn.2 1 _ rfl).1; have d2 := (hSn.2 2 _ rfl).1; have d3 := (hSn.2 3 _ rfl).1))
    go_ret
    exact ⟨rfl, (hT.trans HT0 (by simp)).none⟩

set_option maxRecDepth 100000 in
theorem lifted (os : Os) (started : os.Started) (H : Type) (enc : TypeId × Value → H) :
    ReturnsInHanded {} Try.checked os 4 .any (Rows.tilesTellsSpec.pre6 enc Try.prog Try.f4 Rows.tilesTellsRow.domain false) (Rows.tilesTellsSpec.post enc Try.prog Try.f4 false true false false) := by
  refine returnsInHanded_of_change (C := Try.checked) own started (by kernel_rfl) Try.func4
    (ChangeSpec.witness6 (enc := enc) (C := Try.checked) false ⟨#[], #[.agg #[.int .i64 0, .int .i64 0, .slice none 0 0, .slice none 0 0], .int .i64 0, .int .i64 0], []⟩ 8 (by kernel_rfl) (by kernel_rfl) (by kernel_rfl) (by kernel_rfl)) ?_
  intro W base args ds gs before hval0 hW hcnd _
  have hval : ∀ (j : Nat) t v, Try.f4.params[j]? = some t → args[j]? = some v → Value.okWide Try.prog W .any base t v := hval0
  have hW' := hW
  obtain ⟨p, q, hA0, hV, rfl, hfz, hnd⟩ := hW
  have hA : DataW.TrodAll enc Try.prog W 0 (fun _ => true) true Try.f4.params.toList args.toList ds p := hA0
  rw [Try.params4] at hA hval
  obtain ⟨v0, vs0, d0, ds0, p0, q0, hargs, rfl, rfl, h0, r0⟩ := trodAll_cons hA
  obtain ⟨v1, vs1, d1, ds1, p1, q1, rfl, rfl, rfl, h1, r1⟩ := trodAll_cons r0
  obtain ⟨v2, vs2, d2, ds2, p2, q2, rfl, rfl, rfl, h2, r2⟩ := trodAll_cons r1
  obtain ⟨rfl, rfl, rfl⟩ := trodAll_nil r2
  obtain rfl : args = #[v0, v1, v2] := by cases args; simp_all
  obtain ⟨rfl, rfl⟩ := trodVars_none hV
  have k0 := h0
  have lt0 : ∀ x ∈ p0, x.block < W.heap.size := by obtain ⟨m, hm⟩ := k0; exact DataW.trod_lt m _ _ _ hm
  have k1 := h1
  have lt1 : ∀ x ∈ p1, x.block < W.heap.size := by obtain ⟨m, hm⟩ := k1; exact DataW.trod_lt m _ _ _ hm
  have k2 := h2
  have lt2 : ∀ x ∈ p2, x.block < W.heap.size := by obtain ⟨m, hm⟩ := k2; exact DataW.trod_lt m _ _ _ hm
  obtain ⟨a0_m, a0_oa, a0_ca, a0_ob, a0_cb, rfl, w0⟩ := open_map (hval 0 26 v0 rfl rfl) h0
  obtain ⟨a1, rfl, _, _, w1⟩ := open_int Try.underlying3 (hval 1 3 v1 rfl rfl) h1
  obtain ⟨a2, rfl, _, _, w2⟩ := open_int Try.underlying3 (hval 2 3 v2 rfl rfl) h2
  clear hA0 hval0
  refine (walk a0_m a0_oa a0_ca a0_ob a0_cb a1 a2 w1 w2 W w0).mono fun e W' ⟨he, bel⟩ => ?_
  subst he
  exact ⟨_, rfl, _, _, _, [], _, [], hW', trodAll_mk1 (shut_bool Try.underlying4 _), (trodAll_cons_mk (Below.trod laidOut (by kernel_rfl) (of_decide_eq_true (by kernel_rfl)) k0 bel lt0) (trodAll_cons_mk (Below.trod laidOut (by kernel_rfl) (of_decide_eq_true (by kernel_rfl)) k1 bel lt1) (trodAll_cons_mk (Below.trod laidOut (by kernel_rfl) (of_decide_eq_true (by kernel_rfl)) k2 bel lt2) trodAll_mk0))), rfl, bel.frame _, fun h => by cases h⟩

theorem over : Rows.tilesTellsRow.holds Try.pinned (OpenSpec.ofChange Rows.tilesTellsSpec) :=
  OpenClaim.holds_of_wide 4 Try.f4 rfl rfl rfl rfl rfl rfl rfl ⟨rfl, rfl, rfl, rfl, rfl⟩ rfl rfl rfl rfl rfl (by kernel_rfl) Try.func4 (by kernel_rfl)
    (of_decide_eq_true (by kernel_rfl)) (by unfold Func.isWrapper; first | (rw [if_pos (by decide +kernel)]; kernel_rfl) | (rw [if_neg (by decide +kernel)]; exact ⟨rfl, rfl⟩))
    (fun os started H enc _ => lifted os started H enc)

theorem proved : Rows.TilesTellsSaid :=
  over
#print axioms proved
end Go.Proofs.Ytecjfenpdpdanaa.tilesTells

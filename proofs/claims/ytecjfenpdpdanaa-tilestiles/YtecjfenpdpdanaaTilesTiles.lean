/- Of each tile of a map of up to 1100 tiles that can be read: the box just it is free just if it is no wall, a point on its edge always is; and beyond the map all is wall. -/
import Derived.Test.YtecjfenpdpdanaaRows
import Derived.Test.YtecjfenpdpdanaaTilLaw2
import Derived.Test.YtecjfenpdpdanaaFlat
import Derived.WalkKit
import Derived.ProofKit
import Derived.OpenShut
import Derived.ChangeOld
import Derived.Below
import Derived.WalkSmall
import Derived.Lib.SmallJoins
import Derived.Laws.IdiomArrays
namespace Go.Proofs.Ytecjfenpdpdanaa.tilesTiles
open Go.ChangeShapes Go.WideShapes Go.ChangeAt Go.RowKit
set_option linter.unusedVariables false

theorem own : ownKnob Try.prog.godebug = none := by kernel_rfl
theorem laidOut : laidOutB Try.prog = true := by kernel_rfl

set_option maxRecDepth 20000 in
set_option maxHeartbeats 8000000 in
theorem walk (a0_m : Ti.M) (a0_oa : Option Addr) (a0_ca : Nat) (a0_ob : Option Addr) (a0_cb : Nat) (a1 : Int) (a2 : Int) (w1 : (Lit.int .u8 a1).wf = true) (w2 : (Lit.int .u8 a2).wf = true) (w : World) (w0 : MapIn a0_m a0_oa a0_ca a0_ob a0_cb w) :
    Calls Try.prog 8 #[mapVal a0_m a0_oa a0_ca a0_ob a0_cb, .int .u8 a1, .int .u8 a2] w fun e w' => e = .returned (.bool true) ∧ Below w.heap.size w w' := by
  have kA := TiL.awake_any
  obtain ⟨nw, hnw⟩ : ∃ n, n = a0_m.ws.length := ⟨_, rfl⟩
  obtain ⟨ns, hns⟩ : ∃ n, n = a0_m.sp.length := ⟨_, rfl⟩
  have kf := fun u => TiL.few_any a0_m a0_oa a0_ca a0_ob a0_cb u
  unfold mapVal at kf ⊢
  rw [← hnw, ← hns] at kf ⊢
  obtain ⟨W0, hW0⟩ : ∃ W0, W0 = w.alloc (.cells #[.int .i64 a0_m.W, .int .i64 a0_m.H, .slice a0_oa nw a0_ca, .slice a0_ob ns a0_cb] 26) := ⟨_, rfl⟩
  obtain ⟨B, hB⟩ : ∃ b, b = w.heap.size := ⟨_, rfl⟩
  have hT : Turned [] w W0 := by rw [hW0]; exact (Turned.refl [] w).alloc _
  have hS : Struct B [.int .i64 a0_m.W, .int .i64 a0_m.H, .slice a0_oa nw a0_ca, .slice a0_ob ns a0_cb] W0 := by
    have h0 := Struct.new w [.int .i64 a0_m.W, .int .i64 a0_m.H, .slice a0_oa nw a0_ca, .slice a0_ob ns a0_cb] 26
    rw [← hB] at h0
    rw [hW0]; exact h0
  have HT0 : Turned [] W0 W0 := Turned.refl _ _
  by_cases hfew : nw ≤ 1100 ∧ ns ≤ 1100
  · have hM := (w0.at (by rw [← hnw]; exact hfew.1) (by rw [← hns]; exact hfew.2)).calm hT
    have hq : (decide (nw ≤ 1100) && decide (ns ≤ 1100)) = true := by simpa using hfew
    rw [hq] at kf
    have k3 := fun (u : World) (h : MapAt a0_m a0_oa a0_ob u) => TiW.formed_any a0_m a0_oa a0_ca a0_ob a0_cb u h
    unfold mapVal at k3
    rw [← hnw, ← hns] at k3
    by_cases hF : Ti.Formed a0_m
    · rw [show Ti.formedB a0_m = true from Ti.formedB_iff.2 hF] at k3
      obtain ⟨h1, h2, h3, h4, h5⟩ := hF.1
      obtain ⟨wn, hwn⟩ : ∃ n : Nat, a0_m.W = (n : Int) := ⟨a0_m.W.toNat, by omega⟩
      obtain ⟨hn, hhn⟩ : ∃ n : Nat, a0_m.H = (n : Int) := ⟨a0_m.H.toNat, by omega⟩
      have hu1 := TiL.u8_in w1
      have hu2 := TiL.u8_in w2
      have hw32 : 1 ≤ wn ∧ wn ≤ 32 := by omega
      have hh32 : 1 ≤ hn ∧ hn ≤ 32 := by omega
      obtain ⟨ax, hax, hxl⟩ : ∃ ax : Nat, a1.tmod (wn : Int) = (ax : Int) ∧ ax < wn := TiL.tmod_in hu1.1 hw32.1
      obtain ⟨b_y, hby, hyl⟩ : ∃ b_y : Nat, a2.tmod (hn : Int) = (b_y : Int) ∧ b_y < hn := TiL.tmod_in hu2.1 hh32.1
      obtain ⟨p, hp⟩ : ∃ q, q = Ti.freeB a0_m ⟨(ax : Int) * 65536, (b_y : Int) * 65536, (ax : Int) * 65536 + 65536, (b_y : Int) * 65536 + 65536⟩ := ⟨_, rfl⟩
      obtain ⟨q, hq⟩ : ∃ q, q = Ti.wallB a0_m (ax : Int) (b_y : Int) := ⟨_, rfl⟩
      have i1 : (!(p == q)) = true := by rw [hp, hq]; exact Ti.tile_free hF (by omega) (by omega)
      have k4 := fun (u : World) (h : MapAt a0_m a0_oa a0_ob u) => TiL.free_w a0_m a0_oa a0_ca a0_ob a0_cb ((ax : Int) * 65536) ((b_y : Int) * 65536) ((ax : Int) * 65536 + 65536) ((b_y : Int) * 65536 + 65536) u h
      have k5 := fun (u : World) (h : MapAt a0_m a0_oa a0_ob u) => TiW.wall_any a0_m a0_oa a0_ca a0_ob a0_cb (ax : Int) (b_y : Int) u h
      have k6 := fun (u : World) (h : MapAt a0_m a0_oa a0_ob u) => TiL.free_w a0_m a0_oa a0_ca a0_ob a0_cb ((ax : Int) * 65536) ((b_y : Int) * 65536) ((ax : Int) * 65536) ((b_y : Int) * 65536) u h
      have k7 := fun (u : World) (h : MapAt a0_m a0_oa a0_ob u) => TiW.wall_any a0_m a0_oa a0_ca a0_ob a0_cb (-1) (b_y : Int) u h
      have k8 := fun (u : World) (h : MapAt a0_m a0_oa a0_ob u) => TiW.wall_any a0_m a0_oa a0_ca a0_ob a0_cb (ax : Int) a0_m.H u h
      rw [Ti.point_free hF (by omega) (by omega)] at k6
      rw [Ti.wall_left] at k7
      rw [Ti.wall_under] at k8
      rw [← hp] at k4
      rw [← hq] at k5
      unfold mapVal at k4 k5 k6 k7 k8
      rw [← hnw, ← hns, hwn, hhn] at k4 k5 k6 k7 k8
      rw [hwn, hhn] at kf k3 hS hW0 ⊢
      clear hfew hnw hns hp hq h1 h2 h3 h4 h5 hwn hhn hF
      go_enter Try.func8, Try.ntmps8
      go_wp2_with fail
      rw [← hW0, ← hB]
      clear hW0 hB
      go_wp2_with (first | (go_at_call 10; (with_reducible refine (kA _).mono ?_); rintro e u0 ⟨rfl, HT1⟩; have HT0 := HT0.trans HT1 (by simp); have hSn := hS.keep HT0 (by simp); have d0 := (hSn.2 0 _ rfl).1; have d1 := (hSn.2 1 _ rfl).1; have d2 := (hSn.2 2 _ rfl).1; have d3 := (hSn.2 3 _ rfl).1) | (go_at_call 14; (with_reducible refine (kf _).mono ?_); rintro e u0 ⟨rfl, HT1⟩; have HT0 := HT0.trans HT1 (by simp); have hSn := hS.keep HT0 (by simp); have d0 := (hSn.2 0 _ rfl).1; have d1 := (hSn.2 1 _ rfl).1; have d2 := (hSn.2 2 _ rfl).1; have d3 := (hSn.2 3 _ rfl).1) | (go_at_call 17; (with_reducible refine (k3 _ (hM.calm HT0)).mono ?_); rintro e u1 ⟨rfl, HT2⟩; have HT0 := HT0.trans HT2 (by simp); have hSn := hS.keep HT0 (by simp); have d0 := (hSn.2 0 _ rfl).1; have d1 := (hSn.2 1 _ rfl).1; have d2 := (hSn.2 2 _ rfl).1; have d3 := (hSn.2 3 _ rfl).1; have kd0 := KeptW.at hSn.1 (hSn.2 0 _ rfl).1; have kd1 := KeptW.at hSn.1 (hSn.2 1 _ rfl).1; have kd2 := KeptW.at hSn.1 (hSn.2 2 _ rfl).1; have kd3 := KeptW.at hSn.1 (hSn.2 3 _ rfl).1; have ne : Nonempty (KeptW u1) := KeptW.one u1))
      refine wp_region_kept (by kernel_rfl) (by kernel_rfl) ?_
      repeat (go_big_quiet_step (fail))
      refine wpQuiet_nil ?_
      rintro _ ⟨y, rfl⟩
      have HT0 := HT0.trans (Turned.ofBelow y.h) (by simp)
      have HS3 := hS.keep HT0 (by simp)
      generalize y.u = u3 at HT0 HS3 ⊢
      clear kd0 kd1 kd2 kd3 d0 d1 d2 d3 y
      go_wp2_with fail
      obtain ⟨W1, hW1⟩ : ∃ W1, W1 = (u3.alloc (.cells #[.int .i64 ((ax : Int) * 65536), .int .i64 ((b_y : Int) * 65536)] 44)).alloc (.cells #[.int .i64 ((ax : Int) * 65536 + 65536), .int .i64 ((b_y : Int) * 65536 + 65536)] 44) := ⟨_, rfl⟩
      obtain ⟨C, hC⟩ : ∃ C, C = u3.heap.size := ⟨_, rfl⟩
      obtain ⟨D, hD⟩ : ∃ D, D = u3.heap.size + 1 := ⟨_, rfl⟩
      have HL : Struct C [.int .i64 ((ax : Int) * 65536), .int .i64 ((b_y : Int) * 65536)] W1 := by
        rw [hW1, hC]; exact (Struct.new u3 [.int .i64 ((ax : Int) * 65536), .int .i64 ((b_y : Int) * 65536)] 44).keep ((Turned.refl [] _).alloc _) (by simp)
      have HM : Struct D [.int .i64 ((ax : Int) * 65536 + 65536), .int .i64 ((b_y : Int) * 65536 + 65536)] W1 := by
        have h0 := Struct.new (u3.alloc (.cells #[.int .i64 ((ax : Int) * 65536), .int .i64 ((b_y : Int) * 65536)] 44)) [.int .i64 ((ax : Int) * 65536 + 65536), .int .i64 ((b_y : Int) * 65536 + 65536)] 44
        rw [show (u3.alloc (.cells #[.int .i64 ((ax : Int) * 65536), .int .i64 ((b_y : Int) * 65536)] 44)).heap.size = u3.heap.size + 1 by simp, ← hD] at h0
        rw [hW1]; exact h0
      have HT0 : Turned [] W0 W1 := by rw [hW1]; exact (HT0.alloc _).alloc _
      rw [← hW1, ← hD, ← hC]
      clear hW1 hD hC HS3
      have HS4 := hS.keep HT0 (by simp)
      have kd0 := KeptW.at HS4.1 (HS4.2 0 _ rfl).1
      have kd1 := KeptW.at HS4.1 (HS4.2 1 _ rfl).1
      have kd2 := KeptW.at HS4.1 (HS4.2 2 _ rfl).1
      have kd3 := KeptW.at HS4.1 (HS4.2 3 _ rfl).1
      have kl0 := KeptW.at HL.1 (HL.2 0 _ rfl).1
      have kl1 := KeptW.at HL.1 (HL.2 1 _ rfl).1
      have km0 := KeptW.at HM.1 (HM.2 0 _ rfl).1
      have km1 := KeptW.at HM.1 (HM.2 1 _ rfl).1
      have ne : Nonempty (KeptW W1) := KeptW.one W1
      have hMn := hM.calm HT0
      have g4 := fun (v : KeptW W1) => TiL.quiet (k4 v.u (hMn.calm (Turned.ofBelow v.h)))
      have g5 := fun (v : KeptW W1) => TiL.quiet (k5 v.u (hMn.calm (Turned.ofBelow v.h)))
      have g6 := fun (v : KeptW W1) => TiL.quiet (k6 v.u (hMn.calm (Turned.ofBelow v.h)))
      have g7 := fun (v : KeptW W1) => TiL.quiet (k7 v.u (hMn.calm (Turned.ofBelow v.h)))
      have g8 := fun (v : KeptW W1) => TiL.quiet (k8 v.u (hMn.calm (Turned.ofBelow v.h)))
      refine wp_region_kept (by kernel_rfl) (by kernel_rfl) ?_
      repeat (go_big_quiet_step (first | (go_at_call 21; with_reducible exact g4 _) | (go_at_call 21; with_reducible exact g6 _) | (go_at_call 19; with_reducible exact g5 _) | (go_at_call 19; with_reducible exact g7 _) | (go_at_call 19; with_reducible exact g8 _)))
      refine wpQuiet_nil ?_
      rintro _ ⟨y, rfl⟩
      go_wp2_with fail
      go_ret
      exact ⟨rfl, (hT.trans (HT0.trans (Turned.ofBelow y.h) (by simp)) (by simp)).none⟩
    · rw [show Ti.formedB a0_m = false from Ti.formedB_not hF] at k3
      clear hfew hnw hns hF
      go_enter Try.func8, Try.ntmps8
      go_wp2_with fail
      rw [← hW0, ← hB]
      clear hW0 hB
      go_wp2_with (first | (go_at_call 10; (with_reducible refine (kA _).mono ?_); rintro e u0 ⟨rfl, HT1⟩; have HT0 := HT0.trans HT1 (by simp); have hSn := hS.keep HT0 (by simp); have d0 := (hSn.2 0 _ rfl).1; have d1 := (hSn.2 1 _ rfl).1; have d2 := (hSn.2 2 _ rfl).1; have d3 := (hSn.2 3 _ rfl).1) | (go_at_call 14; (with_reducible refine (kf _).mono ?_); rintro e u0 ⟨rfl, HT1⟩; have HT0 := HT0.trans HT1 (by simp); have hSn := hS.keep HT0 (by simp); have d0 := (hSn.2 0 _ rfl).1; have d1 := (hSn.2 1 _ rfl).1; have d2 := (hSn.2 2 _ rfl).1; have d3 := (hSn.2 3 _ rfl).1) | (go_at_call 17; (with_reducible refine (k3 _ (hM.calm HT0)).mono ?_); rintro e u1 ⟨rfl, HT2⟩; have HT0 := HT0.trans HT2 (by simp); have hSn := hS.keep HT0 (by simp); have d0 := (hSn.2 0 _ rfl).1; have d1 := (hSn.2 1 _ rfl).1; have d2 := (hSn.2 2 _ rfl).1; have d3 := (hSn.2 3 _ rfl).1))
      go_ret
      exact ⟨rfl, (hT.trans HT0 (by simp)).none⟩
  · have hq : (decide (nw ≤ 1100) && decide (ns ≤ 1100)) = false := by simpa using hfew
    rw [hq] at kf
    clear hfew hq hnw hns
    go_enter Try.func8, Try.ntmps8
    go_wp2_with fail
    rw [← hW0, ← hB]
    clear hW0 hB
    go_wp2_with (first | (go_at_call 10; (with_reducible refine (kA _).mono ?_); rintro e u0 ⟨rfl, HT1⟩; have HT0 := HT0.trans HT1 (by simp); have hSn := hS.keep HT0 (by simp); have d0 := (hSn.2 0 _ rfl).1; have d1 := (hSn.2 1 _ rfl).1; have d2 := (hSn.2 2 _ rfl).1; have d3 := (hSn.2 3 _ rfl).1) | (go_at_call 14; (with_reducible refine (kf _).mono ?_); rintro e u0 ⟨rfl, HT1⟩; have HT0 := HT0.trans HT1 (by simp); have hSn := hS.keep HT0 (by simp); have d0 := (hSn.2 0 _ rfl).1; have d1 := (hSn.2 1 _ rfl).1; have d2 := (hSn.2 2 _ rfl).1; have d3 := (hSn.2 3 _ rfl).1))
    go_ret
    exact ⟨rfl, (hT.trans HT0 (by simp)).none⟩

set_option maxRecDepth 100000 in
theorem lifted (os : Os) (started : os.Started) (H : Type) (enc : TypeId × Value → H) :
    ReturnsInHanded {} Try.checked os 8 .any (Rows.tilesTilesSpec.pre6 enc Try.prog Try.f8 Rows.tilesTilesRow.domain false) (Rows.tilesTilesSpec.post enc Try.prog Try.f8 false true false false) := by
  refine returnsInHanded_of_change (C := Try.checked) own started (by kernel_rfl) Try.func8
    (ChangeSpec.witness6 (enc := enc) (C := Try.checked) false ⟨#[], #[.agg #[.int .i64 0, .int .i64 0, .slice none 0 0, .slice none 0 0], .int .u8 0, .int .u8 0], []⟩ 8 (by kernel_rfl) (by kernel_rfl) (by kernel_rfl) (by kernel_rfl)) ?_
  intro W base args ds gs before hval0 hW hcnd _
  have hval : ∀ (j : Nat) t v, Try.f8.params[j]? = some t → args[j]? = some v → Value.okWide Try.prog W .any base t v := hval0
  have hW' := hW
  obtain ⟨p, q, hA0, hV, rfl, hfz, hnd⟩ := hW
  have hA : DataW.TrodAll enc Try.prog W 0 (fun _ => true) true Try.f8.params.toList args.toList ds p := hA0
  rw [Try.params8] at hA hval
  obtain ⟨v0, vs0, d0, ds0, p0, q0, hargs, rfl, rfl, h0, r0⟩ := trodAll_cons hA
  obtain ⟨v1, vs1, d1, ds1, p1, q1, rfl, rfl, rfl, h1, r1⟩ := trodAll_cons r0
  obtain ⟨v2, vs2, d2, ds2, p2, q2, rfl, rfl, rfl, h2, r2⟩ := trodAll_cons r1
  obtain ⟨rfl, rfl, rfl⟩ := trodAll_nil r2
  obtain rfl : args = #[v0, v1, v2] := by cases args; simp_all
  obtain ⟨rfl, rfl⟩ := trodVars_none hV
  have k0 := h0
  have lt0 : ∀ x ∈ p0, x.block < W.heap.size := by obtain ⟨m, hm⟩ := k0; exact DataW.trod_lt m _ _ _ hm
  have k1 := h1
  have lt1 : ∀ x ∈ p1, x.block < W.heap.size := by obtain ⟨m, hm⟩ := k1; exact DataW.trod_lt m _ _ _ hm
  have k2 := h2
  have lt2 : ∀ x ∈ p2, x.block < W.heap.size := by obtain ⟨m, hm⟩ := k2; exact DataW.trod_lt m _ _ _ hm
  obtain ⟨a0_m, a0_oa, a0_ca, a0_ob, a0_cb, rfl, w0⟩ := open_map (hval 0 26 v0 rfl rfl) h0
  obtain ⟨a1, rfl, _, _, w1⟩ := open_int Try.underlying5 (hval 1 5 v1 rfl rfl) h1
  obtain ⟨a2, rfl, _, _, w2⟩ := open_int Try.underlying5 (hval 2 5 v2 rfl rfl) h2
  clear hA0 hval0
  refine (walk a0_m a0_oa a0_ca a0_ob a0_cb a1 a2 w1 w2 W w0).mono fun e W' ⟨he, bel⟩ => ?_
  subst he
  exact ⟨_, rfl, _, _, _, [], _, [], hW', trodAll_mk1 (shut_bool Try.underlying4 _), (trodAll_cons_mk (Below.trod laidOut (by kernel_rfl) (of_decide_eq_true (by kernel_rfl)) k0 bel lt0) (trodAll_cons_mk (Below.trod laidOut (by kernel_rfl) (of_decide_eq_true (by kernel_rfl)) k1 bel lt1) (trodAll_cons_mk (Below.trod laidOut (by kernel_rfl) (of_decide_eq_true (by kernel_rfl)) k2 bel lt2) trodAll_mk0))), rfl, bel.frame _, fun h => by cases h⟩

theorem over : Rows.tilesTilesRow.holds Try.pinned (OpenSpec.ofChange Rows.tilesTilesSpec) :=
  OpenClaim.holds_of_wide 8 Try.f8 rfl rfl rfl rfl rfl rfl rfl ⟨rfl, rfl, rfl, rfl, rfl⟩ rfl rfl rfl rfl rfl (by kernel_rfl) Try.func8 (by kernel_rfl)
    (of_decide_eq_true (by kernel_rfl)) (by unfold Func.isWrapper; first | (rw [if_pos (by decide +kernel)]; kernel_rfl) | (rw [if_neg (by decide +kernel)]; exact ⟨rfl, rfl⟩))
    (fun os started H enc _ => lifted os started H enc)

theorem proved : Rows.TilesTilesSaid :=
  over
#print axioms proved
end Go.Proofs.Ytecjfenpdpdanaa.tilesTiles

/- In a map of up to 1100 tiles a box that lies within one that is free is free. -/
import Derived.Test.YtecjfenpdpdanaaRows
import Derived.Test.YtecjfenpdpdanaaTilLaw2
import Derived.Test.YtecjfenpdpdanaaFlat
import Derived.WalkKit
import Derived.ProofKit
import Derived.OpenShut
import Derived.ChangeOld
import Derived.Below
import Derived.WalkSmall
import Derived.Lib.SmallJoins
import Derived.Laws.IdiomArrays
namespace Go.Proofs.Ytecjfenpdpdanaa.tilesLess
open Go.ChangeShapes Go.WideShapes Go.ChangeAt Go.RowKit
set_option linter.unusedVariables false

theorem own : ownKnob Try.prog.godebug = none := by kernel_rfl
theorem laidOut : laidOutB Try.prog = true := by kernel_rfl

theorem leaf_of {k : IntKind} {v : Value} (h : (Leaf.int k).ok v) : ∃ z, v = .int k z ∧ (Lit.int k z).wf = true := h
theorem leafb_of {v : Value} (h : Leaf.bool.ok v) : ∃ b, v = .bool b := h
theorem flat1_of (cs : List Value) (h : AllOk [.int .i64, .int .i64, .int .i64, .int .i64] cs) : ∃ x0 x1 x2 x3, cs = [.int .i64 x0, .int .i64 x1, .int .i64 x2, .int .i64 x3] ∧ (Lit.int .i64 x0).wf = true ∧ (Lit.int .i64 x1).wf = true ∧ (Lit.int .i64 x2).wf = true ∧ (Lit.int .i64 x3).wf = true := by
  have hl := h.length
  obtain ⟨c0, c1, c2, c3, rfl⟩ : ∃ c0 c1 c2 c3, cs = [c0, c1, c2, c3] := by
    match cs, hl with
    | [c0, c1, c2, c3], _ => exact ⟨c0, c1, c2, c3, rfl⟩
  obtain ⟨x0, e0, y0⟩ := leaf_of h.1
  obtain ⟨x1, e1, y1⟩ := leaf_of h.2.1
  obtain ⟨x2, e2, y2⟩ := leaf_of h.2.2.1
  obtain ⟨x3, e3, y3⟩ := leaf_of h.2.2.2.1
  exact ⟨x0, x1, x2, x3, by rw [e0, e1, e2, e3], y0, y1, y2, y3⟩

theorem flat2_of (cs : List Value) (h : AllOk [.int .u16, .int .u16, .int .u16, .int .u16] cs) : ∃ x0 x1 x2 x3, cs = [.int .u16 x0, .int .u16 x1, .int .u16 x2, .int .u16 x3] ∧ (Lit.int .u16 x0).wf = true ∧ (Lit.int .u16 x1).wf = true ∧ (Lit.int .u16 x2).wf = true ∧ (Lit.int .u16 x3).wf = true := by
  have hl := h.length
  obtain ⟨c0, c1, c2, c3, rfl⟩ : ∃ c0 c1 c2 c3, cs = [c0, c1, c2, c3] := by
    match cs, hl with
    | [c0, c1, c2, c3], _ => exact ⟨c0, c1, c2, c3, rfl⟩
  obtain ⟨x0, e0, y0⟩ := leaf_of h.1
  obtain ⟨x1, e1, y1⟩ := leaf_of h.2.1
  obtain ⟨x2, e2, y2⟩ := leaf_of h.2.2.1
  obtain ⟨x3, e3, y3⟩ := leaf_of h.2.2.2.1
  exact ⟨x0, x1, x2, x3, by rw [e0, e1, e2, e3], y0, y1, y2, y3⟩

set_option maxRecDepth 20000 in
set_option maxHeartbeats 8000000 in
theorem walk (a0_m : Ti.M) (a0_oa : Option Addr) (a0_ca : Nat) (a0_ob : Option Addr) (a0_cb : Nat) (a1_0 : Int) (a1_1 : Int) (a1_2 : Int) (a1_3 : Int) (a2_0 : Int) (a2_1 : Int) (a2_2 : Int) (a2_3 : Int) (w1_0 : (Lit.int .i64 a1_0).wf = true) (w1_1 : (Lit.int .i64 a1_1).wf = true) (w1_2 : (Lit.int .i64 a1_2).wf = true) (w1_3 : (Lit.int .i64 a1_3).wf = true) (w2_0 : (Lit.int .u16 a2_0).wf = true) (w2_1 : (Lit.int .u16 a2_1).wf = true) (w2_2 : (Lit.int .u16 a2_2).wf = true) (w2_3 : (Lit.int .u16 a2_3).wf = true) (w : World) (w0 : MapIn a0_m a0_oa a0_ca a0_ob a0_cb w) :
    Calls Try.prog 9 #[mapVal a0_m a0_oa a0_ca a0_ob a0_cb, .agg #[.int .i64 a1_0, .int .i64 a1_1, .int .i64 a1_2, .int .i64 a1_3], .agg #[.int .u16 a2_0, .int .u16 a2_1, .int .u16 a2_2, .int .u16 a2_3]] w fun e w' => e = .returned (.bool true) ∧ Below w.heap.size w w' := by
  have kA := TiL.awake_any
  obtain ⟨nw, hnw⟩ : ∃ n, n = a0_m.ws.length := ⟨_, rfl⟩
  obtain ⟨ns, hns⟩ : ∃ n, n = a0_m.sp.length := ⟨_, rfl⟩
  have kf := fun u => TiL.few_any a0_m a0_oa a0_ca a0_ob a0_cb u
  unfold mapVal at kf ⊢
  rw [← hnw, ← hns] at kf ⊢
  obtain ⟨W0, hW0⟩ : ∃ W0, W0 = ((w.alloc (.cells #[.int .i64 a0_m.W, .int .i64 a0_m.H, .slice a0_oa nw a0_ca, .slice a0_ob ns a0_cb] 26)).alloc (.cells #[.int .i64 a1_0, .int .i64 a1_1, .int .i64 a1_2, .int .i64 a1_3] 46)).alloc (.cells #[.int .u16 a2_0, .int .u16 a2_1, .int .u16 a2_2, .int .u16 a2_3] 54) := ⟨_, rfl⟩
  obtain ⟨B, hB⟩ : ∃ b, b = w.heap.size := ⟨_, rfl⟩
  obtain ⟨C, hC⟩ : ∃ b, b = w.heap.size + 1 := ⟨_, rfl⟩
  obtain ⟨D, hD⟩ : ∃ b, b = w.heap.size + 1 + 1 := ⟨_, rfl⟩
  have hT : Turned [] w W0 := by rw [hW0]; exact (((Turned.refl [] w).alloc _).alloc _).alloc _
  have hS : Struct B [.int .i64 a0_m.W, .int .i64 a0_m.H, .slice a0_oa nw a0_ca, .slice a0_ob ns a0_cb] W0 := by
    have h0 := Struct.new w [.int .i64 a0_m.W, .int .i64 a0_m.H, .slice a0_oa nw a0_ca, .slice a0_ob ns a0_cb] 26
    rw [← hB] at h0
    rw [hW0]; exact ((h0.keep ((Turned.refl [] _).alloc _) (by simp)).keep ((Turned.refl [] _).alloc _) (by simp))
  have hP : Struct C [.int .i64 a1_0, .int .i64 a1_1, .int .i64 a1_2, .int .i64 a1_3] W0 := by
    have h0 := Struct.new (w.alloc (.cells #[.int .i64 a0_m.W, .int .i64 a0_m.H, .slice a0_oa nw a0_ca, .slice a0_ob ns a0_cb] 26)) [.int .i64 a1_0, .int .i64 a1_1, .int .i64 a1_2, .int .i64 a1_3] 46
    rw [show (w.alloc (.cells #[.int .i64 a0_m.W, .int .i64 a0_m.H, .slice a0_oa nw a0_ca, .slice a0_ob ns a0_cb] 26)).heap.size = w.heap.size + 1 by simp, ← hC] at h0
    rw [hW0]; exact (h0.keep ((Turned.refl [] _).alloc _) (by simp))
  have hQ : Struct D [.int .u16 a2_0, .int .u16 a2_1, .int .u16 a2_2, .int .u16 a2_3] W0 := by
    have h0 := Struct.new ((w.alloc (.cells #[.int .i64 a0_m.W, .int .i64 a0_m.H, .slice a0_oa nw a0_ca, .slice a0_ob ns a0_cb] 26)).alloc (.cells #[.int .i64 a1_0, .int .i64 a1_1, .int .i64 a1_2, .int .i64 a1_3] 46)) [.int .u16 a2_0, .int .u16 a2_1, .int .u16 a2_2, .int .u16 a2_3] 54
    rw [show ((w.alloc (.cells #[.int .i64 a0_m.W, .int .i64 a0_m.H, .slice a0_oa nw a0_ca, .slice a0_ob ns a0_cb] 26)).alloc (.cells #[.int .i64 a1_0, .int .i64 a1_1, .int .i64 a1_2, .int .i64 a1_3] 46)).heap.size = w.heap.size + 1 + 1 by simp, ← hD] at h0
    rw [hW0]; exact h0
  have HT0 : Turned [] W0 W0 := Turned.refl _ _
  by_cases hfew : nw ≤ 1100 ∧ ns ≤ 1100
  · have hM := (w0.at (by rw [← hnw]; exact hfew.1) (by rw [← hns]; exact hfew.2)).calm hT
    have hq : (decide (nw ≤ 1100) && decide (ns ≤ 1100)) = true := by simpa using hfew
    rw [hq] at kf
    have k1 := fun (u : World) (h : MapAt a0_m a0_oa a0_ob u) => TiL.free_w a0_m a0_oa a0_ca a0_ob a0_cb a1_0 a1_1 a1_2 a1_3 u h
    unfold mapVal at k1
    rw [← hnw, ← hns] at k1
    by_cases hF : Ti.Free a0_m ⟨a1_0, a1_1, a1_2, a1_3⟩
    · rw [TiR.is_free hF] at k1
      have hD := hF.1.1
      obtain ⟨b0, b1, b2, b3, b4, b5⟩ := hF.2.1
      have b0 : a1_0 ≤ a1_2 := b0
      have b1 : a1_1 ≤ a1_3 := b1
      have b2 : 0 ≤ a1_0 := b2
      have b3 : 0 ≤ a1_1 := b3
      have b4 : a1_2 ≤ 2097152 := by have h4 : a1_2 ≤ a0_m.W * 65536 := b4; have := hD.2.1; omega
      have b5 : a1_3 ≤ 2097152 := by have h5 : a1_3 ≤ a0_m.H * 65536 := b5; have := hD.2.2.2.1; omega
      have v0 := TiL.u16_in w2_0
      have v1 := TiL.u16_in w2_1
      have v2 := TiL.u16_in w2_2
      have v3 := TiL.u16_in w2_3
      obtain ⟨n0, e0, l0, g0⟩ : ∃ n, (if a1_2 < a1_0 + a2_0 then a1_2 else a1_0 + a2_0) = n ∧ a1_0 ≤ n ∧ n ≤ a1_2 := by split <;> exact ⟨_, rfl, by omega, by omega⟩
      obtain ⟨n1, e1, l1, g1⟩ : ∃ n, (if a1_3 < a1_1 + a2_1 then a1_3 else a1_1 + a2_1) = n ∧ a1_1 ≤ n ∧ n ≤ a1_3 := by split <;> exact ⟨_, rfl, by omega, by omega⟩
      obtain ⟨n2, e2, l2, g2⟩ : ∃ n, (if a1_2 - a2_2 < n0 then n0 else a1_2 - a2_2) = n ∧ n0 ≤ n ∧ n ≤ a1_2 := by split <;> exact ⟨_, rfl, by omega, by omega⟩
      obtain ⟨n3, e3, l3, g3⟩ : ∃ n, (if a1_3 - a2_3 < n1 then n1 else a1_3 - a2_3) = n ∧ n1 ≤ n ∧ n ≤ a1_3 := by split <;> exact ⟨_, rfl, by omega, by omega⟩
      have hF2 : Ti.Free a0_m ⟨n0, n1, n2, n3⟩ := Ti.free_less hF l0 l2 g2 l1 l3 g3
      have k2 := fun (u : World) (h : MapAt a0_m a0_oa a0_ob u) => TiL.free_w a0_m a0_oa a0_ca a0_ob a0_cb n0 n1 n2 n3 u h
      unfold mapVal at k2
      rw [← hnw, ← hns, TiR.is_free hF2] at k2
      clear hfew hq hnw hns hF hF2 hD
      go_enter Try.func9, Try.ntmps9
      go_wp2_with fail
      rw [← hW0, ← hD, ← hC, ← hB]
      clear hW0 hB hC hD
      go_wp2_with (first | (go_at_call 10; (with_reducible refine (kA _).mono ?_); rintro e u0 ⟨rfl, HT1⟩; have HT0 := HT0.trans HT1 (by simp); have hSn := hS.keep HT0 (by simp); have d0 := (hSn.2 0 _ rfl).1; have d1 := (hSn.2 1 _ rfl).1; have d2 := (hSn.2 2 _ rfl).1; have d3 := (hSn.2 3 _ rfl).1; have hPn := hP.keep HT0 (by simp); have c0 := (hPn.2 0 _ rfl).1; have c1 := (hPn.2 1 _ rfl).1; have c2 := (hPn.2 2 _ rfl).1; have c3 := (hPn.2 3 _ rfl).1; have hQn := hQ.keep HT0 (by simp); have f0 := (hQn.2 0 _ rfl).1; have f1 := (hQn.2 1 _ rfl).1; have f2 := (hQn.2 2 _ rfl).1; have f3 := (hQn.2 3 _ rfl).1) | (go_at_call 14; (with_reducible refine (kf _).mono ?_); rintro e u0 ⟨rfl, HT1⟩; have HT0 := HT0.trans HT1 (by simp); have hSn := hS.keep HT0 (by simp); have d0 := (hSn.2 0 _ rfl).1; have d1 := (hSn.2 1 _ rfl).1; have d2 := (hSn.2 2 _ rfl).1; have d3 := (hSn.2 3 _ rfl).1; have hPn := hP.keep HT0 (by simp); have c0 := (hPn.2 0 _ rfl).1; have c1 := (hPn.2 1 _ rfl).1; have c2 := (hPn.2 2 _ rfl).1; have c3 := (hPn.2 3 _ rfl).1; have hQn := hQ.keep HT0 (by simp); have f0 := (hQn.2 0 _ rfl).1; have f1 := (hQn.2 1 _ rfl).1; have f2 := (hQn.2 2 _ rfl).1; have f3 := (hQn.2 3 _ rfl).1) | (go_at_call_of 21 (Value.agg #[Value.int IntKind.i64 a1_0, Value.int IntKind.i64 a1_1, Value.int IntKind.i64 a1_2, Value.int IntKind.i64 a1_3]); (with_reducible refine (k1 _ (hM.calm HT0)).mono ?_); rintro e u1 ⟨rfl, HT2⟩; have HT0 := HT0.trans HT2 (by simp); have hSn := hS.keep HT0 (by simp); have d0 := (hSn.2 0 _ rfl).1; have d1 := (hSn.2 1 _ rfl).1; have d2 := (hSn.2 2 _ rfl).1; have d3 := (hSn.2 3 _ rfl).1; have hPn := hP.keep HT0 (by simp); have c0 := (hPn.2 0 _ rfl).1; have c1 := (hPn.2 1 _ rfl).1; have c2 := (hPn.2 2 _ rfl).1; have c3 := (hPn.2 3 _ rfl).1; have hQn := hQ.keep HT0 (by simp); have f0 := (hQn.2 0 _ rfl).1; have f1 := (hQn.2 1 _ rfl).1; have f2 := (hQn.2 2 _ rfl).1; have f3 := (hQn.2 3 _ rfl).1; have d0' := fun o => ((hS.keep (HT0.alloc o) (by simp)).2 0 _ rfl).1; have d1' := fun o => ((hS.keep (HT0.alloc o) (by simp)).2 1 _ rfl).1; have d2' := fun o => ((hS.keep (HT0.alloc o) (by simp)).2 2 _ rfl).1; have d3' := fun o => ((hS.keep (HT0.alloc o) (by simp)).2 3 _ rfl).1; have c0' := fun o => ((hP.keep (HT0.alloc o) (by simp)).2 0 _ rfl).1; have c1' := fun o => ((hP.keep (HT0.alloc o) (by simp)).2 1 _ rfl).1; have c2' := fun o => ((hP.keep (HT0.alloc o) (by simp)).2 2 _ rfl).1; have c3' := fun o => ((hP.keep (HT0.alloc o) (by simp)).2 3 _ rfl).1; have f0' := fun o => ((hQ.keep (HT0.alloc o) (by simp)).2 0 _ rfl).1; have f1' := fun o => ((hQ.keep (HT0.alloc o) (by simp)).2 1 _ rfl).1; have f2' := fun o => ((hQ.keep (HT0.alloc o) (by simp)).2 2 _ rfl).1; have f3' := fun o => ((hQ.keep (HT0.alloc o) (by simp)).2 3 _ rfl).1) | (go_at_call 21; (with_reducible refine (k2 _ (hM.calm (HT0.alloc _))).mono ?_); rintro e u2 ⟨rfl, HT3⟩; have HT0 := (HT0.alloc _).trans HT3 (by simp)))
      go_ret
      exact ⟨rfl, (hT.trans HT0 (by simp)).none⟩
    · rw [TiR.not_free hF] at k1
      clear hfew hq hnw hns hF
      go_enter Try.func9, Try.ntmps9
      go_wp2_with fail
      rw [← hW0, ← hD, ← hC, ← hB]
      clear hW0 hB hC hD
      go_wp2_with (first | (go_at_call 10; (with_reducible refine (kA _).mono ?_); rintro e u0 ⟨rfl, HT1⟩; have HT0 := HT0.trans HT1 (by simp); have hSn := hS.keep HT0 (by simp); have d0 := (hSn.2 0 _ rfl).1; have d1 := (hSn.2 1 _ rfl).1; have d2 := (hSn.2 2 _ rfl).1; have d3 := (hSn.2 3 _ rfl).1; have hPn := hP.keep HT0 (by simp); have c0 := (hPn.2 0 _ rfl).1; have c1 := (hPn.2 1 _ rfl).1; have c2 := (hPn.2 2 _ rfl).1; have c3 := (hPn.2 3 _ rfl).1; have hQn := hQ.keep HT0 (by simp); have f0 := (hQn.2 0 _ rfl).1; have f1 := (hQn.2 1 _ rfl).1; have f2 := (hQn.2 2 _ rfl).1; have f3 := (hQn.2 3 _ rfl).1) | (go_at_call 14; (with_reducible refine (kf _).mono ?_); rintro e u0 ⟨rfl, HT1⟩; have HT0 := HT0.trans HT1 (by simp); have hSn := hS.keep HT0 (by simp); have d0 := (hSn.2 0 _ rfl).1; have d1 := (hSn.2 1 _ rfl).1; have d2 := (hSn.2 2 _ rfl).1; have d3 := (hSn.2 3 _ rfl).1; have hPn := hP.keep HT0 (by simp); have c0 := (hPn.2 0 _ rfl).1; have c1 := (hPn.2 1 _ rfl).1; have c2 := (hPn.2 2 _ rfl).1; have c3 := (hPn.2 3 _ rfl).1; have hQn := hQ.keep HT0 (by simp); have f0 := (hQn.2 0 _ rfl).1; have f1 := (hQn.2 1 _ rfl).1; have f2 := (hQn.2 2 _ rfl).1; have f3 := (hQn.2 3 _ rfl).1) | (go_at_call 21; (with_reducible refine (k1 _ (hM.calm HT0)).mono ?_); rintro e u1 ⟨rfl, HT2⟩; have HT0 := HT0.trans HT2 (by simp); have hSn := hS.keep HT0 (by simp); have d0 := (hSn.2 0 _ rfl).1; have d1 := (hSn.2 1 _ rfl).1; have d2 := (hSn.2 2 _ rfl).1; have d3 := (hSn.2 3 _ rfl).1; have hPn := hP.keep HT0 (by simp); have c0 := (hPn.2 0 _ rfl).1; have c1 := (hPn.2 1 _ rfl).1; have c2 := (hPn.2 2 _ rfl).1; have c3 := (hPn.2 3 _ rfl).1; have hQn := hQ.keep HT0 (by simp); have f0 := (hQn.2 0 _ rfl).1; have f1 := (hQn.2 1 _ rfl).1; have f2 := (hQn.2 2 _ rfl).1; have f3 := (hQn.2 3 _ rfl).1))
      go_ret
      exact ⟨rfl, (hT.trans HT0 (by simp)).none⟩
  · have hq : (decide (nw ≤ 1100) && decide (ns ≤ 1100)) = false := by simpa using hfew
    rw [hq] at kf
    clear hfew hq hnw hns
    go_enter Try.func9, Try.ntmps9
    go_wp2_with fail
    rw [← hW0, ← hD, ← hC, ← hB]
    clear hW0 hB hC hD
    go_wp2_with (first | (go_at_call 10; (with_reducible refine (kA _).mono ?_); rintro e u0 ⟨rfl, HT1⟩; have HT0 := HT0.trans HT1 (by simp); have hSn := hS.keep HT0 (by simp); have d0 := (hSn.2 0 _ rfl).1; have d1 := (hSn.2 1 _ rfl).1; have d2 := (hSn.2 2 _ rfl).1; have d3 := (hSn.2 3 _ rfl).1; have hPn := hP.keep HT0 (by simp); have c0 := (hPn.2 0 _ rfl).1; have c1 := (hPn.2 1 _ rfl).1; have c2 := (hPn.2 2 _ rfl).1; have c3 := (hPn.2 3 _ rfl).1; have hQn := hQ.keep HT0 (by simp); have f0 := (hQn.2 0 _ rfl).1; have f1 := (hQn.2 1 _ rfl).1; have f2 := (hQn.2 2 _ rfl).1; have f3 := (hQn.2 3 _ rfl).1) | (go_at_call 14; (with_reducible refine (kf _).mono ?_); rintro e u0 ⟨rfl, HT1⟩; have HT0 := HT0.trans HT1 (by simp); have hSn := hS.keep HT0 (by simp); have d0 := (hSn.2 0 _ rfl).1; have d1 := (hSn.2 1 _ rfl).1; have d2 := (hSn.2 2 _ rfl).1; have d3 := (hSn.2 3 _ rfl).1; have hPn := hP.keep HT0 (by simp); have c0 := (hPn.2 0 _ rfl).1; have c1 := (hPn.2 1 _ rfl).1; have c2 := (hPn.2 2 _ rfl).1; have c3 := (hPn.2 3 _ rfl).1; have hQn := hQ.keep HT0 (by simp); have f0 := (hQn.2 0 _ rfl).1; have f1 := (hQn.2 1 _ rfl).1; have f2 := (hQn.2 2 _ rfl).1; have f3 := (hQn.2 3 _ rfl).1))
    go_ret
    exact ⟨rfl, (hT.trans HT0 (by simp)).none⟩

set_option maxRecDepth 100000 in
theorem lifted (os : Os) (started : os.Started) (H : Type) (enc : TypeId × Value → H) :
    ReturnsInHanded {} Try.checked os 9 .any (Rows.tilesLessSpec.pre6 enc Try.prog Try.f9 Rows.tilesLessRow.domain false) (Rows.tilesLessSpec.post enc Try.prog Try.f9 false true false false) := by
  refine returnsInHanded_of_change (C := Try.checked) own started (by kernel_rfl) Try.func9
    (ChangeSpec.witness6 (enc := enc) (C := Try.checked) false ⟨#[], #[.agg #[.int .i64 0, .int .i64 0, .slice none 0 0, .slice none 0 0], .agg #[.int .i64 0, .int .i64 0, .int .i64 0, .int .i64 0], .agg #[.int .u16 0, .int .u16 0, .int .u16 0, .int .u16 0]], []⟩ 8 (by kernel_rfl) (by kernel_rfl) (by kernel_rfl) (by kernel_rfl)) ?_
  intro W base args ds gs before hval0 hW hcnd _
  have hval : ∀ (j : Nat) t v, Try.f9.params[j]? = some t → args[j]? = some v → Value.okWide Try.prog W .any base t v := hval0
  have hW' := hW
  obtain ⟨p, q, hA0, hV, rfl, hfz, hnd⟩ := hW
  have hA : DataW.TrodAll enc Try.prog W 0 (fun _ => true) true Try.f9.params.toList args.toList ds p := hA0
  rw [Try.params9] at hA hval
  obtain ⟨v0, vs0, d0, ds0, p0, q0, hargs, rfl, rfl, h0, r0⟩ := trodAll_cons hA
  obtain ⟨v1, vs1, d1, ds1, p1, q1, rfl, rfl, rfl, h1, r1⟩ := trodAll_cons r0
  obtain ⟨v2, vs2, d2, ds2, p2, q2, rfl, rfl, rfl, h2, r2⟩ := trodAll_cons r1
  obtain ⟨rfl, rfl, rfl⟩ := trodAll_nil r2
  obtain rfl : args = #[v0, v1, v2] := by cases args; simp_all
  obtain ⟨rfl, rfl⟩ := trodVars_none hV
  have k0 := h0
  have lt0 : ∀ x ∈ p0, x.block < W.heap.size := by obtain ⟨m, hm⟩ := k0; exact DataW.trod_lt m _ _ _ hm
  have k1 := h1
  have lt1 : ∀ x ∈ p1, x.block < W.heap.size := by obtain ⟨m, hm⟩ := k1; exact DataW.trod_lt m _ _ _ hm
  have k2 := h2
  have lt2 : ∀ x ∈ p2, x.block < W.heap.size := by obtain ⟨m, hm⟩ := k2; exact DataW.trod_lt m _ _ _ hm
  obtain ⟨a0_m, a0_oa, a0_ca, a0_ob, a0_cb, rfl, w0⟩ := open_map (hval 0 26 v0 rfl rfl) h0
  obtain ⟨cs1, rfl, ok1⟩ := open_flat (d := 8) (ks := [.int .i64, .int .i64, .int .i64, .int .i64]) (Or.inl ⟨_, Try.underlying46⟩) (by kernel_rfl) (hval 1 46 v1 rfl rfl) h1
  obtain ⟨a1_0, a1_1, a1_2, a1_3, rfl, w1_0, w1_1, w1_2, w1_3⟩ := flat1_of cs1 ok1
  obtain ⟨cs2, rfl, ok2⟩ := open_flat (d := 8) (ks := [.int .u16, .int .u16, .int .u16, .int .u16]) (Or.inr ⟨_, _, Try.underlying54⟩) (by kernel_rfl) (hval 2 54 v2 rfl rfl) h2
  obtain ⟨a2_0, a2_1, a2_2, a2_3, rfl, w2_0, w2_1, w2_2, w2_3⟩ := flat2_of cs2 ok2
  clear hA0 hval0
  refine (walk a0_m a0_oa a0_ca a0_ob a0_cb a1_0 a1_1 a1_2 a1_3 a2_0 a2_1 a2_2 a2_3 w1_0 w1_1 w1_2 w1_3 w2_0 w2_1 w2_2 w2_3 W w0).mono fun e W' ⟨he, bel⟩ => ?_
  subst he
  exact ⟨_, rfl, _, _, _, [], _, [], hW', trodAll_mk1 (shut_bool Try.underlying4 _), (trodAll_cons_mk (Below.trod laidOut (by kernel_rfl) (of_decide_eq_true (by kernel_rfl)) k0 bel lt0) (trodAll_cons_mk (Below.trod laidOut (by kernel_rfl) (of_decide_eq_true (by kernel_rfl)) k1 bel lt1) (trodAll_cons_mk (Below.trod laidOut (by kernel_rfl) (of_decide_eq_true (by kernel_rfl)) k2 bel lt2) trodAll_mk0))), rfl, bel.frame _, fun h => by cases h⟩

theorem over : Rows.tilesLessRow.holds Try.pinned (OpenSpec.ofChange Rows.tilesLessSpec) :=
  OpenClaim.holds_of_wide 9 Try.f9 rfl rfl rfl rfl rfl rfl rfl ⟨rfl, rfl, rfl, rfl, rfl⟩ rfl rfl rfl rfl rfl (by kernel_rfl) Try.func9 (by kernel_rfl)
    (of_decide_eq_true (by kernel_rfl)) (by unfold Func.isWrapper; first | (rw [if_pos (by decide +kernel)]; kernel_rfl) | (rw [if_neg (by decide +kernel)]; exact ⟨rfl, rfl⟩))
    (fun os started H enc _ => lifted os started H enc)

theorem proved : Rows.TilesLessSaid :=
  over
#print axioms proved
end Go.Proofs.Ytecjfenpdpdanaa.tilesLess

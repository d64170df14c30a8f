/- Joined: WdGo, WdSame, WdLaw, EntRef, EntList, WdLaw2, WdAll. -/
import Derived.Test.YtgabgkgokmeaeaaGreatJ8
/- Who walks. The program's (WdW). -/
namespace Go.Proofs.YtgabgkgokmeaeaaGreat
open Go.RowKit
set_option linter.unusedVariables false
set_option linter.unusedSimpArgs false

namespace WdW
set_option maxRecDepth 20000 in
set_option maxHeartbeats 8000000 in
theorem go_world (W : Wd.W) (V : WV) (c : Cm.C) (id : Int) (hG : Wd.Gd W) (hcw : c.wf) (hid : En.I64 id) (w : World) (hV : Tells W V w) :
    Calls Tryz.prog 20 #[wvVal V, cmVal c, .int .i64 id] w fun e w' => ∃ V', e = .returned (wvVal V') ∧ Tells (Wd.go W c id) V' w' ∧ (∀ k, V'.At k → V.At k ∨ w.heap.size ≤ k) ∧ Turned [] w w' := by
  obtain ⟨W0, hW0⟩ : ∃ W0, W0 = ((w.alloc (.cells #[.int .i64 V.mw, .int .i64 V.mh, .slice V.oa V.nw V.ca, .slice V.ob V.ns V.cb, .int .u64 V.st, .int .i64 V.tk, .slice V.ol V.nl V.cl] 34)).alloc (.cells #[.int .u32 (c.n : Int), .int .i8 c.x, .int .i8 c.y, .bool c.f, .int .u32 (c.v : Int), .int .u8 (c.q : Int)] 42)).alloc (.cells #[.int .i64 0, .int .i64 0, .slice none 0 0, .slice none 0 0, .int .u64 0, .int .i64 0, .slice none 0 0] 34) := ⟨_, rfl⟩
  obtain ⟨B, hB⟩ : ∃ b, b = w.heap.size := ⟨_, rfl⟩
  obtain ⟨C, hC⟩ : ∃ b, b = w.heap.size + 1 := ⟨_, rfl⟩
  obtain ⟨D, hD⟩ : ∃ b, b = w.heap.size + 1 + 1 := ⟨_, rfl⟩
  have hT : Turned [] w W0 := by rw [hW0]; exact (((Turned.refl [] w).alloc _).alloc _).alloc _
  have hS : Struct B [.int .i64 V.mw, .int .i64 V.mh, .slice V.oa V.nw V.ca, .slice V.ob V.ns V.cb, .int .u64 V.st, .int .i64 V.tk, .slice V.ol V.nl V.cl] W0 := by
    have h0 := Struct.new w [.int .i64 V.mw, .int .i64 V.mh, .slice V.oa V.nw V.ca, .slice V.ob V.ns V.cb, .int .u64 V.st, .int .i64 V.tk, .slice V.ol V.nl V.cl] 34
    rw [← hB] at h0
    rw [hW0]; exact (h0.keep ((Turned.refl [] _).alloc _) (by simp)).keep ((Turned.refl [] _).alloc _) (by simp)
  have hC0 : Struct C [.int .u32 (c.n : Int), .int .i8 c.x, .int .i8 c.y, .bool c.f, .int .u32 (c.v : Int), .int .u8 (c.q : Int)] W0 := by
    have h0 := Struct.new (w.alloc (.cells #[.int .i64 V.mw, .int .i64 V.mh, .slice V.oa V.nw V.ca, .slice V.ob V.ns V.cb, .int .u64 V.st, .int .i64 V.tk, .slice V.ol V.nl V.cl] 34)) [.int .u32 (c.n : Int), .int .i8 c.x, .int .i8 c.y, .bool c.f, .int .u32 (c.v : Int), .int .u8 (c.q : Int)] 42
    rw [show (w.alloc (.cells #[.int .i64 V.mw, .int .i64 V.mh, .slice V.oa V.nw V.ca, .slice V.ob V.ns V.cb, .int .u64 V.st, .int .i64 V.tk, .slice V.ol V.nl V.cl] 34)).heap.size = w.heap.size + 1 by simp, ← hC] at h0
    rw [hW0]; exact h0.keep ((Turned.refl [] _).alloc _) (by simp)
  have hR : Struct D [.int .i64 0, .int .i64 0, .slice none 0 0, .slice none 0 0, .int .u64 0, .int .i64 0, .slice none 0 0] W0 := by
    have h0 := Struct.new ((w.alloc (.cells #[.int .i64 V.mw, .int .i64 V.mh, .slice V.oa V.nw V.ca, .slice V.ob V.ns V.cb, .int .u64 V.st, .int .i64 V.tk, .slice V.ol V.nl V.cl] 34)).alloc (.cells #[.int .u32 (c.n : Int), .int .i8 c.x, .int .i8 c.y, .bool c.f, .int .u32 (c.v : Int), .int .u8 (c.q : Int)] 42)) [.int .i64 0, .int .i64 0, .slice none 0 0, .slice none 0 0, .int .u64 0, .int .i64 0, .slice none 0 0] 34
    rw [show ((w.alloc (.cells #[.int .i64 V.mw, .int .i64 V.mh, .slice V.oa V.nw V.ca, .slice V.ob V.ns V.cb, .int .u64 V.st, .int .i64 V.tk, .slice V.ol V.nl V.cl] 34)).alloc (.cells #[.int .u32 (c.n : Int), .int .i8 c.x, .int .i8 c.y, .bool c.f, .int .u32 (c.v : Int), .int .u8 (c.q : Int)] 42)).heap.size = w.heap.size + 1 + 1 by simp, ← hD] at h0
    rw [hW0]; exact h0
  have hBw : w.heap.size ≤ B := by omega
  have hCw : w.heap.size ≤ C := by omega
  have hDw : w.heap.size ≤ D := by omega
  have nBD : B ≠ D := by omega
  have nDB : D ≠ B := by omega
  have nBC : B ≠ C := by omega
  have nDC : D ≠ C := by omega
  have hbB : B < W0.heap.size := hS.1
  have hbD : D < W0.heap.size := hR.1
  have hbC : C < W0.heap.size := hC0.1
  have kc := copied_any W V (by have := hG.short; omega) W0 (hV.calm hT)
  obtain ⟨b0, hb0⟩ : ∃ b, b = W0.heap.size := ⟨_, rfl⟩
  rw [← hb0] at kc hbB hbD hbC
  have hb0w : w.heap.size ≤ b0 := by rw [hb0]; exact hT.size
  have c0 := (hS.2 0 _ rfl).1
  have f0 := (hS.2 0 _ rfl).2
  have c1 := (hS.2 1 _ rfl).1
  have f1 := (hS.2 1 _ rfl).2
  have c2 := (hS.2 2 _ rfl).1
  have f2 := (hS.2 2 _ rfl).2
  have c3 := (hS.2 3 _ rfl).1
  have f3 := (hS.2 3 _ rfl).2
  have c4 := (hS.2 4 _ rfl).1
  have f4 := (hS.2 4 _ rfl).2
  have c5 := (hS.2 5 _ rfl).1
  have f5 := (hS.2 5 _ rfl).2
  have c6 := (hS.2 6 _ rfl).1
  have f6 := (hS.2 6 _ rfl).2
  have z0 := (hR.2 0 _ rfl).1
  have y0 := (hR.2 0 _ rfl).2
  have z1 := (hR.2 1 _ rfl).1
  have y1 := (hR.2 1 _ rfl).2
  have z2 := (hR.2 2 _ rfl).1
  have y2 := (hR.2 2 _ rfl).2
  have z3 := (hR.2 3 _ rfl).1
  have y3 := (hR.2 3 _ rfl).2
  have z4 := (hR.2 4 _ rfl).1
  have y4 := (hR.2 4 _ rfl).2
  have z5 := (hR.2 5 _ rfl).1
  have y5 := (hR.2 5 _ rfl).2
  have z6 := (hR.2 6 _ rfl).1
  have y6 := (hR.2 6 _ rfl).2
  have HGd : Hid (Wd.Gd W) := hG
  have HV : Hid (Tells W V w) := hV
  clear hG hV
  go_enter Tryz.func20, Tryz.ntmps20
  go_wp2_with fail
  rw [← hW0, ← hD, ← hC, ← hB]
  clear hW0 hB hC hD
  go_wp2_with (go_at_call 15; (with_reducible refine kc.mono ?_); rintro r u1 ⟨V1, rfl, hF1, HT1⟩; have hS1 := hS.keep HT1 (by simp); have hR1 := hR.keep HT1 (by simp); have c0 := (hS1.2 0 _ rfl).1; have f0 := (hS1.2 0 _ rfl).2; have c1 := (hS1.2 1 _ rfl).1; have f1 := (hS1.2 1 _ rfl).2; have c2 := (hS1.2 2 _ rfl).1; have f2 := (hS1.2 2 _ rfl).2; have c3 := (hS1.2 3 _ rfl).1; have f3 := (hS1.2 3 _ rfl).2; have c4 := (hS1.2 4 _ rfl).1; have f4 := (hS1.2 4 _ rfl).2; have c5 := (hS1.2 5 _ rfl).1; have f5 := (hS1.2 5 _ rfl).2; have c6 := (hS1.2 6 _ rfl).1; have f6 := (hS1.2 6 _ rfl).2; have z0 := (hR1.2 0 _ rfl).1; have y0 := (hR1.2 0 _ rfl).2; have z1 := (hR1.2 1 _ rfl).1; have y1 := (hR1.2 1 _ rfl).2; have z2 := (hR1.2 2 _ rfl).1; have y2 := (hR1.2 2 _ rfl).2; have z3 := (hR1.2 3 _ rfl).1; have y3 := (hR1.2 3 _ rfl).2; have z4 := (hR1.2 4 _ rfl).1; have y4 := (hR1.2 4 _ rfl).2; have z5 := (hR1.2 5 _ rfl).1; have y5 := (hR1.2 5 _ rfl).2; have z6 := (hR1.2 6 _ rfl).1; have y6 := (hR1.2 6 _ rfl).2)
  have hb1 : b0 ≤ u1.heap.size := by rw [hb0]; exact HT1.size
  obtain ⟨X1, hX1⟩ : ∃ X, X = put7 u1 B V1 := ⟨_, rfl⟩
  have hBX : Struct B (wvEnc V1) X1 := by rw [hX1]; exact set7 hS1 rfl V1
  have hTX : Turned [B] u1 X1 := by rw [hX1]; exact turned7 (Turned.refl _ _) (.inl (by simp)) V1
  have hDX : Struct D [.int .i64 0, .int .i64 0, .slice none 0 0, .slice none 0 0, .int .u64 0, .int .i64 0, .slice none 0 0] X1 := hR1.keep hTX (by simpa using nDB)
  have hF : Fresh W V1 b0 X1 := hF1.keep hTX (by intro k hk; simp at hk; omega)
  have hbX : b0 ≤ X1.heap.size := Nat.le_trans hb1 hTX.size
  have HTX : Turned [] w X1 := ((hT.trans HT1 (by simp)).trans (S' := [B]) hTX (by intro k hk hl; simp at hk; omega))
  have hCX : Struct C [.int .u32 (c.n : Int), .int .i8 c.x, .int .i8 c.y, .bool c.f, .int .u32 (c.v : Int), .int .u8 (c.q : Int)] X1 := (hC0.keep HT1 (by simp)).keep hTX (by simpa using nBC.symm)
  have p0 := (hCX.2 0 _ rfl).1
  have q0 := (hCX.2 0 _ rfl).2
  have p1 := (hCX.2 1 _ rfl).1
  have q1 := (hCX.2 1 _ rfl).2
  have p2 := (hCX.2 2 _ rfl).1
  have q2 := (hCX.2 2 _ rfl).2
  have p3 := (hCX.2 3 _ rfl).1
  have q3 := (hCX.2 3 _ rfl).2
  have p4 := (hCX.2 4 _ rfl).1
  have q4 := (hCX.2 4 _ rfl).2
  have p5 := (hCX.2 5 _ rfl).1
  have q5 := (hCX.2 5 _ rfl).2
  have hnl := hF.tells.nl
  simp only [put7] at hX1
  rw [← hX1]
  clear hX1 c0 c1 c2 c3 c4 c5 c6 f0 f1 f2 f3 f4 f5 f6 z0 z1 z2 z3 z4 z5 z6 y0 y1 y2 y3 y4 y5 y6 hb0
  have c0 := (hBX.2 0 _ rfl).1
  have f0 := (hBX.2 0 _ rfl).2
  have c1 := (hBX.2 1 _ rfl).1
  have f1 := (hBX.2 1 _ rfl).2
  have c2 := (hBX.2 2 _ rfl).1
  have f2 := (hBX.2 2 _ rfl).2
  have c3 := (hBX.2 3 _ rfl).1
  have f3 := (hBX.2 3 _ rfl).2
  have c4 := (hBX.2 4 _ rfl).1
  have f4 := (hBX.2 4 _ rfl).2
  have c5 := (hBX.2 5 _ rfl).1
  have f5 := (hBX.2 5 _ rfl).2
  have c6 := (hBX.2 6 _ rfl).1
  have f6 := (hBX.2 6 _ rfl).2
  have z0 := (hDX.2 0 _ rfl).1
  have y0 := (hDX.2 0 _ rfl).2
  have z1 := (hDX.2 1 _ rfl).1
  have y1 := (hDX.2 1 _ rfl).2
  have z2 := (hDX.2 2 _ rfl).1
  have y2 := (hDX.2 2 _ rfl).2
  have z3 := (hDX.2 3 _ rfl).1
  have y3 := (hDX.2 3 _ rfl).2
  have z4 := (hDX.2 4 _ rfl).1
  have y4 := (hDX.2 4 _ rfl).2
  have z5 := (hDX.2 5 _ rfl).1
  have y5 := (hDX.2 5 _ rfl).2
  have z6 := (hDX.2 6 _ rfl).1
  have y6 := (hDX.2 6 _ rfl).2

  have hRise := HGd.out.rise
  have hlen : W.l.length ≤ 1000 := by have := HGd.out.short; omega
  rcases Wd.player_or W.l id with hno | ⟨k, e, hk, hp⟩
  · have kf := findPlayer_no V1.ol V1.cl W.l id hRise hno X1 hF.tells.row (by omega)
    rw [← hnl] at kf
    have HL : Hid (Wd.go W c id = W) := Wd.go_no hno
    clear hno hnl hRise hcw
    go_wp2_with (go_at_call 41; (with_reducible refine kf.mono ?_); rintro r u2 ⟨rfl, HT2⟩; have hB2 := hBX.keep HT2 (by simp); have hD2 := hDX.keep HT2 (by simp); have c0 := (hB2.2 0 _ rfl).1; have f0 := (hB2.2 0 _ rfl).2; have c1 := (hB2.2 1 _ rfl).1; have f1 := (hB2.2 1 _ rfl).2; have c2 := (hB2.2 2 _ rfl).1; have f2 := (hB2.2 2 _ rfl).2; have c3 := (hB2.2 3 _ rfl).1; have f3 := (hB2.2 3 _ rfl).2; have c4 := (hB2.2 4 _ rfl).1; have f4 := (hB2.2 4 _ rfl).2; have c5 := (hB2.2 5 _ rfl).1; have f5 := (hB2.2 5 _ rfl).2; have c6 := (hB2.2 6 _ rfl).1; have f6 := (hB2.2 6 _ rfl).2; have z0 := (hD2.2 0 _ rfl).1; have y0 := (hD2.2 0 _ rfl).2; have z1 := (hD2.2 1 _ rfl).1; have y1 := (hD2.2 1 _ rfl).2; have z2 := (hD2.2 2 _ rfl).1; have y2 := (hD2.2 2 _ rfl).2; have z3 := (hD2.2 3 _ rfl).1; have y3 := (hD2.2 3 _ rfl).2; have z4 := (hD2.2 4 _ rfl).1; have y4 := (hD2.2 4 _ rfl).2; have z5 := (hD2.2 5 _ rfl).1; have y5 := (hD2.2 5 _ rfl).2; have z6 := (hD2.2 6 _ rfl).1; have y6 := (hD2.2 6 _ rfl).2)
    have hF2 := hF.calm HT2
    have HT3 := HTX.trans HT2 (by simp)
    obtain ⟨X9, hX9⟩ : ∃ X, X = put7 u2 D V1 := ⟨_, rfl⟩
    have hS9 : Struct D (wvEnc V1) X9 := by rw [hX9]; exact set7 hD2 rfl _
    have hT9 : Turned [D] u2 X9 := by rw [hX9]; exact turned7 (Turned.refl _ _) (.inl (by simp)) _
    simp only [put7] at hX9
    rw [← hX9]
    clear hX9
    have e0 := (hS9.2 0 _ rfl).1
    have e1 := (hS9.2 1 _ rfl).1
    have e2 := (hS9.2 2 _ rfl).1
    have e3 := (hS9.2 3 _ rfl).1
    have e4 := (hS9.2 4 _ rfl).1
    have e5 := (hS9.2 5 _ rfl).1
    have e6 := (hS9.2 6 _ rfl).1
    go_wp2_with fail
    refine bodyPost_ret (v := wvVal V1) (by simp [results, Tryz.results20, go_sem, e0, e1, e2, e3, e4, e5, e6]) rfl ⟨_, rfl, ?_, fun k hk => .inr (Nat.le_trans hb0w (hF2.at_ge hk)), HT3.trans (S' := [D]) hT9 (by intro k hk hl; simp at hk; omega)⟩
    rw [HL.out]; exact (hF2.keep hT9 (by intro k hk; simp at hk; omega)).tells

  · have kf := findPlayer_yes V1.ol V1.cl W.l k e id hRise hk hp X1 hF.tells.row (by omega)
    rw [← hnl] at kf
    have hkl := (List.getElem?_eq_some_iff.1 hk).1
    have hne : ¬ (k : Int) = -1 := by omega
    obtain ⟨g, hol, -, hbk, hgl, hat⟩ := own_at hF.own hk
    have hkn : (k : Int) < (V1.nl : Int) := by omega
    have hgb : b0 ≤ g := hF.gl g (by rw [hbk]; simp)
    have nB : B ≠ g := by omega
    have nC : C ≠ g := by omega
    have nD : D ≠ g := by omega
    have kd := fun u => CmW.formed_any c hcw u
    have hmv : mapVal W.m V1.oa V1.ca V1.ob V1.cb = .agg #[.int .i64 V1.mw, .int .i64 V1.mh, .slice V1.oa V1.nw V1.ca, .slice V1.ob V1.ns V1.cb] := by rw [hF.tells.mw, hF.tells.mh, hF.tells.nw, hF.tells.ns]
    rw [hol] at kf c6
    have HFO : Hid (V1.ol = some ⟨g, 0, none⟩) := hol
    have HVG : Hid ((⟨V1.mw, V1.mh, V1.oa, V1.nw, V1.ca, V1.ob, V1.ns, V1.cb, V1.st, V1.tk, some ⟨g, 0, none⟩, V1.nl, V1.cl⟩ : WV) = V1) := by show _ = _; rw [← hol]
    rw [hol]
    clear hol hnl
    by_cases hfm : decide (Cm.Formed c) = false
    · have HL : Hid (Wd.go W c id = W) := Wd.go_odd hfm
      rw [hfm] at kd
      clear hk hp hRise hcw hfm hmv
      go_wp2_with (first | (go_at_call 41; (with_reducible refine kf.mono ?_); rintro r u2 ⟨rfl, HT2⟩; have hB2 := hBX.keep HT2 (by simp); have hD2 := hDX.keep HT2 (by simp); have hC2 := hCX.keep HT2 (by simp); have c0 := (hB2.2 0 _ rfl).1; have f0 := (hB2.2 0 _ rfl).2; have c1 := (hB2.2 1 _ rfl).1; have f1 := (hB2.2 1 _ rfl).2; have c2 := (hB2.2 2 _ rfl).1; have f2 := (hB2.2 2 _ rfl).2; have c3 := (hB2.2 3 _ rfl).1; have f3 := (hB2.2 3 _ rfl).2; have c4 := (hB2.2 4 _ rfl).1; have f4 := (hB2.2 4 _ rfl).2; have c5 := (hB2.2 5 _ rfl).1; have f5 := (hB2.2 5 _ rfl).2; have c6 := ((hB2.2 6 _ rfl).1.trans (by rw [HFO.out])); have f6 := (hB2.2 6 _ rfl).2; have z0 := (hD2.2 0 _ rfl).1; have y0 := (hD2.2 0 _ rfl).2; have z1 := (hD2.2 1 _ rfl).1; have y1 := (hD2.2 1 _ rfl).2; have z2 := (hD2.2 2 _ rfl).1; have y2 := (hD2.2 2 _ rfl).2; have z3 := (hD2.2 3 _ rfl).1; have y3 := (hD2.2 3 _ rfl).2; have z4 := (hD2.2 4 _ rfl).1; have y4 := (hD2.2 4 _ rfl).2; have z5 := (hD2.2 5 _ rfl).1; have y5 := (hD2.2 5 _ rfl).2; have z6 := (hD2.2 6 _ rfl).1; have y6 := (hD2.2 6 _ rfl).2; have p0 := (hC2.2 0 _ rfl).1; have q0 := (hC2.2 0 _ rfl).2; have p1 := (hC2.2 1 _ rfl).1; have q1 := (hC2.2 1 _ rfl).2; have p2 := (hC2.2 2 _ rfl).1; have q2 := (hC2.2 2 _ rfl).2; have p3 := (hC2.2 3 _ rfl).1; have q3 := (hC2.2 3 _ rfl).2; have p4 := (hC2.2 4 _ rfl).1; have q4 := (hC2.2 4 _ rfl).2; have p5 := (hC2.2 5 _ rfl).1; have q5 := (hC2.2 5 _ rfl).2; obtain ⟨⟨a0, a1, a2, a3, a4, a5, a6, a7⟩, ⟨i0, i1, i2, i3, i4, i5, i6, i7⟩⟩ := hat _ HT2) | (go_at_call 45; (with_reducible refine (kd _).mono ?_); rintro r u3 ⟨rfl, HT3⟩; have hB3 := hB2.keep HT3 (by simp); have hD3 := hD2.keep HT3 (by simp); have hC3 := hC2.keep HT3 (by simp); have c0 := (hB3.2 0 _ rfl).1; have f0 := (hB3.2 0 _ rfl).2; have c1 := (hB3.2 1 _ rfl).1; have f1 := (hB3.2 1 _ rfl).2; have c2 := (hB3.2 2 _ rfl).1; have f2 := (hB3.2 2 _ rfl).2; have c3 := (hB3.2 3 _ rfl).1; have f3 := (hB3.2 3 _ rfl).2; have c4 := (hB3.2 4 _ rfl).1; have f4 := (hB3.2 4 _ rfl).2; have c5 := (hB3.2 5 _ rfl).1; have f5 := (hB3.2 5 _ rfl).2; have c6 := ((hB3.2 6 _ rfl).1.trans (by rw [HFO.out])); have f6 := (hB3.2 6 _ rfl).2; have z0 := (hD3.2 0 _ rfl).1; have y0 := (hD3.2 0 _ rfl).2; have z1 := (hD3.2 1 _ rfl).1; have y1 := (hD3.2 1 _ rfl).2; have z2 := (hD3.2 2 _ rfl).1; have y2 := (hD3.2 2 _ rfl).2; have z3 := (hD3.2 3 _ rfl).1; have y3 := (hD3.2 3 _ rfl).2; have z4 := (hD3.2 4 _ rfl).1; have y4 := (hD3.2 4 _ rfl).2; have z5 := (hD3.2 5 _ rfl).1; have y5 := (hD3.2 5 _ rfl).2; have z6 := (hD3.2 6 _ rfl).1; have y6 := (hD3.2 6 _ rfl).2; have p0 := (hC3.2 0 _ rfl).1; have q0 := (hC3.2 0 _ rfl).2; have p1 := (hC3.2 1 _ rfl).1; have q1 := (hC3.2 1 _ rfl).2; have p2 := (hC3.2 2 _ rfl).1; have q2 := (hC3.2 2 _ rfl).2; have p3 := (hC3.2 3 _ rfl).1; have q3 := (hC3.2 3 _ rfl).2; have p4 := (hC3.2 4 _ rfl).1; have q4 := (hC3.2 4 _ rfl).2; have p5 := (hC3.2 5 _ rfl).1; have q5 := (hC3.2 5 _ rfl).2; obtain ⟨⟨a0, a1, a2, a3, a4, a5, a6, a7⟩, ⟨i0, i1, i2, i3, i4, i5, i6, i7⟩⟩ := hat _ (HT2.trans HT3 (by simp))))
      have hF3 : Fresh W ⟨V1.mw, V1.mh, V1.oa, V1.nw, V1.ca, V1.ob, V1.ns, V1.cb, V1.st, V1.tk, some ⟨g, 0, none⟩, V1.nl, V1.cl⟩ b0 u3 := by rw [HVG.out]; exact hF.calm (HT2.trans HT3 (by simp))
      have HT4 := HTX.trans (HT2.trans HT3 (by simp)) (by simp)
      obtain ⟨X9, hX9⟩ : ∃ X, X = put7 u3 D ⟨V1.mw, V1.mh, V1.oa, V1.nw, V1.ca, V1.ob, V1.ns, V1.cb, V1.st, V1.tk, some ⟨g, 0, none⟩, V1.nl, V1.cl⟩ := ⟨_, rfl⟩
      have hS9 : Struct D (wvEnc ⟨V1.mw, V1.mh, V1.oa, V1.nw, V1.ca, V1.ob, V1.ns, V1.cb, V1.st, V1.tk, some ⟨g, 0, none⟩, V1.nl, V1.cl⟩) X9 := by rw [hX9]; exact set7 hD3 rfl _
      have hT9 : Turned [D] u3 X9 := by rw [hX9]; exact turned7 (Turned.refl _ _) (.inl (by simp)) _
      simp only [put7] at hX9
      rw [← hX9]
      clear hX9
      have e0 := (hS9.2 0 _ rfl).1
      have e1 := (hS9.2 1 _ rfl).1
      have e2 := (hS9.2 2 _ rfl).1
      have e3 := (hS9.2 3 _ rfl).1
      have e4 := (hS9.2 4 _ rfl).1
      have e5 := (hS9.2 5 _ rfl).1
      have e6 := (hS9.2 6 _ rfl).1
      go_wp2_with fail
      refine bodyPost_ret (v := wvVal ⟨V1.mw, V1.mh, V1.oa, V1.nw, V1.ca, V1.ob, V1.ns, V1.cb, V1.st, V1.tk, some ⟨g, 0, none⟩, V1.nl, V1.cl⟩) (by simp [results, Tryz.results20, go_sem, e0, e1, e2, e3, e4, e5, e6]) rfl ⟨_, rfl, ?_, fun k hk => .inr (Nat.le_trans hb0w (hF3.at_ge hk)), HT4.trans (S' := [D]) hT9 (by intro k hk hl; simp at hk; omega)⟩
      rw [HL.out]; exact (hF3.keep hT9 (by intro k hk; simp at hk; omega)).tells

    · have hfm : decide (Cm.Formed c) = true := by cases hq : decide (Cm.Formed c) with | false => exact absurd hq hfm | true => rfl
      rw [hfm] at kd
      have hxw : (-128 ≤ c.x ∧ c.x ≤ 127) ∧ (-128 ≤ c.y ∧ c.y ≤ 127) := by obtain ⟨_, h1, h2, h3, h4, _⟩ := hcw; omega
      have kw := fun u (h : Turned [] X1 u) => MvW.walk_any W.m V1.oa V1.ca V1.ob V1.cb e c.x c.y hxw.1 hxw.2 u ((hF.calm h).tells.map)
      rw [hmv] at kw
      have HL : Hid (Wd.go W c id = ⟨W.m, W.st, W.tick, W.l.set k (Mv.walk W.m e c.x c.y)⟩) := Wd.go_yes hRise hk hp hfm
      obtain ⟨x, hx⟩ : ∃ x, x = Mv.walk W.m e c.x c.y := ⟨_, rfl⟩
      rw [← hx] at kw
      have HX : Hid (x = Mv.walk W.m e c.x c.y) := hx
      have HKL : Hid (k < W.l.length) := hkl
      clear hx hk hp hRise hfm hkl hmv hcw hxw
      go_wp2_with (first | (go_at_call 41; (with_reducible refine kf.mono ?_); rintro r u2 ⟨rfl, HT2⟩; have hB2 := hBX.keep HT2 (by simp); have hD2 := hDX.keep HT2 (by simp); have hC2 := hCX.keep HT2 (by simp); have c0 := (hB2.2 0 _ rfl).1; have f0 := (hB2.2 0 _ rfl).2; have c1 := (hB2.2 1 _ rfl).1; have f1 := (hB2.2 1 _ rfl).2; have c2 := (hB2.2 2 _ rfl).1; have f2 := (hB2.2 2 _ rfl).2; have c3 := (hB2.2 3 _ rfl).1; have f3 := (hB2.2 3 _ rfl).2; have c4 := (hB2.2 4 _ rfl).1; have f4 := (hB2.2 4 _ rfl).2; have c5 := (hB2.2 5 _ rfl).1; have f5 := (hB2.2 5 _ rfl).2; have c6 := ((hB2.2 6 _ rfl).1.trans (by rw [HFO.out])); have f6 := (hB2.2 6 _ rfl).2; have z0 := (hD2.2 0 _ rfl).1; have y0 := (hD2.2 0 _ rfl).2; have z1 := (hD2.2 1 _ rfl).1; have y1 := (hD2.2 1 _ rfl).2; have z2 := (hD2.2 2 _ rfl).1; have y2 := (hD2.2 2 _ rfl).2; have z3 := (hD2.2 3 _ rfl).1; have y3 := (hD2.2 3 _ rfl).2; have z4 := (hD2.2 4 _ rfl).1; have y4 := (hD2.2 4 _ rfl).2; have z5 := (hD2.2 5 _ rfl).1; have y5 := (hD2.2 5 _ rfl).2; have z6 := (hD2.2 6 _ rfl).1; have y6 := (hD2.2 6 _ rfl).2; have p0 := (hC2.2 0 _ rfl).1; have q0 := (hC2.2 0 _ rfl).2; have p1 := (hC2.2 1 _ rfl).1; have q1 := (hC2.2 1 _ rfl).2; have p2 := (hC2.2 2 _ rfl).1; have q2 := (hC2.2 2 _ rfl).2; have p3 := (hC2.2 3 _ rfl).1; have q3 := (hC2.2 3 _ rfl).2; have p4 := (hC2.2 4 _ rfl).1; have q4 := (hC2.2 4 _ rfl).2; have p5 := (hC2.2 5 _ rfl).1; have q5 := (hC2.2 5 _ rfl).2; obtain ⟨⟨a0, a1, a2, a3, a4, a5, a6, a7⟩, ⟨i0, i1, i2, i3, i4, i5, i6, i7⟩⟩ := hat _ HT2) | (go_at_call 45; (with_reducible refine (kd _).mono ?_); rintro r u3 ⟨rfl, HT3⟩; have hB3 := hB2.keep HT3 (by simp); have hD3 := hD2.keep HT3 (by simp); have hC3 := hC2.keep HT3 (by simp); have c0 := (hB3.2 0 _ rfl).1; have f0 := (hB3.2 0 _ rfl).2; have c1 := (hB3.2 1 _ rfl).1; have f1 := (hB3.2 1 _ rfl).2; have c2 := (hB3.2 2 _ rfl).1; have f2 := (hB3.2 2 _ rfl).2; have c3 := (hB3.2 3 _ rfl).1; have f3 := (hB3.2 3 _ rfl).2; have c4 := (hB3.2 4 _ rfl).1; have f4 := (hB3.2 4 _ rfl).2; have c5 := (hB3.2 5 _ rfl).1; have f5 := (hB3.2 5 _ rfl).2; have c6 := ((hB3.2 6 _ rfl).1.trans (by rw [HFO.out])); have f6 := (hB3.2 6 _ rfl).2; have z0 := (hD3.2 0 _ rfl).1; have y0 := (hD3.2 0 _ rfl).2; have z1 := (hD3.2 1 _ rfl).1; have y1 := (hD3.2 1 _ rfl).2; have z2 := (hD3.2 2 _ rfl).1; have y2 := (hD3.2 2 _ rfl).2; have z3 := (hD3.2 3 _ rfl).1; have y3 := (hD3.2 3 _ rfl).2; have z4 := (hD3.2 4 _ rfl).1; have y4 := (hD3.2 4 _ rfl).2; have z5 := (hD3.2 5 _ rfl).1; have y5 := (hD3.2 5 _ rfl).2; have z6 := (hD3.2 6 _ rfl).1; have y6 := (hD3.2 6 _ rfl).2; have p0 := (hC3.2 0 _ rfl).1; have q0 := (hC3.2 0 _ rfl).2; have p1 := (hC3.2 1 _ rfl).1; have q1 := (hC3.2 1 _ rfl).2; have p2 := (hC3.2 2 _ rfl).1; have q2 := (hC3.2 2 _ rfl).2; have p3 := (hC3.2 3 _ rfl).1; have q3 := (hC3.2 3 _ rfl).2; have p4 := (hC3.2 4 _ rfl).1; have q4 := (hC3.2 4 _ rfl).2; have p5 := (hC3.2 5 _ rfl).1; have q5 := (hC3.2 5 _ rfl).2; obtain ⟨⟨a0, a1, a2, a3, a4, a5, a6, a7⟩, ⟨i0, i1, i2, i3, i4, i5, i6, i7⟩⟩ := hat _ (HT2.trans HT3 (by simp))))
      have kw := fun u (h : Turned [] u3 u) => kw u ((HT2.trans HT3 (by simp)).trans h (by simp))
      have hSof : ∀ u, Turned [g] u3 u → (fun u => (u.cell? ⟨B, 0, none⟩ = some (.int .i64 V1.mw) ∧ u.cell? ⟨B, 1, none⟩ = some (.int .i64 V1.mh) ∧ u.cell? ⟨B, 2, none⟩ = some (.slice V1.oa V1.nw V1.ca) ∧ u.cell? ⟨B, 3, none⟩ = some (.slice V1.ob V1.ns V1.cb) ∧ u.cell? ⟨B, 6, none⟩ = some (.slice (some ⟨g, 0, none⟩) V1.nl V1.cl)) ∧ (u.cell? ⟨C, 1, none⟩ = some (.int .i8 c.x) ∧ u.cell? ⟨C, 2, none⟩ = some (.int .i8 c.y)) ∧ Turned [g] u3 u) u := fun u h => ⟨⟨((hB3.keep h (by simpa using nB)).2 0 _ rfl).1, ((hB3.keep h (by simpa using nB)).2 1 _ rfl).1, ((hB3.keep h (by simpa using nB)).2 2 _ rfl).1, ((hB3.keep h (by simpa using nB)).2 3 _ rfl).1, ((hB3.keep h (by simpa using nB)).2 6 _ rfl).1.trans (by rw [HFO.out])⟩, ⟨((hC3.keep h (by simpa using nC)).2 1 _ rfl).1, ((hC3.keep h (by simpa using nC)).2 2 _ rfl).1⟩, h⟩
      refine wp_region_held_drew (S := (fun u => (u.cell? ⟨B, 0, none⟩ = some (.int .i64 V1.mw) ∧ u.cell? ⟨B, 1, none⟩ = some (.int .i64 V1.mh) ∧ u.cell? ⟨B, 2, none⟩ = some (.slice V1.oa V1.nw V1.ca) ∧ u.cell? ⟨B, 3, none⟩ = some (.slice V1.ob V1.ns V1.cb) ∧ u.cell? ⟨B, 6, none⟩ = some (.slice (some ⟨g, 0, none⟩) V1.nl V1.cl)) ∧ (u.cell? ⟨C, 1, none⟩ = some (.int .i8 c.x) ∧ u.cell? ⟨C, 2, none⟩ = some (.int .i8 c.y)) ∧ Turned [g] u3 u)) (by kernel_rfl) (hSof _ ((Turned.refl [g] u3).drew)) (fun hHeld => ?_)
      refine BtL.take_d (some 22) (i := 0) (v := ?_) rfl rfl (by kernel_rfl) (by kernel_rfl) (by kernel_rfl) (fun _ _ _ h => h) (Or.inl ⟨by rfl, ?_⟩) (by assumption) ?_
      rotate_left
      · (intro w hSw; (try dsimp only at hSw); go_simp; try with_reducible rfl)
      simp only [Act.put, List.setIfInBounds_toArray, List.set_cons_zero, List.set_cons_succ]
      refine BtL.take_d (some 23) (i := 1) (v := ?_) rfl rfl (by kernel_rfl) (by kernel_rfl) (by kernel_rfl) (fun _ _ _ h => h) (Or.inl ⟨by rfl, ?_⟩) (by assumption) ?_
      rotate_left
      · (intro w hSw; (try dsimp only at hSw); go_simp; try with_reducible rfl)
      simp only [Act.put, List.setIfInBounds_toArray, List.set_cons_zero, List.set_cons_succ]
      refine BtL.take_d (some 24) (i := 2) (v := ?_) rfl rfl (by kernel_rfl) (by kernel_rfl) (by kernel_rfl) (fun _ _ _ h => h) (Or.inl ⟨by rfl, ?_⟩) (by assumption) ?_
      rotate_left
      · (intro w hSw; (try dsimp only at hSw); go_simp; try with_reducible rfl)
      simp only [Act.put, List.setIfInBounds_toArray, List.set_cons_zero, List.set_cons_succ]
      refine BtL.take_d (some 25) (i := 3) (v := ?_) rfl rfl (by kernel_rfl) (by kernel_rfl) (by kernel_rfl) (fun _ _ _ h => h) (Or.inl ⟨by rfl, ?_⟩) (by assumption) ?_
      rotate_left
      · (intro w hSw; (try dsimp only at hSw); go_simp; try with_reducible rfl)
      simp only [Act.put, List.setIfInBounds_toArray, List.set_cons_zero, List.set_cons_succ]
      refine BtL.take_d (some 26) (i := 4) (v := ?_) rfl rfl (by kernel_rfl) (by kernel_rfl) (by kernel_rfl) (fun _ _ _ h => h) (Or.inl ⟨by rfl, ?_⟩) (by assumption) ?_
      rotate_left
      · (intro w hSw; (try dsimp only at hSw); go_simp; try with_reducible rfl)
      simp only [Act.put, List.setIfInBounds_toArray, List.set_cons_zero, List.set_cons_succ]
      refine BtL.take_d (some 27) (i := 5) (v := ?_) rfl rfl (by kernel_rfl) (by kernel_rfl) (by kernel_rfl) (fun _ _ _ h => h) (Or.inl ⟨by rfl, ?_⟩) (by assumption) ?_
      rotate_left
      · (intro w hSw; (try dsimp only at hSw); go_simp; try with_reducible rfl)
      simp only [Act.put, List.setIfInBounds_toArray, List.set_cons_zero, List.set_cons_succ]
      refine BtL.take_d (some 28) (i := 6) (v := ?_) rfl rfl (by kernel_rfl) (by kernel_rfl) (by kernel_rfl) (fun _ _ _ h => h) (Or.inl ⟨by rfl, ?_⟩) (by assumption) ?_
      rotate_left
      · (intro w hSw; (try dsimp only at hSw); go_simp; try with_reducible rfl)
      simp only [Act.put, List.setIfInBounds_toArray, List.set_cons_zero, List.set_cons_succ]
      refine BtL.take_d (some 29) (i := 7) (v := ?_) rfl rfl (by kernel_rfl) (by kernel_rfl) (by kernel_rfl) (fun _ _ _ h => h) (Or.inl ⟨by rfl, ?_⟩) (by assumption) ?_
      rotate_left
      · (intro w hSw; (try dsimp only at hSw); go_simp; try with_reducible rfl)
      simp only [Act.put, List.setIfInBounds_toArray, List.set_cons_zero, List.set_cons_succ]
      refine BtL.take_d (some 30) (i := 8) (v := ?_) rfl rfl (by kernel_rfl) (by kernel_rfl) (by kernel_rfl) (fun _ _ _ h => h) (Or.inl ⟨by rfl, ?_⟩) (by assumption) ?_
      rotate_left
      · (intro w hSw; (try dsimp only at hSw); go_simp; try with_reducible rfl)
      simp only [Act.put, List.setIfInBounds_toArray, List.set_cons_zero, List.set_cons_succ]
      refine BtL.take_d (some 32) (i := 10) (v := ?_) rfl rfl (by kernel_rfl) (by kernel_rfl) (by kernel_rfl) (fun _ _ _ h => h) (Or.inl ⟨by rfl, ?_⟩) (by assumption) ?_
      rotate_left
      · (intro w hSw; (try dsimp only at hSw); go_simp; try with_reducible rfl)
      simp only [Act.put, List.setIfInBounds_toArray, List.set_cons_zero, List.set_cons_succ]
      refine BtL.take_d (some 33) (i := 11) (v := ?_) rfl rfl (by kernel_rfl) (by kernel_rfl) (by kernel_rfl) (fun _ _ _ h => h) (Or.inl ⟨by rfl, ?_⟩) (by assumption) ?_
      rotate_left
      · (intro w hSw; (try dsimp only at hSw); go_simp; try with_reducible rfl)
      simp only [Act.put, List.setIfInBounds_toArray, List.set_cons_zero, List.set_cons_succ]
      refine BtL.take_d (some 34) (i := 12) (v := ?_) rfl rfl (by kernel_rfl) (by kernel_rfl) (by kernel_rfl) (fun _ _ _ h => h) (Or.inl ⟨by rfl, ?_⟩) (by assumption) ?_
      rotate_left
      · (intro w hSw; (try dsimp only at hSw); go_simp; try with_reducible rfl)
      simp only [Act.put, List.setIfInBounds_toArray, List.set_cons_zero, List.set_cons_succ]
      refine BtL.take_d (some 35) (i := 13) (v := ?_) rfl rfl (by kernel_rfl) (by kernel_rfl) (by kernel_rfl) (fun _ _ _ h => h) (Or.inl ⟨by rfl, ?_⟩) (by assumption) ?_
      rotate_left
      · (intro w hSw; (try dsimp only at hSw); go_simp; try with_reducible rfl)
      simp only [Act.put, List.setIfInBounds_toArray, List.set_cons_zero, List.set_cons_succ]
      refine wpAnyH_ready (rs := [9]) (by kernel_rfl) (by simp) ?_
      refine AllReadyH.cons rfl (fun K hK => ?_) AllReadyH.nil
      go_simp
      refine hK.out _ _ ?_ (fun hHeld => ?_)
      · exact hSof _ ((Turned.refl [g] u3).drew)
      clear hK K
      try simp only [Act.put, List.setIfInBounds_toArray, List.set_cons_zero, List.set_cons_succ]
      refine wpAnyH_ready (rs := [14]) (by kernel_rfl) (by simp) ?_
      refine AllReadyH.cons rfl (fun K hK => ?_) AllReadyH.nil
      go_simp
      go_at_call 46
      with_reducible refine (kw _ ((Turned.refl [] u3).drew)).mono ?_
      rintro r u4 ⟨rfl, HT4⟩
      have HT5 : Turned [] u3 u4 := ((Turned.refl [] u3).drew).trans HT4 (by simp)
      have HT7 : Turned [g] u3 u4 := HT5.mono (by simp)
      obtain ⟨⟨a0, a1, a2, a3, a4, a5, a6, a7⟩, ⟨i0, i1, i2, i3, i4, i5, i6, i7⟩⟩ := hat _ (HT2.trans (HT3.trans HT5 (by simp)) (by simp))
      try go_wp2_with fail
      refine hK.out _ _ ?_ (fun hHeld => ?_)
      · exact hSof _ HT7
      clear hK K
      try simp only [Act.put, List.setIfInBounds_toArray, List.set_cons_zero, List.set_cons_succ]
      refine BtL.take_d (some 37) (i := 15) (v := ?_) rfl rfl (by kernel_rfl) (by kernel_rfl) (by kernel_rfl) (fun _ _ _ h => h) (Or.inl ⟨by rfl, ?_⟩) (by assumption) ?_
      rotate_left
      · (intro w hSw; (try dsimp only at hSw); go_simp; try with_reducible rfl)
      simp only [Act.put, List.setIfInBounds_toArray, List.set_cons_zero, List.set_cons_succ]
      refine wpAnyH_ready (rs := [16]) (by kernel_rfl) (by simp) ?_
      refine AllReadyH.cons rfl (fun K hK => ?_) AllReadyH.nil
      go_simp
      refine hK.out _ _ ?_ (fun hHeld => ?_)
      · exact hSof _ (turned8k HT7 (.inl (by simp)) _ x)
      clear hK K
      try simp only [Act.put, List.setIfInBounds_toArray, List.set_cons_zero, List.set_cons_succ]
      refine wpAnyH_done (by kernel_rfl) ?_ _

      obtain ⟨X2, hX2⟩ : ∃ X, X = put8k u4 g (k * 8) x := ⟨_, rfl⟩
      have hTg : Turned [g] u4 X2 := by rw [hX2]; exact turned8k (Turned.refl _ _) (.inl (by simp)) _ x
      have hF4 := hF.calm (HT2.trans (HT3.trans HT5 (by simp)) (by simp))
      have hO := own_put hF4.own HFO.out HKL.out x
      rw [← hX2] at hO
      have hF5 := hF4.turn hO (by rw [hbk]; exact hTg) (Nat.le_trans hbX (HT2.trans (HT3.trans HT5 (by simp)) (by simp)).size) (.inl rfl) (st := W.st) (tk := W.tick) (sv := V1.st) (tv := V1.tk) hF.tells.st hF.tells.tk
      have hB5 := (hB3.keep HT5 (by simp)).keep hTg (by simpa using nB)
      have hD5 := (hD3.keep HT5 (by simp)).keep hTg (by simpa using nD)
      have HT6 : Turned [] w X2 := (HTX.trans (HT2.trans (HT3.trans HT5 (by simp)) (by simp)) (by simp)).trans (S' := [g]) hTg (by intro j hj hl; simp at hj; omega)
      simp only [put8k] at hX2
      rw [← hX2]
      clear hX2 c0 c1 c2 c3 c4 c5 c6 f0 f1 f2 f3 f4 f5 f6 z0 z1 z2 z3 z4 z5 z6 y0 y1 y2 y3 y4 y5 y6
      have c0 := (hB5.2 0 _ rfl).1
      have f0 := (hB5.2 0 _ rfl).2
      have c1 := (hB5.2 1 _ rfl).1
      have f1 := (hB5.2 1 _ rfl).2
      have c2 := (hB5.2 2 _ rfl).1
      have f2 := (hB5.2 2 _ rfl).2
      have c3 := (hB5.2 3 _ rfl).1
      have f3 := (hB5.2 3 _ rfl).2
      have c4 := (hB5.2 4 _ rfl).1
      have f4 := (hB5.2 4 _ rfl).2
      have c5 := (hB5.2 5 _ rfl).1
      have f5 := (hB5.2 5 _ rfl).2
      have c6 := (hB5.2 6 _ rfl).1
      have f6 := (hB5.2 6 _ rfl).2
      have z0 := (hD5.2 0 _ rfl).1
      have y0 := (hD5.2 0 _ rfl).2
      have z1 := (hD5.2 1 _ rfl).1
      have y1 := (hD5.2 1 _ rfl).2
      have z2 := (hD5.2 2 _ rfl).1
      have y2 := (hD5.2 2 _ rfl).2
      have z3 := (hD5.2 3 _ rfl).1
      have y3 := (hD5.2 3 _ rfl).2
      have z4 := (hD5.2 4 _ rfl).1
      have y4 := (hD5.2 4 _ rfl).2
      have z5 := (hD5.2 5 _ rfl).1
      have y5 := (hD5.2 5 _ rfl).2
      have z6 := (hD5.2 6 _ rfl).1
      have y6 := (hD5.2 6 _ rfl).2
      go_wp2_with fail
      obtain ⟨X9, hX9⟩ : ∃ X, X = put7 X2 D V1 := ⟨_, rfl⟩
      have hS9 : Struct D (wvEnc V1) X9 := by rw [hX9]; exact set7 hD5 rfl _
      have hT9 : Turned [D] X2 X9 := by rw [hX9]; exact turned7 (Turned.refl _ _) (.inl (by simp)) _
      simp only [put7] at hX9
      rw [← hX9]
      clear hX9
      have e0 := (hS9.2 0 _ rfl).1
      have e1 := (hS9.2 1 _ rfl).1
      have e2 := (hS9.2 2 _ rfl).1
      have e3 := (hS9.2 3 _ rfl).1
      have e4 := (hS9.2 4 _ rfl).1
      have e5 := (hS9.2 5 _ rfl).1
      have e6 := (hS9.2 6 _ rfl).1
      go_wp2_with fail
      refine bodyPost_ret (v := wvVal V1) (by simp [results, Tryz.results20, go_sem, e0, e1, e2, e3, e4, e5, e6]) rfl ⟨_, rfl, ?_, fun k hk => .inr (Nat.le_trans hb0w (hF5.at_ge hk)), HT6.trans (S' := [D]) hT9 (by intro k hk hl; simp at hk; omega)⟩
      rw [HL.out, ← HX.out]; exact (hF5.keep hT9 (by intro k hk; simp at hk; omega)).tells

end WdW

end Go.Proofs.YtgabgkgokmeaeaaGreat


/- Whether two worlds are the same: the program's Same, of two that tell the same; all contracts (WdW). -/
namespace Go.Proofs.YtgabgkgokmeaeaaGreat
open Go.RowKit
set_option linter.unusedVariables false
set_option linter.unusedSimpArgs false

namespace WdW
set_option maxRecDepth 20000 in
set_option maxHeartbeats 4000000 in
theorem equalB_any (oa oa' : Option Addr) (n ca ca' : Nat) (l : List Bool) (hn : n = l.length) (hl : n ≤ 1100) (w : World) (hr : RowOf 1 tbEnc oa l w) (hr' : RowOf 1 tbEnc oa' l w) :
    Calls Tryz.prog 57 #[.slice oa n ca, .slice oa' n ca'] w fun e w' => e = .returned (.bool true) ∧ Turned [] w w' := by
  have HN : Hid (n = l.length) := hn
  have hn1 : (n : Int) ≤ 1100 := by omega
  clear hn hl
  go_enter Tryz.func57, Tryz.ntmps57
  go_wp2_with fail
  go_loopw [13] (fun i wr => ∃ k : Nat, k ≤ n ∧ i = .int .i64 (k : Int) ∧ Turned [] w wr) (fun i _ => n - (intOf i).toNat)
  case atStart => exact ⟨0, by omega, rfl, Turned.refl _ _⟩
  case round =>
    obtain ⟨k, hk, rfl, HT⟩ := hrel
    by_cases hlt : (k : Int) < (n : Int)
    · obtain ⟨e, he⟩ : ∃ e, l[k]? = some e := ⟨_, List.getElem?_eq_getElem (by have := HN.out; omega)⟩
      obtain ⟨g, off, rfl, hg, hc⟩ := hr.turned HT (by simp) k e he
      obtain ⟨g', off', rfl, hg', hc'⟩ := hr'.turned HT (by simp) k e he
      have ne : Nonempty (KeptW wr) := KeptW.one wr
      have p0 := KeptW.at hg (hc 0 _ rfl)
      have q0 := KeptW.at hg' (hc' 0 _ rfl)
      simp only [Nat.mul_one, Nat.add_zero] at p0 q0
      clear hc hc' he hr hr'
      go_wp2_with fail
      refine wp_region_kept (by kernel_rfl) (by kernel_rfl) ?_
      repeat (go_big_quiet_step (fail))
      refine wpQuiet_nil ?_
      rintro _ ⟨y, rfl⟩
      go_wp2_with fail
      go_roundw
      case rel => exact ⟨k + 1, by omega, by go_num, HT.trans (Turned.ofBelow y.h) (by simp)⟩
      case measure => simp [intOf]; omega
    · go_wp2_with fail
      go_ret
      exact ⟨rfl, HT⟩
end WdW

namespace WdW
theorem vd_same (a b : Int) (w : World) : (binOp .neq 49 (.agg #[.int .i64 a, .int .i64 b]) (.agg #[.int .i64 a, .int .i64 b])).run Tryz.prog w = .ok (.bool false) w := by
  rw [run_neq_struct, run_equalIn_agg (d := 9999) (ht := by kernel_rfl) (hp := by kernel_rfl)]
  simp [go_sem]
set_option maxRecDepth 20000 in
set_option maxHeartbeats 4000000 in
theorem equalV_any (oa oa' : Option Addr) (n ca ca' : Nat) (l : List (Int × Int)) (hn : n = l.length) (hl : n ≤ 1100) (w : World) (hr : RowOf 2 tvEnc oa l w) (hr' : RowOf 2 tvEnc oa' l w) :
    Calls Tryz.prog 58 #[.slice oa n ca, .slice oa' n ca'] w fun e w' => e = .returned (.bool true) ∧ Turned [] w w' := by
  have HN : Hid (n = l.length) := hn
  have hn1 : (n : Int) ≤ 1100 := by omega
  clear hn hl
  go_enter Tryz.func58, Tryz.ntmps58
  go_wp2_with fail
  go_loopw [13] (fun i wr => ∃ k : Nat, k ≤ n ∧ i = .int .i64 (k : Int) ∧ Turned [] w wr) (fun i _ => n - (intOf i).toNat)
  case atStart => exact ⟨0, by omega, rfl, Turned.refl _ _⟩
  case round =>
    obtain ⟨k, hk, rfl, HT⟩ := hrel
    by_cases hlt : (k : Int) < (n : Int)
    · obtain ⟨e, he⟩ : ∃ e, l[k]? = some e := ⟨_, List.getElem?_eq_getElem (by have := HN.out; omega)⟩
      obtain ⟨g, off, rfl, hg, hc⟩ := hr.turned HT (by simp) k e he
      obtain ⟨g', off', rfl, hg', hc'⟩ := hr'.turned HT (by simp) k e he
      have ne : Nonempty (KeptW wr) := KeptW.one wr
      have p0 := KeptW.at hg (hc 0 _ rfl); have p1 := KeptW.at hg (hc 1 _ rfl)
      have q0 := KeptW.at hg' (hc' 0 _ rfl); have q1 := KeptW.at hg' (hc' 1 _ rfl)
      have hd := vd_same e.1 e.2; simp only [Nat.add_zero] at p0 q0
      clear hc hc' he hr hr'
      go_wp2_with fail
      refine wp_region_kept (by kernel_rfl) (by kernel_rfl) ?_
      repeat (go_big_quiet_step (fail))
      refine wpQuiet_nil ?_
      rintro _ ⟨y, rfl⟩
      go_wp2_with fail
      go_roundw
      case rel => exact ⟨k + 1, by omega, by go_num, HT.trans (Turned.ofBelow y.h) (by simp)⟩
      case measure => simp [intOf]; omega
    · go_wp2_with fail
      go_ret
      exact ⟨rfl, HT⟩
end WdW

namespace WdW
set_option maxRecDepth 20000 in
set_option maxHeartbeats 4000000 in
theorem equalE_any (oa oa' : Option Addr) (n ca ca' : Nat) (l : List En.E) (hn : n = l.length) (hl : n ≤ 1100) (w : World) (hr : RowOf 8 enEnc oa l w) (hr' : RowOf 8 enEnc oa' l w) :
    Calls Tryz.prog 24 #[.slice oa n ca, .slice oa' n ca'] w fun e w' => e = .returned (.bool true) ∧ Turned [] w w' := by
  have HN : Hid (n = l.length) := hn
  have hn1 : (n : Int) ≤ 1100 := by omega
  clear hn hl
  go_enter Tryz.func24, Tryz.ntmps24
  go_wp2_with fail
  go_loopw [13] (fun i wr => ∃ k : Nat, k ≤ n ∧ i = .int .i64 (k : Int) ∧ Turned [] w wr) (fun i _ => n - (intOf i).toNat)
  case atStart => exact ⟨0, by omega, rfl, Turned.refl _ _⟩
  case round =>
    obtain ⟨k, hk, rfl, HT⟩ := hrel
    by_cases hlt : (k : Int) < (n : Int)
    · obtain ⟨e, he⟩ : ∃ e, l[k]? = some e := ⟨_, List.getElem?_eq_getElem (by have := HN.out; omega)⟩
      obtain ⟨g, off, rfl, hg, hc⟩ := hr.turned HT (by simp) k e he
      obtain ⟨g', off', rfl, hg', hc'⟩ := hr'.turned HT (by simp) k e he
      have ne : Nonempty (KeptW wr) := KeptW.one wr
      have p0 := KeptW.at hg (hc 0 _ rfl); have p1 := KeptW.at hg (hc 1 _ rfl); have p2 := KeptW.at hg (hc 2 _ rfl); have p3 := KeptW.at hg (hc 3 _ rfl); have p4 := KeptW.at hg (hc 4 _ rfl); have p5 := KeptW.at hg (hc 5 _ rfl); have p6 := KeptW.at hg (hc 6 _ rfl); have p7 := KeptW.at hg (hc 7 _ rfl)
      have q0 := KeptW.at hg' (hc' 0 _ rfl); have q1 := KeptW.at hg' (hc' 1 _ rfl); have q2 := KeptW.at hg' (hc' 2 _ rfl); have q3 := KeptW.at hg' (hc' 3 _ rfl); have q4 := KeptW.at hg' (hc' 4 _ rfl); have q5 := KeptW.at hg' (hc' 5 _ rfl); have q6 := KeptW.at hg' (hc' 6 _ rfl); have q7 := KeptW.at hg' (hc' 7 _ rfl)
      have hd := mv_diff e.id e.kind e.ax e.ay e.vx e.vy e.h e.t; simp only [Nat.add_zero] at p0 q0
      clear hc hc' he hr hr'
      go_wp2_with fail
      refine wp_region_kept (by kernel_rfl) (by kernel_rfl) ?_
      repeat (go_big_quiet_step (fail))
      refine wpQuiet_nil ?_
      rintro _ ⟨y, rfl⟩
      go_wp2_with fail
      go_roundw
      case rel => exact ⟨k + 1, by omega, by go_num, HT.trans (Turned.ofBelow y.h) (by simp)⟩
      case measure => simp [intOf]; omega
    · go_wp2_with fail
      go_ret
      exact ⟨rfl, HT⟩
end WdW

namespace WdW
set_option maxRecDepth 20000 in
set_option maxHeartbeats 4000000 in
theorem sameMap_any (W : Wd.W) (V V' : WV) (w : World) (h : Tells W V w) (h' : Tells W V' w) :
    Calls Tryz.prog 25 #[.agg #[.int .i64 V.mw, .int .i64 V.mh, .slice V.oa V.nw V.ca, .slice V.ob V.ns V.cb], .agg #[.int .i64 V'.mw, .int .i64 V'.mh, .slice V'.oa V'.nw V'.ca, .slice V'.ob V'.ns V'.cb]] w fun e w' => e = .returned (.bool true) ∧ Turned [] w w' := by
  have e1 : V'.mw = V.mw := by rw [h.mw, h'.mw]
  have e2 : V'.mh = V.mh := by rw [h.mh, h'.mh]
  have e3 : V'.nw = V.nw := by rw [h.nw, h'.nw]
  have e4 : V'.ns = V.ns := by rw [h.ns, h'.ns]
  rw [e1, e2, e3, e4]
  have kb := fun u (ht : Turned [] w u) => equalB_any V.oa V'.oa V.nw V.ca V'.ca W.m.ws h.nw (by rw [h.nw]; exact h.map.lw) u (h.calm ht).map.ws (h'.calm ht).map.ws
  have kv := fun u (ht : Turned [] w u) => equalV_any V.ob V'.ob V.ns V.cb V'.cb W.m.sp h.ns (by rw [h.ns]; exact h.map.ls) u (h.calm ht).map.sp (h'.calm ht).map.sp
  clear e1 e2 e3 e4
  obtain ⟨W0, hW0⟩ : ∃ W0, W0 = (w.alloc (.cells #[.int .i64 V.mw, .int .i64 V.mh, .slice V.oa V.nw V.ca, .slice V.ob V.ns V.cb] 25)).alloc (.cells #[.int .i64 V.mw, .int .i64 V.mh, .slice V'.oa V.nw V'.ca, .slice V'.ob V.ns V'.cb] 25) := ⟨_, rfl⟩
  obtain ⟨B, hB⟩ : ∃ b, b = w.heap.size := ⟨_, rfl⟩
  obtain ⟨D, hD⟩ : ∃ b, b = w.heap.size + 1 := ⟨_, rfl⟩
  have hT : Turned [] w W0 := by rw [hW0]; exact (((Turned.refl [] w).alloc _).alloc _)
  have hS : Struct B [.int .i64 V.mw, .int .i64 V.mh, .slice V.oa V.nw V.ca, .slice V.ob V.ns V.cb] W0 := by
    have h0 := Struct.new w [.int .i64 V.mw, .int .i64 V.mh, .slice V.oa V.nw V.ca, .slice V.ob V.ns V.cb] 25
    rw [← hB] at h0
    rw [hW0]; exact h0.keep ((Turned.refl [] _).alloc _) (by simp)
  have hR : Struct D [.int .i64 V.mw, .int .i64 V.mh, .slice V'.oa V.nw V'.ca, .slice V'.ob V.ns V'.cb] W0 := by
    have h0 := Struct.new (w.alloc (.cells #[.int .i64 V.mw, .int .i64 V.mh, .slice V.oa V.nw V.ca, .slice V.ob V.ns V.cb] 25)) [.int .i64 V.mw, .int .i64 V.mh, .slice V'.oa V.nw V'.ca, .slice V'.ob V.ns V'.cb] 25
    rw [show (w.alloc (.cells #[.int .i64 V.mw, .int .i64 V.mh, .slice V.oa V.nw V.ca, .slice V.ob V.ns V.cb] 25)).heap.size = w.heap.size + 1 by simp, ← hD] at h0
    rw [hW0]; exact h0
  have hBw : w.heap.size ≤ B := by omega
  have hDw : w.heap.size ≤ D := by omega
  have nBD : B ≠ D := by omega
  have nDB : D ≠ B := by omega
  have c0 := (hS.2 0 _ rfl).1
  have f0 := (hS.2 0 _ rfl).2
  have c1 := (hS.2 1 _ rfl).1
  have f1 := (hS.2 1 _ rfl).2
  have c2 := (hS.2 2 _ rfl).1
  have f2 := (hS.2 2 _ rfl).2
  have c3 := (hS.2 3 _ rfl).1
  have f3 := (hS.2 3 _ rfl).2
  have z0 := (hR.2 0 _ rfl).1
  have y0 := (hR.2 0 _ rfl).2
  have z1 := (hR.2 1 _ rfl).1
  have y1 := (hR.2 1 _ rfl).2
  have z2 := (hR.2 2 _ rfl).1
  have y2 := (hR.2 2 _ rfl).2
  have z3 := (hR.2 3 _ rfl).1
  have y3 := (hR.2 3 _ rfl).2
  clear h h'
  go_enter Tryz.func25, Tryz.ntmps25
  go_wp2_with fail
  try rw [← hW0, ← hD, ← hB]
  clear hW0 hB hD
  go_wp2_with (first
    | (go_at_call 57; (with_reducible refine (kb _ hT).mono ?_); rintro r u1 ⟨rfl, HT1⟩; have hS1 := hS.keep HT1 (by simp); have hR1 := hR.keep HT1 (by simp); have c0 := (hS1.2 0 _ rfl).1; have f0 := (hS1.2 0 _ rfl).2; have c1 := (hS1.2 1 _ rfl).1; have f1 := (hS1.2 1 _ rfl).2; have c2 := (hS1.2 2 _ rfl).1; have f2 := (hS1.2 2 _ rfl).2; have c3 := (hS1.2 3 _ rfl).1; have f3 := (hS1.2 3 _ rfl).2; have z0 := (hR1.2 0 _ rfl).1; have y0 := (hR1.2 0 _ rfl).2; have z1 := (hR1.2 1 _ rfl).1; have y1 := (hR1.2 1 _ rfl).2; have z2 := (hR1.2 2 _ rfl).1; have y2 := (hR1.2 2 _ rfl).2; have z3 := (hR1.2 3 _ rfl).1; have y3 := (hR1.2 3 _ rfl).2)
    | (go_at_call 58; (with_reducible refine (kv _ (hT.trans HT1 (by simp))).mono ?_); rintro r u2 ⟨rfl, HT2⟩))
  go_ret
  exact ⟨rfl, (hT.trans HT1 (by simp)).trans HT2 (by simp)⟩
end WdW

namespace WdW
set_option maxRecDepth 20000 in
set_option maxHeartbeats 4000000 in
theorem same_any (W : Wd.W) (V V' : WV) (hG : Wd.Gd W) (w : World) (h : Tells W V w) (h' : Tells W V' w) :
    Calls Tryz.prog 11 #[wvVal V, wvVal V'] w fun e w' => e = .returned (.bool true) ∧ Turned [] w w' := by
  have e5 : V'.st = V.st := by rw [h.st, h'.st]
  have e6 : V'.tk = V.tk := by rw [h.tk, h'.tk]
  have e7 : V'.nl = V.nl := by rw [h.nl, h'.nl]
  have hsh := hG.short
  have ke := fun u (ht : Turned [] w u) => equalE_any V.ol V'.ol V.nl V.cl V'.cl W.l h.nl (by rw [h.nl]; omega) u (h.calm ht).row (h'.calm ht).row
  have km := fun u (ht : Turned [] w u) => sameMap_any W V V' u (h.calm ht) (h'.calm ht)
  rw [← e7] at ke
  unfold wvVal
  rw [e5, e6]
  rw [e7] at ke ⊢
  clear e5 e6 e7 hsh
  obtain ⟨W0, hW0⟩ : ∃ W0, W0 = (w.alloc (.cells #[.int .i64 V.mw, .int .i64 V.mh, .slice V.oa V.nw V.ca, .slice V.ob V.ns V.cb, .int .u64 V.st, .int .i64 V.tk, .slice V.ol V.nl V.cl] 34)).alloc (.cells #[.int .i64 V'.mw, .int .i64 V'.mh, .slice V'.oa V'.nw V'.ca, .slice V'.ob V'.ns V'.cb, .int .u64 V.st, .int .i64 V.tk, .slice V'.ol V.nl V'.cl] 34) := ⟨_, rfl⟩
  obtain ⟨B, hB⟩ : ∃ b, b = w.heap.size := ⟨_, rfl⟩
  obtain ⟨D, hD⟩ : ∃ b, b = w.heap.size + 1 := ⟨_, rfl⟩
  have hT : Turned [] w W0 := by rw [hW0]; exact (((Turned.refl [] w).alloc _).alloc _)
  have hS : Struct B [.int .i64 V.mw, .int .i64 V.mh, .slice V.oa V.nw V.ca, .slice V.ob V.ns V.cb, .int .u64 V.st, .int .i64 V.tk, .slice V.ol V.nl V.cl] W0 := by
    have h0 := Struct.new w [.int .i64 V.mw, .int .i64 V.mh, .slice V.oa V.nw V.ca, .slice V.ob V.ns V.cb, .int .u64 V.st, .int .i64 V.tk, .slice V.ol V.nl V.cl] 34
    rw [← hB] at h0
    rw [hW0]; exact h0.keep ((Turned.refl [] _).alloc _) (by simp)
  have hR : Struct D [.int .i64 V'.mw, .int .i64 V'.mh, .slice V'.oa V'.nw V'.ca, .slice V'.ob V'.ns V'.cb, .int .u64 V.st, .int .i64 V.tk, .slice V'.ol V.nl V'.cl] W0 := by
    have h0 := Struct.new (w.alloc (.cells #[.int .i64 V.mw, .int .i64 V.mh, .slice V.oa V.nw V.ca, .slice V.ob V.ns V.cb, .int .u64 V.st, .int .i64 V.tk, .slice V.ol V.nl V.cl] 34)) [.int .i64 V'.mw, .int .i64 V'.mh, .slice V'.oa V'.nw V'.ca, .slice V'.ob V'.ns V'.cb, .int .u64 V.st, .int .i64 V.tk, .slice V'.ol V.nl V'.cl] 34
    rw [show (w.alloc (.cells #[.int .i64 V.mw, .int .i64 V.mh, .slice V.oa V.nw V.ca, .slice V.ob V.ns V.cb, .int .u64 V.st, .int .i64 V.tk, .slice V.ol V.nl V.cl] 34)).heap.size = w.heap.size + 1 by simp, ← hD] at h0
    rw [hW0]; exact h0
  have hBw : w.heap.size ≤ B := by omega
  have hDw : w.heap.size ≤ D := by omega
  have nBD : B ≠ D := by omega
  have nDB : D ≠ B := by omega
  have c0 := (hS.2 0 _ rfl).1
  have f0 := (hS.2 0 _ rfl).2
  have c1 := (hS.2 1 _ rfl).1
  have f1 := (hS.2 1 _ rfl).2
  have c2 := (hS.2 2 _ rfl).1
  have f2 := (hS.2 2 _ rfl).2
  have c3 := (hS.2 3 _ rfl).1
  have f3 := (hS.2 3 _ rfl).2
  have c4 := (hS.2 4 _ rfl).1
  have f4 := (hS.2 4 _ rfl).2
  have c5 := (hS.2 5 _ rfl).1
  have f5 := (hS.2 5 _ rfl).2
  have c6 := (hS.2 6 _ rfl).1
  have f6 := (hS.2 6 _ rfl).2
  have z0 := (hR.2 0 _ rfl).1
  have y0 := (hR.2 0 _ rfl).2
  have z1 := (hR.2 1 _ rfl).1
  have y1 := (hR.2 1 _ rfl).2
  have z2 := (hR.2 2 _ rfl).1
  have y2 := (hR.2 2 _ rfl).2
  have z3 := (hR.2 3 _ rfl).1
  have y3 := (hR.2 3 _ rfl).2
  have z4 := (hR.2 4 _ rfl).1
  have y4 := (hR.2 4 _ rfl).2
  have z5 := (hR.2 5 _ rfl).1
  have y5 := (hR.2 5 _ rfl).2
  have z6 := (hR.2 6 _ rfl).1
  have y6 := (hR.2 6 _ rfl).2
  clear h h' hG
  go_enter Tryz.func11, Tryz.ntmps11
  go_wp2_with fail
  try rw [← hW0, ← hD, ← hB]
  clear hW0 hB hD
  go_wp2_with (first
    | (go_at_call 24; (with_reducible refine (ke _ hT).mono ?_); rintro r u1 ⟨rfl, HT1⟩; have hS1 := hS.keep HT1 (by simp); have hR1 := hR.keep HT1 (by simp); have c0 := (hS1.2 0 _ rfl).1; have f0 := (hS1.2 0 _ rfl).2; have c1 := (hS1.2 1 _ rfl).1; have f1 := (hS1.2 1 _ rfl).2; have c2 := (hS1.2 2 _ rfl).1; have f2 := (hS1.2 2 _ rfl).2; have c3 := (hS1.2 3 _ rfl).1; have f3 := (hS1.2 3 _ rfl).2; have c4 := (hS1.2 4 _ rfl).1; have f4 := (hS1.2 4 _ rfl).2; have c5 := (hS1.2 5 _ rfl).1; have f5 := (hS1.2 5 _ rfl).2; have c6 := (hS1.2 6 _ rfl).1; have f6 := (hS1.2 6 _ rfl).2; have z0 := (hR1.2 0 _ rfl).1; have y0 := (hR1.2 0 _ rfl).2; have z1 := (hR1.2 1 _ rfl).1; have y1 := (hR1.2 1 _ rfl).2; have z2 := (hR1.2 2 _ rfl).1; have y2 := (hR1.2 2 _ rfl).2; have z3 := (hR1.2 3 _ rfl).1; have y3 := (hR1.2 3 _ rfl).2; have z4 := (hR1.2 4 _ rfl).1; have y4 := (hR1.2 4 _ rfl).2; have z5 := (hR1.2 5 _ rfl).1; have y5 := (hR1.2 5 _ rfl).2; have z6 := (hR1.2 6 _ rfl).1; have y6 := (hR1.2 6 _ rfl).2)
    | (go_at_call 25; (with_reducible refine (km _ (hT.trans HT1 (by simp))).mono ?_); rintro r u2 ⟨rfl, HT2⟩))
  go_ret
  exact ⟨rfl, (hT.trans HT1 (by simp)).trans HT2 (by simp)⟩
theorem contractsS : ContractsS := ⟨same_any⟩
end WdW

namespace WdW
theorem contracts : Contracts := ⟨fun m oa ca ob cb s n hs hn w hM => new_any m oa ca ob cb s n hs hn w hM, join_any, leave_any, hit_world, go_world, tick_any⟩
end WdW

end Go.Proofs.YtgabgkgokmeaeaaGreat


/- That the program of layer 13 is awake, and which maps the laws look at. -/
namespace Go.Proofs.YtgabgkgokmeaeaaGreat
open Go.RowKit
set_option linter.unusedVariables false
set_option linter.unusedSimpArgs false

namespace Wd
def mapD : Ti.M := ⟨2, 1, [false, false], [(32768, 32768), (98304, 32768)]⟩
def textD : List UInt8 := [226, 151, 142, 226, 151, 142, 10]
theorem readD : Ti.read textD = (some ⟨0, 2, 1, [false, false], [(32768, 32768), (98304, 32768)]⟩, 0) := by rfl
theorem formedD : Ti.Formed mapD := (Ti.read_formed readD).1
theorem okD : newOk mapD 1 = true := newOk_iff.2 ⟨formedD, by omega, by omega⟩
theorem newD : newW mapD 7 1 = new mapD 7 1 := by unfold newW; rw [if_pos okD]; rfl
theorem gdD : Gd (newW mapD 7 1) := gd_new (by omega) ⟨by decide, by decide⟩ okD
theorem errD : newE mapD 1 = 0 := by unfold newE; rw [if_pos okD]
end Wd
namespace WdL
set_option maxRecDepth 20000 in
set_option maxHeartbeats 2000000 in
theorem awake_any (K : WdW.Contracts) (w : World) :
    Calls Tryz.prog 5 #[] w fun e w' => e = .returned (.bool true) ∧ Turned [] w w' := by
  have k1 := TiW.read_any ⟨#[226, 151, 142, 226, 151, 142, 10]⟩ (by decide) w
  unfold TiR.Answers at k1
  rw [show (⟨#[226, 151, 142, 226, 151, 142, 10]⟩ : ByteArray).data.toList = Wd.textD from rfl, Wd.readD] at k1
  simp only [Ti.ansM, Ti.ansN, Ti.ansE] at k1
  rw [show Ti.mOf ⟨0, 2, 1, [false, false], [(32768, 32768), (98304, 32768)]⟩ = Wd.mapD from rfl] at k1
  have k2 : ∀ (oa : Option Addr) (ca : Nat) (ob : Option Addr) (cb : Nat) (u : World), MapAt Wd.mapD oa ob u →
      Calls Tryz.prog 7 #[.agg #[.int .i64 2, .int .i64 1, .slice oa 2 ca, .slice ob 2 cb], .int .u64 7, .int .i64 1] u fun e w' => ∃ V, e = .returned (.tuple #[wvVal V, .int .i64 0]) ∧ Tells (Wd.newW Wd.mapD 7 1) V w' ∧ Turned [] u w' := by
    intro oa ca ob cb u hu
    have h := K.new Wd.mapD oa ca ob cb 7 1 (by omega) (by unfold En.I64; decide) u hu
    rw [Wd.errD] at h
    exact h.mono fun e w' ⟨V, h1, h2, _, h3⟩ => ⟨V, h1, h2, h3⟩
  have k3 := fun (V : WV) (u : World) (hu : Tells (Wd.newW Wd.mapD 7 1) V u) => K.tick _ V Wd.gdD (by rw [Wd.newD]; exact ⟨by show (0 : Int) ≤ 0; omega, by show (0 : Int) ≤ _; omega⟩) u hu
  have k1 : Calls Tryz.prog 12 #[.string ⟨#[226, 151, 142, 226, 151, 142, 10]⟩] w fun e w' => ∃ oa ca ob cb, e = .returned (.tuple #[.agg #[.int .i64 2, .int .i64 1, .slice oa 2 ca, .slice ob 2 cb], .int .i64 0, .int .i64 0]) ∧ MapAt Wd.mapD oa ob w' ∧ Turned [] w w' :=
    k1.mono fun e w' ⟨oa, ca, ob, cb, h1, h2, _, _, h3⟩ => ⟨oa, ca, ob, cb, h1, h2, h3⟩
  have hl : ∀ (V : WV) (u : World), Tells (Wd.newW Wd.mapD 7 1) V u → V.nl = 1 := fun V u hu => by rw [hu.nl, Wd.newD]; exact Wd.balls_len _ _ _
  have ht : ∀ (V : WV) (u : World), Tells (Wd.tick (Wd.newW Wd.mapD 7 1)) V u → V.tk = 1 := fun V u hu => by rw [hu.tk, Wd.newD]; rfl
  have hfl : ∀ (V : WV) (u : World), (Instr.field 34 (wvVal V) 2).run Tryz.prog u = .ok (.int .i64 V.tk) u := fun V u => by unfold Instr.field; go_simp; rfl
  go_enter Tryz.func5, Tryz.ntmps5
  go_wp2_with (first | (go_at_call 12; (with_reducible refine k1.mono ?_); rintro e u1 ⟨oa, ca, ob, cb, rfl, hM, hT⟩) | (go_at_call 7; (with_reducible refine (k2 oa ca ob cb _ (hM.calm ((Turned.refl [] u1).alloc _))).mono ?_); rintro e u2 ⟨⟨mw, mh, oa', nw, ca', ob', ns, cb', st, tk, ol, nl, cl⟩, rfl, hV, hT2⟩; obtain rfl : nl = 1 := hl _ _ hV; have hV' := fun o => hV.calm ((Turned.refl [] u2).alloc o)) | (go_at_call 13; (with_reducible refine (k3 _ _ (hV' _)).mono ?_); rintro e u3 ⟨⟨mw3, mh3, oa3, nw3, ca3, ob3, ns3, cb3, st3, tk3, ol3, nl3, cl3⟩, rfl, hV3, hA3, hT3⟩; obtain rfl : tk3 = 1 := ht _ _ hV3))
  go_ret
  exact ⟨rfl, (((hT.alloc _).trans hT2 (by simp)).alloc _).trans hT3 (by simp)⟩
set_option maxHeartbeats 1000000 in
theorem few_any (m : Ti.M) (oa : Option Addr) (ca : Nat) (ob : Option Addr) (cb : Nat) (w : World) :
    Calls Tryz.prog 6 #[mapVal m oa ca ob cb] w fun e w' => e = .returned (.bool (decide (m.ws.length ≤ 400) && decide (m.sp.length ≤ 400))) ∧ Turned [] w w' := by
  have HT : ∀ o, Turned [] w (w.alloc o) := fun o => (Turned.refl [] w).alloc o
  unfold mapVal
  generalize m.ws.length = nw
  generalize m.sp.length = ns
  by_cases h1 : (nw : Int) ≤ 400
  · by_cases h2 : (ns : Int) ≤ 400
    · have HA : Hid ((decide (nw ≤ 400) && decide (ns ≤ 400)) = true) := by show _ = _; simp; omega
      go_enter Tryz.func6, Tryz.ntmps6
      go_wp2_with fail
      go_ret
      exact ti_bool HA.out.symm (HT _)
    · have HA : Hid ((decide (nw ≤ 400) && decide (ns ≤ 400)) = false) := by show _ = _; simp; omega
      go_enter Tryz.func6, Tryz.ntmps6
      go_wp2_with fail
      go_ret
      exact ti_bool HA.out.symm (HT _)
  · have HA : Hid ((decide (nw ≤ 400) && decide (ns ≤ 400)) = false) := by show _ = _; simp; omega
    go_enter Tryz.func6, Tryz.ntmps6
    go_wp2_with fail
    go_ret
    exact ti_bool HA.out.symm (HT _)
end WdL
end Go.Proofs.YtgabgkgokmeaeaaGreat


/- An entity's fields, lists of entities, where an ID stands: the reference's (EnR). -/
namespace Go.Proofs.YtgabgkgokmeaeaaGreat
open Go.RowKit
set_option linter.unusedVariables false
set_option linter.unusedSimpArgs false

namespace EnR

theorem formed_kept {W : World} (e : En.E) (b : Bool) (hb : decide (En.Formed e) = b) (x : KeptW W) : Calls Tryz.prog 21 #[enVal e] x.u fun r w'' => r = .returned (.bool b) ∧ ∃ y : KeptW W, w'' = y.u :=
  kept_call ((formed_any e x.u).mono fun r w' ⟨he, ht⟩ => ⟨by rw [← hb]; exact he, ht.none⟩)

end EnR
end Go.Proofs.YtgabgkgokmeaeaaGreat

/- Whether entities are a list: the reference's (EnR). -/
namespace Go.Proofs.YtgabgkgokmeaeaaGreat
open Go.RowKit
set_option linter.unusedVariables false
set_option linter.unusedSimpArgs false

namespace EnR
set_option maxHeartbeats 4000000 in
theorem list_any (oa : Option Addr) (cap : Nat) (l : List En.E) (w : World) (hr : RowOf 8 enEnc oa l w) (hl : (l.length : Int) ≤ 9223372036854775807) :
    Calls Tryz.prog 9 #[.slice oa l.length cap] w fun r w' => r = .returned (.bool (En.list l)) ∧ Turned [] w w' := by
  obtain ⟨n, hn⟩ : ∃ n, n = l.length := ⟨_, rfl⟩
  rw [← hn] at hl ⊢
  have HN : Hid (n = l.length) := hn
  clear hn
  go_enter Tryz.func9, Tryz.ntmps9
  go_wp2_with fail
  go_loopw [3] (fun i wr => ∃ k : Nat, k ≤ n ∧ i = .int .i64 (k : Int) ∧ (∀ (j : Nat) (e : En.E), j < k → l[j]? = some e → En.Formed e ∧ ∀ d, 0 < j → l[j - 1]? = some d → d.id < e.id) ∧ Turned [] w wr) (fun i _ => n - (intOf i).toNat)
  case atStart => exact ⟨0, by omega, rfl, fun j c h _ => absurd h (by omega), Turned.refl _ _⟩
  case round =>
    obtain ⟨k, hk, rfl, hall, ht⟩ := hrel
    by_cases hlt : (k : Int) < (n : Int)
    · obtain ⟨e, he⟩ : ∃ e, l[k]? = some e := ⟨_, List.getElem?_eq_getElem (by have := HN.out; omega)⟩
      have hrow := hr.turned ht (by simp)
      obtain ⟨g, off, rfl, hg, p0, p1, p2, p3, p4, p5, p6, p7⟩ := en_at hrow he
      have ne : Nonempty (KeptW wr) := KeptW.one wr
      have d0 := KeptW.at hg p0
      have d1 := KeptW.at hg p1
      have d2 := KeptW.at hg p2
      have d3 := KeptW.at hg p3
      have d4 := KeptW.at hg p4
      have d5 := KeptW.at hg p5
      have d6 := KeptW.at hg p6
      have d7 := KeptW.at hg p7
      by_cases hfm : En.Formed e
      · have kf := formed_kept (W := wr) e true (by simpa using hfm)
        by_cases hk0 : k = 0
        · subst hk0
          have HOK : Hid (En.Formed e ∧ ∀ d, 0 < 0 → l[0 - 1]? = some d → d.id < e.id) := ⟨hfm, fun d h => absurd h (by omega)⟩
          have i0 : decide ((0 : Int) < ((0 : Nat) : Int)) = false := by decide
          simp only [Nat.zero_mul, Nat.add_zero] at d0 d1 d2 d3 d4 d5 d6 d7
          clear hfm p0 p1 p2 p3 p4 p5 p6 p7
          go_wp2_with fail
          refine wp_region_kept (by kernel_rfl) (by kernel_rfl) ?_
          repeat (go_big_quiet_step (first | (go_at_call 21; with_reducible exact kf _)))
          refine wpQuiet_nil ?_
          rintro _ ⟨y, rfl⟩
          go_wp2_with fail
          go_roundw
          case rel =>
            refine ⟨0 + 1, by omega, by go_num, ?_, ht.trans (Turned.ofBelow y.h) (by simp)⟩
            intro j d hj hd
            by_cases hjk : j = 0
            · subst hjk
              rw [he] at hd
              simp at hd
              subst hd
              exact HOK.out
            · exact hall j d (by omega) hd
          case measure => simp [intOf]; omega
        · obtain ⟨m, rfl⟩ : ∃ m, k = m + 1 := ⟨k - 1, by omega⟩
          obtain ⟨d, hd⟩ : ∃ d, l[m]? = some d := ⟨_, List.getElem?_eq_getElem (by have := HN.out; omega)⟩
          obtain ⟨g', off', ho', _, q0, _⟩ := en_at hrow hd
          simp at ho'
          obtain ⟨rfl, rfl⟩ := ho'
          have e0 := KeptW.at hg q0
          have i0 : decide ((0 : Int) < ((m + 1 : Nat) : Int)) = true := by rw [decide_eq_true_iff]; omega
          have hwr : IntKind.i64.wrap (((m + 1 : Nat) : Int) - 1) = (m : Int) := by
            have : IntKind.i64.wrap (((m + 1 : Nat) : Int) - 1) = wrap64 (((m + 1 : Nat) : Int) - 1) := by simp [wrap64, IntKind.wrap, IntKind.bits, IntKind.signed]; split <;> omega
            rw [this]; unfold wrap64; omega
          have hmn : (m : Int) < (n : Int) := by omega
          by_cases hid : d.id < e.id
          · have HOK : Hid (En.Formed e ∧ ∀ c, 0 < m + 1 → l[m + 1 - 1]? = some c → c.id < e.id) := ⟨hfm, fun c _ hc => by rw [show m + 1 - 1 = m by omega, hd] at hc; simp at hc; subst hc; exact hid⟩
            have hle : decide (e.id ≤ d.id) = false := by rw [decide_eq_false_iff_not]; omega
            clear hfm hid hk0
            go_wp2_with fail
            refine wp_region_kept (by kernel_rfl) (by kernel_rfl) ?_
            repeat (go_big_quiet_step (first | (go_at_call 21; with_reducible exact kf _)))
            refine wpQuiet_nil ?_
            rintro _ ⟨y, rfl⟩
            go_wp2_with fail
            go_roundw
            case rel =>
              refine ⟨m + 1 + 1, by omega, by go_num, ?_, ht.trans (Turned.ofBelow y.h) (by simp)⟩
              intro j d hj hd
              by_cases hjk : j = m + 1
              · subst hjk
                rw [he] at hd
                simp at hd
                subst hd
                exact HOK.out
              · exact hall j d (by omega) hd
            case measure => simp [intOf]; omega
          · have HNM : Hid (En.list l = false) := En.list_not he (fun h => hid (h.2 d (by omega) (by rw [show m + 1 - 1 = m by omega]; exact hd)))
            have hle : decide (e.id ≤ d.id) = true := by rw [decide_eq_true_iff]; omega
            clear hfm hid hk0
            go_wp2_with fail
            refine wp_region_kept (by kernel_rfl) (by kernel_rfl) ?_
            repeat (go_big_quiet_step (first | (go_at_call 21; with_reducible exact kf _)))
            refine wpQuiet_nil ?_
            rintro _ ⟨y, rfl⟩
            go_wp2_with fail
            go_ret
            exact bool_ret HNM.out.symm (ht.trans (Turned.ofBelow y.h) (by simp))
      · have kf := formed_kept (W := wr) e false (by simpa using hfm)
        have HNM : Hid (En.list l = false) := En.list_not he (fun h => hfm h.1)
        go_wp2_with fail
        refine wp_region_kept (by kernel_rfl) (by kernel_rfl) ?_
        repeat (go_big_quiet_step (first | (go_at_call 21; with_reducible exact kf _)))
        refine wpQuiet_nil ?_
        rintro _ ⟨y, rfl⟩
        go_wp2_with fail
        go_ret
        exact bool_ret HNM.out.symm (ht.trans (Turned.ofBelow y.h) (by simp))
    · have HL : Hid (En.list l = true) := (En.list_iff l).2 fun j e he => hall j e (by have := (List.getElem?_eq_some_iff.1 he).1; have := HN.out; omega) he
      clear hall
      go_wp2_with fail
      go_ret
      exact bool_ret HL.out.symm ht
end EnR
end Go.Proofs.YtgabgkgokmeaeaaGreat


/- Of worlds that came about: that their entities are a list, that each stands free; New, as the laws call it. -/
namespace Go.Proofs.YtgabgkgokmeaeaaGreat
open Go.RowKit
set_option linter.unusedVariables false
set_option linter.unusedSimpArgs false

namespace WdL
theorem list_told {W : Wd.W} {V : WV} (hG : Wd.Gd W) {u : World} (h : Tells W V u) :
    Calls Tryz.prog 9 #[.slice V.ol V.nl V.cl] u fun r w' => r = .returned (.bool true) ∧ Turned [] u w' := by
  have hk := EnR.list_any V.ol V.cl W.l u h.row (by have := hG.short; omega)
  rw [hG.list] at hk
  rw [h.nl]
  exact hk

theorem stands_told {W : Wd.W} {V : WV} (hG : Wd.Gd W) {e : En.E} (he : e ∈ W.l) {u : World} (h : Tells W V u) :
    Calls Tryz.prog 10 #[.agg #[.int .i64 V.mw, .int .i64 V.mh, .slice V.oa V.nw V.ca, .slice V.ob V.ns V.cb], .agg #[.int .i64 e.ax, .int .i64 e.ay]] u fun r w' => r = .returned (.bool true) ∧ Turned [] u w' := by
  have hk := MvW.stands_any W.m V.oa V.ca V.ob V.cb e.ax e.ay u h.map
  rw [(hG.good e he).2] at hk
  rw [h.mw, h.mh, h.nw, h.ns]
  exact hk

theorem new_told (K : WdW.Contracts) {m : Ti.M} {oa : Option Addr} {ca : Nat} {ob : Option Addr} {cb : Nat} {s : Nat} {n : Int} (hs : s < 18446744073709551616) (hn : En.I64 n) (hok : Wd.newOk m n = true) {u : World} (h : MapAt m oa ob u) :
    Calls Tryz.prog 7 #[.agg #[.int .i64 m.W, .int .i64 m.H, .slice oa m.ws.length ca, .slice ob m.sp.length cb], .int .u64 (s : Int), .int .i64 n] u fun e w' => ∃ V, e = .returned (.tuple #[wvVal V, .int .i64 0]) ∧ Tells (Wd.newW m s n) V w' ∧ Turned [] u w' := by
  have hk := K.new m oa ca ob cb s n hs hn u h
  rw [show Wd.newE m n = 0 from if_pos hok] at hk
  exact hk.mono fun e w' ⟨V, h1, h2, _, h3⟩ => ⟨V, h1, h2, h3⟩
theorem new_not (K : WdW.Contracts) {m : Ti.M} {oa : Option Addr} {ca : Nat} {ob : Option Addr} {cb : Nat} {s : Nat} {n : Int} (hs : s < 18446744073709551616) (hn : En.I64 n) (hok : ¬ Wd.newOk m n = true) {u : World} (h : MapAt m oa ob u) :
    Calls Tryz.prog 7 #[.agg #[.int .i64 m.W, .int .i64 m.H, .slice oa m.ws.length ca, .slice ob m.sp.length cb], .int .u64 (s : Int), .int .i64 n] u fun e w' => ∃ V, e = .returned (.tuple #[wvVal V, .int .i64 1]) ∧ Turned [] u w' := by
  have hk := K.new m oa ca ob cb s n hs hn u h
  rw [show Wd.newE m n = 1 from if_neg hok] at hk
  exact hk.mono fun e w' ⟨V, h1, h2, _, h3⟩ => ⟨V, h1, h3⟩
theorem newW_tick {m : Ti.M} {s : Nat} {n : Int} : (Wd.newW m s n).tick = 0 := by unfold Wd.newW; split <;> rfl
def enB (a b : En.E) : Bool := (a.id == b.id) && ((a.kind == b.kind) && ((a.ax == b.ax) && ((a.ay == b.ay) && ((a.vx == b.vx) && ((a.vy == b.vy) && ((a.h == b.h) && (a.t == b.t)))))))
theorem enB_iff {a b : En.E} : enB a b = true ↔ a = b := by
  obtain ⟨a1, a2, a3, a4, a5, a6, a7, a8⟩ := a
  obtain ⟨b1, b2, b3, b4, b5, b6, b7, b8⟩ := b
  unfold enB
  simp
set_option maxHeartbeats 1000000 in
theorem en_neq (a b : En.E) (u : World) : (binOp .neq 51 (.agg #[.int .i64 a.id, .int .i64 a.kind, .int .i64 a.ax, .int .i64 a.ay, .int .i64 a.vx, .int .i64 a.vy, .int .i64 a.h, .int .i64 a.t]) (.agg #[.int .i64 b.id, .int .i64 b.kind, .int .i64 b.ax, .int .i64 b.ay, .int .i64 b.vx, .int .i64 b.vy, .int .i64 b.h, .int .i64 b.t])).run Tryz.prog u = .ok (.bool (!enB a b)) u := by
  rw [run_neq_struct, run_equalIn_agg (d := 9999) (ht := by kernel_rfl) (hp := by kernel_rfl)]
  unfold enB
  simp [go_sem]
  (repeat' split) <;> simp [*]
end WdL
end Go.Proofs.YtgabgkgokmeaeaaGreat


/- All worlds on the way, in a slice of the call's own. -/
namespace Go.Proofs.YtgabgkgokmeaeaaGreat
open Go.RowKit
set_option linter.unusedVariables false
set_option linter.unusedSimpArgs false

namespace Wd
/-- the worlds on the way -/
def run (w : W) (l : List O) : Nat → W
  | 0 => w
  | j + 1 => match l[j]? with | some o => act (run w l j) o | none => run w l j
theorem run_step {w : W} {l : List O} {j : Nat} {o : O} (h : l[j]? = some o) : run w l (j + 1) = act (run w l j) o := by
  show (match l[j]? with | some o => act (run w l j) o | none => run w l j) = _
  rw [h]
theorem run_gd {w : W} {l : List O} (h : Gd w) (hl : ∀ o ∈ l, o.wf) : ∀ j, Gd (run w l j)
  | 0 => h
  | j + 1 => by
    show Gd (match l[j]? with | some o => act (run w l j) o | none => run w l j)
    cases ho : l[j]? with
    | none => exact run_gd h hl j
    | some o => exact gd_act (run_gd h hl j) (hl o (List.mem_of_getElem? ho))
theorem run_tick {w : W} {l : List O} (h : w.tick = 0) : ∀ j : Nat, 0 ≤ (run w l j).tick ∧ (run w l j).tick ≤ (j : Int)
  | 0 => by show 0 ≤ w.tick ∧ w.tick ≤ ((0 : Nat) : Int); omega
  | j + 1 => by
    have ih := run_tick (l := l) h j
    show 0 ≤ (match l[j]? with | some o => act (run w l j) o | none => run w l j).tick ∧ (match l[j]? with | some o => act (run w l j) o | none => run w l j).tick ≤ ((j + 1 : Nat) : Int)
    cases ho : l[j]? with
    | none => show 0 ≤ (run w l j).tick ∧ (run w l j).tick ≤ ((j + 1 : Nat) : Int); omega
    | some o =>
      have := act_tick (o := o) ih
      show 0 ≤ (act (run w l j) o).tick ∧ (act (run w l j) o).tick ≤ ((j + 1 : Nat) : Int)
      omega
end Wd
theorem wv_cells {V : WV} {cs : List Value} {b : Nat} {w : World} (he : wvEnc V = cs) (hb : b = w.heap.size) (t : TypeId) : ∀ j u, ([V].flatMap wvEnc)[j]? = some u → (w.alloc (.cells cs.toArray t)).cell? ⟨b, 0 + j, none⟩ = some u := by
  intro j u hj
  subst hb
  rw [show [V].flatMap wvEnc = cs by simp [he]] at hj
  have h := Struct.new w cs t
  rw [Nat.zero_add]
  exact (h.2 j u hj).1
/-- the worlds on the way lie in v, each tells its own -/
structure AllW (R : Nat → Wd.W) (W0 : World) (v : Value) (l : List WV) (w : World) : Prop where
  own : OwnL 34 7 wvEnc v l w
  low : ∀ b ∈ blk v, W0.heap.size ≤ b
  each : ∀ (j : Nat) (V : WV), l[j]? = some V → Tells (R j) V w ∧ ∀ b, V.At b → b ∉ blk v
  turned : Turned [] W0 w
theorem AllW.calm {R : Nat → Wd.W} {W0 : World} {v : Value} {l : List WV} {w w' : World} (h : AllW R W0 v l w) (ht : Turned [] w w') : AllW R W0 v l w' :=
  ⟨h.own.keep ht (by simp), h.low, fun j V hj => ⟨(h.each j V hj).1.calm ht, (h.each j V hj).2⟩, h.turned.trans ht (by simp)⟩
theorem AllW.over {R : Nat → Wd.W} {W0 : World} {v : Value} {l : List WV} {w w' : World} {C : Nat} (h : AllW R W0 v l w) (ht : Turned [C] w w') (h1 : C ∉ blk v) (h2 : ∀ (j : Nat) (V : WV), l[j]? = some V → ¬ V.At C) (h3 : W0.heap.size ≤ C) : AllW R W0 v l w' :=
  ⟨h.own.keep ht (fun k hk hm => by simp at hm; subst hm; exact h1 hk), h.low, fun j V hj => ⟨(h.each j V hj).1.turned ht (fun k hk hm => by simp at hm; subst hm; exact h2 j V hj hk), (h.each j V hj).2⟩, h.turned.trans ht (by intro k hk hl; simp at hk; omega)⟩
/-- one more -/
theorem AllW.push {R : Nat → Wd.W} {W0 : World} {v v' : Value} {l : List WV} {V1 : WV} {w w1 : World} {o : Obj} (h : AllW R W0 v l w) (ho1 : OwnL 34 7 wvEnc v' (l ++ [V1]) w1) (ht1 : Turned (blk v) (w.alloc o) w1) (hb : blk v' = blk v ∨ blk v' = [(w.alloc o).heap.size])
    (hV : Tells (R l.length) V1 w) (hn : ∀ b, V1.At b → b ∉ blk v) : AllW R W0 v' (l ++ [V1]) w1 := by
  have ha : ∀ (j : Nat) (V : WV), (l ++ [V1])[j]? = some V → Tells (R j) V w ∧ ∀ b, V.At b → b ∉ blk v := by
    intro j V hj
    by_cases hjl : j < l.length
    · rw [List.getElem?_append_left hjl] at hj
      exact h.each j V hj
    · rw [List.getElem?_append_right (by omega)] at hj
      have hz : j - l.length = 0 := by
        by_cases hz : j - l.length = 0
        · exact hz
        · rw [List.getElem?_eq_none (by simp; omega)] at hj; cases hj
      rw [hz] at hj
      simp at hj
      subst hj
      rw [show j = l.length by omega]
      exact ⟨hV, hn⟩
  have hsz : (w.alloc o).heap.size = w.heap.size + 1 := by simp
  refine ⟨ho1, ?_, ?_, ?_⟩
  · intro b hb'
    rcases hb with e | e
    · rw [e] at hb'; exact h.low b hb'
    · rw [e] at hb'; simp at hb'; have := h.turned.size; omega
  · intro j V hj
    obtain ⟨a1, a2⟩ := ha j V hj
    refine ⟨(a1.calm ((Turned.refl [] w).alloc o)).turned ht1 a2, fun b hb' => ?_⟩
    rcases hb with e | e
    · rw [e]; exact a2 b hb'
    · rw [e]; have := a1.lt hb'; simp; omega
  · exact ((h.turned.alloc o).trans ht1 (by intro k hk hl; have := h.low k hk; omega))
end Go.Proofs.YtgabgkgokmeaeaaGreat

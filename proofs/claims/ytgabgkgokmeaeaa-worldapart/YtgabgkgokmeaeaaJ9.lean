/- Joined: WdGo, WdSame, WdLaw, EntRef, EntList, WdLaw2. -/
import Derived.Test.YtgabgkgokmeaeaaJ8
/- Who walks. The program's (WdW). -/
namespace Go.Proofs.Ytgabgkgokmeaeaa
open Go.RowKit
set_option linter.unusedVariables false
set_option linter.unusedSimpArgs false

namespace WdW
set_option maxRecDepth 20000 in
set_option maxHeartbeats 8000000 in
theorem go_world (W : Wd.W) (V : WV) (c : Cm.C) (id : Int) (hG : Wd.Gd W) (hcw : c.wf) (hid : En.I64 id) (w : World) (hV : Tells W V w) :
    Calls Try.prog 17 #[wvVal V, cmVal c, .int .i64 id] w fun e w' => ∃ V', e = .returned (wvVal V') ∧ Tells (Wd.go W c id) V' w' ∧ (∀ k, V'.At k → V.At k ∨ w.heap.size ≤ k) ∧ Turned [] w w' := by
  obtain ⟨W0, hW0⟩ : ∃ W0, W0 = ((w.alloc (.cells #[.int .i64 V.mw, .int .i64 V.mh, .slice V.oa V.nw V.ca, .slice V.ob V.ns V.cb, .int .u64 V.st, .int .i64 V.tk, .slice V.ol V.nl V.cl] 34)).alloc (.cells #[.int .u32 (c.n : Int), .int .i8 c.x, .int .i8 c.y, .bool c.f, .int .u32 (c.v : Int), .int .u8 (c.q : Int)] 41)).alloc (.cells #[.int .i64 0, .int .i64 0, .slice none 0 0, .slice none 0 0, .int .u64 0, .int .i64 0, .slice none 0 0] 34) := ⟨_, rfl⟩
  obtain ⟨B, hB⟩ : ∃ b, b = w.heap.size := ⟨_, rfl⟩
  obtain ⟨C, hC⟩ : ∃ b, b = w.heap.size + 1 := ⟨_, rfl⟩
  obtain ⟨D, hD⟩ : ∃ b, b = w.heap.size + 1 + 1 := ⟨_, rfl⟩
  have hT : Turned [] w W0 := by rw [hW0]; exact (((Turned.refl [] w).alloc _).alloc _).alloc _
  have hS : Struct B [.int .i64 V.mw, .int .i64 V.mh, .slice V.oa V.nw V.ca, .slice V.ob V.ns V.cb, .int .u64 V.st, .int .i64 V.tk, .slice V.ol V.nl V.cl] W0 := by
    have h0 := Struct.new w [.int .i64 V.mw, .int .i64 V.mh, .slice V.oa V.nw V.ca, .slice V.ob V.ns V.cb, .int .u64 V.st, .int .i64 V.tk, .slice V.ol V.nl V.cl] 34
    rw [← hB] at h0
    rw [hW0]; exact (h0.keep ((Turned.refl [] _).alloc _) (by simp)).keep ((Turned.refl [] _).alloc _) (by simp)
  have hC0 : Struct C [.int .u32 (c.n : Int), .int .i8 c.x, .int .i8 c.y, .bool c.f, .int .u32 (c.v : Int), .int .u8 (c.q : Int)] W0 := by
    have h0 := Struct.new (w.alloc (.cells #[.int .i64 V.mw, .int .i64 V.mh, .slice V.oa V.nw V.ca, .slice V.ob V.ns V.cb, .int .u64 V.st, .int .i64 V.tk, .slice V.ol V.nl V.cl] 34)) [.int .u32 (c.n : Int), .int .i8 c.x, .int .i8 c.y, .bool c.f, .int .u32 (c.v : Int), .int .u8 (c.q : Int)] 41
    rw [show (w.alloc (.cells #[.int .i64 V.mw, .int .i64 V.mh, .slice V.oa V.nw V.ca, .slice V.ob V.ns V.cb, .int .u64 V.st, .int .i64 V.tk, .slice V.ol V.nl V.cl] 34)).heap.size = w.heap.size + 1 by simp, ← hC] at h0
    rw [hW0]; exact h0.keep ((Turned.refl [] _).alloc _) (by simp)
  have hR : Struct D [.int .i64 0, .int .i64 0, .slice none 0 0, .slice none 0 0, .int .u64 0, .int .i64 0, .slice none 0 0] W0 := by
    have h0 := Struct.new ((w.alloc (.cells #[.int .i64 V.mw, .int .i64 V.mh, .slice V.oa V.nw V.ca, .slice V.ob V.ns V.cb, .int .u64 V.st, .int .i64 V.tk, .slice V.ol V.nl V.cl] 34)).alloc (.cells #[.int .u32 (c.n : Int), .int .i8 c.x, .int .i8 c.y, .bool c.f, .int .u32 (c.v : Int), .int .u8 (c.q : Int)] 41)) [.int .i64 0, .int .i64 0, .slice none 0 0, .slice none 0 0, .int .u64 0, .int .i64 0, .slice none 0 0] 34
    rw [show ((w.alloc (.cells #[.int .i64 V.mw, .int .i64 V.mh, .slice V.oa V.nw V.ca, .slice V.ob V.ns V.cb, .int .u64 V.st, .int .i64 V.tk, .slice V.ol V.nl V.cl] 34)).alloc (.cells #[.int .u32 (c.n : Int), .int .i8 c.x, .int .i8 c.y, .bool c.f, .int .u32 (c.v : Int), .int .u8 (c.q : Int)] 41)).heap.size = w.heap.size + 1 + 1 by simp, ← hD] at h0
    rw [hW0]; exact h0
  have hBw : w.heap.size ≤ B := by omega
  have hCw : w.heap.size ≤ C := by omega
  have hDw : w.heap.size ≤ D := by omega
  have nBD : B ≠ D := by omega
  have nDB : D ≠ B := by omega
  have nBC : B ≠ C := by omega
  have nDC : D ≠ C := by omega
  have hbB : B < W0.heap.size := hS.1
  have hbD : D < W0.heap.size := hR.1
  have hbC : C < W0.heap.size := hC0.1
  have kc := copied_any W V (by have := hG.short; omega) W0 (hV.calm hT)
  obtain ⟨b0, hb0⟩ : ∃ b, b = W0.heap.size := ⟨_, rfl⟩
  rw [← hb0] at kc hbB hbD hbC
  have hb0w : w.heap.size ≤ b0 := by rw [hb0]; exact hT.size
  have c0 := (hS.2 0 _ rfl).1
  have f0 := (hS.2 0 _ rfl).2
  have c1 := (hS.2 1 _ rfl).1
  have f1 := (hS.2 1 _ rfl).2
  have c2 := (hS.2 2 _ rfl).1
  have f2 := (hS.2 2 _ rfl).2
  have c3 := (hS.2 3 _ rfl).1
  have f3 := (hS.2 3 _ rfl).2
  have c4 := (hS.2 4 _ rfl).1
  have f4 := (hS.2 4 _ rfl).2
  have c5 := (hS.2 5 _ rfl).1
  have f5 := (hS.2 5 _ rfl).2
  have c6 := (hS.2 6 _ rfl).1
  have f6 := (hS.2 6 _ rfl).2
  have z0 := (hR.2 0 _ rfl).1
  have y0 := (hR.2 0 _ rfl).2
  have z1 := (hR.2 1 _ rfl).1
  have y1 := (hR.2 1 _ rfl).2
  have z2 := (hR.2 2 _ rfl).1
  have y2 := (hR.2 2 _ rfl).2
  have z3 := (hR.2 3 _ rfl).1
  have y3 := (hR.2 3 _ rfl).2
  have z4 := (hR.2 4 _ rfl).1
  have y4 := (hR.2 4 _ rfl).2
  have z5 := (hR.2 5 _ rfl).1
  have y5 := (hR.2 5 _ rfl).2
  have z6 := (hR.2 6 _ rfl).1
  have y6 := (hR.2 6 _ rfl).2
  have HGd : Hid (Wd.Gd W) := hG
  have HV : Hid (Tells W V w) := hV
  clear hG hV
  go_enter Try.func17, Try.ntmps17
  go_wp2_with fail
  rw [← hW0, ← hD, ← hC, ← hB]
  clear hW0 hB hC hD
  go_wp2_with (go_at_call 12; (with_reducible refine kc.mono ?_); rintro r u1 ⟨V1, rfl, hF1, HT1⟩; have hS1 := hS.keep HT1 (by simp); have hR1 := hR.keep HT1 (by simp); have c0 := (hS1.2 0 _ rfl).1; have f0 := (hS1.2 0 _ rfl).2; have c1 := (hS1.2 1 _ rfl).1; have f1 := (hS1.2 1 _ rfl).2; have c2 := (hS1.2 2 _ rfl).1; have f2 := (hS1.2 2 _ rfl).2; have c3 := (hS1.2 3 _ rfl).1; have f3 := (hS1.2 3 _ rfl).2; have c4 := (hS1.2 4 _ rfl).1; have f4 := (hS1.2 4 _ rfl).2; have c5 := (hS1.2 5 _ rfl).1; have f5 := (hS1.2 5 _ rfl).2; have c6 := (hS1.2 6 _ rfl).1; have f6 := (hS1.2 6 _ rfl).2; have z0 := (hR1.2 0 _ rfl).1; have y0 := (hR1.2 0 _ rfl).2; have z1 := (hR1.2 1 _ rfl).1; have y1 := (hR1.2 1 _ rfl).2; have z2 := (hR1.2 2 _ rfl).1; have y2 := (hR1.2 2 _ rfl).2; have z3 := (hR1.2 3 _ rfl).1; have y3 := (hR1.2 3 _ rfl).2; have z4 := (hR1.2 4 _ rfl).1; have y4 := (hR1.2 4 _ rfl).2; have z5 := (hR1.2 5 _ rfl).1; have y5 := (hR1.2 5 _ rfl).2; have z6 := (hR1.2 6 _ rfl).1; have y6 := (hR1.2 6 _ rfl).2)
  have hb1 : b0 ≤ u1.heap.size := by rw [hb0]; exact HT1.size
  obtain ⟨X1, hX1⟩ : ∃ X, X = put7 u1 B V1 := ⟨_, rfl⟩
  have hBX : Struct B (wvEnc V1) X1 := by rw [hX1]; exact set7 hS1 rfl V1
  have hTX : Turned [B] u1 X1 := by rw [hX1]; exact turned7 (Turned.refl _ _) (.inl (by simp)) V1
  have hDX : Struct D [.int .i64 0, .int .i64 0, .slice none 0 0, .slice none 0 0, .int .u64 0, .int .i64 0, .slice none 0 0] X1 := hR1.keep hTX (by simpa using nDB)
  have hF : Fresh W V1 b0 X1 := hF1.keep hTX (by intro k hk; simp at hk; omega)
  have hbX : b0 ≤ X1.heap.size := Nat.le_trans hb1 hTX.size
  have HTX : Turned [] w X1 := ((hT.trans HT1 (by simp)).trans (S' := [B]) hTX (by intro k hk hl; simp at hk; omega))
  have hCX : Struct C [.int .u32 (c.n : Int), .int .i8 c.x, .int .i8 c.y, .bool c.f, .int .u32 (c.v : Int), .int .u8 (c.q : Int)] X1 := (hC0.keep HT1 (by simp)).keep hTX (by simpa using nBC.symm)
  have p0 := (hCX.2 0 _ rfl).1
  have q0 := (hCX.2 0 _ rfl).2
  have p1 := (hCX.2 1 _ rfl).1
  have q1 := (hCX.2 1 _ rfl).2
  have p2 := (hCX.2 2 _ rfl).1
  have q2 := (hCX.2 2 _ rfl).2
  have p3 := (hCX.2 3 _ rfl).1
  have q3 := (hCX.2 3 _ rfl).2
  have p4 := (hCX.2 4 _ rfl).1
  have q4 := (hCX.2 4 _ rfl).2
  have p5 := (hCX.2 5 _ rfl).1
  have q5 := (hCX.2 5 _ rfl).2
  have hnl := hF.tells.nl
  simp only [put7] at hX1
  rw [← hX1]
  clear hX1 c0 c1 c2 c3 c4 c5 c6 f0 f1 f2 f3 f4 f5 f6 z0 z1 z2 z3 z4 z5 z6 y0 y1 y2 y3 y4 y5 y6 hb0
  have c0 := (hBX.2 0 _ rfl).1
  have f0 := (hBX.2 0 _ rfl).2
  have c1 := (hBX.2 1 _ rfl).1
  have f1 := (hBX.2 1 _ rfl).2
  have c2 := (hBX.2 2 _ rfl).1
  have f2 := (hBX.2 2 _ rfl).2
  have c3 := (hBX.2 3 _ rfl).1
  have f3 := (hBX.2 3 _ rfl).2
  have c4 := (hBX.2 4 _ rfl).1
  have f4 := (hBX.2 4 _ rfl).2
  have c5 := (hBX.2 5 _ rfl).1
  have f5 := (hBX.2 5 _ rfl).2
  have c6 := (hBX.2 6 _ rfl).1
  have f6 := (hBX.2 6 _ rfl).2
  have z0 := (hDX.2 0 _ rfl).1
  have y0 := (hDX.2 0 _ rfl).2
  have z1 := (hDX.2 1 _ rfl).1
  have y1 := (hDX.2 1 _ rfl).2
  have z2 := (hDX.2 2 _ rfl).1
  have y2 := (hDX.2 2 _ rfl).2
  have z3 := (hDX.2 3 _ rfl).1
  have y3 := (hDX.2 3 _ rfl).2
  have z4 := (hDX.2 4 _ rfl).1
  have y4 := (hDX.2 4 _ rfl).2
  have z5 := (hDX.2 5 _ rfl).1
  have y5 := (hDX.2 5 _ rfl).2
  have z6 := (hDX.2 6 _ rfl).1
  have y6 := (hDX.2 6 _ rfl).2

  have hRise := HGd.out.rise
  have hlen : W.l.length ≤ 1000 := by have := HGd.out.short; omega
  rcases Wd.player_or W.l id with hno | ⟨k, e, hk, hp⟩
  · have kf := findPlayer_no V1.ol V1.cl W.l id hRise hno X1 hF.tells.row (by omega)
    rw [← hnl] at kf
    have HL : Hid (Wd.go W c id = W) := Wd.go_no hno
    clear hno hnl hRise hcw
    go_wp2_with (go_at_call 33; (with_reducible refine kf.mono ?_); rintro r u2 ⟨rfl, HT2⟩; have hB2 := hBX.keep HT2 (by simp); have hD2 := hDX.keep HT2 (by simp); have c0 := (hB2.2 0 _ rfl).1; have f0 := (hB2.2 0 _ rfl).2; have c1 := (hB2.2 1 _ rfl).1; have f1 := (hB2.2 1 _ rfl).2; have c2 := (hB2.2 2 _ rfl).1; have f2 := (hB2.2 2 _ rfl).2; have c3 := (hB2.2 3 _ rfl).1; have f3 := (hB2.2 3 _ rfl).2; have c4 := (hB2.2 4 _ rfl).1; have f4 := (hB2.2 4 _ rfl).2; have c5 := (hB2.2 5 _ rfl).1; have f5 := (hB2.2 5 _ rfl).2; have c6 := (hB2.2 6 _ rfl).1; have f6 := (hB2.2 6 _ rfl).2; have z0 := (hD2.2 0 _ rfl).1; have y0 := (hD2.2 0 _ rfl).2; have z1 := (hD2.2 1 _ rfl).1; have y1 := (hD2.2 1 _ rfl).2; have z2 := (hD2.2 2 _ rfl).1; have y2 := (hD2.2 2 _ rfl).2; have z3 := (hD2.2 3 _ rfl).1; have y3 := (hD2.2 3 _ rfl).2; have z4 := (hD2.2 4 _ rfl).1; have y4 := (hD2.2 4 _ rfl).2; have z5 := (hD2.2 5 _ rfl).1; have y5 := (hD2.2 5 _ rfl).2; have z6 := (hD2.2 6 _ rfl).1; have y6 := (hD2.2 6 _ rfl).2)
    have hF2 := hF.calm HT2
    have HT3 := HTX.trans HT2 (by simp)
    obtain ⟨X9, hX9⟩ : ∃ X, X = put7 u2 D V1 := ⟨_, rfl⟩
    have hS9 : Struct D (wvEnc V1) X9 := by rw [hX9]; exact set7 hD2 rfl _
    have hT9 : Turned [D] u2 X9 := by rw [hX9]; exact turned7 (Turned.refl _ _) (.inl (by simp)) _
    simp only [put7] at hX9
    rw [← hX9]
    clear hX9
    have e0 := (hS9.2 0 _ rfl).1
    have e1 := (hS9.2 1 _ rfl).1
    have e2 := (hS9.2 2 _ rfl).1
    have e3 := (hS9.2 3 _ rfl).1
    have e4 := (hS9.2 4 _ rfl).1
    have e5 := (hS9.2 5 _ rfl).1
    have e6 := (hS9.2 6 _ rfl).1
    go_wp2_with fail
    refine bodyPost_ret (v := wvVal V1) (by simp [results, Try.results17, go_sem, e0, e1, e2, e3, e4, e5, e6]) rfl ⟨_, rfl, ?_, fun k hk => .inr (Nat.le_trans hb0w (hF2.at_ge hk)), HT3.trans (S' := [D]) hT9 (by intro k hk hl; simp at hk; omega)⟩
    rw [HL.out]; exact (hF2.keep hT9 (by intro k hk; simp at hk; omega)).tells

  · have kf := findPlayer_yes V1.ol V1.cl W.l k e id hRise hk hp X1 hF.tells.row (by omega)
    rw [← hnl] at kf
    have hkl := (List.getElem?_eq_some_iff.1 hk).1
    have hne : ¬ (k : Int) = -1 := by omega
    obtain ⟨g, hol, -, hbk, hgl, hat⟩ := own_at hF.own hk
    have hkn : (k : Int) < (V1.nl : Int) := by omega
    have hgb : b0 ≤ g := hF.gl g (by rw [hbk]; simp)
    have nB : B ≠ g := by omega
    have nC : C ≠ g := by omega
    have nD : D ≠ g := by omega
    have kd := fun u => CmW.formed_any c hcw u
    have hmv : mapVal W.m V1.oa V1.ca V1.ob V1.cb = .agg #[.int .i64 V1.mw, .int .i64 V1.mh, .slice V1.oa V1.nw V1.ca, .slice V1.ob V1.ns V1.cb] := by rw [hF.tells.mw, hF.tells.mh, hF.tells.nw, hF.tells.ns]
    rw [hol] at kf c6
    have HFO : Hid (V1.ol = some ⟨g, 0, none⟩) := hol
    have HVG : Hid ((⟨V1.mw, V1.mh, V1.oa, V1.nw, V1.ca, V1.ob, V1.ns, V1.cb, V1.st, V1.tk, some ⟨g, 0, none⟩, V1.nl, V1.cl⟩ : WV) = V1) := by show _ = _; rw [← hol]
    rw [hol]
    clear hol hnl
    by_cases hfm : decide (Cm.Formed c) = false
    · have HL : Hid (Wd.go W c id = W) := Wd.go_odd hfm
      rw [hfm] at kd
      clear hk hp hRise hcw hfm hmv
      go_wp2_with (first | (go_at_call 33; (with_reducible refine kf.mono ?_); rintro r u2 ⟨rfl, HT2⟩; have hB2 := hBX.keep HT2 (by simp); have hD2 := hDX.keep HT2 (by simp); have hC2 := hCX.keep HT2 (by simp); have c0 := (hB2.2 0 _ rfl).1; have f0 := (hB2.2 0 _ rfl).2; have c1 := (hB2.2 1 _ rfl).1; have f1 := (hB2.2 1 _ rfl).2; have c2 := (hB2.2 2 _ rfl).1; have f2 := (hB2.2 2 _ rfl).2; have c3 := (hB2.2 3 _ rfl).1; have f3 := (hB2.2 3 _ rfl).2; have c4 := (hB2.2 4 _ rfl).1; have f4 := (hB2.2 4 _ rfl).2; have c5 := (hB2.2 5 _ rfl).1; have f5 := (hB2.2 5 _ rfl).2; have c6 := ((hB2.2 6 _ rfl).1.trans (by rw [HFO.out])); have f6 := (hB2.2 6 _ rfl).2; have z0 := (hD2.2 0 _ rfl).1; have y0 := (hD2.2 0 _ rfl).2; have z1 := (hD2.2 1 _ rfl).1; have y1 := (hD2.2 1 _ rfl).2; have z2 := (hD2.2 2 _ rfl).1; have y2 := (hD2.2 2 _ rfl).2; have z3 := (hD2.2 3 _ rfl).1; have y3 := (hD2.2 3 _ rfl).2; have z4 := (hD2.2 4 _ rfl).1; have y4 := (hD2.2 4 _ rfl).2; have z5 := (hD2.2 5 _ rfl).1; have y5 := (hD2.2 5 _ rfl).2; have z6 := (hD2.2 6 _ rfl).1; have y6 := (hD2.2 6 _ rfl).2; have p0 := (hC2.2 0 _ rfl).1; have q0 := (hC2.2 0 _ rfl).2; have p1 := (hC2.2 1 _ rfl).1; have q1 := (hC2.2 1 _ rfl).2; have p2 := (hC2.2 2 _ rfl).1; have q2 := (hC2.2 2 _ rfl).2; have p3 := (hC2.2 3 _ rfl).1; have q3 := (hC2.2 3 _ rfl).2; have p4 := (hC2.2 4 _ rfl).1; have q4 := (hC2.2 4 _ rfl).2; have p5 := (hC2.2 5 _ rfl).1; have q5 := (hC2.2 5 _ rfl).2; obtain ⟨⟨a0, a1, a2, a3, a4, a5, a6, a7⟩, ⟨i0, i1, i2, i3, i4, i5, i6, i7⟩⟩ := hat _ HT2) | (go_at_call 37; (with_reducible refine (kd _).mono ?_); rintro r u3 ⟨rfl, HT3⟩; have hB3 := hB2.keep HT3 (by simp); have hD3 := hD2.keep HT3 (by simp); have hC3 := hC2.keep HT3 (by simp); have c0 := (hB3.2 0 _ rfl).1; have f0 := (hB3.2 0 _ rfl).2; have c1 := (hB3.2 1 _ rfl).1; have f1 := (hB3.2 1 _ rfl).2; have c2 := (hB3.2 2 _ rfl).1; have f2 := (hB3.2 2 _ rfl).2; have c3 := (hB3.2 3 _ rfl).1; have f3 := (hB3.2 3 _ rfl).2; have c4 := (hB3.2 4 _ rfl).1; have f4 := (hB3.2 4 _ rfl).2; have c5 := (hB3.2 5 _ rfl).1; have f5 := (hB3.2 5 _ rfl).2; have c6 := ((hB3.2 6 _ rfl).1.trans (by rw [HFO.out])); have f6 := (hB3.2 6 _ rfl).2; have z0 := (hD3.2 0 _ rfl).1; have y0 := (hD3.2 0 _ rfl).2; have z1 := (hD3.2 1 _ rfl).1; have y1 := (hD3.2 1 _ rfl).2; have z2 := (hD3.2 2 _ rfl).1; have y2 := (hD3.2 2 _ rfl).2; have z3 := (hD3.2 3 _ rfl).1; have y3 := (hD3.2 3 _ rfl).2; have z4 := (hD3.2 4 _ rfl).1; have y4 := (hD3.2 4 _ rfl).2; have z5 := (hD3.2 5 _ rfl).1; have y5 := (hD3.2 5 _ rfl).2; have z6 := (hD3.2 6 _ rfl).1; have y6 := (hD3.2 6 _ rfl).2; have p0 := (hC3.2 0 _ rfl).1; have q0 := (hC3.2 0 _ rfl).2; have p1 := (hC3.2 1 _ rfl).1; have q1 := (hC3.2 1 _ rfl).2; have p2 := (hC3.2 2 _ rfl).1; have q2 := (hC3.2 2 _ rfl).2; have p3 := (hC3.2 3 _ rfl).1; have q3 := (hC3.2 3 _ rfl).2; have p4 := (hC3.2 4 _ rfl).1; have q4 := (hC3.2 4 _ rfl).2; have p5 := (hC3.2 5 _ rfl).1; have q5 := (hC3.2 5 _ rfl).2; obtain ⟨⟨a0, a1, a2, a3, a4, a5, a6, a7⟩, ⟨i0, i1, i2, i3, i4, i5, i6, i7⟩⟩ := hat _ (HT2.trans HT3 (by simp))))
      have hF3 : Fresh W ⟨V1.mw, V1.mh, V1.oa, V1.nw, V1.ca, V1.ob, V1.ns, V1.cb, V1.st, V1.tk, some ⟨g, 0, none⟩, V1.nl, V1.cl⟩ b0 u3 := by rw [HVG.out]; exact hF.calm (HT2.trans HT3 (by simp))
      have HT4 := HTX.trans (HT2.trans HT3 (by simp)) (by simp)
      obtain ⟨X9, hX9⟩ : ∃ X, X = put7 u3 D ⟨V1.mw, V1.mh, V1.oa, V1.nw, V1.ca, V1.ob, V1.ns, V1.cb, V1.st, V1.tk, some ⟨g, 0, none⟩, V1.nl, V1.cl⟩ := ⟨_, rfl⟩
      have hS9 : Struct D (wvEnc ⟨V1.mw, V1.mh, V1.oa, V1.nw, V1.ca, V1.ob, V1.ns, V1.cb, V1.st, V1.tk, some ⟨g, 0, none⟩, V1.nl, V1.cl⟩) X9 := by rw [hX9]; exact set7 hD3 rfl _
      have hT9 : Turned [D] u3 X9 := by rw [hX9]; exact turned7 (Turned.refl _ _) (.inl (by simp)) _
      simp only [put7] at hX9
      rw [← hX9]
      clear hX9
      have e0 := (hS9.2 0 _ rfl).1
      have e1 := (hS9.2 1 _ rfl).1
      have e2 := (hS9.2 2 _ rfl).1
      have e3 := (hS9.2 3 _ rfl).1
      have e4 := (hS9.2 4 _ rfl).1
      have e5 := (hS9.2 5 _ rfl).1
      have e6 := (hS9.2 6 _ rfl).1
      go_wp2_with fail
      refine bodyPost_ret (v := wvVal ⟨V1.mw, V1.mh, V1.oa, V1.nw, V1.ca, V1.ob, V1.ns, V1.cb, V1.st, V1.tk, some ⟨g, 0, none⟩, V1.nl, V1.cl⟩) (by simp [results, Try.results17, go_sem, e0, e1, e2, e3, e4, e5, e6]) rfl ⟨_, rfl, ?_, fun k hk => .inr (Nat.le_trans hb0w (hF3.at_ge hk)), HT4.trans (S' := [D]) hT9 (by intro k hk hl; simp at hk; omega)⟩
      rw [HL.out]; exact (hF3.keep hT9 (by intro k hk; simp at hk; omega)).tells

    · have hfm : decide (Cm.Formed c) = true := by cases hq : decide (Cm.Formed c) with | false => exact absurd hq hfm | true => rfl
      rw [hfm] at kd
      have hxw : (-128 ≤ c.x ∧ c.x ≤ 127) ∧ (-128 ≤ c.y ∧ c.y ≤ 127) := by obtain ⟨_, h1, h2, h3, h4, _⟩ := hcw; omega
      have kw := fun u (h : Turned [] X1 u) => MvW.walk_any W.m V1.oa V1.ca V1.ob V1.cb e c.x c.y hxw.1 hxw.2 u ((hF.calm h).tells.map)
      rw [hmv] at kw
      have HL : Hid (Wd.go W c id = ⟨W.m, W.st, W.tick, W.l.set k (Mv.walk W.m e c.x c.y)⟩) := Wd.go_yes hRise hk hp hfm
      obtain ⟨x, hx⟩ : ∃ x, x = Mv.walk W.m e c.x c.y := ⟨_, rfl⟩
      rw [← hx] at kw
      have HX : Hid (x = Mv.walk W.m e c.x c.y) := hx
      have HKL : Hid (k < W.l.length) := hkl
      clear hx hk hp hRise hfm hkl hmv hcw hxw
      go_wp2_with (first | (go_at_call 33; (with_reducible refine kf.mono ?_); rintro r u2 ⟨rfl, HT2⟩; have hB2 := hBX.keep HT2 (by simp); have hD2 := hDX.keep HT2 (by simp); have hC2 := hCX.keep HT2 (by simp); have c0 := (hB2.2 0 _ rfl).1; have f0 := (hB2.2 0 _ rfl).2; have c1 := (hB2.2 1 _ rfl).1; have f1 := (hB2.2 1 _ rfl).2; have c2 := (hB2.2 2 _ rfl).1; have f2 := (hB2.2 2 _ rfl).2; have c3 := (hB2.2 3 _ rfl).1; have f3 := (hB2.2 3 _ rfl).2; have c4 := (hB2.2 4 _ rfl).1; have f4 := (hB2.2 4 _ rfl).2; have c5 := (hB2.2 5 _ rfl).1; have f5 := (hB2.2 5 _ rfl).2; have c6 := ((hB2.2 6 _ rfl).1.trans (by rw [HFO.out])); have f6 := (hB2.2 6 _ rfl).2; have z0 := (hD2.2 0 _ rfl).1; have y0 := (hD2.2 0 _ rfl).2; have z1 := (hD2.2 1 _ rfl).1; have y1 := (hD2.2 1 _ rfl).2; have z2 := (hD2.2 2 _ rfl).1; have y2 := (hD2.2 2 _ rfl).2; have z3 := (hD2.2 3 _ rfl).1; have y3 := (hD2.2 3 _ rfl).2; have z4 := (hD2.2 4 _ rfl).1; have y4 := (hD2.2 4 _ rfl).2; have z5 := (hD2.2 5 _ rfl).1; have y5 := (hD2.2 5 _ rfl).2; have z6 := (hD2.2 6 _ rfl).1; have y6 := (hD2.2 6 _ rfl).2; have p0 := (hC2.2 0 _ rfl).1; have q0 := (hC2.2 0 _ rfl).2; have p1 := (hC2.2 1 _ rfl).1; have q1 := (hC2.2 1 _ rfl).2; have p2 := (hC2.2 2 _ rfl).1; have q2 := (hC2.2 2 _ rfl).2; have p3 := (hC2.2 3 _ rfl).1; have q3 := (hC2.2 3 _ rfl).2; have p4 := (hC2.2 4 _ rfl).1; have q4 := (hC2.2 4 _ rfl).2; have p5 := (hC2.2 5 _ rfl).1; have q5 := (hC2.2 5 _ rfl).2; obtain ⟨⟨a0, a1, a2, a3, a4, a5, a6, a7⟩, ⟨i0, i1, i2, i3, i4, i5, i6, i7⟩⟩ := hat _ HT2) | (go_at_call 37; (with_reducible refine (kd _).mono ?_); rintro r u3 ⟨rfl, HT3⟩; have hB3 := hB2.keep HT3 (by simp); have hD3 := hD2.keep HT3 (by simp); have hC3 := hC2.keep HT3 (by simp); have c0 := (hB3.2 0 _ rfl).1; have f0 := (hB3.2 0 _ rfl).2; have c1 := (hB3.2 1 _ rfl).1; have f1 := (hB3.2 1 _ rfl).2; have c2 := (hB3.2 2 _ rfl).1; have f2 := (hB3.2 2 _ rfl).2; have c3 := (hB3.2 3 _ rfl).1; have f3 := (hB3.2 3 _ rfl).2; have c4 := (hB3.2 4 _ rfl).1; have f4 := (hB3.2 4 _ rfl).2; have c5 := (hB3.2 5 _ rfl).1; have f5 := (hB3.2 5 _ rfl).2; have c6 := ((hB3.2 6 _ rfl).1.trans (by rw [HFO.out])); have f6 := (hB3.2 6 _ rfl).2; have z0 := (hD3.2 0 _ rfl).1; have y0 := (hD3.2 0 _ rfl).2; have z1 := (hD3.2 1 _ rfl).1; have y1 := (hD3.2 1 _ rfl).2; have z2 := (hD3.2 2 _ rfl).1; have y2 := (hD3.2 2 _ rfl).2; have z3 := (hD3.2 3 _ rfl).1; have y3 := (hD3.2 3 _ rfl).2; have z4 := (hD3.2 4 _ rfl).1; have y4 := (hD3.2 4 _ rfl).2; have z5 := (hD3.2 5 _ rfl).1; have y5 := (hD3.2 5 _ rfl).2; have z6 := (hD3.2 6 _ rfl).1; have y6 := (hD3.2 6 _ rfl).2; have p0 := (hC3.2 0 _ rfl).1; have q0 := (hC3.2 0 _ rfl).2; have p1 := (hC3.2 1 _ rfl).1; have q1 := (hC3.2 1 _ rfl).2; have p2 := (hC3.2 2 _ rfl).1; have q2 := (hC3.2 2 _ rfl).2; have p3 := (hC3.2 3 _ rfl).1; have q3 := (hC3.2 3 _ rfl).2; have p4 := (hC3.2 4 _ rfl).1; have q4 := (hC3.2 4 _ rfl).2; have p5 := (hC3.2 5 _ rfl).1; have q5 := (hC3.2 5 _ rfl).2; obtain ⟨⟨a0, a1, a2, a3, a4, a5, a6, a7⟩, ⟨i0, i1, i2, i3, i4, i5, i6, i7⟩⟩ := hat _ (HT2.trans HT3 (by simp))))
      have kw := fun u (h : Turned [] u3 u) => kw u ((HT2.trans HT3 (by simp)).trans h (by simp))
      have hSof : ∀ u, Turned [g] u3 u → (fun u => (u.cell? ⟨B, 0, none⟩ = some (.int .i64 V1.mw) ∧ u.cell? ⟨B, 1, none⟩ = some (.int .i64 V1.mh) ∧ u.cell? ⟨B, 2, none⟩ = some (.slice V1.oa V1.nw V1.ca) ∧ u.cell? ⟨B, 3, none⟩ = some (.slice V1.ob V1.ns V1.cb) ∧ u.cell? ⟨B, 6, none⟩ = some (.slice (some ⟨g, 0, none⟩) V1.nl V1.cl)) ∧ (u.cell? ⟨C, 1, none⟩ = some (.int .i8 c.x) ∧ u.cell? ⟨C, 2, none⟩ = some (.int .i8 c.y)) ∧ Turned [g] u3 u) u := fun u h => ⟨⟨((hB3.keep h (by simpa using nB)).2 0 _ rfl).1, ((hB3.keep h (by simpa using nB)).2 1 _ rfl).1, ((hB3.keep h (by simpa using nB)).2 2 _ rfl).1, ((hB3.keep h (by simpa using nB)).2 3 _ rfl).1, ((hB3.keep h (by simpa using nB)).2 6 _ rfl).1.trans (by rw [HFO.out])⟩, ⟨((hC3.keep h (by simpa using nC)).2 1 _ rfl).1, ((hC3.keep h (by simpa using nC)).2 2 _ rfl).1⟩, h⟩
      refine wp_region_held_drew (S := (fun u => (u.cell? ⟨B, 0, none⟩ = some (.int .i64 V1.mw) ∧ u.cell? ⟨B, 1, none⟩ = some (.int .i64 V1.mh) ∧ u.cell? ⟨B, 2, none⟩ = some (.slice V1.oa V1.nw V1.ca) ∧ u.cell? ⟨B, 3, none⟩ = some (.slice V1.ob V1.ns V1.cb) ∧ u.cell? ⟨B, 6, none⟩ = some (.slice (some ⟨g, 0, none⟩) V1.nl V1.cl)) ∧ (u.cell? ⟨C, 1, none⟩ = some (.int .i8 c.x) ∧ u.cell? ⟨C, 2, none⟩ = some (.int .i8 c.y)) ∧ Turned [g] u3 u)) (by kernel_rfl) (hSof _ ((Turned.refl [g] u3).drew)) (fun hHeld => ?_)
      refine BtL.take_d (some 22) (i := 0) (v := ?_) rfl rfl (by kernel_rfl) (by kernel_rfl) (by kernel_rfl) (fun _ _ _ h => h) (Or.inl ⟨by rfl, ?_⟩) (by assumption) ?_
      rotate_left
      · (intro w hSw; (try dsimp only at hSw); go_simp; try with_reducible rfl)
      simp only [Act.put, List.setIfInBounds_toArray, List.set_cons_zero, List.set_cons_succ]
      refine BtL.take_d (some 23) (i := 1) (v := ?_) rfl rfl (by kernel_rfl) (by kernel_rfl) (by kernel_rfl) (fun _ _ _ h => h) (Or.inl ⟨by rfl, ?_⟩) (by assumption) ?_
      rotate_left
      · (intro w hSw; (try dsimp only at hSw); go_simp; try with_reducible rfl)
      simp only [Act.put, List.setIfInBounds_toArray, List.set_cons_zero, List.set_cons_succ]
      refine BtL.take_d (some 24) (i := 2) (v := ?_) rfl rfl (by kernel_rfl) (by kernel_rfl) (by kernel_rfl) (fun _ _ _ h => h) (Or.inl ⟨by rfl, ?_⟩) (by assumption) ?_
      rotate_left
      · (intro w hSw; (try dsimp only at hSw); go_simp; try with_reducible rfl)
      simp only [Act.put, List.setIfInBounds_toArray, List.set_cons_zero, List.set_cons_succ]
      refine BtL.take_d (some 25) (i := 3) (v := ?_) rfl rfl (by kernel_rfl) (by kernel_rfl) (by kernel_rfl) (fun _ _ _ h => h) (Or.inl ⟨by rfl, ?_⟩) (by assumption) ?_
      rotate_left
      · (intro w hSw; (try dsimp only at hSw); go_simp; try with_reducible rfl)
      simp only [Act.put, List.setIfInBounds_toArray, List.set_cons_zero, List.set_cons_succ]
      refine BtL.take_d (some 26) (i := 4) (v := ?_) rfl rfl (by kernel_rfl) (by kernel_rfl) (by kernel_rfl) (fun _ _ _ h => h) (Or.inl ⟨by rfl, ?_⟩) (by assumption) ?_
      rotate_left
      · (intro w hSw; (try dsimp only at hSw); go_simp; try with_reducible rfl)
      simp only [Act.put, List.setIfInBounds_toArray, List.set_cons_zero, List.set_cons_succ]
      refine BtL.take_d (some 27) (i := 5) (v := ?_) rfl rfl (by kernel_rfl) (by kernel_rfl) (by kernel_rfl) (fun _ _ _ h => h) (Or.inl ⟨by rfl, ?_⟩) (by assumption) ?_
      rotate_left
      · (intro w hSw; (try dsimp only at hSw); go_simp; try with_reducible rfl)
      simp only [Act.put, List.setIfInBounds_toArray, List.set_cons_zero, List.set_cons_succ]
      refine BtL.take_d (some 28) (i := 6) (v := ?_) rfl rfl (by kernel_rfl) (by kernel_rfl) (by kernel_rfl) (fun _ _ _ h => h) (Or.inl ⟨by rfl, ?_⟩) (by assumption) ?_
      rotate_left
      · (intro w hSw; (try dsimp only at hSw); go_simp; try with_reducible rfl)
      simp only [Act.put, List.setIfInBounds_toArray, List.set_cons_zero, List.set_cons_succ]
      refine BtL.take_d (some 29) (i := 7) (v := ?_) rfl rfl (by kernel_rfl) (by kernel_rfl) (by kernel_rfl) (fun _ _ _ h => h) (Or.inl ⟨by rfl, ?_⟩) (by assumption) ?_
      rotate_left
      · (intro w hSw; (try dsimp only at hSw); go_simp; try with_reducible rfl)
      simp only [Act.put, List.setIfInBounds_toArray, List.set_cons_zero, List.set_cons_succ]
      refine BtL.take_d (some 30) (i := 8) (v := ?_) rfl rfl (by kernel_rfl) (by kernel_rfl) (by kernel_rfl) (fun _ _ _ h => h) (Or.inl ⟨by rfl, ?_⟩) (by assumption) ?_
      rotate_left
      · (intro w hSw; (try dsimp only at hSw); go_simp; try with_reducible rfl)
      simp only [Act.put, List.setIfInBounds_toArray, List.set_cons_zero, List.set_cons_succ]
      refine BtL.take_d (some 32) (i := 10) (v := ?_) rfl rfl (by kernel_rfl) (by kernel_rfl) (by kernel_rfl) (fun _ _ _ h => h) (Or.inl ⟨by rfl, ?_⟩) (by assumption) ?_
      rotate_left
      · (intro w hSw; (try dsimp only at hSw); go_simp; try with_reducible rfl)
      simp only [Act.put, List.setIfInBounds_toArray, List.set_cons_zero, List.set_cons_succ]
      refine BtL.take_d (some 33) (i := 11) (v := ?_) rfl rfl (by kernel_rfl) (by kernel_rfl) (by kernel_rfl) (fun _ _ _ h => h) (Or.inl ⟨by rfl, ?_⟩) (by assumption) ?_
      rotate_left
      · (intro w hSw; (try dsimp only at hSw); go_simp; try with_reducible rfl)
      simp only [Act.put, List.setIfInBounds_toArray, List.set_cons_zero, List.set_cons_succ]
      refine BtL.take_d (some 34) (i := 12) (v := ?_) rfl rfl (by kernel_rfl) (by kernel_rfl) (by kernel_rfl) (fun _ _ _ h => h) (Or.inl ⟨by rfl, ?_⟩) (by assumption) ?_
      rotate_left
      · (intro w hSw; (try dsimp only at hSw); go_simp; try with_reducible rfl)
      simp only [Act.put, List.setIfInBounds_toArray, List.set_cons_zero, List.set_cons_succ]
      refine BtL.take_d (some 35) (i := 13) (v := ?_) rfl rfl (by kernel_rfl) (by kernel_rfl) (by kernel_rfl) (fun _ _ _ h => h) (Or.inl ⟨by rfl, ?_⟩) (by assumption) ?_
      rotate_left
      · (intro w hSw; (try dsimp only at hSw); go_simp; try with_reducible rfl)
      simp only [Act.put, List.setIfInBounds_toArray, List.set_cons_zero, List.set_cons_succ]
      refine wpAnyH_ready (rs := [9]) (by kernel_rfl) (by simp) ?_
      refine AllReadyH.cons rfl (fun K hK => ?_) AllReadyH.nil
      go_simp
      refine hK.out _ _ ?_ (fun hHeld => ?_)
      · exact hSof _ ((Turned.refl [g] u3).drew)
      clear hK K
      try simp only [Act.put, List.setIfInBounds_toArray, List.set_cons_zero, List.set_cons_succ]
      refine wpAnyH_ready (rs := [14]) (by kernel_rfl) (by simp) ?_
      refine AllReadyH.cons rfl (fun K hK => ?_) AllReadyH.nil
      go_simp
      go_at_call 38
      with_reducible refine (kw _ ((Turned.refl [] u3).drew)).mono ?_
      rintro r u4 ⟨rfl, HT4⟩
      have HT5 : Turned [] u3 u4 := ((Turned.refl [] u3).drew).trans HT4 (by simp)
      have HT7 : Turned [g] u3 u4 := HT5.mono (by simp)
      obtain ⟨⟨a0, a1, a2, a3, a4, a5, a6, a7⟩, ⟨i0, i1, i2, i3, i4, i5, i6, i7⟩⟩ := hat _ (HT2.trans (HT3.trans HT5 (by simp)) (by simp))
      try go_wp2_with fail
      refine hK.out _ _ ?_ (fun hHeld => ?_)
      · exact hSof _ HT7
      clear hK K
      try simp only [Act.put, List.setIfInBounds_toArray, List.set_cons_zero, List.set_cons_succ]
      refine BtL.take_d (some 37) (i := 15) (v := ?_) rfl rfl (by kernel_rfl) (by kernel_rfl) (by kernel_rfl) (fun _ _ _ h => h) (Or.inl ⟨by rfl, ?_⟩) (by assumption) ?_
      rotate_left
      · (intro w hSw; (try dsimp only at hSw); go_simp; try with_reducible rfl)
      simp only [Act.put, List.setIfInBounds_toArray, List.set_cons_zero, List.set_cons_succ]
      refine wpAnyH_ready (rs := [16]) (by kernel_rfl) (by simp) ?_
      refine AllReadyH.cons rfl (fun K hK => ?_) AllReadyH.nil
      go_simp
      refine hK.out _ _ ?_ (fun hHeld => ?_)
      · exact hSof _ (turned8k HT7 (.inl (by simp)) _ x)
      clear hK K
      try simp only [Act.put, List.setIfInBounds_toArray, List.set_cons_zero, List.set_cons_succ]
      refine wpAnyH_done (by kernel_rfl) ?_ _

      obtain ⟨X2, hX2⟩ : ∃ X, X = put8k u4 g (k * 8) x := ⟨_, rfl⟩
      have hTg : Turned [g] u4 X2 := by rw [hX2]; exact turned8k (Turned.refl _ _) (.inl (by simp)) _ x
      have hF4 := hF.calm (HT2.trans (HT3.trans HT5 (by simp)) (by simp))
      have hO := own_put hF4.own HFO.out HKL.out x
      rw [← hX2] at hO
      have hF5 := hF4.turn hO (by rw [hbk]; exact hTg) (Nat.le_trans hbX (HT2.trans (HT3.trans HT5 (by simp)) (by simp)).size) (.inl rfl) (st := W.st) (tk := W.tick) (sv := V1.st) (tv := V1.tk) hF.tells.st hF.tells.tk
      have hB5 := (hB3.keep HT5 (by simp)).keep hTg (by simpa using nB)
      have hD5 := (hD3.keep HT5 (by simp)).keep hTg (by simpa using nD)
      have HT6 : Turned [] w X2 := (HTX.trans (HT2.trans (HT3.trans HT5 (by simp)) (by simp)) (by simp)).trans (S' := [g]) hTg (by intro j hj hl; simp at hj; omega)
      simp only [put8k] at hX2
      rw [← hX2]
      clear hX2 c0 c1 c2 c3 c4 c5 c6 f0 f1 f2 f3 f4 f5 f6 z0 z1 z2 z3 z4 z5 z6 y0 y1 y2 y3 y4 y5 y6
      have c0 := (hB5.2 0 _ rfl).1
      have f0 := (hB5.2 0 _ rfl).2
      have c1 := (hB5.2 1 _ rfl).1
      have f1 := (hB5.2 1 _ rfl).2
      have c2 := (hB5.2 2 _ rfl).1
      have f2 := (hB5.2 2 _ rfl).2
      have c3 := (hB5.2 3 _ rfl).1
      have f3 := (hB5.2 3 _ rfl).2
      have c4 := (hB5.2 4 _ rfl).1
      have f4 := (hB5.2 4 _ rfl).2
      have c5 := (hB5.2 5 _ rfl).1
      have f5 := (hB5.2 5 _ rfl).2
      have c6 := (hB5.2 6 _ rfl).1
      have f6 := (hB5.2 6 _ rfl).2
      have z0 := (hD5.2 0 _ rfl).1
      have y0 := (hD5.2 0 _ rfl).2
      have z1 := (hD5.2 1 _ rfl).1
      have y1 := (hD5.2 1 _ rfl).2
      have z2 := (hD5.2 2 _ rfl).1
      have y2 := (hD5.2 2 _ rfl).2
      have z3 := (hD5.2 3 _ rfl).1
      have y3 := (hD5.2 3 _ rfl).2
      have z4 := (hD5.2 4 _ rfl).1
      have y4 := (hD5.2 4 _ rfl).2
      have z5 := (hD5.2 5 _ rfl).1
      have y5 := (hD5.2 5 _ rfl).2
      have z6 := (hD5.2 6 _ rfl).1
      have y6 := (hD5.2 6 _ rfl).2
      go_wp2_with fail
      obtain ⟨X9, hX9⟩ : ∃ X, X = put7 X2 D V1 := ⟨_, rfl⟩
      have hS9 : Struct D (wvEnc V1) X9 := by rw [hX9]; exact set7 hD5 rfl _
      have hT9 : Turned [D] X2 X9 := by rw [hX9]; exact turned7 (Turned.refl _ _) (.inl (by simp)) _
      simp only [put7] at hX9
      rw [← hX9]
      clear hX9
      have e0 := (hS9.2 0 _ rfl).1
      have e1 := (hS9.2 1 _ rfl).1
      have e2 := (hS9.2 2 _ rfl).1
      have e3 := (hS9.2 3 _ rfl).1
      have e4 := (hS9.2 4 _ rfl).1
      have e5 := (hS9.2 5 _ rfl).1
      have e6 := (hS9.2 6 _ rfl).1
      go_wp2_with fail
      refine bodyPost_ret (v := wvVal V1) (by simp [results, Try.results17, go_sem, e0, e1, e2, e3, e4, e5, e6]) rfl ⟨_, rfl, ?_, fun k hk => .inr (Nat.le_trans hb0w (hF5.at_ge hk)), HT6.trans (S' := [D]) hT9 (by intro k hk hl; simp at hk; omega)⟩
      rw [HL.out, ← HX.out]; exact (hF5.keep hT9 (by intro k hk; simp at hk; omega)).tells

end WdW

end Go.Proofs.Ytgabgkgokmeaeaa


/- Whether two worlds are the same: the program's Same, of two that tell the same; all contracts (WdW). -/
namespace Go.Proofs.Ytgabgkgokmeaeaa
open Go.RowKit
set_option linter.unusedVariables false
set_option linter.unusedSimpArgs false

namespace WdW
end WdW

namespace WdW
end WdW

namespace WdW
end WdW

namespace WdW
end WdW

namespace WdW
end WdW

namespace WdW
theorem contracts : Contracts := ⟨fun m oa ca ob cb s n hs hn w hM => new_any m oa ca ob cb s n hs hn w hM, join_any, leave_any, hit_world, go_world, tick_any⟩
end WdW

end Go.Proofs.Ytgabgkgokmeaeaa


/- That the program of layer 13 is awake, and which maps the laws look at. -/
namespace Go.Proofs.Ytgabgkgokmeaeaa
open Go.RowKit
set_option linter.unusedVariables false
set_option linter.unusedSimpArgs false

namespace Wd
def mapD : Ti.M := ⟨2, 1, [false, false], [(32768, 32768), (98304, 32768)]⟩
def textD : List UInt8 := [226, 151, 142, 226, 151, 142, 10]
theorem readD : Ti.read textD = (some ⟨0, 2, 1, [false, false], [(32768, 32768), (98304, 32768)]⟩, 0) := by rfl
theorem formedD : Ti.Formed mapD := (Ti.read_formed readD).1
theorem okD : newOk mapD 1 = true := newOk_iff.2 ⟨formedD, by omega, by omega⟩
theorem newD : newW mapD 7 1 = new mapD 7 1 := by unfold newW; rw [if_pos okD]; rfl
theorem gdD : Gd (newW mapD 7 1) := gd_new (by omega) ⟨by decide, by decide⟩ okD
theorem errD : newE mapD 1 = 0 := by unfold newE; rw [if_pos okD]
end Wd
namespace WdL
set_option maxRecDepth 20000 in
set_option maxHeartbeats 2000000 in
theorem awake_any (K : WdW.Contracts) (w : World) :
    Calls Try.prog 5 #[] w fun e w' => e = .returned (.bool true) ∧ Turned [] w w' := by
  have k1 := TiW.read_any ⟨#[226, 151, 142, 226, 151, 142, 10]⟩ (by decide) w
  unfold TiR.Answers at k1
  rw [show (⟨#[226, 151, 142, 226, 151, 142, 10]⟩ : ByteArray).data.toList = Wd.textD from rfl, Wd.readD] at k1
  simp only [Ti.ansM, Ti.ansN, Ti.ansE] at k1
  rw [show Ti.mOf ⟨0, 2, 1, [false, false], [(32768, 32768), (98304, 32768)]⟩ = Wd.mapD from rfl] at k1
  have k2 : ∀ (oa : Option Addr) (ca : Nat) (ob : Option Addr) (cb : Nat) (u : World), MapAt Wd.mapD oa ob u →
      Calls Try.prog 7 #[.agg #[.int .i64 2, .int .i64 1, .slice oa 2 ca, .slice ob 2 cb], .int .u64 7, .int .i64 1] u fun e w' => ∃ V, e = .returned (.tuple #[wvVal V, .int .i64 0]) ∧ Tells (Wd.newW Wd.mapD 7 1) V w' ∧ Turned [] u w' := by
    intro oa ca ob cb u hu
    have h := K.new Wd.mapD oa ca ob cb 7 1 (by omega) (by unfold En.I64; decide) u hu
    rw [Wd.errD] at h
    exact h.mono fun e w' ⟨V, h1, h2, _, h3⟩ => ⟨V, h1, h2, h3⟩
  have k3 := fun (V : WV) (u : World) (hu : Tells (Wd.newW Wd.mapD 7 1) V u) => K.tick _ V Wd.gdD (by rw [Wd.newD]; exact ⟨by show (0 : Int) ≤ 0; omega, by show (0 : Int) ≤ _; omega⟩) u hu
  have k1 : Calls Try.prog 10 #[.string ⟨#[226, 151, 142, 226, 151, 142, 10]⟩] w fun e w' => ∃ oa ca ob cb, e = .returned (.tuple #[.agg #[.int .i64 2, .int .i64 1, .slice oa 2 ca, .slice ob 2 cb], .int .i64 0, .int .i64 0]) ∧ MapAt Wd.mapD oa ob w' ∧ Turned [] w w' :=
    k1.mono fun e w' ⟨oa, ca, ob, cb, h1, h2, _, _, h3⟩ => ⟨oa, ca, ob, cb, h1, h2, h3⟩
  have hl : ∀ (V : WV) (u : World), Tells (Wd.newW Wd.mapD 7 1) V u → V.nl = 1 := fun V u hu => by rw [hu.nl, Wd.newD]; exact Wd.balls_len _ _ _
  have ht : ∀ (V : WV) (u : World), Tells (Wd.tick (Wd.newW Wd.mapD 7 1)) V u → V.tk = 1 := fun V u hu => by rw [hu.tk, Wd.newD]; rfl
  have hfl : ∀ (V : WV) (u : World), (Instr.field 34 (wvVal V) 2).run Try.prog u = .ok (.int .i64 V.tk) u := fun V u => by unfold Instr.field; go_simp; rfl
  go_enter Try.func5, Try.ntmps5
  go_wp2_with (first | (go_at_call 10; (with_reducible refine k1.mono ?_); rintro e u1 ⟨oa, ca, ob, cb, rfl, hM, hT⟩) | (go_at_call 7; (with_reducible refine (k2 oa ca ob cb _ (hM.calm ((Turned.refl [] u1).alloc _))).mono ?_); rintro e u2 ⟨⟨mw, mh, oa', nw, ca', ob', ns, cb', st, tk, ol, nl, cl⟩, rfl, hV, hT2⟩; obtain rfl : nl = 1 := hl _ _ hV; have hV' := fun o => hV.calm ((Turned.refl [] u2).alloc o)) | (go_at_call 9; (with_reducible refine (k3 _ _ (hV' _)).mono ?_); rintro e u3 ⟨⟨mw3, mh3, oa3, nw3, ca3, ob3, ns3, cb3, st3, tk3, ol3, nl3, cl3⟩, rfl, hV3, hA3, hT3⟩; obtain rfl : tk3 = 1 := ht _ _ hV3))
  go_ret
  exact ⟨rfl, (((hT.alloc _).trans hT2 (by simp)).alloc _).trans hT3 (by simp)⟩
set_option maxHeartbeats 1000000 in
theorem few_any (m : Ti.M) (oa : Option Addr) (ca : Nat) (ob : Option Addr) (cb : Nat) (w : World) :
    Calls Try.prog 6 #[mapVal m oa ca ob cb] w fun e w' => e = .returned (.bool (decide (m.ws.length ≤ 400) && decide (m.sp.length ≤ 400))) ∧ Turned [] w w' := by
  have HT : ∀ o, Turned [] w (w.alloc o) := fun o => (Turned.refl [] w).alloc o
  unfold mapVal
  generalize m.ws.length = nw
  generalize m.sp.length = ns
  by_cases h1 : (nw : Int) ≤ 400
  · by_cases h2 : (ns : Int) ≤ 400
    · have HA : Hid ((decide (nw ≤ 400) && decide (ns ≤ 400)) = true) := by show _ = _; simp; omega
      go_enter Try.func6, Try.ntmps6
      go_wp2_with fail
      go_ret
      exact ti_bool HA.out.symm (HT _)
    · have HA : Hid ((decide (nw ≤ 400) && decide (ns ≤ 400)) = false) := by show _ = _; simp; omega
      go_enter Try.func6, Try.ntmps6
      go_wp2_with fail
      go_ret
      exact ti_bool HA.out.symm (HT _)
  · have HA : Hid ((decide (nw ≤ 400) && decide (ns ≤ 400)) = false) := by show _ = _; simp; omega
    go_enter Try.func6, Try.ntmps6
    go_wp2_with fail
    go_ret
    exact ti_bool HA.out.symm (HT _)
end WdL
end Go.Proofs.Ytgabgkgokmeaeaa


/- An entity's fields, lists of entities, where an ID stands: the reference's (EnR). -/
namespace Go.Proofs.Ytgabgkgokmeaeaa
open Go.RowKit
set_option linter.unusedVariables false
set_option linter.unusedSimpArgs false

namespace EnR

end EnR
end Go.Proofs.Ytgabgkgokmeaeaa

/- Whether entities are a list: the reference's (EnR). -/
namespace Go.Proofs.Ytgabgkgokmeaeaa
open Go.RowKit
set_option linter.unusedVariables false
set_option linter.unusedSimpArgs false

namespace EnR
end EnR
end Go.Proofs.Ytgabgkgokmeaeaa

/- Of worlds that came about: that their entities are a list, that each stands free; New, as the laws call it. -/
namespace Go.Proofs.Ytgabgkgokmeaeaa
open Go.RowKit
set_option linter.unusedVariables false
set_option linter.unusedSimpArgs false

namespace WdL

theorem stands_told {W : Wd.W} {V : WV} (hG : Wd.Gd W) {e : En.E} (he : e ∈ W.l) {u : World} (h : Tells W V u) :
    Calls Try.prog 90 #[.agg #[.int .i64 V.mw, .int .i64 V.mh, .slice V.oa V.nw V.ca, .slice V.ob V.ns V.cb], .agg #[.int .i64 e.ax, .int .i64 e.ay]] u fun r w' => r = .returned (.bool true) ∧ Turned [] u w' := by
  have hk := MvW.stands_any W.m V.oa V.ca V.ob V.cb e.ax e.ay u h.map
  rw [(hG.good e he).2] at hk
  rw [h.mw, h.mh, h.nw, h.ns]
  exact hk

theorem new_told (K : WdW.Contracts) {m : Ti.M} {oa : Option Addr} {ca : Nat} {ob : Option Addr} {cb : Nat} {s : Nat} {n : Int} (hs : s < 18446744073709551616) (hn : En.I64 n) (hok : Wd.newOk m n = true) {u : World} (h : MapAt m oa ob u) :
    Calls Try.prog 7 #[.agg #[.int .i64 m.W, .int .i64 m.H, .slice oa m.ws.length ca, .slice ob m.sp.length cb], .int .u64 (s : Int), .int .i64 n] u fun e w' => ∃ V, e = .returned (.tuple #[wvVal V, .int .i64 0]) ∧ Tells (Wd.newW m s n) V w' ∧ Turned [] u w' := by
  have hk := K.new m oa ca ob cb s n hs hn u h
  rw [show Wd.newE m n = 0 from if_pos hok] at hk
  exact hk.mono fun e w' ⟨V, h1, h2, _, h3⟩ => ⟨V, h1, h2, h3⟩
theorem new_not (K : WdW.Contracts) {m : Ti.M} {oa : Option Addr} {ca : Nat} {ob : Option Addr} {cb : Nat} {s : Nat} {n : Int} (hs : s < 18446744073709551616) (hn : En.I64 n) (hok : ¬ Wd.newOk m n = true) {u : World} (h : MapAt m oa ob u) :
    Calls Try.prog 7 #[.agg #[.int .i64 m.W, .int .i64 m.H, .slice oa m.ws.length ca, .slice ob m.sp.length cb], .int .u64 (s : Int), .int .i64 n] u fun e w' => ∃ V, e = .returned (.tuple #[wvVal V, .int .i64 1]) ∧ Turned [] u w' := by
  have hk := K.new m oa ca ob cb s n hs hn u h
  rw [show Wd.newE m n = 1 from if_neg hok] at hk
  exact hk.mono fun e w' ⟨V, h1, h2, _, h3⟩ => ⟨V, h1, h3⟩
theorem newW_tick {m : Ti.M} {s : Nat} {n : Int} : (Wd.newW m s n).tick = 0 := by unfold Wd.newW; split <;> rfl
def enB (a b : En.E) : Bool := (a.id == b.id) && ((a.kind == b.kind) && ((a.ax == b.ax) && ((a.ay == b.ay) && ((a.vx == b.vx) && ((a.vy == b.vy) && ((a.h == b.h) && (a.t == b.t)))))))
theorem enB_iff {a b : En.E} : enB a b = true ↔ a = b := by
  obtain ⟨a1, a2, a3, a4, a5, a6, a7, a8⟩ := a
  obtain ⟨b1, b2, b3, b4, b5, b6, b7, b8⟩ := b
  unfold enB
  simp
set_option maxHeartbeats 1000000 in
theorem en_neq (a b : En.E) (u : World) : (binOp .neq 49 (.agg #[.int .i64 a.id, .int .i64 a.kind, .int .i64 a.ax, .int .i64 a.ay, .int .i64 a.vx, .int .i64 a.vy, .int .i64 a.h, .int .i64 a.t]) (.agg #[.int .i64 b.id, .int .i64 b.kind, .int .i64 b.ax, .int .i64 b.ay, .int .i64 b.vx, .int .i64 b.vy, .int .i64 b.h, .int .i64 b.t])).run Try.prog u = .ok (.bool (!enB a b)) u := by
  rw [run_neq_struct, run_equalIn_agg (d := 9999) (ht := by kernel_rfl) (hp := by kernel_rfl)]
  unfold enB
  simp [go_sem]
  (repeat' split) <;> simp [*]
end WdL
end Go.Proofs.Ytgabgkgokmeaeaa

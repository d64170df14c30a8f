/- In every map of at most 400 tiles and spawns, whichever of at most 100 acts is a hit or a walk, it turns at most the player whom it names; the state of chance, the tick and how many there are stay. -/
import Derived.Test.YtgabgkgokmeaeaaJ9
import Derived.Test.YtgabgkgokmeaeaaRows
import Derived.WalkKit
import Derived.ProofKit
import Derived.OpenShut
import Derived.ChangeOld
import Derived.Below
import Derived.WalkSmall
import Derived.Lib.SmallJoins
import Derived.Laws.IdiomArrays
namespace Go.Proofs.Ytgabgkgokmeaeaa.worldApart
open Go.ChangeShapes Go.WideShapes Go.ChangeAt Go.RowKit
set_option linter.unusedVariables false

theorem own : ownKnob Try.prog.godebug = none := by kernel_rfl
theorem laidOut : laidOutB Try.prog = true := by kernel_rfl

theorem leaf_of {k : IntKind} {v : Value} (h : (Leaf.int k).ok v) : ∃ z, v = .int k z ∧ (Lit.int k z).wf = true := h
theorem leafb_of {v : Value} (h : Leaf.bool.ok v) : ∃ b, v = .bool b := h
theorem flat1_of (cs : List Value) (h : AllOk [.int .u64, .int .i64] cs) : ∃ x0 x1, cs = [.int .u64 x0, .int .i64 x1] ∧ (Lit.int .u64 x0).wf = true ∧ (Lit.int .i64 x1).wf = true := by
  have hl := h.length
  obtain ⟨c0, c1, rfl⟩ : ∃ c0 c1, cs = [c0, c1] := by
    match cs, hl with
    | [c0, c1], _ => exact ⟨c0, c1, rfl⟩
  obtain ⟨x0, e0, y0⟩ := leaf_of h.1
  obtain ⟨x1, e1, y1⟩ := leaf_of h.2.1
  exact ⟨x0, x1, by rw [e0, e1], y0, y1⟩

set_option maxRecDepth 20000 in
set_option maxHeartbeats 8000000 in
theorem walk (a0_m : Ti.M) (a0_oa : Option Addr) (a0_ca : Nat) (a0_ob : Option Addr) (a0_cb : Nat) (a1_0 : Int) (a1_1 : Int) (a2_o : Option Addr) (a2_n a2_c : Nat) (a2_l : List (Wd.O)) (w1_0 : (Lit.int .u64 a1_0).wf = true) (w1_1 : (Lit.int .i64 a1_1).wf = true) (w2_m : a2_n ≤ maxLen) (w2_l : a2_n ≤ a2_c) (w2_e : a2_l.length = a2_n) (w2_k : ∀ a ∈ a2_l, AllOk [.int .i64, .int .i64, .int .i64, .int .u32, .int .i8, .int .i8, .bool, .int .u32, .int .u8] (woEnc a)) (w : World) (w0 : MapIn a0_m a0_oa a0_ca a0_ob a0_cb w) (w2 : RowOf 9 woEnc a2_o a2_l w) :
    Calls Try.prog 3 #[mapVal a0_m a0_oa a0_ca a0_ob a0_cb, .agg #[.int .u64 a1_0, .int .i64 a1_1], .slice a2_o a2_n a2_c] w fun e w' => e = .returned (.bool true) ∧ Below w.heap.size w w' := by
  have K := WdW.contracts
  have kA := WdL.awake_any K
  obtain ⟨nw, hnw⟩ : ∃ n, n = a0_m.ws.length := ⟨_, rfl⟩
  obtain ⟨ns, hns⟩ : ∃ n, n = a0_m.sp.length := ⟨_, rfl⟩
  have kf := fun u => WdL.few_any a0_m a0_oa a0_ca a0_ob a0_cb u
  unfold mapVal at kf ⊢
  rw [← hnw, ← hns] at kf ⊢
  obtain ⟨s, rfl, hs⟩ := wo_u64 w1_0
  have hn1 := wo_i64 w1_1
  unfold maxLen at w2_m
  obtain ⟨W0, hW0⟩ : ∃ W0, W0 = (w.alloc (.cells #[.int .i64 a0_m.W, .int .i64 a0_m.H, .slice a0_oa nw a0_ca, .slice a0_ob ns a0_cb] 25)).alloc (.cells #[.int .u64 (s : Int), .int .i64 a1_1] 28) := ⟨_, rfl⟩
  obtain ⟨B, hB⟩ : ∃ b, b = w.heap.size := ⟨_, rfl⟩
  obtain ⟨A, hA⟩ : ∃ b, b = w.heap.size + 1 := ⟨_, rfl⟩
  have hsz : W0.heap.size = w.heap.size + 2 := by rw [hW0]; simp
  have hT : Turned [] w W0 := by rw [hW0]; exact ((Turned.refl [] w).alloc _).alloc _
  have hS : Struct B [.int .i64 a0_m.W, .int .i64 a0_m.H, .slice a0_oa nw a0_ca, .slice a0_ob ns a0_cb] W0 := by
    have h0 := Struct.new w [.int .i64 a0_m.W, .int .i64 a0_m.H, .slice a0_oa nw a0_ca, .slice a0_ob ns a0_cb] 25
    rw [← hB] at h0
    rw [hW0]; exact (h0.keep ((Turned.refl [] _).alloc _) (by simp))
  have hE : Struct A [.int .u64 (s : Int), .int .i64 a1_1] W0 := by
    have h0 := Struct.new (w.alloc (.cells #[.int .i64 a0_m.W, .int .i64 a0_m.H, .slice a0_oa nw a0_ca, .slice a0_ob ns a0_cb] 25)) [.int .u64 (s : Int), .int .i64 a1_1] 28
    rw [show (w.alloc (.cells #[.int .i64 a0_m.W, .int .i64 a0_m.H, .slice a0_oa nw a0_ca, .slice a0_ob ns a0_cb] 25)).heap.size = w.heap.size + 1 by simp, ← hA] at h0
    rw [hW0]; exact h0
  have HT0 : Turned [] W0 W0 := Turned.refl _ _
  by_cases hfew : nw ≤ 400 ∧ ns ≤ 400
  · have hlb : a0_m.ws.length ≤ 1100 ∧ a0_m.sp.length ≤ 1100 := by rw [← hnw, ← hns]; omega
    have hM := (w0.at hlb.1 hlb.2).calm hT
    have hq : (decide (nw ≤ 400) && decide (ns ≤ 400)) = true := by simpa using hfew
    rw [hq] at kf
    by_cases hlen : (a2_n : Int) ≤ 100
    · have hlen' : ¬ 100 < (a2_n : Int) := by omega
      by_cases hok : Wd.newOk a0_m a1_1 = true
      · have kn := fun (u : World) (h : MapAt a0_m a0_oa a0_ob u) => WdL.new_told K (ca := a0_ca) (cb := a0_cb) hs hn1 hok h
        rw [← hnw, ← hns] at kn
        have HG0 : Hid (Wd.Gd (Wd.newW a0_m s a1_1)) := Wd.gd_new hs hlb hok
        have HE : Hid (a2_l.length = a2_n) := w2_e
        have HK : Hid (∀ a ∈ a2_l, a.wf) := fun a ha => wo_wf (w2_k a ha)
        clear hfew hq hnw hns hlb hok w2_e w2_k hs
        go_enter Try.func3, Try.ntmps3
        go_wp2_with fail
        rw [← hW0, ← hA, ← hB]
        clear hW0 hsz hA hB
        go_wp2_with (first | (go_at_call 5; (with_reducible refine (kA _).mono ?_); rintro r u0 ⟨rfl, HT1⟩; have HT0 := HT0.trans HT1 (by simp); have hSn := hS.keep HT0 (by simp); have d0 := (hSn.2 0 _ rfl).1; have d1 := (hSn.2 1 _ rfl).1; have d2 := (hSn.2 2 _ rfl).1; have d3 := (hSn.2 3 _ rfl).1; have hEn := hE.keep HT0 (by simp); have c0 := (hEn.2 0 _ rfl).1; have c1 := (hEn.2 1 _ rfl).1) | (go_at_call 6; (with_reducible refine (kf _).mono ?_); rintro r u0 ⟨rfl, HT1⟩; have HT0 := HT0.trans HT1 (by simp); have hSn := hS.keep HT0 (by simp); have d0 := (hSn.2 0 _ rfl).1; have d1 := (hSn.2 1 _ rfl).1; have d2 := (hSn.2 2 _ rfl).1; have d3 := (hSn.2 3 _ rfl).1; have hEn := hE.keep HT0 (by simp); have c0 := (hEn.2 0 _ rfl).1; have c1 := (hEn.2 1 _ rfl).1) | (go_at_call 7; (with_reducible refine (kn _ (hM.calm HT0)).mono ?_); rintro r u0 ⟨V0, rfl, hV0, HT1⟩; have HT0 := HT0.trans HT1 (by simp); have hSn := hS.keep HT0 (by simp); have d0 := (hSn.2 0 _ rfl).1; have d1 := (hSn.2 1 _ rfl).1; have d2 := (hSn.2 2 _ rfl).1; have d3 := (hSn.2 3 _ rfl).1; have hEn := hE.keep HT0 (by simp); have c0 := (hEn.2 0 _ rfl).1; have c1 := (hEn.2 1 _ rfl).1))
        obtain ⟨W1, hW1⟩ : ∃ W, W = u0.alloc (.cells #[.int .i64 V0.mw, .int .i64 V0.mh, .slice V0.oa V0.nw V0.ca, .slice V0.ob V0.ns V0.cb, .int .u64 V0.st, .int .i64 V0.tk, .slice V0.ol V0.nl V0.cl] 34) := ⟨_, rfl⟩
        obtain ⟨C, hC⟩ : ∃ b, b = u0.heap.size := ⟨_, rfl⟩
        have hC1 : Struct C (wvEnc V0) W1 := by rw [hW1, hC]; exact Struct.new u0 (wvEnc V0) _
        have hTu : Turned [] u0 W1 := by rw [hW1]; exact (Turned.refl [] u0).alloc _
        have hTW : Turned [] w W1 := (hT.trans HT0 (by simp)).trans hTu (by simp)
        have hCw : w.heap.size ≤ C := by rw [hC]; exact (hT.trans HT0 (by simp)).size
        have hV1 := hV0.calm hTu
        have hVC : ¬ V0.At C := fun h => by have := hV0.lt h; omega
        rw [← hW1, ← hC]
        clear hW1 hC hTu hV0 d0 d1 d2 d3 c0 c1 hSn hEn HT1 kn hM
        go_loopw [9] (fun i wr => ∃ (k : Nat) (W : Wd.W) (V : WV), k ≤ a2_n ∧ i = .int .i64 (k : Int) ∧ Struct C (wvEnc V) wr ∧ Tells W V wr ∧ Wd.Gd W ∧ (0 ≤ W.tick ∧ W.tick ≤ (k : Int)) ∧ ¬ V.At C ∧ Turned [C] W1 wr) (fun i _ => a2_n - (intOf i).toNat)
        case atStart => exact ⟨0, _, V0, by omega, rfl, hC1, hV1, HG0.out, by rw [WdL.newW_tick]; exact ⟨Int.le_refl _, Int.le_refl _⟩, hVC, Turned.refl _ _⟩
        case round =>
          clear hC1 hV1 hVC
          obtain ⟨k, W, V, hk, rfl, hC2, hV2, hG, ht, hVC, HTc⟩ := hrel
          have hTw1 : Turned [] w wr := hTW.trans HTc (by intro k hk hl; simp at hk; omega)
          by_cases hlt : (k : Int) < (a2_n : Int)
          · obtain ⟨o, ho⟩ : ∃ o, a2_l[k]? = some o := ⟨_, List.getElem?_eq_getElem (by have := HE.out; omega)⟩
            have how := HK.out _ (List.mem_of_getElem? ho)
            obtain ⟨g, off, rfl, hg, hc⟩ := (w2.turned hTw1 (by simp)) k _ ho
            have p0 : wr.cell? ⟨g, off + k * 9, none⟩ = some (.int .i64 o.k) := hc 0 _ rfl
            have p1 : wr.cell? ⟨g, off + k * 9 + 1, none⟩ = some (.int .i64 o.id) := hc 1 _ rfl
            have p2 : wr.cell? ⟨g, off + k * 9 + 2, none⟩ = some (.int .i64 o.b) := hc 2 _ rfl
            have p3 : wr.cell? ⟨g, off + k * 9 + 3, none⟩ = some (.int .u32 (o.c.n : Int)) := hc 3 _ rfl
            have p4 : wr.cell? ⟨g, off + k * 9 + 4, none⟩ = some (.int .i8 o.c.x) := hc 4 _ rfl
            have p5 : wr.cell? ⟨g, off + k * 9 + 5, none⟩ = some (.int .i8 o.c.y) := hc 5 _ rfl
            have p6 : wr.cell? ⟨g, off + k * 9 + 6, none⟩ = some (.bool o.c.f) := hc 6 _ rfl
            have p7 : wr.cell? ⟨g, off + k * 9 + 7, none⟩ = some (.int .u32 (o.c.v : Int)) := hc 7 _ rfl
            have p8 : wr.cell? ⟨g, off + k * 9 + 8, none⟩ = some (.int .u8 (o.c.q : Int)) := hc 8 _ rfl
            have hap := fun h => Wd.act_apart W o h
            have ka := fun (u : World) (h : Turned [] wr u) => WdL.act_any K W V o hG how (by omega) u (hV2.calm h)
            have HGx : Hid (Wd.Gd (Wd.act W o)) := Wd.gd_act hG how
            have HTx : Hid (0 ≤ (Wd.act W o).tick ∧ (Wd.act W o).tick ≤ (k : Int) + 1) := Wd.act_tick ht
            clear hc ho how
            have b0 := (hC2.2 0 _ rfl).1
            have f0 := (hC2.2 0 _ rfl).2
            have b1 := (hC2.2 1 _ rfl).1
            have f1 := (hC2.2 1 _ rfl).2
            have b2 := (hC2.2 2 _ rfl).1
            have f2 := (hC2.2 2 _ rfl).2
            have b3 := (hC2.2 3 _ rfl).1
            have f3 := (hC2.2 3 _ rfl).2
            have b4 := (hC2.2 4 _ rfl).1
            have f4 := (hC2.2 4 _ rfl).2
            have b5 := (hC2.2 5 _ rfl).1
            have f5 := (hC2.2 5 _ rfl).2
            have b6 := (hC2.2 6 _ rfl).1
            have f6 := (hC2.2 6 _ rfl).2
            have hlc0 := hC2.1
            by_cases h3 : o.k = 3
            · have HAP : Hid _ := hap (.inl h3)
              have i3 : (o.k == 3) = true := by rw [beq_iff_eq]; exact h3
              clear hap h3
              go_wp2_with fail
              obtain ⟨U1, hU1⟩ : ∃ U, U = wr.alloc (.cells #[.int .i64 o.k, .int .i64 o.id, .int .i64 o.b, .int .u32 (o.c.n : Int), .int .i8 o.c.x, .int .i8 o.c.y, .bool o.c.f, .int .u32 (o.c.v : Int), .int .u8 (o.c.q : Int)] 43) := ⟨_, rfl⟩
              obtain ⟨D, hD⟩ : ∃ b, b = wr.heap.size := ⟨_, rfl⟩
              have hTU : Turned [] wr U1 := by rw [hU1]; exact (Turned.refl [] wr).alloc _
              have hO : Struct D (woEnc o) U1 := by rw [hU1, hD]; exact Struct.new wr (woEnc o) _
              have hlD : C ≠ D := by have := hC2.1; omega
              rw [← hU1, ← hD]
              clear hU1 hD
              clear b0 b1 b2 b3 b4 b5 b6 f0 f1 f2 f3 f4 f5 f6 hlc0
              with_reducible refine (ka _ hTU).mono ?_
              rintro r u1 ⟨V1, rfl, hV1, hA1, HT2⟩
              have HT3 : Turned [] wr u1 := hTU.trans HT2 (by simp)
              have hC3 := hC2.keep HT3 (by simp)
              have hlc := hC3.1
              have b0 := (hC3.2 0 _ rfl).1
              have f0 := (hC3.2 0 _ rfl).2
              have b1 := (hC3.2 1 _ rfl).1
              have f1 := (hC3.2 1 _ rfl).2
              have b2 := (hC3.2 2 _ rfl).1
              have f2 := (hC3.2 2 _ rfl).2
              have b3 := (hC3.2 3 _ rfl).1
              have f3 := (hC3.2 3 _ rfl).2
              have b4 := (hC3.2 4 _ rfl).1
              have f4 := (hC3.2 4 _ rfl).2
              have b5 := (hC3.2 5 _ rfl).1
              have f5 := (hC3.2 5 _ rfl).2
              have b6 := (hC3.2 6 _ rfl).1
              have f6 := (hC3.2 6 _ rfl).2
              have hO3 := hO.keep HT2 (by simp)
              have hlo := hO3.1
              have q0 := (hO3.2 0 _ rfl).1
              have q1 := (hO3.2 1 _ rfl).1
              have q2 := (hO3.2 2 _ rfl).1
              have q3 := (hO3.2 3 _ rfl).1
              have q4 := (hO3.2 4 _ rfl).1
              have q5 := (hO3.2 5 _ rfl).1
              have q6 := (hO3.2 6 _ rfl).1
              have q7 := (hO3.2 7 _ rfl).1
              have q8 := (hO3.2 8 _ rfl).1
              have hVC1 : ¬ V1.At C := fun h => (hA1 C h).elim hVC (fun h => by have := hC2.1; have := hTU.size; omega)
              obtain ⟨ap1, ap2, ap3, ap4⟩ := HAP.out
              have enl : V1.nl = V.nl := by rw [hV1.nl, hV2.nl, ap3]
              have j1 : ((V1.nl : Int) != (V.nl : Int)) = false := by rw [enl]; simp
              have j2 : (V1.st != V.st) = false := by rw [hV1.st, hV2.st, ap1]; simp
              have j3 : (V1.tk != V.tk) = false := by rw [hV1.tk, hV2.tk, ap2]; simp
              have hnl : (V1.nl : Int) ≤ 16 := by have := hV1.nl; have := HGx.out.short; omega
              have HEN : Hid (V1.nl = V.nl) := enl
              have HAP4 : Hid _ := ap4
              clear ap1 ap2 ap3 ap4 enl
              go_wp2_with fail
              obtain ⟨Y, hY⟩ : ∃ Y, Y = u1.alloc (.cells #[.int .i64 V1.mw, .int .i64 V1.mh, .slice V1.oa V1.nw V1.ca, .slice V1.ob V1.ns V1.cb, .int .u64 V1.st, .int .i64 V1.tk, .slice V1.ol V1.nl V1.cl] 34) := ⟨_, rfl⟩
              obtain ⟨X, hX⟩ : ∃ b, b = u1.heap.size := ⟨_, rfl⟩
              have hXY : Struct X (wvEnc V1) Y := by rw [hY, hX]; exact Struct.new u1 (wvEnc V1) _
              have hTY : Turned [] u1 Y := by rw [hY]; exact (Turned.refl [] u1).alloc _
              rw [← hY, ← hX]
              clear hY hX j1 j2 j3 b0 b1 b2 b3 b4 b5 b6 f0 f1 f2 f3 f4 f5 f6 q0 q1 q2 q3 q4 q5 q6 q7 q8 hlc hlo
              have hCY := hC3.keep hTY (by simp)
              have hOY := hO3.keep hTY (by simp)
              have hVY := hV1.calm hTY
              have hWY := hV2.calm (HT3.trans hTY (by simp))
              have HTcY : Turned [C] W1 Y := HTc.trans (HT3.trans hTY (by simp)) (by simp)
              have hTwY : Turned [] w Y := hTW.trans HTcY (by intro k hk hl; simp at hk; omega)
              have y6 := (hXY.2 6 _ rfl).1
              go_loopw [13] (fun i wr => ∃ j : Nat, j ≤ V1.nl ∧ i = .int .i64 (j : Int) ∧ Turned [] Y wr) (fun i _ => V1.nl - (intOf i).toNat)
              case atStart => exact ⟨0, by omega, rfl, Turned.refl _ _⟩
              case round =>
                clear y6
                obtain ⟨j, hj, rfl, HT5⟩ := hrel
                have hX5 := hXY.keep HT5 (by simp)
                have hC5 := hCY.keep HT5 (by simp)
                have hO5 := hOY.keep HT5 (by simp)
                have hV5 := hVY.calm HT5
                have hW5 := hWY.calm HT5
                by_cases hjl : (j : Int) < (V1.nl : Int)
                · have hjl2 : (j : Int) < (V.nl : Int) := by have := HEN.out; omega
                  obtain ⟨a, ha⟩ : ∃ e, W.l[j]? = some e := ⟨_, List.getElem?_eq_getElem (by have := hW5.nl; omega)⟩
                  obtain ⟨d, hd, hda⟩ := HAP4.out j a ha
                  obtain ⟨g1, off1, hol1, hg1, r0, r1, r2, r3, r4, r5, r6, r7⟩ := en_at hV5.row hd
                  obtain ⟨g2, off2, hol2, hg2, s0, s1, s2, s3, s4, s5, s6, s7⟩ := en_at hW5.row ha
                  have ne : Nonempty (KeptW wr) := KeptW.one wr
                  have m0 := KeptW.at hg1 r0
                  have n0 := KeptW.at hg2 s0
                  have m1 := KeptW.at hg1 r1
                  have n1 := KeptW.at hg2 s1
                  have m2 := KeptW.at hg1 r2
                  have n2 := KeptW.at hg2 s2
                  have m3 := KeptW.at hg1 r3
                  have n3 := KeptW.at hg2 s3
                  have m4 := KeptW.at hg1 r4
                  have n4 := KeptW.at hg2 s4
                  have m5 := KeptW.at hg1 r5
                  have n5 := KeptW.at hg2 s5
                  have m6 := KeptW.at hg1 r6
                  have n6 := KeptW.at hg2 s6
                  have m7 := KeptW.at hg1 r7
                  have n7 := KeptW.at hg2 s7

                  have k6 := KeptW.at hX5.1 (hX5.2 6 _ rfl).1
                  have c6 := KeptW.at hC5.1 (hC5.2 6 _ rfl).1
                  have o1 := KeptW.at hO5.1 (hO5.2 1 _ rfl).1
                  rw [hol1] at k6
                  rw [hol2] at c6
                  have y6 := (hX5.2 6 _ rfl).1
                  have hne := fun u => WdL.en_neq d a u
                  cases hb : WdL.enB d a with
                  | true =>
                    rw [hb] at hne
                    simp only [Bool.not_true] at hne
                    clear hol1 hol2 r0 r1 r2 r3 r4 r5 r6 r7 s0 s1 s2 s3 s4 s5 s6 s7 hd ha hda hb
                    go_wp2_with fail
                    refine wp_region_kept (by kernel_rfl) (by kernel_rfl) ?_
                    repeat (go_big_quiet_step (fail))
                    refine wpQuiet_nil ?_
                    rintro _ ⟨v, rfl⟩
                    go_wp2_with fail
                    go_roundw
                    case rel => exact ⟨j + 1, by omega, by go_num, HT5.trans (Turned.ofBelow v.h) (by simp)⟩
                    case measure => simp [intOf]; omega
                  | false =>
                    rw [hb] at hne
                    simp only [Bool.not_false] at hne
                    have hid : d.id = o.id ∧ d.kind = 1 := hda.resolve_left (fun h => by rw [WdL.enB_iff.2 h] at hb; cases hb)
                    have l1 : (d.id != o.id) = false := by rw [hid.1]; simp
                    have l2 : (d.kind != 1) = false := by rw [hid.2]; rfl
                    clear hol1 hol2 r0 r1 r2 r3 r4 r5 r6 r7 s0 s1 s2 s3 s4 s5 s6 s7 hd ha hda hb hid
                    go_wp2_with fail
                    refine wp_region_kept (by kernel_rfl) (by kernel_rfl) ?_
                    repeat (go_big_quiet_step (fail))
                    refine wpQuiet_nil ?_
                    rintro _ ⟨v, rfl⟩
                    go_wp2_with fail
                    go_roundw
                    case rel => exact ⟨j + 1, by omega, by go_num, HT5.trans (Turned.ofBelow v.h) (by simp)⟩
                    case measure => simp [intOf]; omega
                · have x0 := (hX5.2 0 _ rfl).1; have x1 := (hX5.2 1 _ rfl).1; have x2 := (hX5.2 2 _ rfl).1; have x3 := (hX5.2 3 _ rfl).1; have x4 := (hX5.2 4 _ rfl).1; have x5 := (hX5.2 5 _ rfl).1; have x6 := (hX5.2 6 _ rfl).1
                  have b0 := (hC5.2 0 _ rfl).1; have f0 := (hC5.2 0 _ rfl).2; have b1 := (hC5.2 1 _ rfl).1; have f1 := (hC5.2 1 _ rfl).2; have b2 := (hC5.2 2 _ rfl).1; have f2 := (hC5.2 2 _ rfl).2; have b3 := (hC5.2 3 _ rfl).1; have f3 := (hC5.2 3 _ rfl).2; have b4 := (hC5.2 4 _ rfl).1; have f4 := (hC5.2 4 _ rfl).2; have b5 := (hC5.2 5 _ rfl).1; have f5 := (hC5.2 5 _ rfl).2; have b6 := (hC5.2 6 _ rfl).1; have f6 := (hC5.2 6 _ rfl).2
                  go_wp2_with fail
                  have hTC : Turned [C] wr (put7 wr C V1) := turned7 (Turned.refl _ _) (.inl (by simp)) V1
                  go_roundw
                  case rel => exact ⟨k + 1, _, V1, by omega, by go_num, set7 hC5 rfl V1, hV5.turned hTC (fun j hj => by simp; rintro rfl; exact hVC1 hj), HGx.out, HTx.out, hVC1, (HTcY.trans HT5 (by simp)).trans hTC (by simp)⟩
                  case measure => simp [intOf]; omega
            · by_cases h4 : o.k = 4
              · have HAP : Hid _ := hap (.inr h4)
                have i3 : (o.k == 3) = false := by rw [beq_eq_false_iff_ne]; exact h3
                have i4 : (o.k == 4) = true := by rw [beq_iff_eq]; exact h4
                clear hap h3 h4
                go_wp2_with fail
                obtain ⟨U1, hU1⟩ : ∃ U, U = wr.alloc (.cells #[.int .i64 o.k, .int .i64 o.id, .int .i64 o.b, .int .u32 (o.c.n : Int), .int .i8 o.c.x, .int .i8 o.c.y, .bool o.c.f, .int .u32 (o.c.v : Int), .int .u8 (o.c.q : Int)] 43) := ⟨_, rfl⟩
                obtain ⟨D, hD⟩ : ∃ b, b = wr.heap.size := ⟨_, rfl⟩
                have hTU : Turned [] wr U1 := by rw [hU1]; exact (Turned.refl [] wr).alloc _
                have hO : Struct D (woEnc o) U1 := by rw [hU1, hD]; exact Struct.new wr (woEnc o) _
                have hlD : C ≠ D := by have := hC2.1; omega
                rw [← hU1, ← hD]
                clear hU1 hD
                clear b0 b1 b2 b3 b4 b5 b6 f0 f1 f2 f3 f4 f5 f6 hlc0
                with_reducible refine (ka _ hTU).mono ?_
                rintro r u1 ⟨V1, rfl, hV1, hA1, HT2⟩
                have HT3 : Turned [] wr u1 := hTU.trans HT2 (by simp)
                have hC3 := hC2.keep HT3 (by simp)
                have hlc := hC3.1
                have b0 := (hC3.2 0 _ rfl).1
                have f0 := (hC3.2 0 _ rfl).2
                have b1 := (hC3.2 1 _ rfl).1
                have f1 := (hC3.2 1 _ rfl).2
                have b2 := (hC3.2 2 _ rfl).1
                have f2 := (hC3.2 2 _ rfl).2
                have b3 := (hC3.2 3 _ rfl).1
                have f3 := (hC3.2 3 _ rfl).2
                have b4 := (hC3.2 4 _ rfl).1
                have f4 := (hC3.2 4 _ rfl).2
                have b5 := (hC3.2 5 _ rfl).1
                have f5 := (hC3.2 5 _ rfl).2
                have b6 := (hC3.2 6 _ rfl).1
                have f6 := (hC3.2 6 _ rfl).2
                have hO3 := hO.keep HT2 (by simp)
                have hlo := hO3.1
                have q0 := (hO3.2 0 _ rfl).1
                have q1 := (hO3.2 1 _ rfl).1
                have q2 := (hO3.2 2 _ rfl).1
                have q3 := (hO3.2 3 _ rfl).1
                have q4 := (hO3.2 4 _ rfl).1
                have q5 := (hO3.2 5 _ rfl).1
                have q6 := (hO3.2 6 _ rfl).1
                have q7 := (hO3.2 7 _ rfl).1
                have q8 := (hO3.2 8 _ rfl).1
                have hVC1 : ¬ V1.At C := fun h => (hA1 C h).elim hVC (fun h => by have := hC2.1; have := hTU.size; omega)
                obtain ⟨ap1, ap2, ap3, ap4⟩ := HAP.out
                have enl : V1.nl = V.nl := by rw [hV1.nl, hV2.nl, ap3]
                have j1 : ((V1.nl : Int) != (V.nl : Int)) = false := by rw [enl]; simp
                have j2 : (V1.st != V.st) = false := by rw [hV1.st, hV2.st, ap1]; simp
                have j3 : (V1.tk != V.tk) = false := by rw [hV1.tk, hV2.tk, ap2]; simp
                have hnl : (V1.nl : Int) ≤ 16 := by have := hV1.nl; have := HGx.out.short; omega
                have HEN : Hid (V1.nl = V.nl) := enl
                have HAP4 : Hid _ := ap4
                clear ap1 ap2 ap3 ap4 enl
                go_wp2_with fail
                obtain ⟨Y, hY⟩ : ∃ Y, Y = u1.alloc (.cells #[.int .i64 V1.mw, .int .i64 V1.mh, .slice V1.oa V1.nw V1.ca, .slice V1.ob V1.ns V1.cb, .int .u64 V1.st, .int .i64 V1.tk, .slice V1.ol V1.nl V1.cl] 34) := ⟨_, rfl⟩
                obtain ⟨X, hX⟩ : ∃ b, b = u1.heap.size := ⟨_, rfl⟩
                have hXY : Struct X (wvEnc V1) Y := by rw [hY, hX]; exact Struct.new u1 (wvEnc V1) _
                have hTY : Turned [] u1 Y := by rw [hY]; exact (Turned.refl [] u1).alloc _
                rw [← hY, ← hX]
                clear hY hX j1 j2 j3 b0 b1 b2 b3 b4 b5 b6 f0 f1 f2 f3 f4 f5 f6 q0 q1 q2 q3 q4 q5 q6 q7 q8 hlc hlo
                have hCY := hC3.keep hTY (by simp)
                have hOY := hO3.keep hTY (by simp)
                have hVY := hV1.calm hTY
                have hWY := hV2.calm (HT3.trans hTY (by simp))
                have HTcY : Turned [C] W1 Y := HTc.trans (HT3.trans hTY (by simp)) (by simp)
                have hTwY : Turned [] w Y := hTW.trans HTcY (by intro k hk hl; simp at hk; omega)
                have y6 := (hXY.2 6 _ rfl).1
                go_loopw [13] (fun i wr => ∃ j : Nat, j ≤ V1.nl ∧ i = .int .i64 (j : Int) ∧ Turned [] Y wr) (fun i _ => V1.nl - (intOf i).toNat)
                case atStart => exact ⟨0, by omega, rfl, Turned.refl _ _⟩
                case round =>
                  clear y6
                  obtain ⟨j, hj, rfl, HT5⟩ := hrel
                  have hX5 := hXY.keep HT5 (by simp)
                  have hC5 := hCY.keep HT5 (by simp)
                  have hO5 := hOY.keep HT5 (by simp)
                  have hV5 := hVY.calm HT5
                  have hW5 := hWY.calm HT5
                  by_cases hjl : (j : Int) < (V1.nl : Int)
                  · have hjl2 : (j : Int) < (V.nl : Int) := by have := HEN.out; omega
                    obtain ⟨a, ha⟩ : ∃ e, W.l[j]? = some e := ⟨_, List.getElem?_eq_getElem (by have := hW5.nl; omega)⟩
                    obtain ⟨d, hd, hda⟩ := HAP4.out j a ha
                    obtain ⟨g1, off1, hol1, hg1, r0, r1, r2, r3, r4, r5, r6, r7⟩ := en_at hV5.row hd
                    obtain ⟨g2, off2, hol2, hg2, s0, s1, s2, s3, s4, s5, s6, s7⟩ := en_at hW5.row ha
                    have ne : Nonempty (KeptW wr) := KeptW.one wr
                    have m0 := KeptW.at hg1 r0
                    have n0 := KeptW.at hg2 s0
                    have m1 := KeptW.at hg1 r1
                    have n1 := KeptW.at hg2 s1
                    have m2 := KeptW.at hg1 r2
                    have n2 := KeptW.at hg2 s2
                    have m3 := KeptW.at hg1 r3
                    have n3 := KeptW.at hg2 s3
                    have m4 := KeptW.at hg1 r4
                    have n4 := KeptW.at hg2 s4
                    have m5 := KeptW.at hg1 r5
                    have n5 := KeptW.at hg2 s5
                    have m6 := KeptW.at hg1 r6
                    have n6 := KeptW.at hg2 s6
                    have m7 := KeptW.at hg1 r7
                    have n7 := KeptW.at hg2 s7

                    have k6 := KeptW.at hX5.1 (hX5.2 6 _ rfl).1
                    have c6 := KeptW.at hC5.1 (hC5.2 6 _ rfl).1
                    have o1 := KeptW.at hO5.1 (hO5.2 1 _ rfl).1
                    rw [hol1] at k6
                    rw [hol2] at c6
                    have y6 := (hX5.2 6 _ rfl).1
                    have hne := fun u => WdL.en_neq d a u
                    cases hb : WdL.enB d a with
                    | true =>
                      rw [hb] at hne
                      simp only [Bool.not_true] at hne
                      clear hol1 hol2 r0 r1 r2 r3 r4 r5 r6 r7 s0 s1 s2 s3 s4 s5 s6 s7 hd ha hda hb
                      go_wp2_with fail
                      refine wp_region_kept (by kernel_rfl) (by kernel_rfl) ?_
                      repeat (go_big_quiet_step (fail))
                      refine wpQuiet_nil ?_
                      rintro _ ⟨v, rfl⟩
                      go_wp2_with fail
                      go_roundw
                      case rel => exact ⟨j + 1, by omega, by go_num, HT5.trans (Turned.ofBelow v.h) (by simp)⟩
                      case measure => simp [intOf]; omega
                    | false =>
                      rw [hb] at hne
                      simp only [Bool.not_false] at hne
                      have hid : d.id = o.id ∧ d.kind = 1 := hda.resolve_left (fun h => by rw [WdL.enB_iff.2 h] at hb; cases hb)
                      have l1 : (d.id != o.id) = false := by rw [hid.1]; simp
                      have l2 : (d.kind != 1) = false := by rw [hid.2]; rfl
                      clear hol1 hol2 r0 r1 r2 r3 r4 r5 r6 r7 s0 s1 s2 s3 s4 s5 s6 s7 hd ha hda hb hid
                      go_wp2_with fail
                      refine wp_region_kept (by kernel_rfl) (by kernel_rfl) ?_
                      repeat (go_big_quiet_step (fail))
                      refine wpQuiet_nil ?_
                      rintro _ ⟨v, rfl⟩
                      go_wp2_with fail
                      go_roundw
                      case rel => exact ⟨j + 1, by omega, by go_num, HT5.trans (Turned.ofBelow v.h) (by simp)⟩
                      case measure => simp [intOf]; omega
                  · have x0 := (hX5.2 0 _ rfl).1; have x1 := (hX5.2 1 _ rfl).1; have x2 := (hX5.2 2 _ rfl).1; have x3 := (hX5.2 3 _ rfl).1; have x4 := (hX5.2 4 _ rfl).1; have x5 := (hX5.2 5 _ rfl).1; have x6 := (hX5.2 6 _ rfl).1
                    have b0 := (hC5.2 0 _ rfl).1; have f0 := (hC5.2 0 _ rfl).2; have b1 := (hC5.2 1 _ rfl).1; have f1 := (hC5.2 1 _ rfl).2; have b2 := (hC5.2 2 _ rfl).1; have f2 := (hC5.2 2 _ rfl).2; have b3 := (hC5.2 3 _ rfl).1; have f3 := (hC5.2 3 _ rfl).2; have b4 := (hC5.2 4 _ rfl).1; have f4 := (hC5.2 4 _ rfl).2; have b5 := (hC5.2 5 _ rfl).1; have f5 := (hC5.2 5 _ rfl).2; have b6 := (hC5.2 6 _ rfl).1; have f6 := (hC5.2 6 _ rfl).2
                    go_wp2_with fail
                    have hTC : Turned [C] wr (put7 wr C V1) := turned7 (Turned.refl _ _) (.inl (by simp)) V1
                    go_roundw
                    case rel => exact ⟨k + 1, _, V1, by omega, by go_num, set7 hC5 rfl V1, hV5.turned hTC (fun j hj => by simp; rintro rfl; exact hVC1 hj), HGx.out, HTx.out, hVC1, (HTcY.trans HT5 (by simp)).trans hTC (by simp)⟩
                    case measure => simp [intOf]; omega
              · have i3 : (o.k == 3) = false := by rw [beq_eq_false_iff_ne]; exact h3
                have i4 : (o.k == 4) = false := by rw [beq_eq_false_iff_ne]; exact h4
                clear h3 h4 hap
                go_wp2_with fail
                obtain ⟨U1, hU1⟩ : ∃ U, U = wr.alloc (.cells #[.int .i64 o.k, .int .i64 o.id, .int .i64 o.b, .int .u32 (o.c.n : Int), .int .i8 o.c.x, .int .i8 o.c.y, .bool o.c.f, .int .u32 (o.c.v : Int), .int .u8 (o.c.q : Int)] 43) := ⟨_, rfl⟩
                obtain ⟨D, hD⟩ : ∃ b, b = wr.heap.size := ⟨_, rfl⟩
                have hTU : Turned [] wr U1 := by rw [hU1]; exact (Turned.refl [] wr).alloc _
                have hO : Struct D (woEnc o) U1 := by rw [hU1, hD]; exact Struct.new wr (woEnc o) _
                have hlD : C ≠ D := by have := hC2.1; omega
                rw [← hU1, ← hD]
                clear hU1 hD
                clear b0 b1 b2 b3 b4 b5 b6 f0 f1 f2 f3 f4 f5 f6 hlc0
                with_reducible refine (ka _ hTU).mono ?_
                rintro r u1 ⟨V1, rfl, hV1, hA1, HT2⟩
                have HT3 : Turned [] wr u1 := hTU.trans HT2 (by simp)
                have hC3 := hC2.keep HT3 (by simp)
                have hlc := hC3.1
                have b0 := (hC3.2 0 _ rfl).1
                have f0 := (hC3.2 0 _ rfl).2
                have b1 := (hC3.2 1 _ rfl).1
                have f1 := (hC3.2 1 _ rfl).2
                have b2 := (hC3.2 2 _ rfl).1
                have f2 := (hC3.2 2 _ rfl).2
                have b3 := (hC3.2 3 _ rfl).1
                have f3 := (hC3.2 3 _ rfl).2
                have b4 := (hC3.2 4 _ rfl).1
                have f4 := (hC3.2 4 _ rfl).2
                have b5 := (hC3.2 5 _ rfl).1
                have f5 := (hC3.2 5 _ rfl).2
                have b6 := (hC3.2 6 _ rfl).1
                have f6 := (hC3.2 6 _ rfl).2
                have hO3 := hO.keep HT2 (by simp)
                have hlo := hO3.1
                have q0 := (hO3.2 0 _ rfl).1
                have q1 := (hO3.2 1 _ rfl).1
                have q2 := (hO3.2 2 _ rfl).1
                have q3 := (hO3.2 3 _ rfl).1
                have q4 := (hO3.2 4 _ rfl).1
                have q5 := (hO3.2 5 _ rfl).1
                have q6 := (hO3.2 6 _ rfl).1
                have q7 := (hO3.2 7 _ rfl).1
                have q8 := (hO3.2 8 _ rfl).1
                have hVC1 : ¬ V1.At C := fun h => (hA1 C h).elim hVC (fun h => by have := hC2.1; have := hTU.size; omega)
                go_wp2_with fail
                have hTC : Turned [C] u1 (put7 u1 C V1) := turned7 (Turned.refl _ _) (.inl (by simp)) V1
                have hVZ : Tells (Wd.act W o) V1 (put7 u1 C V1) := hV1.turned hTC (fun j hj => by simp; rintro rfl; exact hVC1 hj)
                have hTc : ∀ ob, Turned [C] W1 ((put7 u1 C V1).alloc ob) := fun ob => ((HTc.trans HT3 (by simp)).trans hTC (by simp)).alloc ob
                have hCz := set7 hC3 rfl V1
                go_roundw
                case rel => exact ⟨k + 1, _, V1, by omega, by go_num, hCz.keep ((Turned.refl [] _).alloc _) (by simp), hVZ.calm ((Turned.refl [] _).alloc _), HGx.out, HTx.out, hVC1, hTc _⟩
                case measure => simp [intOf]; omega
          · go_wp2_with fail
            go_ret
            exact ⟨rfl, hTw1.none⟩
      · have kn := fun (u : World) (h : MapAt a0_m a0_oa a0_ob u) => WdL.new_not K (ca := a0_ca) (cb := a0_cb) hs hn1 hok h
        rw [← hnw, ← hns] at kn
        clear hfew hq hnw hns hlb hok hs
        go_enter Try.func3, Try.ntmps3
        go_wp2_with fail
        rw [← hW0, ← hA, ← hB]
        clear hW0 hsz hA hB
        go_wp2_with (first | (go_at_call 5; (with_reducible refine (kA _).mono ?_); rintro r u0 ⟨rfl, HT1⟩; have HT0 := HT0.trans HT1 (by simp); have hSn := hS.keep HT0 (by simp); have d0 := (hSn.2 0 _ rfl).1; have d1 := (hSn.2 1 _ rfl).1; have d2 := (hSn.2 2 _ rfl).1; have d3 := (hSn.2 3 _ rfl).1; have hEn := hE.keep HT0 (by simp); have c0 := (hEn.2 0 _ rfl).1; have c1 := (hEn.2 1 _ rfl).1) | (go_at_call 6; (with_reducible refine (kf _).mono ?_); rintro r u0 ⟨rfl, HT1⟩; have HT0 := HT0.trans HT1 (by simp); have hSn := hS.keep HT0 (by simp); have d0 := (hSn.2 0 _ rfl).1; have d1 := (hSn.2 1 _ rfl).1; have d2 := (hSn.2 2 _ rfl).1; have d3 := (hSn.2 3 _ rfl).1; have hEn := hE.keep HT0 (by simp); have c0 := (hEn.2 0 _ rfl).1; have c1 := (hEn.2 1 _ rfl).1) | (go_at_call 7; (with_reducible refine (kn _ (hM.calm HT0)).mono ?_); rintro r u0 ⟨V0, rfl, HT1⟩; have HT0 := HT0.trans HT1 (by simp); have hSn := hS.keep HT0 (by simp); have d0 := (hSn.2 0 _ rfl).1; have d1 := (hSn.2 1 _ rfl).1; have d2 := (hSn.2 2 _ rfl).1; have d3 := (hSn.2 3 _ rfl).1; have hEn := hE.keep HT0 (by simp); have c0 := (hEn.2 0 _ rfl).1; have c1 := (hEn.2 1 _ rfl).1))
        go_ret
        exact ⟨rfl, ((hT.trans HT0 (by simp)).alloc _).none⟩
    · have hlen' : 100 < (a2_n : Int) := by omega
      clear hfew hq hnw hns hlb
      go_enter Try.func3, Try.ntmps3
      go_wp2_with fail
      rw [← hW0, ← hA, ← hB]
      clear hW0 hsz hA hB
      go_wp2_with (first | (go_at_call 5; (with_reducible refine (kA _).mono ?_); rintro r u0 ⟨rfl, HT1⟩; have HT0 := HT0.trans HT1 (by simp); have hSn := hS.keep HT0 (by simp); have d0 := (hSn.2 0 _ rfl).1; have d1 := (hSn.2 1 _ rfl).1; have d2 := (hSn.2 2 _ rfl).1; have d3 := (hSn.2 3 _ rfl).1; have hEn := hE.keep HT0 (by simp); have c0 := (hEn.2 0 _ rfl).1; have c1 := (hEn.2 1 _ rfl).1) | (go_at_call 6; (with_reducible refine (kf _).mono ?_); rintro r u0 ⟨rfl, HT1⟩; have HT0 := HT0.trans HT1 (by simp); have hSn := hS.keep HT0 (by simp); have d0 := (hSn.2 0 _ rfl).1; have d1 := (hSn.2 1 _ rfl).1; have d2 := (hSn.2 2 _ rfl).1; have d3 := (hSn.2 3 _ rfl).1; have hEn := hE.keep HT0 (by simp); have c0 := (hEn.2 0 _ rfl).1; have c1 := (hEn.2 1 _ rfl).1))
      go_ret
      exact ⟨rfl, (hT.trans HT0 (by simp)).none⟩
  · have hq : (decide (nw ≤ 400) && decide (ns ≤ 400)) = false := by simpa using hfew
    rw [hq] at kf
    clear hfew hq hnw hns
    go_enter Try.func3, Try.ntmps3
    go_wp2_with fail
    rw [← hW0, ← hA, ← hB]
    clear hW0 hsz hA hB
    go_wp2_with (first | (go_at_call 5; (with_reducible refine (kA _).mono ?_); rintro r u0 ⟨rfl, HT1⟩; have HT0 := HT0.trans HT1 (by simp); have hSn := hS.keep HT0 (by simp); have d0 := (hSn.2 0 _ rfl).1; have d1 := (hSn.2 1 _ rfl).1; have d2 := (hSn.2 2 _ rfl).1; have d3 := (hSn.2 3 _ rfl).1; have hEn := hE.keep HT0 (by simp); have c0 := (hEn.2 0 _ rfl).1; have c1 := (hEn.2 1 _ rfl).1) | (go_at_call 6; (with_reducible refine (kf _).mono ?_); rintro r u0 ⟨rfl, HT1⟩; have HT0 := HT0.trans HT1 (by simp); have hSn := hS.keep HT0 (by simp); have d0 := (hSn.2 0 _ rfl).1; have d1 := (hSn.2 1 _ rfl).1; have d2 := (hSn.2 2 _ rfl).1; have d3 := (hSn.2 3 _ rfl).1; have hEn := hE.keep HT0 (by simp); have c0 := (hEn.2 0 _ rfl).1; have c1 := (hEn.2 1 _ rfl).1))
    go_ret
    exact ⟨rfl, (hT.trans HT0 (by simp)).none⟩

set_option maxRecDepth 100000 in
theorem lifted (os : Os) (started : os.Started) (H : Type) (enc : TypeId × Value → H) :
    ReturnsInHanded {} Try.checked os 3 .any (Rows.worldApartSpec.pre6 enc Try.prog Try.f3 Rows.worldApartRow.domain false) (Rows.worldApartSpec.post enc Try.prog Try.f3 false true false false) := by
  refine returnsInHanded_of_change (C := Try.checked) own started (by kernel_rfl) Try.func3
    (ChangeSpec.witness6 (enc := enc) (C := Try.checked) false ⟨#[], #[.agg #[.int .i64 0, .int .i64 0, .slice none 0 0, .slice none 0 0], .agg #[.int .u64 0, .int .i64 0], .slice none 0 0], []⟩ 8 (by kernel_rfl) (by kernel_rfl) (by kernel_rfl) (by kernel_rfl)) ?_
  intro W base args ds gs before hval0 hW hcnd _
  have hval : ∀ (j : Nat) t v, Try.f3.params[j]? = some t → args[j]? = some v → Value.okWide Try.prog W .any base t v := hval0
  have hW' := hW
  obtain ⟨p, q, hA0, hV, rfl, hfz, hnd⟩ := hW
  have hA : DataW.TrodAll enc Try.prog W 0 (fun _ => true) true Try.f3.params.toList args.toList ds p := hA0
  rw [Try.params3] at hA hval
  obtain ⟨v0, vs0, d0, ds0, p0, q0, hargs, rfl, rfl, h0, r0⟩ := trodAll_cons hA
  obtain ⟨v1, vs1, d1, ds1, p1, q1, rfl, rfl, rfl, h1, r1⟩ := trodAll_cons r0
  obtain ⟨v2, vs2, d2, ds2, p2, q2, rfl, rfl, rfl, h2, r2⟩ := trodAll_cons r1
  obtain ⟨rfl, rfl, rfl⟩ := trodAll_nil r2
  obtain rfl : args = #[v0, v1, v2] := by cases args; simp_all
  obtain ⟨rfl, rfl⟩ := trodVars_none hV
  have k0 := h0
  have lt0 : ∀ x ∈ p0, x.block < W.heap.size := by obtain ⟨m, hm⟩ := k0; exact DataW.trod_lt m _ _ _ hm
  have k1 := h1
  have lt1 : ∀ x ∈ p1, x.block < W.heap.size := by obtain ⟨m, hm⟩ := k1; exact DataW.trod_lt m _ _ _ hm
  have k2 := h2
  have lt2 : ∀ x ∈ p2, x.block < W.heap.size := by obtain ⟨m, hm⟩ := k2; exact DataW.trod_lt m _ _ _ hm
  obtain ⟨a0_m, a0_oa, a0_ca, a0_ob, a0_cb, rfl, w0⟩ := open_map (hval 0 25 v0 rfl rfl) h0
  obtain ⟨cs1, rfl, ok1⟩ := open_flat (d := 8) (ks := [.int .u64, .int .i64]) (Or.inl ⟨_, Try.underlying28⟩) (by kernel_rfl) (hval 1 28 v1 rfl rfl) h1
  obtain ⟨a1_0, a1_1, rfl, w1_0, w1_1⟩ := flat1_of cs1 ok1
  obtain ⟨a2_o, a2_n, a2_c, a2_l, rfl, w2_m, w2_l, w2_e, w2, w2_k⟩ := open_flats (d := 8) (ks := [.int .i64, .int .i64, .int .i64, .int .u32, .int .i8, .int .i8, .bool, .int .u32, .int .u8]) woEnc Try.underlying29 (by kernel_rfl) (by kernel_rfl) (by decide) woEnc_of (hval 2 29 v2 rfl rfl) h2
  clear hA0 hval0
  refine (walk a0_m a0_oa a0_ca a0_ob a0_cb a1_0 a1_1 a2_o a2_n a2_c a2_l w1_0 w1_1 w2_m w2_l w2_e w2_k W w0 w2).mono fun e W' ⟨he, bel⟩ => ?_
  subst he
  exact ⟨_, rfl, _, _, _, [], _, [], hW', trodAll_mk1 (shut_bool Try.underlying4 _), (trodAll_cons_mk (Below.trod laidOut (by kernel_rfl) (of_decide_eq_true (by kernel_rfl)) k0 bel lt0) (trodAll_cons_mk (Below.trod laidOut (by kernel_rfl) (of_decide_eq_true (by kernel_rfl)) k1 bel lt1) (trodAll_cons_mk (Below.trod laidOut (by kernel_rfl) (of_decide_eq_true (by kernel_rfl)) k2 bel lt2) trodAll_mk0))), rfl, bel.frame _, fun h => by cases h⟩

theorem over : Rows.worldApartRow.holds Try.pinned (OpenSpec.ofChange Rows.worldApartSpec) :=
  OpenClaim.holds_of_wide 3 Try.f3 rfl rfl rfl rfl rfl rfl rfl ⟨rfl, rfl, rfl, rfl, rfl⟩ rfl rfl rfl rfl rfl (by kernel_rfl) Try.func3 (by kernel_rfl)
    (of_decide_eq_true (by kernel_rfl)) (by unfold Func.isWrapper; first | (rw [if_pos (by decide +kernel)]; kernel_rfl) | (rw [if_neg (by decide +kernel)]; exact ⟨rfl, rfl⟩))
    (fun os started H enc _ => lifted os started H enc)

theorem proved : Rows.WorldApartSaid :=
  over
#print axioms proved
end Go.Proofs.Ytgabgkgokmeaeaa.worldApart

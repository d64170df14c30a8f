/- In every map of at most 400 tiles and spawns, from any seed and number of balls, and behind each of at most 100 acts, the world's entities are formed, and each of them stands free. -/
import Derived.Test.YtgabgkgokmeaeaaGreatJ9
import Derived.Test.YtgabgkgokmeaeaaGreatRows
import Derived.WalkKit
import Derived.ProofKit
import Derived.OpenShut
import Derived.ChangeOld
import Derived.Below
import Derived.WalkSmall
import Derived.Lib.SmallJoins
import Derived.Laws.IdiomArrays
namespace Go.Proofs.YtgabgkgokmeaeaaGreat.worldFormed
open Go.ChangeShapes Go.WideShapes Go.ChangeAt Go.RowKit
set_option linter.unusedVariables false

theorem own : ownKnob Tryz.prog.godebug = none := by kernel_rfl
theorem laidOut : laidOutB Tryz.prog = true := by kernel_rfl

theorem leaf_of {k : IntKind} {v : Value} (h : (Leaf.int k).ok v) : ∃ z, v = .int k z ∧ (Lit.int k z).wf = true := h
theorem leafb_of {v : Value} (h : Leaf.bool.ok v) : ∃ b, v = .bool b := h
theorem flat1_of (cs : List Value) (h : AllOk [.int .u64, .int .i64] cs) : ∃ x0 x1, cs = [.int .u64 x0, .int .i64 x1] ∧ (Lit.int .u64 x0).wf = true ∧ (Lit.int .i64 x1).wf = true := by
  have hl := h.length
  obtain ⟨c0, c1, rfl⟩ : ∃ c0 c1, cs = [c0, c1] := by
    match cs, hl with
    | [c0, c1], _ => exact ⟨c0, c1, rfl⟩
  obtain ⟨x0, e0, y0⟩ := leaf_of h.1
  obtain ⟨x1, e1, y1⟩ := leaf_of h.2.1
  exact ⟨x0, x1, by rw [e0, e1], y0, y1⟩

set_option maxRecDepth 20000 in
set_option maxHeartbeats 8000000 in
theorem walk (a0_m : Ti.M) (a0_oa : Option Addr) (a0_ca : Nat) (a0_ob : Option Addr) (a0_cb : Nat) (a1_0 : Int) (a1_1 : Int) (a2_o : Option Addr) (a2_n a2_c : Nat) (a2_l : List (Wd.O)) (w1_0 : (Lit.int .u64 a1_0).wf = true) (w1_1 : (Lit.int .i64 a1_1).wf = true) (w2_m : a2_n ≤ maxLen) (w2_l : a2_n ≤ a2_c) (w2_e : a2_l.length = a2_n) (w2_k : ∀ a ∈ a2_l, AllOk [.int .i64, .int .i64, .int .i64, .int .u32, .int .i8, .int .i8, .bool, .int .u32, .int .u8] (woEnc a)) (w : World) (w0 : MapIn a0_m a0_oa a0_ca a0_ob a0_cb w) (w2 : RowOf 9 woEnc a2_o a2_l w) :
    Calls Tryz.prog 3 #[mapVal a0_m a0_oa a0_ca a0_ob a0_cb, .agg #[.int .u64 a1_0, .int .i64 a1_1], .slice a2_o a2_n a2_c] w fun e w' => e = .returned (.bool true) ∧ Below w.heap.size w w' := by
  have K := WdW.contracts
  have kA := WdL.awake_any K
  obtain ⟨nw, hnw⟩ : ∃ n, n = a0_m.ws.length := ⟨_, rfl⟩
  obtain ⟨ns, hns⟩ : ∃ n, n = a0_m.sp.length := ⟨_, rfl⟩
  have kf := fun u => WdL.few_any a0_m a0_oa a0_ca a0_ob a0_cb u
  unfold mapVal at kf ⊢
  rw [← hnw, ← hns] at kf ⊢
  obtain ⟨s, rfl, hs⟩ := wo_u64 w1_0
  have hn1 := wo_i64 w1_1
  unfold maxLen at w2_m
  obtain ⟨W0, hW0⟩ : ∃ W0, W0 = (w.alloc (.cells #[.int .i64 a0_m.W, .int .i64 a0_m.H, .slice a0_oa nw a0_ca, .slice a0_ob ns a0_cb] 25)).alloc (.cells #[.int .u64 (s : Int), .int .i64 a1_1] 28) := ⟨_, rfl⟩
  obtain ⟨B, hB⟩ : ∃ b, b = w.heap.size := ⟨_, rfl⟩
  obtain ⟨A, hA⟩ : ∃ b, b = w.heap.size + 1 := ⟨_, rfl⟩
  have hsz : W0.heap.size = w.heap.size + 2 := by rw [hW0]; simp
  have hT : Turned [] w W0 := by rw [hW0]; exact ((Turned.refl [] w).alloc _).alloc _
  have hS : Struct B [.int .i64 a0_m.W, .int .i64 a0_m.H, .slice a0_oa nw a0_ca, .slice a0_ob ns a0_cb] W0 := by
    have h0 := Struct.new w [.int .i64 a0_m.W, .int .i64 a0_m.H, .slice a0_oa nw a0_ca, .slice a0_ob ns a0_cb] 25
    rw [← hB] at h0
    rw [hW0]; exact (h0.keep ((Turned.refl [] _).alloc _) (by simp))
  have hE : Struct A [.int .u64 (s : Int), .int .i64 a1_1] W0 := by
    have h0 := Struct.new (w.alloc (.cells #[.int .i64 a0_m.W, .int .i64 a0_m.H, .slice a0_oa nw a0_ca, .slice a0_ob ns a0_cb] 25)) [.int .u64 (s : Int), .int .i64 a1_1] 28
    rw [show (w.alloc (.cells #[.int .i64 a0_m.W, .int .i64 a0_m.H, .slice a0_oa nw a0_ca, .slice a0_ob ns a0_cb] 25)).heap.size = w.heap.size + 1 by simp, ← hA] at h0
    rw [hW0]; exact h0
  have HT0 : Turned [] W0 W0 := Turned.refl _ _
  by_cases hfew : nw ≤ 400 ∧ ns ≤ 400
  · have hlb : a0_m.ws.length ≤ 1100 ∧ a0_m.sp.length ≤ 1100 := by rw [← hnw, ← hns]; omega
    have hM := (w0.at hlb.1 hlb.2).calm hT
    have hq : (decide (nw ≤ 400) && decide (ns ≤ 400)) = true := by simpa using hfew
    rw [hq] at kf
    by_cases hlen : (a2_n : Int) ≤ 100
    · have hlen' : ¬ 100 < (a2_n : Int) := by omega
      by_cases hok : Wd.newOk a0_m a1_1 = true
      · have kn := fun (u : World) (h : MapAt a0_m a0_oa a0_ob u) => WdL.new_told K (ca := a0_ca) (cb := a0_cb) hs hn1 hok h
        rw [← hnw, ← hns] at kn
        have HG0 : Hid (Wd.Gd (Wd.newW a0_m s a1_1)) := Wd.gd_new hs hlb hok
        have HE : Hid (a2_l.length = a2_n) := w2_e
        have HK : Hid (∀ a ∈ a2_l, a.wf) := fun a ha => wo_wf (w2_k a ha)
        clear hfew hq hnw hns hlb hok w2_e w2_k hs
        go_enter Tryz.func3, Tryz.ntmps3
        go_wp2_with fail
        rw [← hW0, ← hA, ← hB]
        clear hW0 hsz hA hB
        go_wp2_with (first | (go_at_call 5; (with_reducible refine (kA _).mono ?_); rintro r u0 ⟨rfl, HT1⟩; have HT0 := HT0.trans HT1 (by simp); have hSn := hS.keep HT0 (by simp); have d0 := (hSn.2 0 _ rfl).1; have d1 := (hSn.2 1 _ rfl).1; have d2 := (hSn.2 2 _ rfl).1; have d3 := (hSn.2 3 _ rfl).1; have hEn := hE.keep HT0 (by simp); have c0 := (hEn.2 0 _ rfl).1; have c1 := (hEn.2 1 _ rfl).1) | (go_at_call 6; (with_reducible refine (kf _).mono ?_); rintro r u0 ⟨rfl, HT1⟩; have HT0 := HT0.trans HT1 (by simp); have hSn := hS.keep HT0 (by simp); have d0 := (hSn.2 0 _ rfl).1; have d1 := (hSn.2 1 _ rfl).1; have d2 := (hSn.2 2 _ rfl).1; have d3 := (hSn.2 3 _ rfl).1; have hEn := hE.keep HT0 (by simp); have c0 := (hEn.2 0 _ rfl).1; have c1 := (hEn.2 1 _ rfl).1) | (go_at_call 7; (with_reducible refine (kn _ (hM.calm HT0)).mono ?_); rintro r u0 ⟨V0, rfl, hV0, HT1⟩; have HT0 := HT0.trans HT1 (by simp); have hSn := hS.keep HT0 (by simp); have d0 := (hSn.2 0 _ rfl).1; have d1 := (hSn.2 1 _ rfl).1; have d2 := (hSn.2 2 _ rfl).1; have d3 := (hSn.2 3 _ rfl).1; have hEn := hE.keep HT0 (by simp); have c0 := (hEn.2 0 _ rfl).1; have c1 := (hEn.2 1 _ rfl).1))
        obtain ⟨W1, hW1⟩ : ∃ W, W = u0.alloc (.cells #[.int .i64 V0.mw, .int .i64 V0.mh, .slice V0.oa V0.nw V0.ca, .slice V0.ob V0.ns V0.cb, .int .u64 V0.st, .int .i64 V0.tk, .slice V0.ol V0.nl V0.cl] 34) := ⟨_, rfl⟩
        obtain ⟨C, hC⟩ : ∃ b, b = u0.heap.size := ⟨_, rfl⟩
        have hC1 : Struct C (wvEnc V0) W1 := by rw [hW1, hC]; exact Struct.new u0 (wvEnc V0) _
        have hTu : Turned [] u0 W1 := by rw [hW1]; exact (Turned.refl [] u0).alloc _
        have hTW : Turned [] w W1 := (hT.trans HT0 (by simp)).trans hTu (by simp)
        have hCw : w.heap.size ≤ C := by rw [hC]; exact (hT.trans HT0 (by simp)).size
        have hV1 := hV0.calm hTu
        have hVC : ¬ V0.At C := fun h => by have := hV0.lt h; omega
        rw [← hW1, ← hC]
        clear hW1 hC hTu hV0 d0 d1 d2 d3 c0 c1 hSn hEn HT1 kn hM
        go_loopw [9] (fun i wr => ∃ (k : Nat) (W : Wd.W) (V : WV), k ≤ a2_n ∧ i = .int .i64 (k : Int) ∧ Struct C (wvEnc V) wr ∧ Tells W V wr ∧ Wd.Gd W ∧ (0 ≤ W.tick ∧ W.tick ≤ (k : Int)) ∧ ¬ V.At C ∧ Turned [C] W1 wr) (fun i _ => a2_n - (intOf i).toNat)
        case atStart => exact ⟨0, _, V0, by omega, rfl, hC1, hV1, HG0.out, by rw [WdL.newW_tick]; exact ⟨Int.le_refl _, Int.le_refl _⟩, hVC, Turned.refl _ _⟩
        case round =>
          clear hC1 hV1 hVC
          obtain ⟨k, W, V, hk, rfl, hC2, hV2, hG, ht, hVC, HTc⟩ := hrel
          have hTw1 : Turned [] w wr := hTW.trans HTc (by intro k hk hl; simp at hk; omega)
          by_cases hlt : (k : Int) < (a2_n : Int)
          · obtain ⟨o, ho⟩ : ∃ o, a2_l[k]? = some o := ⟨_, List.getElem?_eq_getElem (by have := HE.out; omega)⟩
            have how := HK.out _ (List.mem_of_getElem? ho)
            obtain ⟨g, off, rfl, hg, hc⟩ := (w2.turned hTw1 (by simp)) k _ ho
            have p0 : wr.cell? ⟨g, off + k * 9, none⟩ = some (.int .i64 o.k) := hc 0 _ rfl
            have p1 : wr.cell? ⟨g, off + k * 9 + 1, none⟩ = some (.int .i64 o.id) := hc 1 _ rfl
            have p2 : wr.cell? ⟨g, off + k * 9 + 2, none⟩ = some (.int .i64 o.b) := hc 2 _ rfl
            have p3 : wr.cell? ⟨g, off + k * 9 + 3, none⟩ = some (.int .u32 (o.c.n : Int)) := hc 3 _ rfl
            have p4 : wr.cell? ⟨g, off + k * 9 + 4, none⟩ = some (.int .i8 o.c.x) := hc 4 _ rfl
            have p5 : wr.cell? ⟨g, off + k * 9 + 5, none⟩ = some (.int .i8 o.c.y) := hc 5 _ rfl
            have p6 : wr.cell? ⟨g, off + k * 9 + 6, none⟩ = some (.bool o.c.f) := hc 6 _ rfl
            have p7 : wr.cell? ⟨g, off + k * 9 + 7, none⟩ = some (.int .u32 (o.c.v : Int)) := hc 7 _ rfl
            have p8 : wr.cell? ⟨g, off + k * 9 + 8, none⟩ = some (.int .u8 (o.c.q : Int)) := hc 8 _ rfl
            have ka := fun (u : World) (h : Turned [] wr u) => WdL.act_any K W V o hG how (by omega) u (hV2.calm h)
            have HGx : Hid (Wd.Gd (Wd.act W o)) := Wd.gd_act hG how
            have HTx : Hid (0 ≤ (Wd.act W o).tick ∧ (Wd.act W o).tick ≤ (k : Int) + 1) := Wd.act_tick ht
            clear hc ho how
            have b0 := (hC2.2 0 _ rfl).1
            have f0 := (hC2.2 0 _ rfl).2
            have b1 := (hC2.2 1 _ rfl).1
            have f1 := (hC2.2 1 _ rfl).2
            have b2 := (hC2.2 2 _ rfl).1
            have f2 := (hC2.2 2 _ rfl).2
            have b3 := (hC2.2 3 _ rfl).1
            have f3 := (hC2.2 3 _ rfl).2
            have b4 := (hC2.2 4 _ rfl).1
            have f4 := (hC2.2 4 _ rfl).2
            have b5 := (hC2.2 5 _ rfl).1
            have f5 := (hC2.2 5 _ rfl).2
            have b6 := (hC2.2 6 _ rfl).1
            have f6 := (hC2.2 6 _ rfl).2
            go_wp2_with fail
            have hSof : ∀ u, Turned [] wr u → (fun u => (u.cell? ⟨C, 0, none⟩ = some (.int .i64 V.mw) ∧ u.cell? ⟨C, 1, none⟩ = some (.int .i64 V.mh) ∧ u.cell? ⟨C, 2, none⟩ = some (.slice V.oa V.nw V.ca) ∧ u.cell? ⟨C, 3, none⟩ = some (.slice V.ob V.ns V.cb) ∧ u.cell? ⟨C, 4, none⟩ = some (.int .u64 V.st) ∧ u.cell? ⟨C, 5, none⟩ = some (.int .i64 V.tk) ∧ u.cell? ⟨C, 6, none⟩ = some (.slice V.ol V.nl V.cl)) ∧ (u.cell? ⟨g, off + k * 9, none⟩ = some (.int .i64 o.k) ∧ u.cell? ⟨g, off + k * 9 + 1, none⟩ = some (.int .i64 o.id) ∧ u.cell? ⟨g, off + k * 9 + 2, none⟩ = some (.int .i64 o.b) ∧ u.cell? ⟨g, off + k * 9 + 3, none⟩ = some (.int .u32 (o.c.n : Int)) ∧ u.cell? ⟨g, off + k * 9 + 4, none⟩ = some (.int .i8 o.c.x) ∧ u.cell? ⟨g, off + k * 9 + 5, none⟩ = some (.int .i8 o.c.y) ∧ u.cell? ⟨g, off + k * 9 + 6, none⟩ = some (.bool o.c.f) ∧ u.cell? ⟨g, off + k * 9 + 7, none⟩ = some (.int .u32 (o.c.v : Int)) ∧ u.cell? ⟨g, off + k * 9 + 8, none⟩ = some (.int .u8 (o.c.q : Int))) ∧ Turned [] wr u) u := fun u h => ⟨⟨((hC2.keep h (by simp)).2 0 _ rfl).1, ((hC2.keep h (by simp)).2 1 _ rfl).1, ((hC2.keep h (by simp)).2 2 _ rfl).1, ((hC2.keep h (by simp)).2 3 _ rfl).1, ((hC2.keep h (by simp)).2 4 _ rfl).1, ((hC2.keep h (by simp)).2 5 _ rfl).1, ((hC2.keep h (by simp)).2 6 _ rfl).1⟩, ⟨(h.cell (p := ⟨g, off + k * 9, none⟩) hg (by simp)).trans p0, (h.cell (p := ⟨g, off + k * 9 + 1, none⟩) hg (by simp)).trans p1, (h.cell (p := ⟨g, off + k * 9 + 2, none⟩) hg (by simp)).trans p2, (h.cell (p := ⟨g, off + k * 9 + 3, none⟩) hg (by simp)).trans p3, (h.cell (p := ⟨g, off + k * 9 + 4, none⟩) hg (by simp)).trans p4, (h.cell (p := ⟨g, off + k * 9 + 5, none⟩) hg (by simp)).trans p5, (h.cell (p := ⟨g, off + k * 9 + 6, none⟩) hg (by simp)).trans p6, (h.cell (p := ⟨g, off + k * 9 + 7, none⟩) hg (by simp)).trans p7, (h.cell (p := ⟨g, off + k * 9 + 8, none⟩) hg (by simp)).trans p8⟩, h⟩
            have hTof : ∀ u, (fun u => (u.cell? ⟨C, 0, none⟩ = some (.int .i64 V.mw) ∧ u.cell? ⟨C, 1, none⟩ = some (.int .i64 V.mh) ∧ u.cell? ⟨C, 2, none⟩ = some (.slice V.oa V.nw V.ca) ∧ u.cell? ⟨C, 3, none⟩ = some (.slice V.ob V.ns V.cb) ∧ u.cell? ⟨C, 4, none⟩ = some (.int .u64 V.st) ∧ u.cell? ⟨C, 5, none⟩ = some (.int .i64 V.tk) ∧ u.cell? ⟨C, 6, none⟩ = some (.slice V.ol V.nl V.cl)) ∧ (u.cell? ⟨g, off + k * 9, none⟩ = some (.int .i64 o.k) ∧ u.cell? ⟨g, off + k * 9 + 1, none⟩ = some (.int .i64 o.id) ∧ u.cell? ⟨g, off + k * 9 + 2, none⟩ = some (.int .i64 o.b) ∧ u.cell? ⟨g, off + k * 9 + 3, none⟩ = some (.int .u32 (o.c.n : Int)) ∧ u.cell? ⟨g, off + k * 9 + 4, none⟩ = some (.int .i8 o.c.x) ∧ u.cell? ⟨g, off + k * 9 + 5, none⟩ = some (.int .i8 o.c.y) ∧ u.cell? ⟨g, off + k * 9 + 6, none⟩ = some (.bool o.c.f) ∧ u.cell? ⟨g, off + k * 9 + 7, none⟩ = some (.int .u32 (o.c.v : Int)) ∧ u.cell? ⟨g, off + k * 9 + 8, none⟩ = some (.int .u8 (o.c.q : Int))) ∧ Turned [] wr u) u → Turned [] wr u := fun u h => h.2.2
            go_region_held3 (fun u => (u.cell? ⟨C, 0, none⟩ = some (.int .i64 V.mw) ∧ u.cell? ⟨C, 1, none⟩ = some (.int .i64 V.mh) ∧ u.cell? ⟨C, 2, none⟩ = some (.slice V.oa V.nw V.ca) ∧ u.cell? ⟨C, 3, none⟩ = some (.slice V.ob V.ns V.cb) ∧ u.cell? ⟨C, 4, none⟩ = some (.int .u64 V.st) ∧ u.cell? ⟨C, 5, none⟩ = some (.int .i64 V.tk) ∧ u.cell? ⟨C, 6, none⟩ = some (.slice V.ol V.nl V.cl)) ∧ (u.cell? ⟨g, off + k * 9, none⟩ = some (.int .i64 o.k) ∧ u.cell? ⟨g, off + k * 9 + 1, none⟩ = some (.int .i64 o.id) ∧ u.cell? ⟨g, off + k * 9 + 2, none⟩ = some (.int .i64 o.b) ∧ u.cell? ⟨g, off + k * 9 + 3, none⟩ = some (.int .u32 (o.c.n : Int)) ∧ u.cell? ⟨g, off + k * 9 + 4, none⟩ = some (.int .i8 o.c.x) ∧ u.cell? ⟨g, off + k * 9 + 5, none⟩ = some (.int .i8 o.c.y) ∧ u.cell? ⟨g, off + k * 9 + 6, none⟩ = some (.bool o.c.f) ∧ u.cell? ⟨g, off + k * 9 + 7, none⟩ = some (.int .u32 (o.c.v : Int)) ∧ u.cell? ⟨g, off + k * 9 + 8, none⟩ = some (.int .u8 (o.c.q : Int))) ∧ Turned [] wr u)
              (first | with_reducible assumption | ((with_reducible refine hSof _ ?_); (repeat (first | with_reducible assumption | with_reducible exact hTof _ (by with_reducible assumption) | with_reducible exact Turned.refl [] wr | with_reducible refine Turned.drew ?_ | with_reducible refine Turned.alloc ?_ _ | with_reducible refine turned7 ?_ (.inr (by first | with_reducible exact Nat.le_refl _ | with_reducible exact HT3.size)) V1))))
              (first | (go_at_call 8; (with_reducible refine (ka _ (by (repeat (first | with_reducible assumption | with_reducible exact hTof _ (by with_reducible assumption) | with_reducible exact Turned.refl [] wr | with_reducible refine Turned.drew ?_ | with_reducible refine Turned.alloc ?_ _ | with_reducible refine turned7 ?_ (.inr (by first | with_reducible exact Nat.le_refl _ | with_reducible exact HT3.size)) V1)))).mono ?_); rintro r u1 ⟨V1, rfl, hV1, hA1, HT2⟩; have HT3 : Turned [] wr u1 := (Turned.trans (S' := []) (by (repeat (first | with_reducible assumption | with_reducible exact hTof _ (by with_reducible assumption) | with_reducible exact Turned.refl [] wr | with_reducible refine Turned.drew ?_ | with_reducible refine Turned.alloc ?_ _ | with_reducible refine turned7 ?_ (.inr (by first | with_reducible exact Nat.le_refl _ | with_reducible exact HT3.size)) V1))) HT2 (by simp)); (first | (have hZ := (Struct.new wr [.int .i64 0, .int .i64 0, .slice none 0 0, .slice none 0 0, .int .u64 0, .int .i64 0, .slice none 0 0] 34).keep (S := []) (by first | with_reducible exact HT2 | with_reducible exact ((Turned.refl [] _).drew).trans HT2 (by simp)) (by simp); have z0 : u1.cell? ⟨_, 0, none⟩ = some (.int .i64 0) := (hZ.2 0 _ rfl).1; have y0 : u1.frozen? ⟨_, 0, none⟩ = false := (hZ.2 0 _ rfl).2; have z1 : u1.cell? ⟨_, 1, none⟩ = some (.int .i64 0) := (hZ.2 1 _ rfl).1; have y1 : u1.frozen? ⟨_, 1, none⟩ = false := (hZ.2 1 _ rfl).2; have z2 : u1.cell? ⟨_, 2, none⟩ = some (.slice none 0 0) := (hZ.2 2 _ rfl).1; have y2 : u1.frozen? ⟨_, 2, none⟩ = false := (hZ.2 2 _ rfl).2; have z3 : u1.cell? ⟨_, 3, none⟩ = some (.slice none 0 0) := (hZ.2 3 _ rfl).1; have y3 : u1.frozen? ⟨_, 3, none⟩ = false := (hZ.2 3 _ rfl).2; have z4 : u1.cell? ⟨_, 4, none⟩ = some (.int .u64 0) := (hZ.2 4 _ rfl).1; have y4 : u1.frozen? ⟨_, 4, none⟩ = false := (hZ.2 4 _ rfl).2; have z5 : u1.cell? ⟨_, 5, none⟩ = some (.int .i64 0) := (hZ.2 5 _ rfl).1; have y5 : u1.frozen? ⟨_, 5, none⟩ = false := (hZ.2 5 _ rfl).2; have z6 : u1.cell? ⟨_, 6, none⟩ = some (.slice none 0 0) := (hZ.2 6 _ rfl).1; have y6 : u1.frozen? ⟨_, 6, none⟩ = false := (hZ.2 6 _ rfl).2) | (have hZ := (Struct.new wr.drew [.int .i64 0, .int .i64 0, .slice none 0 0, .slice none 0 0, .int .u64 0, .int .i64 0, .slice none 0 0] 34).keep (S := []) (by first | with_reducible exact HT2 | with_reducible exact ((Turned.refl [] _).drew).trans HT2 (by simp)) (by simp); have z0 : u1.cell? ⟨_, 0, none⟩ = some (.int .i64 0) := (hZ.2 0 _ rfl).1; have y0 : u1.frozen? ⟨_, 0, none⟩ = false := (hZ.2 0 _ rfl).2; have z1 : u1.cell? ⟨_, 1, none⟩ = some (.int .i64 0) := (hZ.2 1 _ rfl).1; have y1 : u1.frozen? ⟨_, 1, none⟩ = false := (hZ.2 1 _ rfl).2; have z2 : u1.cell? ⟨_, 2, none⟩ = some (.slice none 0 0) := (hZ.2 2 _ rfl).1; have y2 : u1.frozen? ⟨_, 2, none⟩ = false := (hZ.2 2 _ rfl).2; have z3 : u1.cell? ⟨_, 3, none⟩ = some (.slice none 0 0) := (hZ.2 3 _ rfl).1; have y3 : u1.frozen? ⟨_, 3, none⟩ = false := (hZ.2 3 _ rfl).2; have z4 : u1.cell? ⟨_, 4, none⟩ = some (.int .u64 0) := (hZ.2 4 _ rfl).1; have y4 : u1.frozen? ⟨_, 4, none⟩ = false := (hZ.2 4 _ rfl).2; have z5 : u1.cell? ⟨_, 5, none⟩ = some (.int .i64 0) := (hZ.2 5 _ rfl).1; have y5 : u1.frozen? ⟨_, 5, none⟩ = false := (hZ.2 5 _ rfl).2; have z6 : u1.cell? ⟨_, 6, none⟩ = some (.slice none 0 0) := (hZ.2 6 _ rfl).1; have y6 : u1.frozen? ⟨_, 6, none⟩ = false := (hZ.2 6 _ rfl).2) | skip)))
            all_goals (first
              | (obtain ⟨Y, hY⟩ : ∃ Y, Y = put7 u1 wr.heap.size V1 := ⟨_, rfl⟩; obtain ⟨X, hX⟩ : ∃ b, b = wr.heap.size := ⟨_, rfl⟩; have hXY : Struct X (wvEnc V1) Y := (by rw [hY, hX]; exact set7 hZ rfl V1); have hTY : Turned [] wr Y := (by rw [hY]; exact turned7 HT3 (.inr (Nat.le_refl _)) V1); have hVY : Tells (Wd.act W o) V1 Y := (by refine hV1.turned (S := [X]) (by rw [hY, hX]; exact turned7 (Turned.refl _ _) (.inl (by simp)) V1) (fun j hj => ?_); simp; rintro rfl; rcases hA1 _ hj with h | h; (· have := hV2.lt h; omega); (· simp at h; omega)); simp only [put7] at hY; rw [← hY, ← hX]; clear hY hX)
              | (obtain ⟨Y, hY⟩ : ∃ Y, Y = u1.alloc (.cells #[.int .i64 V1.mw, .int .i64 V1.mh, .slice V1.oa V1.nw V1.ca, .slice V1.ob V1.ns V1.cb, .int .u64 V1.st, .int .i64 V1.tk, .slice V1.ol V1.nl V1.cl] 34) := ⟨_, rfl⟩; obtain ⟨X, hX⟩ : ∃ b, b = u1.heap.size := ⟨_, rfl⟩; have hXY : Struct X (wvEnc V1) Y := (by rw [hY, hX]; exact Struct.new u1 (wvEnc V1) _); have hTY : Turned [] wr Y := (by rw [hY]; exact HT3.alloc _); have hVY : Tells (Wd.act W o) V1 Y := (by rw [hY]; exact hV1.calm ((Turned.refl [] u1).alloc _)); rw [← hY, ← hX]; clear hY hX))
            all_goals
              have hC3 := hC2.keep hTY (by simp)
              have b0 := (hC3.2 0 _ rfl).1
              have f0 := (hC3.2 0 _ rfl).2
              have b1 := (hC3.2 1 _ rfl).1
              have f1 := (hC3.2 1 _ rfl).2
              have b2 := (hC3.2 2 _ rfl).1
              have f2 := (hC3.2 2 _ rfl).2
              have b3 := (hC3.2 3 _ rfl).1
              have f3 := (hC3.2 3 _ rfl).2
              have b4 := (hC3.2 4 _ rfl).1
              have f4 := (hC3.2 4 _ rfl).2
              have b5 := (hC3.2 5 _ rfl).1
              have f5 := (hC3.2 5 _ rfl).2
              have b6 := (hC3.2 6 _ rfl).1
              have f6 := (hC3.2 6 _ rfl).2
              have x0 := (hXY.2 0 _ rfl).1
              have x1 := (hXY.2 1 _ rfl).1
              have x2 := (hXY.2 2 _ rfl).1
              have x3 := (hXY.2 3 _ rfl).1
              have x4 := (hXY.2 4 _ rfl).1
              have x5 := (hXY.2 5 _ rfl).1
              have x6 := (hXY.2 6 _ rfl).1
              have hVC1 : ¬ V1.At C := fun h => (hA1 C h).elim hVC (fun h => by have := hC2.1; simp at h; omega)
              go_wp2_with fail
              obtain ⟨Z, hZ⟩ : ∃ Z, Z = put7 Y C V1 := ⟨_, rfl⟩
              have hCZ : Struct C (wvEnc V1) Z := by rw [hZ]; exact set7 hC3 rfl V1
              have hTZ : Turned [C] wr Z := by rw [hZ]; exact turned7 (hTY.mono (by simp)) (.inl (by simp)) V1
              have hVZ : Tells (Wd.act W o) V1 Z := by rw [hZ]; exact hVY.turned (S := [C]) (turned7 (Turned.refl _ _) (.inl (by simp)) V1) (fun j hj => by simp; rintro rfl; exact hVC1 hj)
              have HTcZ : Turned [C] W1 Z := HTc.trans hTZ (by simp)
              have hTwZ : Turned [] w Z := hTW.trans HTcZ (by intro k hk hl; simp at hk; omega)
              simp only [put7] at hZ
              rw [← hZ]
              clear hZ b0 b1 b2 b3 b4 b5 b6 f0 f1 f2 f3 f4 f5 f6 x0 x1 x2 x3 x4 x5 x6
              with_reducible refine (WdL.list_told HGx.out hVZ).mono ?_
              rintro r u2 ⟨rfl, HT4⟩
              have hnl : (V1.nl : Int) ≤ 16 := by have := hVZ.nl; have := HGx.out.short; omega
              have hC4 := hCZ.keep HT4 (by simp)
              have b0 := (hC4.2 0 _ rfl).1
              have b1 := (hC4.2 1 _ rfl).1
              have b2 := (hC4.2 2 _ rfl).1
              have b3 := (hC4.2 3 _ rfl).1
              have b4 := (hC4.2 4 _ rfl).1
              have b5 := (hC4.2 5 _ rfl).1
              have b6 := (hC4.2 6 _ rfl).1
              go_wp2_with fail
              go_loopw [12] (fun i wr => ∃ j : Nat, j ≤ V1.nl ∧ i = .int .i64 (j : Int) ∧ Turned [] u2 wr) (fun i _ => V1.nl - (intOf i).toNat)
              case atStart => exact ⟨0, by omega, rfl, Turned.refl _ _⟩
              case round =>
                clear b0 b1 b2 b3 b4 b5 b6
                obtain ⟨j, hj, rfl, HT5⟩ := hrel
                have HTZ : Turned [] Z wr := HT4.trans HT5 (by simp)
                have hV5 := hVZ.calm HTZ
                have hC5 := hCZ.keep HTZ (by simp)
                by_cases hjl : (j : Int) < (V1.nl : Int)
                · obtain ⟨e, he⟩ : ∃ e, (Wd.act W o).l[j]? = some e := ⟨_, List.getElem?_eq_getElem (by have := hVZ.nl; omega)⟩
                  have hem := List.mem_of_getElem? he
                  obtain ⟨g2, off2, hol, hg2, r0, r1, r2, r3, r4, r5, r6, r7⟩ := en_at hV5.row he
                  have ne : Nonempty (KeptW wr) := KeptW.one wr
                  have c2 := KeptW.at hg2 r2
                  have c3 := KeptW.at hg2 r3
                  have k0 := KeptW.at hC5.1 (hC5.2 0 _ rfl).1
                  have k1 := KeptW.at hC5.1 (hC5.2 1 _ rfl).1
                  have k2 := KeptW.at hC5.1 (hC5.2 2 _ rfl).1
                  have k3 := KeptW.at hC5.1 (hC5.2 3 _ rfl).1
                  have k6 := KeptW.at hC5.1 (hC5.2 6 _ rfl).1
                  rw [hol] at k6
                  have b6 := (hC5.2 6 _ rfl).1
                  have g1 := fun (v : KeptW wr) => kept_call ((WdL.stands_told HGx.out hem (hV5.calm (Turned.ofBelow v.h))).mono fun r w' h => ⟨h.1, h.2.none⟩)
                  clear hol r0 r1 r2 r3 r4 r5 r6 r7 he hem
                  go_wp2_with fail
                  refine wp_region_kept (by kernel_rfl) (by kernel_rfl) ?_
                  repeat (go_big_quiet_step (first | (go_at_call 10; with_reducible exact g1 _)))
                  refine wpQuiet_nil ?_
                  rintro _ ⟨v, rfl⟩
                  go_wp2_with fail
                  go_roundw
                  case rel => exact ⟨j + 1, by omega, by go_num, HT5.trans (Turned.ofBelow v.h) (by simp)⟩
                  case measure => simp [intOf]; omega
                · have hjn : j = V1.nl := by omega
                  have b6 := (hC5.2 6 _ rfl).1
                  clear hjn
                  go_wp2_with fail
                  go_roundw
                  case rel => exact ⟨k + 1, _, V1, by omega, by go_num, hC5, hV5, HGx.out, HTx.out, hVC1, HTcZ.trans HTZ (by simp)⟩
                  case measure => simp [intOf]; omega
          · go_wp2_with fail
            go_ret
            exact ⟨rfl, hTw1.none⟩
      · have kn := fun (u : World) (h : MapAt a0_m a0_oa a0_ob u) => WdL.new_not K (ca := a0_ca) (cb := a0_cb) hs hn1 hok h
        rw [← hnw, ← hns] at kn
        clear hfew hq hnw hns hlb hok hs
        go_enter Tryz.func3, Tryz.ntmps3
        go_wp2_with fail
        rw [← hW0, ← hA, ← hB]
        clear hW0 hsz hA hB
        go_wp2_with (first | (go_at_call 5; (with_reducible refine (kA _).mono ?_); rintro r u0 ⟨rfl, HT1⟩; have HT0 := HT0.trans HT1 (by simp); have hSn := hS.keep HT0 (by simp); have d0 := (hSn.2 0 _ rfl).1; have d1 := (hSn.2 1 _ rfl).1; have d2 := (hSn.2 2 _ rfl).1; have d3 := (hSn.2 3 _ rfl).1; have hEn := hE.keep HT0 (by simp); have c0 := (hEn.2 0 _ rfl).1; have c1 := (hEn.2 1 _ rfl).1) | (go_at_call 6; (with_reducible refine (kf _).mono ?_); rintro r u0 ⟨rfl, HT1⟩; have HT0 := HT0.trans HT1 (by simp); have hSn := hS.keep HT0 (by simp); have d0 := (hSn.2 0 _ rfl).1; have d1 := (hSn.2 1 _ rfl).1; have d2 := (hSn.2 2 _ rfl).1; have d3 := (hSn.2 3 _ rfl).1; have hEn := hE.keep HT0 (by simp); have c0 := (hEn.2 0 _ rfl).1; have c1 := (hEn.2 1 _ rfl).1) | (go_at_call 7; (with_reducible refine (kn _ (hM.calm HT0)).mono ?_); rintro r u0 ⟨V0, rfl, HT1⟩; have HT0 := HT0.trans HT1 (by simp); have hSn := hS.keep HT0 (by simp); have d0 := (hSn.2 0 _ rfl).1; have d1 := (hSn.2 1 _ rfl).1; have d2 := (hSn.2 2 _ rfl).1; have d3 := (hSn.2 3 _ rfl).1; have hEn := hE.keep HT0 (by simp); have c0 := (hEn.2 0 _ rfl).1; have c1 := (hEn.2 1 _ rfl).1))
        go_ret
        exact ⟨rfl, ((hT.trans HT0 (by simp)).alloc _).none⟩
    · have hlen' : 100 < (a2_n : Int) := by omega
      clear hfew hq hnw hns hlb
      go_enter Tryz.func3, Tryz.ntmps3
      go_wp2_with fail
      rw [← hW0, ← hA, ← hB]
      clear hW0 hsz hA hB
      go_wp2_with (first | (go_at_call 5; (with_reducible refine (kA _).mono ?_); rintro r u0 ⟨rfl, HT1⟩; have HT0 := HT0.trans HT1 (by simp); have hSn := hS.keep HT0 (by simp); have d0 := (hSn.2 0 _ rfl).1; have d1 := (hSn.2 1 _ rfl).1; have d2 := (hSn.2 2 _ rfl).1; have d3 := (hSn.2 3 _ rfl).1; have hEn := hE.keep HT0 (by simp); have c0 := (hEn.2 0 _ rfl).1; have c1 := (hEn.2 1 _ rfl).1) | (go_at_call 6; (with_reducible refine (kf _).mono ?_); rintro r u0 ⟨rfl, HT1⟩; have HT0 := HT0.trans HT1 (by simp); have hSn := hS.keep HT0 (by simp); have d0 := (hSn.2 0 _ rfl).1; have d1 := (hSn.2 1 _ rfl).1; have d2 := (hSn.2 2 _ rfl).1; have d3 := (hSn.2 3 _ rfl).1; have hEn := hE.keep HT0 (by simp); have c0 := (hEn.2 0 _ rfl).1; have c1 := (hEn.2 1 _ rfl).1))
      go_ret
      exact ⟨rfl, (hT.trans HT0 (by simp)).none⟩
  · have hq : (decide (nw ≤ 400) && decide (ns ≤ 400)) = false := by simpa using hfew
    rw [hq] at kf
    clear hfew hq hnw hns
    go_enter Tryz.func3, Tryz.ntmps3
    go_wp2_with fail
    rw [← hW0, ← hA, ← hB]
    clear hW0 hsz hA hB
    go_wp2_with (first | (go_at_call 5; (with_reducible refine (kA _).mono ?_); rintro r u0 ⟨rfl, HT1⟩; have HT0 := HT0.trans HT1 (by simp); have hSn := hS.keep HT0 (by simp); have d0 := (hSn.2 0 _ rfl).1; have d1 := (hSn.2 1 _ rfl).1; have d2 := (hSn.2 2 _ rfl).1; have d3 := (hSn.2 3 _ rfl).1; have hEn := hE.keep HT0 (by simp); have c0 := (hEn.2 0 _ rfl).1; have c1 := (hEn.2 1 _ rfl).1) | (go_at_call 6; (with_reducible refine (kf _).mono ?_); rintro r u0 ⟨rfl, HT1⟩; have HT0 := HT0.trans HT1 (by simp); have hSn := hS.keep HT0 (by simp); have d0 := (hSn.2 0 _ rfl).1; have d1 := (hSn.2 1 _ rfl).1; have d2 := (hSn.2 2 _ rfl).1; have d3 := (hSn.2 3 _ rfl).1; have hEn := hE.keep HT0 (by simp); have c0 := (hEn.2 0 _ rfl).1; have c1 := (hEn.2 1 _ rfl).1))
    go_ret
    exact ⟨rfl, (hT.trans HT0 (by simp)).none⟩

set_option maxRecDepth 100000 in
theorem lifted (os : Os) (started : os.Started) (H : Type) (enc : TypeId × Value → H) :
    ReturnsInHanded {} Tryz.checked os 3 .any (Rows.worldFormedSpec.pre6 enc Tryz.prog Tryz.f3 Rows.worldFormedRow.domain false) (Rows.worldFormedSpec.post enc Tryz.prog Tryz.f3 false true false false) := by
  refine returnsInHanded_of_change (C := Tryz.checked) own started (by kernel_rfl) Tryz.func3
    (ChangeSpec.witness6 (enc := enc) (C := Tryz.checked) false ⟨#[], #[.agg #[.int .i64 0, .int .i64 0, .slice none 0 0, .slice none 0 0], .agg #[.int .u64 0, .int .i64 0], .slice none 0 0], []⟩ 8 (by kernel_rfl) (by kernel_rfl) (by kernel_rfl) (by kernel_rfl)) ?_
  intro W base args ds gs before hval0 hW hcnd _
  have hval : ∀ (j : Nat) t v, Tryz.f3.params[j]? = some t → args[j]? = some v → Value.okWide Tryz.prog W .any base t v := hval0
  have hW' := hW
  obtain ⟨p, q, hA0, hV, rfl, hfz, hnd⟩ := hW
  have hA : DataW.TrodAll enc Tryz.prog W 0 (fun _ => true) true Tryz.f3.params.toList args.toList ds p := hA0
  rw [Tryz.params3] at hA hval
  obtain ⟨v0, vs0, d0, ds0, p0, q0, hargs, rfl, rfl, h0, r0⟩ := trodAll_cons hA
  obtain ⟨v1, vs1, d1, ds1, p1, q1, rfl, rfl, rfl, h1, r1⟩ := trodAll_cons r0
  obtain ⟨v2, vs2, d2, ds2, p2, q2, rfl, rfl, rfl, h2, r2⟩ := trodAll_cons r1
  obtain ⟨rfl, rfl, rfl⟩ := trodAll_nil r2
  obtain rfl : args = #[v0, v1, v2] := by cases args; simp_all
  obtain ⟨rfl, rfl⟩ := trodVars_none hV
  have k0 := h0
  have lt0 : ∀ x ∈ p0, x.block < W.heap.size := by obtain ⟨m, hm⟩ := k0; exact DataW.trod_lt m _ _ _ hm
  have k1 := h1
  have lt1 : ∀ x ∈ p1, x.block < W.heap.size := by obtain ⟨m, hm⟩ := k1; exact DataW.trod_lt m _ _ _ hm
  have k2 := h2
  have lt2 : ∀ x ∈ p2, x.block < W.heap.size := by obtain ⟨m, hm⟩ := k2; exact DataW.trod_lt m _ _ _ hm
  obtain ⟨a0_m, a0_oa, a0_ca, a0_ob, a0_cb, rfl, w0⟩ := open_map (hval 0 25 v0 rfl rfl) h0
  obtain ⟨cs1, rfl, ok1⟩ := open_flat (d := 8) (ks := [.int .u64, .int .i64]) (Or.inl ⟨_, Tryz.underlying28⟩) (by kernel_rfl) (hval 1 28 v1 rfl rfl) h1
  obtain ⟨a1_0, a1_1, rfl, w1_0, w1_1⟩ := flat1_of cs1 ok1
  obtain ⟨a2_o, a2_n, a2_c, a2_l, rfl, w2_m, w2_l, w2_e, w2, w2_k⟩ := open_flats (d := 8) (ks := [.int .i64, .int .i64, .int .i64, .int .u32, .int .i8, .int .i8, .bool, .int .u32, .int .u8]) woEnc Tryz.underlying29 (by kernel_rfl) (by kernel_rfl) (by decide) woEnc_of (hval 2 29 v2 rfl rfl) h2
  clear hA0 hval0
  refine (walk a0_m a0_oa a0_ca a0_ob a0_cb a1_0 a1_1 a2_o a2_n a2_c a2_l w1_0 w1_1 w2_m w2_l w2_e w2_k W w0 w2).mono fun e W' ⟨he, bel⟩ => ?_
  subst he
  exact ⟨_, rfl, _, _, _, [], _, [], hW', trodAll_mk1 (shut_bool Tryz.underlying4 _), (trodAll_cons_mk (Below.trod laidOut (by kernel_rfl) (of_decide_eq_true (by kernel_rfl)) k0 bel lt0) (trodAll_cons_mk (Below.trod laidOut (by kernel_rfl) (of_decide_eq_true (by kernel_rfl)) k1 bel lt1) (trodAll_cons_mk (Below.trod laidOut (by kernel_rfl) (of_decide_eq_true (by kernel_rfl)) k2 bel lt2) trodAll_mk0))), rfl, bel.frame _, fun h => by cases h⟩

theorem over : Rows.worldFormedRow.holds Tryz.pinned (OpenSpec.ofChange Rows.worldFormedSpec) :=
  OpenClaim.holds_of_wide 3 Tryz.f3 rfl rfl rfl rfl rfl rfl rfl ⟨rfl, rfl, rfl, rfl, rfl⟩ rfl rfl rfl rfl rfl (by kernel_rfl) Tryz.func3 (by kernel_rfl)
    (of_decide_eq_true (by kernel_rfl)) (by unfold Func.isWrapper; first | (rw [if_pos (by decide +kernel)]; kernel_rfl) | (rw [if_neg (by decide +kernel)]; exact ⟨rfl, rfl⟩))
    (fun os started H enc _ => lifted os started H enc)

theorem proved : Rows.WorldFormedSaid :=
  over
#print axioms proved
end Go.Proofs.YtgabgkgokmeaeaaGreat.worldFormed

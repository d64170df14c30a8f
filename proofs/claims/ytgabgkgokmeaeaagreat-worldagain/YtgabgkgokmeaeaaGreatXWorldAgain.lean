/- In every map of at most 400 tiles and spawns, at most 60 acts done twice from the same seed and number of balls lead to the same worlds, one by one, though the first row of them was kept while more was done. -/
import Derived.Test.YtgabgkgokmeaeaaGreatJ9
import Derived.Test.YtgabgkgokmeaeaaGreatRows
import Derived.WalkKit
import Derived.ProofKit
import Derived.OpenShut
import Derived.ChangeOld
import Derived.Below
import Derived.WalkSmall
import Derived.Lib.SmallJoins
import Derived.Laws.IdiomArrays
namespace Go.Proofs.YtgabgkgokmeaeaaGreat.worldAgain
open Go.ChangeShapes Go.WideShapes Go.ChangeAt Go.RowKit
set_option linter.unusedVariables false

theorem own : ownKnob Tryz.prog.godebug = none := by kernel_rfl
theorem laidOut : laidOutB Tryz.prog = true := by kernel_rfl

theorem leaf_of {k : IntKind} {v : Value} (h : (Leaf.int k).ok v) : ∃ z, v = .int k z ∧ (Lit.int k z).wf = true := h
theorem leafb_of {v : Value} (h : Leaf.bool.ok v) : ∃ b, v = .bool b := h
theorem flat1_of (cs : List Value) (h : AllOk [.int .u64, .int .i64] cs) : ∃ x0 x1, cs = [.int .u64 x0, .int .i64 x1] ∧ (Lit.int .u64 x0).wf = true ∧ (Lit.int .i64 x1).wf = true := by
  have hl := h.length
  obtain ⟨c0, c1, rfl⟩ : ∃ c0 c1, cs = [c0, c1] := by
    match cs, hl with
    | [c0, c1], _ => exact ⟨c0, c1, rfl⟩
  obtain ⟨x0, e0, y0⟩ := leaf_of h.1
  obtain ⟨x1, e1, y1⟩ := leaf_of h.2.1
  exact ⟨x0, x1, by rw [e0, e1], y0, y1⟩

set_option maxRecDepth 20000 in
set_option maxHeartbeats 8000000 in
theorem walk (a0_m : Ti.M) (a0_oa : Option Addr) (a0_ca : Nat) (a0_ob : Option Addr) (a0_cb : Nat) (a1_0 : Int) (a1_1 : Int) (a2_o : Option Addr) (a2_n a2_c : Nat) (a2_l : List (Wd.O)) (w1_0 : (Lit.int .u64 a1_0).wf = true) (w1_1 : (Lit.int .i64 a1_1).wf = true) (w2_m : a2_n ≤ maxLen) (w2_l : a2_n ≤ a2_c) (w2_e : a2_l.length = a2_n) (w2_k : ∀ a ∈ a2_l, AllOk [.int .i64, .int .i64, .int .i64, .int .u32, .int .i8, .int .i8, .bool, .int .u32, .int .u8] (woEnc a)) (w : World) (w0 : MapIn a0_m a0_oa a0_ca a0_ob a0_cb w) (w2 : RowOf 9 woEnc a2_o a2_l w) :
    Calls Tryz.prog 4 #[mapVal a0_m a0_oa a0_ca a0_ob a0_cb, .agg #[.int .u64 a1_0, .int .i64 a1_1], .slice a2_o a2_n a2_c] w fun e w' => e = .returned (.bool true) ∧ Below w.heap.size w w' := by
  have K := WdW.contracts
  have kA := WdL.awake_any K
  obtain ⟨nw, hnw⟩ : ∃ n, n = a0_m.ws.length := ⟨_, rfl⟩
  obtain ⟨ns, hns⟩ : ∃ n, n = a0_m.sp.length := ⟨_, rfl⟩
  have kf := fun u => WdL.few_any a0_m a0_oa a0_ca a0_ob a0_cb u
  unfold mapVal at kf ⊢
  rw [← hnw, ← hns] at kf ⊢
  obtain ⟨s, rfl, hs⟩ := wo_u64 w1_0
  have hn1 := wo_i64 w1_1
  unfold maxLen at w2_m
  obtain ⟨W0, hW0⟩ : ∃ W0, W0 = (w.alloc (.cells #[.int .i64 a0_m.W, .int .i64 a0_m.H, .slice a0_oa nw a0_ca, .slice a0_ob ns a0_cb] 25)).alloc (.cells #[.int .u64 (s : Int), .int .i64 a1_1] 28) := ⟨_, rfl⟩
  obtain ⟨B, hB⟩ : ∃ b, b = w.heap.size := ⟨_, rfl⟩
  obtain ⟨A, hA⟩ : ∃ b, b = w.heap.size + 1 := ⟨_, rfl⟩
  have hsz : W0.heap.size = w.heap.size + 2 := by rw [hW0]; simp
  have hT : Turned [] w W0 := by rw [hW0]; exact ((Turned.refl [] w).alloc _).alloc _
  have hS : Struct B [.int .i64 a0_m.W, .int .i64 a0_m.H, .slice a0_oa nw a0_ca, .slice a0_ob ns a0_cb] W0 := by
    have h0 := Struct.new w [.int .i64 a0_m.W, .int .i64 a0_m.H, .slice a0_oa nw a0_ca, .slice a0_ob ns a0_cb] 25
    rw [← hB] at h0
    rw [hW0]; exact (h0.keep ((Turned.refl [] _).alloc _) (by simp))
  have hE : Struct A [.int .u64 (s : Int), .int .i64 a1_1] W0 := by
    have h0 := Struct.new (w.alloc (.cells #[.int .i64 a0_m.W, .int .i64 a0_m.H, .slice a0_oa nw a0_ca, .slice a0_ob ns a0_cb] 25)) [.int .u64 (s : Int), .int .i64 a1_1] 28
    rw [show (w.alloc (.cells #[.int .i64 a0_m.W, .int .i64 a0_m.H, .slice a0_oa nw a0_ca, .slice a0_ob ns a0_cb] 25)).heap.size = w.heap.size + 1 by simp, ← hA] at h0
    rw [hW0]; exact h0
  have HT0 : Turned [] W0 W0 := Turned.refl _ _
  by_cases hfew : nw ≤ 400 ∧ ns ≤ 400
  · have hlb : a0_m.ws.length ≤ 1100 ∧ a0_m.sp.length ≤ 1100 := by rw [← hnw, ← hns]; omega
    have hM := (w0.at hlb.1 hlb.2).calm hT
    have hq : (decide (nw ≤ 400) && decide (ns ≤ 400)) = true := by simpa using hfew
    rw [hq] at kf
    by_cases hlen : (a2_n : Int) ≤ 60
    · have hlen' : ¬ 60 < (a2_n : Int) := by omega
      by_cases hok : Wd.newOk a0_m a1_1 = true
      · have kn := fun (u : World) (h : MapAt a0_m a0_oa a0_ob u) => WdL.new_told K (ca := a0_ca) (cb := a0_cb) hs hn1 hok h
        rw [← hnw, ← hns] at kn
        have HG0 : Hid (Wd.Gd (Wd.newW a0_m s a1_1)) := Wd.gd_new hs hlb hok
        have HE : Hid (a2_l.length = a2_n) := w2_e
        have HK : Hid (∀ a ∈ a2_l, a.wf) := fun a ha => wo_wf (w2_k a ha)
        clear hfew hq hnw hns hlb hok w2_e w2_k hs
        have HRG : Hid (∀ j, Wd.Gd ((Wd.run (Wd.newW a0_m s a1_1) a2_l) j)) := fun j => Wd.run_gd HG0.out HK.out j
        have HRT : Hid (∀ j : Nat, 0 ≤ ((Wd.run (Wd.newW a0_m s a1_1) a2_l) j).tick ∧ ((Wd.run (Wd.newW a0_m s a1_1) a2_l) j).tick ≤ (j : Int)) := fun j => Wd.run_tick WdL.newW_tick j
        go_enter Tryz.func4, Tryz.ntmps4
        go_wp2_with fail
        rw [← hW0, ← hA, ← hB]
        clear hW0 hsz hA hB
        go_wp2_with (first | (go_at_call 5; (with_reducible refine (kA _).mono ?_); rintro r u0 ⟨rfl, HT1⟩; have HT0 := HT0.trans HT1 (by simp); have hSn := hS.keep HT0 (by simp); have d0 := (hSn.2 0 _ rfl).1; have d1 := (hSn.2 1 _ rfl).1; have d2 := (hSn.2 2 _ rfl).1; have d3 := (hSn.2 3 _ rfl).1; have hEn := hE.keep HT0 (by simp); have c0 := (hEn.2 0 _ rfl).1; have c1 := (hEn.2 1 _ rfl).1) | (go_at_call 6; (with_reducible refine (kf _).mono ?_); rintro r u0 ⟨rfl, HT1⟩; have HT0 := HT0.trans HT1 (by simp); have hSn := hS.keep HT0 (by simp); have d0 := (hSn.2 0 _ rfl).1; have d1 := (hSn.2 1 _ rfl).1; have d2 := (hSn.2 2 _ rfl).1; have d3 := (hSn.2 3 _ rfl).1; have hEn := hE.keep HT0 (by simp); have c0 := (hEn.2 0 _ rfl).1; have c1 := (hEn.2 1 _ rfl).1) | (go_at_call 7; (with_reducible refine (kn _ (hM.calm HT0)).mono ?_); rintro r u0 ⟨V0, rfl, hV0, HT1⟩; have HT0 := HT0.trans HT1 (by simp); have hSn := hS.keep HT0 (by simp); have d0 := (hSn.2 0 _ rfl).1; have d1 := (hSn.2 1 _ rfl).1; have d2 := (hSn.2 2 _ rfl).1; have d3 := (hSn.2 3 _ rfl).1; have hEn := hE.keep HT0 (by simp); have c0 := (hEn.2 0 _ rfl).1; have c1 := (hEn.2 1 _ rfl).1) | (at_builtin; refine wp_push (v := .slice none 0 0) elem_wv rfl _ _ rfl rfl (l := []) (OwnL.nil _ _ _ _) _ 0 1 1 [V0] rfl rfl wvEnc_len wvEnc_one (wv_cells rfl (by simp) _) (by unfold maxLen; simp) (by simp) ?_; intro v2 w2x ho1 ht1 hb1))
        have hU0 : Turned [] W0 (u0.alloc (.cells #[.int .i64 V0.mw, .int .i64 V0.mh, .slice V0.oa V0.nw V0.ca, .slice V0.ob V0.ns V0.cb, .int .u64 V0.st, .int .i64 V0.tk, .slice V0.ol V0.nl V0.cl] 34)) := HT0.alloc _
        have hA0 : AllW (Wd.run (Wd.newW a0_m s a1_1) a2_l) W0 (.slice none 0 0) [] (u0.alloc (.cells #[.int .i64 V0.mw, .int .i64 V0.mh, .slice V0.oa V0.nw V0.ca, .slice V0.ob V0.ns V0.cb, .int .u64 V0.st, .int .i64 V0.tk, .slice V0.ol V0.nl V0.cl] 34)) := ⟨OwnL.nil _ _ _ _, fun b hb => (by rw [blk_nil] at hb; cases hb), fun j V hj => (by simp at hj), hU0⟩
        have hA0 := AllW.push hA0 ho1 ht1 hb1 (hV0.calm ((Turned.refl [] u0).alloc _)) (fun b _ => by rw [blk_nil]; simp)
        have hM := hM.calm (Turned.refl [] W0)
        clear d0 d1 d2 d3 c0 c1 hSn hEn HT1 hU0 ho1 ht1 hb1 hV0 HT0
        go_loopw [7, 10] (fun sv i wr => ∃ (k : Nat) (l : List WV) (v : Value), k ≤ a2_n ∧ i = .int .i64 (k : Int) ∧ sv = v ∧ l.length = k + 1 ∧ AllW (Wd.run (Wd.newW a0_m s a1_1) a2_l) W0 v l wr) (fun _ i _ => a2_n - (intOf i).toNat)
        case atStart => exact ⟨0, [V0], _, by omega, rfl, rfl, rfl, hA0⟩
        case round =>
          clear hA0
          obtain ⟨k, l, v, hk, rfl, rfl, hlen, hA⟩ := hrel
          have hTw1 : Turned [] w wr := hT.trans hA.turned (by simp)
          obtain ⟨V, hVl⟩ : ∃ V, l[k]? = some V := ⟨_, List.getElem?_eq_getElem (by omega)⟩
          obtain ⟨g3, cap3, rfl, hblk, hg3, hc3⟩ := hA.own.cell wvEnc_len hVl
          obtain ⟨k1, hk1⟩ : ∃ n, n = k + 1 := ⟨_, rfl⟩
          rw [hlen, ← hk1] at hA hblk ⊢
          have HK1 : Hid (k1 = k + 1) := hk1
          have hki : (k : Int) < (k1 : Int) := by omega
          clear hk1
          have HLN : Hid (l.length = k + 1) := hlen
          by_cases hlt : (k : Int) < (a2_n : Int)
          · obtain ⟨W, hW⟩ : ∃ W, W = (Wd.run (Wd.newW a0_m s a1_1) a2_l) k := ⟨_, rfl⟩
            have hEa := hA.each k V hVl
            rw [← hW] at hEa
            obtain ⟨hV2, hVb⟩ := hEa
            have hG : Wd.Gd W := by rw [hW]; exact HRG.out k
            have ht : 0 ≤ W.tick ∧ W.tick ≤ (k : Int) := by rw [hW]; exact HRT.out k
            obtain ⟨o, ho⟩ : ∃ o, a2_l[k]? = some o := ⟨_, List.getElem?_eq_getElem (by have := HE.out; omega)⟩
            have how := HK.out _ (List.mem_of_getElem? ho)
            obtain ⟨g, off, rfl, hg, hc⟩ := (w2.turned hTw1 (by simp)) k _ ho
            have p0 : wr.cell? ⟨g, off + k * 9, none⟩ = some (.int .i64 o.k) := hc 0 _ rfl
            have p1 : wr.cell? ⟨g, off + k * 9 + 1, none⟩ = some (.int .i64 o.id) := hc 1 _ rfl
            have p2 : wr.cell? ⟨g, off + k * 9 + 2, none⟩ = some (.int .i64 o.b) := hc 2 _ rfl
            have p3 : wr.cell? ⟨g, off + k * 9 + 3, none⟩ = some (.int .u32 (o.c.n : Int)) := hc 3 _ rfl
            have p4 : wr.cell? ⟨g, off + k * 9 + 4, none⟩ = some (.int .i8 o.c.x) := hc 4 _ rfl
            have p5 : wr.cell? ⟨g, off + k * 9 + 5, none⟩ = some (.int .i8 o.c.y) := hc 5 _ rfl
            have p6 : wr.cell? ⟨g, off + k * 9 + 6, none⟩ = some (.bool o.c.f) := hc 6 _ rfl
            have p7 : wr.cell? ⟨g, off + k * 9 + 7, none⟩ = some (.int .u32 (o.c.v : Int)) := hc 7 _ rfl
            have p8 : wr.cell? ⟨g, off + k * 9 + 8, none⟩ = some (.int .u8 (o.c.q : Int)) := hc 8 _ rfl
            have ka := fun (u : World) (h : Turned [] wr u) => WdL.act_any K W V o hG how (by omega) u (hV2.calm h)
            have HGx : Hid (Wd.Gd (Wd.act W o)) := Wd.gd_act hG how
            have HTx : Hid (0 ≤ (Wd.act W o).tick ∧ (Wd.act W o).tick ≤ (k : Int) + 1) := Wd.act_tick ht
            have HO : Hid (a2_l[k]? = some o) := ho
            have HW : Hid (W = (Wd.run (Wd.newW a0_m s a1_1) a2_l) k) := hW
            have x0 : wr.cell? ⟨g3, k * 7, none⟩ = some (.int .i64 V.mw) := (hc3 0 _ rfl).1
            have x1 : wr.cell? ⟨g3, k * 7 + 1, none⟩ = some (.int .i64 V.mh) := (hc3 1 _ rfl).1
            have x2 : wr.cell? ⟨g3, k * 7 + 2, none⟩ = some (.slice V.oa V.nw V.ca) := (hc3 2 _ rfl).1
            have x3 : wr.cell? ⟨g3, k * 7 + 3, none⟩ = some (.slice V.ob V.ns V.cb) := (hc3 3 _ rfl).1
            have x4 : wr.cell? ⟨g3, k * 7 + 4, none⟩ = some (.int .u64 V.st) := (hc3 4 _ rfl).1
            have x5 : wr.cell? ⟨g3, k * 7 + 5, none⟩ = some (.int .i64 V.tk) := (hc3 5 _ rfl).1
            have x6 : wr.cell? ⟨g3, k * 7 + 6, none⟩ = some (.slice V.ol V.nl V.cl) := (hc3 6 _ rfl).1
            clear hc ho how hW hc3 hVl hlen
            go_wp2_with fail
            have hSof : ∀ u, Turned [] wr u → (fun u => (u.cell? ⟨g3, k * 7, none⟩ = some (.int .i64 V.mw) ∧ u.cell? ⟨g3, k * 7 + 1, none⟩ = some (.int .i64 V.mh) ∧ u.cell? ⟨g3, k * 7 + 2, none⟩ = some (.slice V.oa V.nw V.ca) ∧ u.cell? ⟨g3, k * 7 + 3, none⟩ = some (.slice V.ob V.ns V.cb) ∧ u.cell? ⟨g3, k * 7 + 4, none⟩ = some (.int .u64 V.st) ∧ u.cell? ⟨g3, k * 7 + 5, none⟩ = some (.int .i64 V.tk) ∧ u.cell? ⟨g3, k * 7 + 6, none⟩ = some (.slice V.ol V.nl V.cl)) ∧ (u.cell? ⟨g, off + k * 9, none⟩ = some (.int .i64 o.k) ∧ u.cell? ⟨g, off + k * 9 + 1, none⟩ = some (.int .i64 o.id) ∧ u.cell? ⟨g, off + k * 9 + 2, none⟩ = some (.int .i64 o.b) ∧ u.cell? ⟨g, off + k * 9 + 3, none⟩ = some (.int .u32 (o.c.n : Int)) ∧ u.cell? ⟨g, off + k * 9 + 4, none⟩ = some (.int .i8 o.c.x) ∧ u.cell? ⟨g, off + k * 9 + 5, none⟩ = some (.int .i8 o.c.y) ∧ u.cell? ⟨g, off + k * 9 + 6, none⟩ = some (.bool o.c.f) ∧ u.cell? ⟨g, off + k * 9 + 7, none⟩ = some (.int .u32 (o.c.v : Int)) ∧ u.cell? ⟨g, off + k * 9 + 8, none⟩ = some (.int .u8 (o.c.q : Int))) ∧ Turned [] wr u) u := fun u h => ⟨⟨(h.cell (p := ⟨g3, k * 7, none⟩) hg3 (by simp)).trans x0, (h.cell (p := ⟨g3, k * 7 + 1, none⟩) hg3 (by simp)).trans x1, (h.cell (p := ⟨g3, k * 7 + 2, none⟩) hg3 (by simp)).trans x2, (h.cell (p := ⟨g3, k * 7 + 3, none⟩) hg3 (by simp)).trans x3, (h.cell (p := ⟨g3, k * 7 + 4, none⟩) hg3 (by simp)).trans x4, (h.cell (p := ⟨g3, k * 7 + 5, none⟩) hg3 (by simp)).trans x5, (h.cell (p := ⟨g3, k * 7 + 6, none⟩) hg3 (by simp)).trans x6⟩, ⟨(h.cell (p := ⟨g, off + k * 9, none⟩) hg (by simp)).trans p0, (h.cell (p := ⟨g, off + k * 9 + 1, none⟩) hg (by simp)).trans p1, (h.cell (p := ⟨g, off + k * 9 + 2, none⟩) hg (by simp)).trans p2, (h.cell (p := ⟨g, off + k * 9 + 3, none⟩) hg (by simp)).trans p3, (h.cell (p := ⟨g, off + k * 9 + 4, none⟩) hg (by simp)).trans p4, (h.cell (p := ⟨g, off + k * 9 + 5, none⟩) hg (by simp)).trans p5, (h.cell (p := ⟨g, off + k * 9 + 6, none⟩) hg (by simp)).trans p6, (h.cell (p := ⟨g, off + k * 9 + 7, none⟩) hg (by simp)).trans p7, (h.cell (p := ⟨g, off + k * 9 + 8, none⟩) hg (by simp)).trans p8⟩, h⟩
            have hTof : ∀ u, (fun u => (u.cell? ⟨g3, k * 7, none⟩ = some (.int .i64 V.mw) ∧ u.cell? ⟨g3, k * 7 + 1, none⟩ = some (.int .i64 V.mh) ∧ u.cell? ⟨g3, k * 7 + 2, none⟩ = some (.slice V.oa V.nw V.ca) ∧ u.cell? ⟨g3, k * 7 + 3, none⟩ = some (.slice V.ob V.ns V.cb) ∧ u.cell? ⟨g3, k * 7 + 4, none⟩ = some (.int .u64 V.st) ∧ u.cell? ⟨g3, k * 7 + 5, none⟩ = some (.int .i64 V.tk) ∧ u.cell? ⟨g3, k * 7 + 6, none⟩ = some (.slice V.ol V.nl V.cl)) ∧ (u.cell? ⟨g, off + k * 9, none⟩ = some (.int .i64 o.k) ∧ u.cell? ⟨g, off + k * 9 + 1, none⟩ = some (.int .i64 o.id) ∧ u.cell? ⟨g, off + k * 9 + 2, none⟩ = some (.int .i64 o.b) ∧ u.cell? ⟨g, off + k * 9 + 3, none⟩ = some (.int .u32 (o.c.n : Int)) ∧ u.cell? ⟨g, off + k * 9 + 4, none⟩ = some (.int .i8 o.c.x) ∧ u.cell? ⟨g, off + k * 9 + 5, none⟩ = some (.int .i8 o.c.y) ∧ u.cell? ⟨g, off + k * 9 + 6, none⟩ = some (.bool o.c.f) ∧ u.cell? ⟨g, off + k * 9 + 7, none⟩ = some (.int .u32 (o.c.v : Int)) ∧ u.cell? ⟨g, off + k * 9 + 8, none⟩ = some (.int .u8 (o.c.q : Int))) ∧ Turned [] wr u) u → Turned [] wr u := fun u h => h.2.2
            go_region_held3 (fun u => (u.cell? ⟨g3, k * 7, none⟩ = some (.int .i64 V.mw) ∧ u.cell? ⟨g3, k * 7 + 1, none⟩ = some (.int .i64 V.mh) ∧ u.cell? ⟨g3, k * 7 + 2, none⟩ = some (.slice V.oa V.nw V.ca) ∧ u.cell? ⟨g3, k * 7 + 3, none⟩ = some (.slice V.ob V.ns V.cb) ∧ u.cell? ⟨g3, k * 7 + 4, none⟩ = some (.int .u64 V.st) ∧ u.cell? ⟨g3, k * 7 + 5, none⟩ = some (.int .i64 V.tk) ∧ u.cell? ⟨g3, k * 7 + 6, none⟩ = some (.slice V.ol V.nl V.cl)) ∧ (u.cell? ⟨g, off + k * 9, none⟩ = some (.int .i64 o.k) ∧ u.cell? ⟨g, off + k * 9 + 1, none⟩ = some (.int .i64 o.id) ∧ u.cell? ⟨g, off + k * 9 + 2, none⟩ = some (.int .i64 o.b) ∧ u.cell? ⟨g, off + k * 9 + 3, none⟩ = some (.int .u32 (o.c.n : Int)) ∧ u.cell? ⟨g, off + k * 9 + 4, none⟩ = some (.int .i8 o.c.x) ∧ u.cell? ⟨g, off + k * 9 + 5, none⟩ = some (.int .i8 o.c.y) ∧ u.cell? ⟨g, off + k * 9 + 6, none⟩ = some (.bool o.c.f) ∧ u.cell? ⟨g, off + k * 9 + 7, none⟩ = some (.int .u32 (o.c.v : Int)) ∧ u.cell? ⟨g, off + k * 9 + 8, none⟩ = some (.int .u8 (o.c.q : Int))) ∧ Turned [] wr u)
              (first | with_reducible assumption | ((with_reducible refine hSof _ ?_); (repeat (first | with_reducible assumption | with_reducible exact hTof _ (by with_reducible assumption) | with_reducible exact Turned.refl [] wr | with_reducible refine Turned.drew ?_ | with_reducible refine Turned.alloc ?_ _ | with_reducible refine turned7 ?_ (.inr (by first | with_reducible exact Nat.le_refl _ | with_reducible exact HT3.size)) V1))))
              (first | (go_at_call 8; (with_reducible refine (ka _ (by (repeat (first | with_reducible assumption | with_reducible exact hTof _ (by with_reducible assumption) | with_reducible exact Turned.refl [] wr | with_reducible refine Turned.drew ?_ | with_reducible refine Turned.alloc ?_ _ | with_reducible refine turned7 ?_ (.inr (by first | with_reducible exact Nat.le_refl _ | with_reducible exact HT3.size)) V1)))).mono ?_); rintro r u1 ⟨V1, rfl, hV1, hA1, HT2⟩; have HT3 : Turned [] wr u1 := (Turned.trans (S' := []) (by (repeat (first | with_reducible assumption | with_reducible exact hTof _ (by with_reducible assumption) | with_reducible exact Turned.refl [] wr | with_reducible refine Turned.drew ?_ | with_reducible refine Turned.alloc ?_ _ | with_reducible refine turned7 ?_ (.inr (by first | with_reducible exact Nat.le_refl _ | with_reducible exact HT3.size)) V1))) HT2 (by simp)); (first | (have hZ := (Struct.new wr [.int .i64 0, .int .i64 0, .slice none 0 0, .slice none 0 0, .int .u64 0, .int .i64 0, .slice none 0 0] 34).keep (S := []) (by first | with_reducible exact HT2 | with_reducible exact ((Turned.refl [] _).drew).trans HT2 (by simp)) (by simp); have z0 : u1.cell? ⟨_, 0, none⟩ = some (.int .i64 0) := (hZ.2 0 _ rfl).1; have y0 : u1.frozen? ⟨_, 0, none⟩ = false := (hZ.2 0 _ rfl).2; have z1 : u1.cell? ⟨_, 1, none⟩ = some (.int .i64 0) := (hZ.2 1 _ rfl).1; have y1 : u1.frozen? ⟨_, 1, none⟩ = false := (hZ.2 1 _ rfl).2; have z2 : u1.cell? ⟨_, 2, none⟩ = some (.slice none 0 0) := (hZ.2 2 _ rfl).1; have y2 : u1.frozen? ⟨_, 2, none⟩ = false := (hZ.2 2 _ rfl).2; have z3 : u1.cell? ⟨_, 3, none⟩ = some (.slice none 0 0) := (hZ.2 3 _ rfl).1; have y3 : u1.frozen? ⟨_, 3, none⟩ = false := (hZ.2 3 _ rfl).2; have z4 : u1.cell? ⟨_, 4, none⟩ = some (.int .u64 0) := (hZ.2 4 _ rfl).1; have y4 : u1.frozen? ⟨_, 4, none⟩ = false := (hZ.2 4 _ rfl).2; have z5 : u1.cell? ⟨_, 5, none⟩ = some (.int .i64 0) := (hZ.2 5 _ rfl).1; have y5 : u1.frozen? ⟨_, 5, none⟩ = false := (hZ.2 5 _ rfl).2; have z6 : u1.cell? ⟨_, 6, none⟩ = some (.slice none 0 0) := (hZ.2 6 _ rfl).1; have y6 : u1.frozen? ⟨_, 6, none⟩ = false := (hZ.2 6 _ rfl).2) | (have hZ := (Struct.new wr.drew [.int .i64 0, .int .i64 0, .slice none 0 0, .slice none 0 0, .int .u64 0, .int .i64 0, .slice none 0 0] 34).keep (S := []) (by first | with_reducible exact HT2 | with_reducible exact ((Turned.refl [] _).drew).trans HT2 (by simp)) (by simp); have z0 : u1.cell? ⟨_, 0, none⟩ = some (.int .i64 0) := (hZ.2 0 _ rfl).1; have y0 : u1.frozen? ⟨_, 0, none⟩ = false := (hZ.2 0 _ rfl).2; have z1 : u1.cell? ⟨_, 1, none⟩ = some (.int .i64 0) := (hZ.2 1 _ rfl).1; have y1 : u1.frozen? ⟨_, 1, none⟩ = false := (hZ.2 1 _ rfl).2; have z2 : u1.cell? ⟨_, 2, none⟩ = some (.slice none 0 0) := (hZ.2 2 _ rfl).1; have y2 : u1.frozen? ⟨_, 2, none⟩ = false := (hZ.2 2 _ rfl).2; have z3 : u1.cell? ⟨_, 3, none⟩ = some (.slice none 0 0) := (hZ.2 3 _ rfl).1; have y3 : u1.frozen? ⟨_, 3, none⟩ = false := (hZ.2 3 _ rfl).2; have z4 : u1.cell? ⟨_, 4, none⟩ = some (.int .u64 0) := (hZ.2 4 _ rfl).1; have y4 : u1.frozen? ⟨_, 4, none⟩ = false := (hZ.2 4 _ rfl).2; have z5 : u1.cell? ⟨_, 5, none⟩ = some (.int .i64 0) := (hZ.2 5 _ rfl).1; have y5 : u1.frozen? ⟨_, 5, none⟩ = false := (hZ.2 5 _ rfl).2; have z6 : u1.cell? ⟨_, 6, none⟩ = some (.slice none 0 0) := (hZ.2 6 _ rfl).1; have y6 : u1.frozen? ⟨_, 6, none⟩ = false := (hZ.2 6 _ rfl).2) | skip)))
            all_goals (first
              | (obtain ⟨Y, hY⟩ : ∃ Y, Y = put7 u1 wr.heap.size V1 := ⟨_, rfl⟩; obtain ⟨X, hX⟩ : ∃ b, b = wr.heap.size := ⟨_, rfl⟩; have hXY : Struct X (wvEnc V1) Y := (by rw [hY, hX]; exact set7 hZ rfl V1); have hTY : Turned [] wr Y := (by rw [hY]; exact turned7 HT3 (.inr (Nat.le_refl _)) V1); have hVY : Tells (Wd.act W o) V1 Y := (by refine hV1.turned (S := [X]) (by rw [hY, hX]; exact turned7 (Turned.refl _ _) (.inl (by simp)) V1) (fun j hj => ?_); simp; rintro rfl; rcases hA1 _ hj with h | h; (· have := hV2.lt h; omega); (· simp at h; omega)); simp only [put7] at hY; rw [← hY, ← hX]; clear hY hX)
              | (obtain ⟨Y, hY⟩ : ∃ Y, Y = u1.alloc (.cells #[.int .i64 V1.mw, .int .i64 V1.mh, .slice V1.oa V1.nw V1.ca, .slice V1.ob V1.ns V1.cb, .int .u64 V1.st, .int .i64 V1.tk, .slice V1.ol V1.nl V1.cl] 34) := ⟨_, rfl⟩; obtain ⟨X, hX⟩ : ∃ b, b = u1.heap.size := ⟨_, rfl⟩; have hXY : Struct X (wvEnc V1) Y := (by rw [hY, hX]; exact Struct.new u1 (wvEnc V1) _); have hTY : Turned [] wr Y := (by rw [hY]; exact HT3.alloc _); have hVY : Tells (Wd.act W o) V1 Y := (by rw [hY]; exact hV1.calm ((Turned.refl [] u1).alloc _)); rw [← hY, ← hX]; clear hY hX))
            all_goals
              clear x0 x1 x2 x3 x4 x5 x6
              have x0 := (hXY.2 0 _ rfl).1
              have x1 := (hXY.2 1 _ rfl).1
              have x2 := (hXY.2 2 _ rfl).1
              have x3 := (hXY.2 3 _ rfl).1
              have x4 := (hXY.2 4 _ rfl).1
              have x5 := (hXY.2 5 _ rfl).1
              have x6 := (hXY.2 6 _ rfl).1
              have hAY := hA.calm hTY
              go_wp2_with (first | (at_builtin; refine wp_push (v := .slice (some ⟨g3, 0, none⟩) k1 cap3) elem_wv rfl _ _ rfl rfl (l := l) (hAY.own.keep ((Turned.refl [] Y).alloc _) (by simp)) _ 0 1 1 [V1] rfl rfl wvEnc_len wvEnc_one (wv_cells rfl (by simp) _) (by rw [HLN.out]; unfold maxLen; omega) (by rw [HLN.out]; omega) ?_; intro v2 w2x ho1 ht1 hb1))
              have hVn : Tells ((Wd.run (Wd.newW a0_m s a1_1) a2_l) l.length) V1 Y := by rw [HLN.out, Wd.run_step HO.out, ← HW.out]; exact hVY
              have hAP := AllW.push hAY ho1 ht1 hb1 hVn (fun b hb => by
                rcases hA1 b hb with h | h
                · exact hVb b h
                · simp at h; rw [hblk]; simp; omega)
              go_roundw
              case rel => exact ⟨k + 1, l ++ [V1], _, by omega, by go_num, rfl, by rw [List.length_append, HLN.out]; rfl, hAP⟩
              case measure => simp [intOf]; omega
          · have hkn : a2_n = k := by omega
            subst hkn
            have hSx := hS.keep hA.turned (by simp)
            have hEx := hE.keep hA.turned (by simp)
            have d0 := (hSx.2 0 _ rfl).1
            have d1 := (hSx.2 1 _ rfl).1
            have d2 := (hSx.2 2 _ rfl).1
            have d3 := (hSx.2 3 _ rfl).1
            have c0 := (hEx.2 0 _ rfl).1
            have c1 := (hEx.2 1 _ rfl).1
            clear hVl hc3 hlt
            go_wp2_with (go_at_call 7; (with_reducible refine (kn _ (hM.calm hA.turned)).mono ?_); rintro r u1 ⟨V5, rfl, hV5, HT5⟩)
            obtain ⟨Y5, hY⟩ : ∃ Y, Y = u1.alloc (.cells #[.int .i64 V5.mw, .int .i64 V5.mh, .slice V5.oa V5.nw V5.ca, .slice V5.ob V5.ns V5.cb, .int .u64 V5.st, .int .i64 V5.tk, .slice V5.ol V5.nl V5.cl] 34) := ⟨_, rfl⟩
            obtain ⟨C, hC⟩ : ∃ b, b = u1.heap.size := ⟨_, rfl⟩
            have hCY : Struct C (wvEnc V5) Y5 := by rw [hY, hC]; exact Struct.new u1 (wvEnc V5) _
            have hTY5 : Turned [] wr Y5 := by rw [hY]; exact HT5.alloc _
            have hV6 : Tells ((Wd.run (Wd.newW a0_m s a1_1) a2_l) 0) V5 Y5 := by rw [hY]; exact hV5.calm ((Turned.refl [] u1).alloc _)
            have hCn : C ∉ blk (.slice (some ⟨g3, 0, none⟩) k1 cap3) := fun h => by have := hA.own.lt C h; have := HT5.size; omega
            have hCl : ∀ (j : Nat) (V : WV), l[j]? = some V → ¬ V.At C := fun j V hj h => by have := (hA.each j V hj).1.lt h; have := HT5.size; omega
            have hC5 : ¬ V5.At C := fun h => by have := hV5.lt h; omega
            have hCw : W0.heap.size ≤ C := by have := hA.turned.size; have := HT5.size; omega
            have hA5 := hA.calm hTY5
            rw [← hY, ← hC]
            clear hY hC hV5 HT5 hTY5 hSx hEx d0 d1 d2 d3 c0 c1 hA hTw1 hki hlen hblk hg3 kn hM
            go_loopw [15] (fun i wr => ∃ (k : Nat) (V : WV), k ≤ a2_n + 1 ∧ i = .int .i64 (k : Int) ∧ Struct C (wvEnc V) wr ∧ Tells ((Wd.run (Wd.newW a0_m s a1_1) a2_l) (min k a2_n)) V wr ∧ ¬ V.At C ∧ AllW (Wd.run (Wd.newW a0_m s a1_1) a2_l) W0 (.slice (some ⟨g3, 0, none⟩) k1 cap3) l wr) (fun i _ => a2_n + 1 - (intOf i).toNat)
            case atStart => exact ⟨0, V5, by omega, rfl, hCY, by rw [Nat.zero_min]; exact hV6, hC5, hA5⟩
            case round =>
              clear hCY hV6 hC5 hA5
              obtain ⟨k, V, hk, rfl, hC2, hVm, hVC, hA⟩ := hrel
              by_cases hkl : (k : Int) < (k1 : Int)
              · have hkn : k ≤ a2_n := by have := HK1.out; omega
                rw [Nat.min_eq_left hkn] at hVm
                have hV2 : Tells ((Wd.run (Wd.newW a0_m s a1_1) a2_l) k) V wr := hVm
                clear hVm
                obtain ⟨Vk, hVl⟩ : ∃ V, l[k]? = some V := ⟨_, List.getElem?_eq_getElem (by have := HLN.out; omega)⟩
                obtain ⟨g4, cap4, he, hblk, hg3, hc3⟩ := hA.own.cell wvEnc_len hVl
                simp at he
                obtain ⟨rfl, hz1, hz2⟩ := he
                clear hz1 hz2
                have ne : Nonempty (KeptW wr) := KeptW.one wr
                have x0 : ∀ (z : KeptW wr), z.u.cell? ⟨g3, k * 7, none⟩ = some (.int .i64 Vk.mw) := KeptW.at hg3 (hc3 0 _ rfl).1
                have y0 := KeptW.at hC2.1 (hC2.2 0 _ rfl).1
                have x1 : ∀ (z : KeptW wr), z.u.cell? ⟨g3, k * 7 + 1, none⟩ = some (.int .i64 Vk.mh) := KeptW.at hg3 (hc3 1 _ rfl).1
                have y1 := KeptW.at hC2.1 (hC2.2 1 _ rfl).1
                have x2 : ∀ (z : KeptW wr), z.u.cell? ⟨g3, k * 7 + 2, none⟩ = some (.slice Vk.oa Vk.nw Vk.ca) := KeptW.at hg3 (hc3 2 _ rfl).1
                have y2 := KeptW.at hC2.1 (hC2.2 2 _ rfl).1
                have x3 : ∀ (z : KeptW wr), z.u.cell? ⟨g3, k * 7 + 3, none⟩ = some (.slice Vk.ob Vk.ns Vk.cb) := KeptW.at hg3 (hc3 3 _ rfl).1
                have y3 := KeptW.at hC2.1 (hC2.2 3 _ rfl).1
                have x4 : ∀ (z : KeptW wr), z.u.cell? ⟨g3, k * 7 + 4, none⟩ = some (.int .u64 Vk.st) := KeptW.at hg3 (hc3 4 _ rfl).1
                have y4 := KeptW.at hC2.1 (hC2.2 4 _ rfl).1
                have x5 : ∀ (z : KeptW wr), z.u.cell? ⟨g3, k * 7 + 5, none⟩ = some (.int .i64 Vk.tk) := KeptW.at hg3 (hc3 5 _ rfl).1
                have y5 := KeptW.at hC2.1 (hC2.2 5 _ rfl).1
                have x6 : ∀ (z : KeptW wr), z.u.cell? ⟨g3, k * 7 + 6, none⟩ = some (.slice Vk.ol Vk.nl Vk.cl) := KeptW.at hg3 (hc3 6 _ rfl).1
                have y6 := KeptW.at hC2.1 (hC2.2 6 _ rfl).1
                have hSame := fun (v : KeptW wr) => kept_call ((WdW.contractsS.same ((Wd.run (Wd.newW a0_m s a1_1) a2_l) k) Vk V (HRG.out k) v.u ((hA.each k Vk hVl).1.calm (Turned.ofBelow v.h)) (hV2.calm (Turned.ofBelow v.h))).mono fun r w' h => ⟨h.1, h.2.none⟩)
                clear hVl hc3
                go_wp2_with fail
                refine wp_region_kept (by kernel_rfl) (by kernel_rfl) ?_
                repeat (go_big_quiet_step (first | (go_at_call 11; with_reducible exact hSame _)))
                refine wpQuiet_nil ?_
                rintro _ ⟨v, rfl⟩
                have hTv : Turned [] wr v.u := Turned.ofBelow v.h
                have hC2 := hC2.keep hTv (by simp)
                have hV2 := hV2.calm hTv
                have hA := hA.calm hTv
                clear hTv x0 y0 x1 y1 x2 y2 x3 y3 x4 y4 x5 y5 x6 y6 hSame ne
                obtain ⟨wr, hu⟩ : ∃ u, u = v.u := ⟨_, rfl⟩
                rw [← hu] at hC2 hV2 hA ⊢
                clear hu
                by_cases hlt : (k : Int) < (a2_n : Int)
                · obtain ⟨W, hW⟩ : ∃ W, W = (Wd.run (Wd.newW a0_m s a1_1) a2_l) k := ⟨_, rfl⟩
                  rw [← hW] at hV2
                  have hG : Wd.Gd W := by rw [hW]; exact HRG.out k
                  have ht : 0 ≤ W.tick ∧ W.tick ≤ (k : Int) := by rw [hW]; exact HRT.out k
                  have hTw1 : Turned [] w wr := hT.trans hA.turned (by simp)
                  obtain ⟨o, ho⟩ : ∃ o, a2_l[k]? = some o := ⟨_, List.getElem?_eq_getElem (by have := HE.out; omega)⟩
                  have how := HK.out _ (List.mem_of_getElem? ho)
                  obtain ⟨g, off, rfl, hg, hc⟩ := (w2.turned hTw1 (by simp)) k _ ho
                  have p0 : wr.cell? ⟨g, off + k * 9, none⟩ = some (.int .i64 o.k) := hc 0 _ rfl
                  have p1 : wr.cell? ⟨g, off + k * 9 + 1, none⟩ = some (.int .i64 o.id) := hc 1 _ rfl
                  have p2 : wr.cell? ⟨g, off + k * 9 + 2, none⟩ = some (.int .i64 o.b) := hc 2 _ rfl
                  have p3 : wr.cell? ⟨g, off + k * 9 + 3, none⟩ = some (.int .u32 (o.c.n : Int)) := hc 3 _ rfl
                  have p4 : wr.cell? ⟨g, off + k * 9 + 4, none⟩ = some (.int .i8 o.c.x) := hc 4 _ rfl
                  have p5 : wr.cell? ⟨g, off + k * 9 + 5, none⟩ = some (.int .i8 o.c.y) := hc 5 _ rfl
                  have p6 : wr.cell? ⟨g, off + k * 9 + 6, none⟩ = some (.bool o.c.f) := hc 6 _ rfl
                  have p7 : wr.cell? ⟨g, off + k * 9 + 7, none⟩ = some (.int .u32 (o.c.v : Int)) := hc 7 _ rfl
                  have p8 : wr.cell? ⟨g, off + k * 9 + 8, none⟩ = some (.int .u8 (o.c.q : Int)) := hc 8 _ rfl
                  have ka := fun (u : World) (h : Turned [] wr u) => WdL.act_any K W V o hG how (by omega) u (hV2.calm h)
                  have HGx : Hid (Wd.Gd (Wd.act W o)) := Wd.gd_act hG how
                  have HTx : Hid (0 ≤ (Wd.act W o).tick ∧ (Wd.act W o).tick ≤ (k : Int) + 1) := Wd.act_tick ht
                  have HO : Hid (a2_l[k]? = some o) := ho
                  have HW : Hid (W = (Wd.run (Wd.newW a0_m s a1_1) a2_l) k) := hW
                  clear hc ho how hW
                  have b0 := (hC2.2 0 _ rfl).1
                  have f0 := (hC2.2 0 _ rfl).2
                  have b1 := (hC2.2 1 _ rfl).1
                  have f1 := (hC2.2 1 _ rfl).2
                  have b2 := (hC2.2 2 _ rfl).1
                  have f2 := (hC2.2 2 _ rfl).2
                  have b3 := (hC2.2 3 _ rfl).1
                  have f3 := (hC2.2 3 _ rfl).2
                  have b4 := (hC2.2 4 _ rfl).1
                  have f4 := (hC2.2 4 _ rfl).2
                  have b5 := (hC2.2 5 _ rfl).1
                  have f5 := (hC2.2 5 _ rfl).2
                  have b6 := (hC2.2 6 _ rfl).1
                  have f6 := (hC2.2 6 _ rfl).2
                  go_wp2_with fail
                  have hSof : ∀ u, Turned [] wr u → (fun u => (u.cell? ⟨C, 0, none⟩ = some (.int .i64 V.mw) ∧ u.cell? ⟨C, 1, none⟩ = some (.int .i64 V.mh) ∧ u.cell? ⟨C, 2, none⟩ = some (.slice V.oa V.nw V.ca) ∧ u.cell? ⟨C, 3, none⟩ = some (.slice V.ob V.ns V.cb) ∧ u.cell? ⟨C, 4, none⟩ = some (.int .u64 V.st) ∧ u.cell? ⟨C, 5, none⟩ = some (.int .i64 V.tk) ∧ u.cell? ⟨C, 6, none⟩ = some (.slice V.ol V.nl V.cl)) ∧ (u.cell? ⟨g, off + k * 9, none⟩ = some (.int .i64 o.k) ∧ u.cell? ⟨g, off + k * 9 + 1, none⟩ = some (.int .i64 o.id) ∧ u.cell? ⟨g, off + k * 9 + 2, none⟩ = some (.int .i64 o.b) ∧ u.cell? ⟨g, off + k * 9 + 3, none⟩ = some (.int .u32 (o.c.n : Int)) ∧ u.cell? ⟨g, off + k * 9 + 4, none⟩ = some (.int .i8 o.c.x) ∧ u.cell? ⟨g, off + k * 9 + 5, none⟩ = some (.int .i8 o.c.y) ∧ u.cell? ⟨g, off + k * 9 + 6, none⟩ = some (.bool o.c.f) ∧ u.cell? ⟨g, off + k * 9 + 7, none⟩ = some (.int .u32 (o.c.v : Int)) ∧ u.cell? ⟨g, off + k * 9 + 8, none⟩ = some (.int .u8 (o.c.q : Int))) ∧ Turned [] wr u) u := fun u h => ⟨⟨((hC2.keep h (by simp)).2 0 _ rfl).1, ((hC2.keep h (by simp)).2 1 _ rfl).1, ((hC2.keep h (by simp)).2 2 _ rfl).1, ((hC2.keep h (by simp)).2 3 _ rfl).1, ((hC2.keep h (by simp)).2 4 _ rfl).1, ((hC2.keep h (by simp)).2 5 _ rfl).1, ((hC2.keep h (by simp)).2 6 _ rfl).1⟩, ⟨(h.cell (p := ⟨g, off + k * 9, none⟩) hg (by simp)).trans p0, (h.cell (p := ⟨g, off + k * 9 + 1, none⟩) hg (by simp)).trans p1, (h.cell (p := ⟨g, off + k * 9 + 2, none⟩) hg (by simp)).trans p2, (h.cell (p := ⟨g, off + k * 9 + 3, none⟩) hg (by simp)).trans p3, (h.cell (p := ⟨g, off + k * 9 + 4, none⟩) hg (by simp)).trans p4, (h.cell (p := ⟨g, off + k * 9 + 5, none⟩) hg (by simp)).trans p5, (h.cell (p := ⟨g, off + k * 9 + 6, none⟩) hg (by simp)).trans p6, (h.cell (p := ⟨g, off + k * 9 + 7, none⟩) hg (by simp)).trans p7, (h.cell (p := ⟨g, off + k * 9 + 8, none⟩) hg (by simp)).trans p8⟩, h⟩
                  have hTof : ∀ u, (fun u => (u.cell? ⟨C, 0, none⟩ = some (.int .i64 V.mw) ∧ u.cell? ⟨C, 1, none⟩ = some (.int .i64 V.mh) ∧ u.cell? ⟨C, 2, none⟩ = some (.slice V.oa V.nw V.ca) ∧ u.cell? ⟨C, 3, none⟩ = some (.slice V.ob V.ns V.cb) ∧ u.cell? ⟨C, 4, none⟩ = some (.int .u64 V.st) ∧ u.cell? ⟨C, 5, none⟩ = some (.int .i64 V.tk) ∧ u.cell? ⟨C, 6, none⟩ = some (.slice V.ol V.nl V.cl)) ∧ (u.cell? ⟨g, off + k * 9, none⟩ = some (.int .i64 o.k) ∧ u.cell? ⟨g, off + k * 9 + 1, none⟩ = some (.int .i64 o.id) ∧ u.cell? ⟨g, off + k * 9 + 2, none⟩ = some (.int .i64 o.b) ∧ u.cell? ⟨g, off + k * 9 + 3, none⟩ = some (.int .u32 (o.c.n : Int)) ∧ u.cell? ⟨g, off + k * 9 + 4, none⟩ = some (.int .i8 o.c.x) ∧ u.cell? ⟨g, off + k * 9 + 5, none⟩ = some (.int .i8 o.c.y) ∧ u.cell? ⟨g, off + k * 9 + 6, none⟩ = some (.bool o.c.f) ∧ u.cell? ⟨g, off + k * 9 + 7, none⟩ = some (.int .u32 (o.c.v : Int)) ∧ u.cell? ⟨g, off + k * 9 + 8, none⟩ = some (.int .u8 (o.c.q : Int))) ∧ Turned [] wr u) u → Turned [] wr u := fun u h => h.2.2
                  go_region_held3 (fun u => (u.cell? ⟨C, 0, none⟩ = some (.int .i64 V.mw) ∧ u.cell? ⟨C, 1, none⟩ = some (.int .i64 V.mh) ∧ u.cell? ⟨C, 2, none⟩ = some (.slice V.oa V.nw V.ca) ∧ u.cell? ⟨C, 3, none⟩ = some (.slice V.ob V.ns V.cb) ∧ u.cell? ⟨C, 4, none⟩ = some (.int .u64 V.st) ∧ u.cell? ⟨C, 5, none⟩ = some (.int .i64 V.tk) ∧ u.cell? ⟨C, 6, none⟩ = some (.slice V.ol V.nl V.cl)) ∧ (u.cell? ⟨g, off + k * 9, none⟩ = some (.int .i64 o.k) ∧ u.cell? ⟨g, off + k * 9 + 1, none⟩ = some (.int .i64 o.id) ∧ u.cell? ⟨g, off + k * 9 + 2, none⟩ = some (.int .i64 o.b) ∧ u.cell? ⟨g, off + k * 9 + 3, none⟩ = some (.int .u32 (o.c.n : Int)) ∧ u.cell? ⟨g, off + k * 9 + 4, none⟩ = some (.int .i8 o.c.x) ∧ u.cell? ⟨g, off + k * 9 + 5, none⟩ = some (.int .i8 o.c.y) ∧ u.cell? ⟨g, off + k * 9 + 6, none⟩ = some (.bool o.c.f) ∧ u.cell? ⟨g, off + k * 9 + 7, none⟩ = some (.int .u32 (o.c.v : Int)) ∧ u.cell? ⟨g, off + k * 9 + 8, none⟩ = some (.int .u8 (o.c.q : Int))) ∧ Turned [] wr u)
                    (first | with_reducible assumption | ((with_reducible refine hSof _ ?_); (repeat (first | with_reducible assumption | with_reducible exact hTof _ (by with_reducible assumption) | with_reducible exact Turned.refl [] wr | with_reducible refine Turned.drew ?_ | with_reducible refine Turned.alloc ?_ _ | with_reducible refine turned7 ?_ (.inr (by first | with_reducible exact Nat.le_refl _ | with_reducible exact HT3.size)) V1))))
                    (first | (go_at_call 8; (with_reducible refine (ka _ (by (repeat (first | with_reducible assumption | with_reducible exact hTof _ (by with_reducible assumption) | with_reducible exact Turned.refl [] wr | with_reducible refine Turned.drew ?_ | with_reducible refine Turned.alloc ?_ _ | with_reducible refine turned7 ?_ (.inr (by first | with_reducible exact Nat.le_refl _ | with_reducible exact HT3.size)) V1)))).mono ?_); rintro r u1 ⟨V1, rfl, hV1, hA1, HT2⟩; have HT3 : Turned [] wr u1 := (Turned.trans (S' := []) (by (repeat (first | with_reducible assumption | with_reducible exact hTof _ (by with_reducible assumption) | with_reducible exact Turned.refl [] wr | with_reducible refine Turned.drew ?_ | with_reducible refine Turned.alloc ?_ _ | with_reducible refine turned7 ?_ (.inr (by first | with_reducible exact Nat.le_refl _ | with_reducible exact HT3.size)) V1))) HT2 (by simp)); (first | (have hZ := (Struct.new wr [.int .i64 0, .int .i64 0, .slice none 0 0, .slice none 0 0, .int .u64 0, .int .i64 0, .slice none 0 0] 34).keep (S := []) (by first | with_reducible exact HT2 | with_reducible exact ((Turned.refl [] _).drew).trans HT2 (by simp)) (by simp); have z0 : u1.cell? ⟨_, 0, none⟩ = some (.int .i64 0) := (hZ.2 0 _ rfl).1; have y0 : u1.frozen? ⟨_, 0, none⟩ = false := (hZ.2 0 _ rfl).2; have z1 : u1.cell? ⟨_, 1, none⟩ = some (.int .i64 0) := (hZ.2 1 _ rfl).1; have y1 : u1.frozen? ⟨_, 1, none⟩ = false := (hZ.2 1 _ rfl).2; have z2 : u1.cell? ⟨_, 2, none⟩ = some (.slice none 0 0) := (hZ.2 2 _ rfl).1; have y2 : u1.frozen? ⟨_, 2, none⟩ = false := (hZ.2 2 _ rfl).2; have z3 : u1.cell? ⟨_, 3, none⟩ = some (.slice none 0 0) := (hZ.2 3 _ rfl).1; have y3 : u1.frozen? ⟨_, 3, none⟩ = false := (hZ.2 3 _ rfl).2; have z4 : u1.cell? ⟨_, 4, none⟩ = some (.int .u64 0) := (hZ.2 4 _ rfl).1; have y4 : u1.frozen? ⟨_, 4, none⟩ = false := (hZ.2 4 _ rfl).2; have z5 : u1.cell? ⟨_, 5, none⟩ = some (.int .i64 0) := (hZ.2 5 _ rfl).1; have y5 : u1.frozen? ⟨_, 5, none⟩ = false := (hZ.2 5 _ rfl).2; have z6 : u1.cell? ⟨_, 6, none⟩ = some (.slice none 0 0) := (hZ.2 6 _ rfl).1; have y6 : u1.frozen? ⟨_, 6, none⟩ = false := (hZ.2 6 _ rfl).2) | (have hZ := (Struct.new wr.drew [.int .i64 0, .int .i64 0, .slice none 0 0, .slice none 0 0, .int .u64 0, .int .i64 0, .slice none 0 0] 34).keep (S := []) (by first | with_reducible exact HT2 | with_reducible exact ((Turned.refl [] _).drew).trans HT2 (by simp)) (by simp); have z0 : u1.cell? ⟨_, 0, none⟩ = some (.int .i64 0) := (hZ.2 0 _ rfl).1; have y0 : u1.frozen? ⟨_, 0, none⟩ = false := (hZ.2 0 _ rfl).2; have z1 : u1.cell? ⟨_, 1, none⟩ = some (.int .i64 0) := (hZ.2 1 _ rfl).1; have y1 : u1.frozen? ⟨_, 1, none⟩ = false := (hZ.2 1 _ rfl).2; have z2 : u1.cell? ⟨_, 2, none⟩ = some (.slice none 0 0) := (hZ.2 2 _ rfl).1; have y2 : u1.frozen? ⟨_, 2, none⟩ = false := (hZ.2 2 _ rfl).2; have z3 : u1.cell? ⟨_, 3, none⟩ = some (.slice none 0 0) := (hZ.2 3 _ rfl).1; have y3 : u1.frozen? ⟨_, 3, none⟩ = false := (hZ.2 3 _ rfl).2; have z4 : u1.cell? ⟨_, 4, none⟩ = some (.int .u64 0) := (hZ.2 4 _ rfl).1; have y4 : u1.frozen? ⟨_, 4, none⟩ = false := (hZ.2 4 _ rfl).2; have z5 : u1.cell? ⟨_, 5, none⟩ = some (.int .i64 0) := (hZ.2 5 _ rfl).1; have y5 : u1.frozen? ⟨_, 5, none⟩ = false := (hZ.2 5 _ rfl).2; have z6 : u1.cell? ⟨_, 6, none⟩ = some (.slice none 0 0) := (hZ.2 6 _ rfl).1; have y6 : u1.frozen? ⟨_, 6, none⟩ = false := (hZ.2 6 _ rfl).2) | skip)))
                  all_goals (first
                    | (obtain ⟨Y, hY⟩ : ∃ Y, Y = put7 u1 wr.heap.size V1 := ⟨_, rfl⟩; obtain ⟨X, hX⟩ : ∃ b, b = wr.heap.size := ⟨_, rfl⟩; have hXY : Struct X (wvEnc V1) Y := (by rw [hY, hX]; exact set7 hZ rfl V1); have hTY : Turned [] wr Y := (by rw [hY]; exact turned7 HT3 (.inr (Nat.le_refl _)) V1); have hVY : Tells (Wd.act W o) V1 Y := (by refine hV1.turned (S := [X]) (by rw [hY, hX]; exact turned7 (Turned.refl _ _) (.inl (by simp)) V1) (fun j hj => ?_); simp; rintro rfl; rcases hA1 _ hj with h | h; (· have := hV2.lt h; omega); (· simp at h; omega)); simp only [put7] at hY; rw [← hY, ← hX]; clear hY hX)
                    | (obtain ⟨Y, hY⟩ : ∃ Y, Y = u1.alloc (.cells #[.int .i64 V1.mw, .int .i64 V1.mh, .slice V1.oa V1.nw V1.ca, .slice V1.ob V1.ns V1.cb, .int .u64 V1.st, .int .i64 V1.tk, .slice V1.ol V1.nl V1.cl] 34) := ⟨_, rfl⟩; obtain ⟨X, hX⟩ : ∃ b, b = u1.heap.size := ⟨_, rfl⟩; have hXY : Struct X (wvEnc V1) Y := (by rw [hY, hX]; exact Struct.new u1 (wvEnc V1) _); have hTY : Turned [] wr Y := (by rw [hY]; exact HT3.alloc _); have hVY : Tells (Wd.act W o) V1 Y := (by rw [hY]; exact hV1.calm ((Turned.refl [] u1).alloc _)); rw [← hY, ← hX]; clear hY hX))
                  all_goals
                    have hC3 := hC2.keep hTY (by simp)
                    have b0 := (hC3.2 0 _ rfl).1
                    have f0 := (hC3.2 0 _ rfl).2
                    have b1 := (hC3.2 1 _ rfl).1
                    have f1 := (hC3.2 1 _ rfl).2
                    have b2 := (hC3.2 2 _ rfl).1
                    have f2 := (hC3.2 2 _ rfl).2
                    have b3 := (hC3.2 3 _ rfl).1
                    have f3 := (hC3.2 3 _ rfl).2
                    have b4 := (hC3.2 4 _ rfl).1
                    have f4 := (hC3.2 4 _ rfl).2
                    have b5 := (hC3.2 5 _ rfl).1
                    have f5 := (hC3.2 5 _ rfl).2
                    have b6 := (hC3.2 6 _ rfl).1
                    have f6 := (hC3.2 6 _ rfl).2
                    have x0 := (hXY.2 0 _ rfl).1
                    have x1 := (hXY.2 1 _ rfl).1
                    have x2 := (hXY.2 2 _ rfl).1
                    have x3 := (hXY.2 3 _ rfl).1
                    have x4 := (hXY.2 4 _ rfl).1
                    have x5 := (hXY.2 5 _ rfl).1
                    have x6 := (hXY.2 6 _ rfl).1
                    have hVC1 : ¬ V1.At C := fun h => (hA1 C h).elim hVC (fun h => by have := hC2.1; simp at h; omega)
                    go_wp2_with fail
                    have hTC : Turned [C] Y (put7 Y C V1) := turned7 (Turned.refl _ _) (.inl (by simp)) V1
                    have hVn : Tells ((Wd.run (Wd.newW a0_m s a1_1) a2_l) (min (k + 1) a2_n)) V1 (put7 Y C V1) := by
                      rw [show min (k + 1) a2_n = k + 1 by omega, Wd.run_step HO.out, ← HW.out]
                      exact hVY.turned hTC (fun j hj => by simp; rintro rfl; exact hVC1 hj)
                    go_roundw
                    case rel => exact ⟨k + 1, V1, by omega, by go_num, set7 hC3 rfl V1, hVn, hVC1, (hA.calm hTY).over hTC hCn hCl hCw⟩
                    case measure => simp [intOf]; omega
                · have hkk : k = a2_n := by omega
                  have HKK : Hid (k = a2_n) := hkk
                  clear hkk
                  go_wp2_with fail
                  go_roundw
                  case rel => exact ⟨k + 1, V, by omega, by go_num, hC2, by rw [show min (k + 1) a2_n = k by have := HKK.out; omega]; exact hV2, hVC, hA⟩
                  case measure => simp [intOf]; omega
              · go_wp2_with fail
                go_ret
                exact ⟨rfl, (hT.trans hA.turned (by simp)).none⟩
      · have kn := fun (u : World) (h : MapAt a0_m a0_oa a0_ob u) => WdL.new_not K (ca := a0_ca) (cb := a0_cb) hs hn1 hok h
        rw [← hnw, ← hns] at kn
        clear hfew hq hnw hns hlb hok hs
        go_enter Tryz.func4, Tryz.ntmps4
        go_wp2_with fail
        rw [← hW0, ← hA, ← hB]
        clear hW0 hsz hA hB
        go_wp2_with (first | (go_at_call 5; (with_reducible refine (kA _).mono ?_); rintro r u0 ⟨rfl, HT1⟩; have HT0 := HT0.trans HT1 (by simp); have hSn := hS.keep HT0 (by simp); have d0 := (hSn.2 0 _ rfl).1; have d1 := (hSn.2 1 _ rfl).1; have d2 := (hSn.2 2 _ rfl).1; have d3 := (hSn.2 3 _ rfl).1; have hEn := hE.keep HT0 (by simp); have c0 := (hEn.2 0 _ rfl).1; have c1 := (hEn.2 1 _ rfl).1) | (go_at_call 6; (with_reducible refine (kf _).mono ?_); rintro r u0 ⟨rfl, HT1⟩; have HT0 := HT0.trans HT1 (by simp); have hSn := hS.keep HT0 (by simp); have d0 := (hSn.2 0 _ rfl).1; have d1 := (hSn.2 1 _ rfl).1; have d2 := (hSn.2 2 _ rfl).1; have d3 := (hSn.2 3 _ rfl).1; have hEn := hE.keep HT0 (by simp); have c0 := (hEn.2 0 _ rfl).1; have c1 := (hEn.2 1 _ rfl).1) | (go_at_call 7; (with_reducible refine (kn _ (hM.calm HT0)).mono ?_); rintro r u0 ⟨V0, rfl, HT1⟩; have HT0 := HT0.trans HT1 (by simp); have hSn := hS.keep HT0 (by simp); have d0 := (hSn.2 0 _ rfl).1; have d1 := (hSn.2 1 _ rfl).1; have d2 := (hSn.2 2 _ rfl).1; have d3 := (hSn.2 3 _ rfl).1; have hEn := hE.keep HT0 (by simp); have c0 := (hEn.2 0 _ rfl).1; have c1 := (hEn.2 1 _ rfl).1))
        go_ret
        exact ⟨rfl, ((hT.trans HT0 (by simp)).alloc _).none⟩
    · have hlen' : 60 < (a2_n : Int) := by omega
      clear hfew hq hnw hns hlb
      go_enter Tryz.func4, Tryz.ntmps4
      go_wp2_with fail
      rw [← hW0, ← hA, ← hB]
      clear hW0 hsz hA hB
      go_wp2_with (first | (go_at_call 5; (with_reducible refine (kA _).mono ?_); rintro r u0 ⟨rfl, HT1⟩; have HT0 := HT0.trans HT1 (by simp); have hSn := hS.keep HT0 (by simp); have d0 := (hSn.2 0 _ rfl).1; have d1 := (hSn.2 1 _ rfl).1; have d2 := (hSn.2 2 _ rfl).1; have d3 := (hSn.2 3 _ rfl).1; have hEn := hE.keep HT0 (by simp); have c0 := (hEn.2 0 _ rfl).1; have c1 := (hEn.2 1 _ rfl).1) | (go_at_call 6; (with_reducible refine (kf _).mono ?_); rintro r u0 ⟨rfl, HT1⟩; have HT0 := HT0.trans HT1 (by simp); have hSn := hS.keep HT0 (by simp); have d0 := (hSn.2 0 _ rfl).1; have d1 := (hSn.2 1 _ rfl).1; have d2 := (hSn.2 2 _ rfl).1; have d3 := (hSn.2 3 _ rfl).1; have hEn := hE.keep HT0 (by simp); have c0 := (hEn.2 0 _ rfl).1; have c1 := (hEn.2 1 _ rfl).1))
      go_ret
      exact ⟨rfl, (hT.trans HT0 (by simp)).none⟩
  · have hq : (decide (nw ≤ 400) && decide (ns ≤ 400)) = false := by simpa using hfew
    rw [hq] at kf
    clear hfew hq hnw hns
    go_enter Tryz.func4, Tryz.ntmps4
    go_wp2_with fail
    rw [← hW0, ← hA, ← hB]
    clear hW0 hsz hA hB
    go_wp2_with (first | (go_at_call 5; (with_reducible refine (kA _).mono ?_); rintro r u0 ⟨rfl, HT1⟩; have HT0 := HT0.trans HT1 (by simp); have hSn := hS.keep HT0 (by simp); have d0 := (hSn.2 0 _ rfl).1; have d1 := (hSn.2 1 _ rfl).1; have d2 := (hSn.2 2 _ rfl).1; have d3 := (hSn.2 3 _ rfl).1; have hEn := hE.keep HT0 (by simp); have c0 := (hEn.2 0 _ rfl).1; have c1 := (hEn.2 1 _ rfl).1) | (go_at_call 6; (with_reducible refine (kf _).mono ?_); rintro r u0 ⟨rfl, HT1⟩; have HT0 := HT0.trans HT1 (by simp); have hSn := hS.keep HT0 (by simp); have d0 := (hSn.2 0 _ rfl).1; have d1 := (hSn.2 1 _ rfl).1; have d2 := (hSn.2 2 _ rfl).1; have d3 := (hSn.2 3 _ rfl).1; have hEn := hE.keep HT0 (by simp); have c0 := (hEn.2 0 _ rfl).1; have c1 := (hEn.2 1 _ rfl).1))
    go_ret
    exact ⟨rfl, (hT.trans HT0 (by simp)).none⟩

set_option maxRecDepth 100000 in
theorem lifted (os : Os) (started : os.Started) (H : Type) (enc : TypeId × Value → H) :
    ReturnsInHanded {} Tryz.checked os 4 .any (Rows.worldAgainSpec.pre6 enc Tryz.prog Tryz.f4 Rows.worldAgainRow.domain false) (Rows.worldAgainSpec.post enc Tryz.prog Tryz.f4 false true false false) := by
  refine returnsInHanded_of_change (C := Tryz.checked) own started (by kernel_rfl) Tryz.func4
    (ChangeSpec.witness6 (enc := enc) (C := Tryz.checked) false ⟨#[], #[.agg #[.int .i64 0, .int .i64 0, .slice none 0 0, .slice none 0 0], .agg #[.int .u64 0, .int .i64 0], .slice none 0 0], []⟩ 8 (by kernel_rfl) (by kernel_rfl) (by kernel_rfl) (by kernel_rfl)) ?_
  intro W base args ds gs before hval0 hW hcnd _
  have hval : ∀ (j : Nat) t v, Tryz.f4.params[j]? = some t → args[j]? = some v → Value.okWide Tryz.prog W .any base t v := hval0
  have hW' := hW
  obtain ⟨p, q, hA0, hV, rfl, hfz, hnd⟩ := hW
  have hA : DataW.TrodAll enc Tryz.prog W 0 (fun _ => true) true Tryz.f4.params.toList args.toList ds p := hA0
  rw [Tryz.params4] at hA hval
  obtain ⟨v0, vs0, d0, ds0, p0, q0, hargs, rfl, rfl, h0, r0⟩ := trodAll_cons hA
  obtain ⟨v1, vs1, d1, ds1, p1, q1, rfl, rfl, rfl, h1, r1⟩ := trodAll_cons r0
  obtain ⟨v2, vs2, d2, ds2, p2, q2, rfl, rfl, rfl, h2, r2⟩ := trodAll_cons r1
  obtain ⟨rfl, rfl, rfl⟩ := trodAll_nil r2
  obtain rfl : args = #[v0, v1, v2] := by cases args; simp_all
  obtain ⟨rfl, rfl⟩ := trodVars_none hV
  have k0 := h0
  have lt0 : ∀ x ∈ p0, x.block < W.heap.size := by obtain ⟨m, hm⟩ := k0; exact DataW.trod_lt m _ _ _ hm
  have k1 := h1
  have lt1 : ∀ x ∈ p1, x.block < W.heap.size := by obtain ⟨m, hm⟩ := k1; exact DataW.trod_lt m _ _ _ hm
  have k2 := h2
  have lt2 : ∀ x ∈ p2, x.block < W.heap.size := by obtain ⟨m, hm⟩ := k2; exact DataW.trod_lt m _ _ _ hm
  obtain ⟨a0_m, a0_oa, a0_ca, a0_ob, a0_cb, rfl, w0⟩ := open_map (hval 0 25 v0 rfl rfl) h0
  obtain ⟨cs1, rfl, ok1⟩ := open_flat (d := 8) (ks := [.int .u64, .int .i64]) (Or.inl ⟨_, Tryz.underlying28⟩) (by kernel_rfl) (hval 1 28 v1 rfl rfl) h1
  obtain ⟨a1_0, a1_1, rfl, w1_0, w1_1⟩ := flat1_of cs1 ok1
  obtain ⟨a2_o, a2_n, a2_c, a2_l, rfl, w2_m, w2_l, w2_e, w2, w2_k⟩ := open_flats (d := 8) (ks := [.int .i64, .int .i64, .int .i64, .int .u32, .int .i8, .int .i8, .bool, .int .u32, .int .u8]) woEnc Tryz.underlying29 (by kernel_rfl) (by kernel_rfl) (by decide) woEnc_of (hval 2 29 v2 rfl rfl) h2
  clear hA0 hval0
  refine (walk a0_m a0_oa a0_ca a0_ob a0_cb a1_0 a1_1 a2_o a2_n a2_c a2_l w1_0 w1_1 w2_m w2_l w2_e w2_k W w0 w2).mono fun e W' ⟨he, bel⟩ => ?_
  subst he
  exact ⟨_, rfl, _, _, _, [], _, [], hW', trodAll_mk1 (shut_bool Tryz.underlying4 _), (trodAll_cons_mk (Below.trod laidOut (by kernel_rfl) (of_decide_eq_true (by kernel_rfl)) k0 bel lt0) (trodAll_cons_mk (Below.trod laidOut (by kernel_rfl) (of_decide_eq_true (by kernel_rfl)) k1 bel lt1) (trodAll_cons_mk (Below.trod laidOut (by kernel_rfl) (of_decide_eq_true (by kernel_rfl)) k2 bel lt2) trodAll_mk0))), rfl, bel.frame _, fun h => by cases h⟩

theorem over : Rows.worldAgainRow.holds Tryz.pinned (OpenSpec.ofChange Rows.worldAgainSpec) :=
  OpenClaim.holds_of_wide 4 Tryz.f4 rfl rfl rfl rfl rfl rfl rfl ⟨rfl, rfl, rfl, rfl, rfl⟩ rfl rfl rfl rfl rfl (by kernel_rfl) Tryz.func4 (by kernel_rfl)
    (of_decide_eq_true (by kernel_rfl)) (by unfold Func.isWrapper; first | (rw [if_pos (by decide +kernel)]; kernel_rfl) | (rw [if_neg (by decide +kernel)]; exact ⟨rfl, rfl⟩))
    (fun os started H enc _ => lifted os started H enc)

theorem proved : Rows.WorldAgainSaid :=
  over
#print axioms proved
end Go.Proofs.YtgabgkgokmeaeaaGreat.worldAgain

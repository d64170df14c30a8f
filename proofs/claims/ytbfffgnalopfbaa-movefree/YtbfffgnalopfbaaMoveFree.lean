/- In all maps of up to 1100 tiles and spawns, who stands free stands free behind each of any row of up to 50 steps, and none leads further than a quarter of One in each direction. -/
import Derived.Test.YtbfffgnalopfbaaRows
import Derived.Test.YtbfffgnalopfbaaMvWalks
import Derived.Test.YtbfffgnalopfbaaMvLaw2
import Derived.Test.YtbfffgnalopfbaaFlat
import Derived.WalkKit
import Derived.ProofKit
import Derived.OpenShut
import Derived.ChangeOld
import Derived.Below
import Derived.WalkSmall
import Derived.Lib.SmallJoins
import Derived.Laws.IdiomArrays
namespace Go.Proofs.Ytbfffgnalopfbaa.moveFree
open Go.ChangeShapes Go.WideShapes Go.ChangeAt Go.RowKit
set_option linter.unusedVariables false

theorem own : ownKnob Try.prog.godebug = none := by kernel_rfl
theorem laidOut : laidOutB Try.prog = true := by kernel_rfl

def enc2 (a : Int × Int) : List Value := [.int .i8 (a.1), .int .i8 (a.2)]
theorem leaf_of {k : IntKind} {v : Value} (h : (Leaf.int k).ok v) : ∃ z, v = .int k z ∧ (Lit.int k z).wf = true := h
theorem leafb_of {v : Value} (h : Leaf.bool.ok v) : ∃ b, v = .bool b := h
theorem enc2_of (cs : List Value) (h : AllOk [.int .i8, .int .i8] cs) : ∃ a, cs = enc2 a := by
  have hl := h.length
  obtain ⟨c0, c1, rfl⟩ : ∃ c0 c1, cs = [c0, c1] := by
    match cs, hl with
    | [c0, c1], _ => exact ⟨c0, c1, rfl⟩
  obtain ⟨x0, e0, _⟩ := leaf_of h.1
  obtain ⟨x1, e1, _⟩ := leaf_of h.2.1
  rw [e0, e1]
  exact ⟨(x0, x1), rfl⟩

set_option maxRecDepth 20000 in
set_option maxHeartbeats 8000000 in
theorem walk (a0_m : Ti.M) (a0_oa : Option Addr) (a0_ca : Nat) (a0_ob : Option Addr) (a0_cb : Nat) (a1 : En.E) (a2_o : Option Addr) (a2_n a2_c : Nat) (a2_l : List (Int × Int)) (w1_k : AllOk [.int .i64, .int .i64, .int .i64, .int .i64, .int .i64, .int .i64, .int .i64, .int .i64] (enEnc a1)) (w2_m : a2_n ≤ maxLen) (w2_l : a2_n ≤ a2_c) (w2_e : a2_l.length = a2_n) (w2_k : ∀ a ∈ a2_l, AllOk [.int .i8, .int .i8] (enc2 a)) (w : World) (w0 : MapIn a0_m a0_oa a0_ca a0_ob a0_cb w) (w2 : RowOf 2 enc2 a2_o a2_l w) :
    Calls Try.prog 4 #[mapVal a0_m a0_oa a0_ca a0_ob a0_cb, enVal a1, .slice a2_o a2_n a2_c] w fun e w' => e = .returned (.bool true) ∧ Below w.heap.size w w' := by
  have K := MvW.contracts
  have kA := MvL.awake_any K
  obtain ⟨nw, hnw⟩ : ∃ n, n = a0_m.ws.length := ⟨_, rfl⟩
  obtain ⟨ns, hns⟩ : ∃ n, n = a0_m.sp.length := ⟨_, rfl⟩
  have kf := fun u => MvL.few_any a0_m a0_oa a0_ca a0_ob a0_cb u
  unfold mapVal at kf ⊢
  rw [← hnw, ← hns] at kf ⊢
  have hewf := en_wf w1_k
  unfold maxLen at w2_m
  obtain ⟨W0, hW0⟩ : ∃ W0, W0 = (w.alloc (.cells #[.int .i64 a0_m.W, .int .i64 a0_m.H, .slice a0_oa nw a0_ca, .slice a0_ob ns a0_cb] 25)).alloc (.cells #[.int .i64 a1.id, .int .i64 a1.kind, .int .i64 a1.ax, .int .i64 a1.ay, .int .i64 a1.vx, .int .i64 a1.vy, .int .i64 a1.h, .int .i64 a1.t] 30) := ⟨_, rfl⟩
  obtain ⟨B, hB⟩ : ∃ b, b = w.heap.size := ⟨_, rfl⟩
  obtain ⟨C, hC⟩ : ∃ b, b = w.heap.size + 1 := ⟨_, rfl⟩
  have hsz : W0.heap.size = w.heap.size + 2 := by rw [hW0]; simp
  have hT : Turned [] w W0 := by rw [hW0]; exact ((Turned.refl [] w).alloc _).alloc _
  have hS : Struct B [.int .i64 a0_m.W, .int .i64 a0_m.H, .slice a0_oa nw a0_ca, .slice a0_ob ns a0_cb] W0 := by
    have h0 := Struct.new w [.int .i64 a0_m.W, .int .i64 a0_m.H, .slice a0_oa nw a0_ca, .slice a0_ob ns a0_cb] 25
    rw [← hB] at h0
    rw [hW0]; exact (h0.keep ((Turned.refl [] _).alloc _) (by simp))
  have hE : Struct C [.int .i64 a1.id, .int .i64 a1.kind, .int .i64 a1.ax, .int .i64 a1.ay, .int .i64 a1.vx, .int .i64 a1.vy, .int .i64 a1.h, .int .i64 a1.t] W0 := by
    have h0 := Struct.new (w.alloc (.cells #[.int .i64 a0_m.W, .int .i64 a0_m.H, .slice a0_oa nw a0_ca, .slice a0_ob ns a0_cb] 25)) [.int .i64 a1.id, .int .i64 a1.kind, .int .i64 a1.ax, .int .i64 a1.ay, .int .i64 a1.vx, .int .i64 a1.vy, .int .i64 a1.h, .int .i64 a1.t] 30
    rw [show (w.alloc (.cells #[.int .i64 a0_m.W, .int .i64 a0_m.H, .slice a0_oa nw a0_ca, .slice a0_ob ns a0_cb] 25)).heap.size = w.heap.size + 1 by simp, ← hC] at h0
    rw [hW0]; exact h0
  have HT0 : Turned [] W0 W0 := Turned.refl _ _
  by_cases hfew : nw ≤ 1100 ∧ ns ≤ 1100
  · have hM := (w0.at (by rw [← hnw]; exact hfew.1) (by rw [← hns]; exact hfew.2)).calm hT
    have hq : (decide (nw ≤ 1100) && decide (ns ≤ 1100)) = true := by simpa using hfew
    rw [hq] at kf
    by_cases hlen : (a2_n : Int) ≤ 50
    · have hlen' : ¬ 50 < (a2_n : Int) := by omega
      have k1 := fun (u : World) (h : MapAt a0_m a0_oa a0_ob u) => K.stands a0_m a0_oa a0_ca a0_ob a0_cb a1.ax a1.ay u h
      unfold mapVal at k1
      rw [← hnw, ← hns] at k1
      cases hst : Mv.stands a0_m a1.ax a1.ay with
      | false =>
        rw [hst] at k1
        clear hfew hq hnw hns hst
        go_enter Try.func4, Try.ntmps4
        go_wp2_with fail
        rw [← hW0, ← hC, ← hB]
        clear hW0 hsz hB hC
        go_wp2_with (first | (go_at_call 8; (with_reducible refine (kA _).mono ?_); rintro r u0 ⟨rfl, HT1⟩; have HT0 := HT0.trans HT1 (by simp); have hSn := hS.keep HT0 (by simp); have d0 := (hSn.2 0 _ rfl).1; have d1 := (hSn.2 1 _ rfl).1; have d2 := (hSn.2 2 _ rfl).1; have d3 := (hSn.2 3 _ rfl).1; have hEn := hE.keep HT0 (by simp); have c0 := (hEn.2 0 _ rfl).1; have c1 := (hEn.2 1 _ rfl).1; have c2 := (hEn.2 2 _ rfl).1; have c3 := (hEn.2 3 _ rfl).1; have c4 := (hEn.2 4 _ rfl).1; have c5 := (hEn.2 5 _ rfl).1; have c6 := (hEn.2 6 _ rfl).1; have c7 := (hEn.2 7 _ rfl).1) | (go_at_call 9; (with_reducible refine (kf _).mono ?_); rintro r u0 ⟨rfl, HT1⟩; have HT0 := HT0.trans HT1 (by simp); have hSn := hS.keep HT0 (by simp); have d0 := (hSn.2 0 _ rfl).1; have d1 := (hSn.2 1 _ rfl).1; have d2 := (hSn.2 2 _ rfl).1; have d3 := (hSn.2 3 _ rfl).1; have hEn := hE.keep HT0 (by simp); have c0 := (hEn.2 0 _ rfl).1; have c1 := (hEn.2 1 _ rfl).1; have c2 := (hEn.2 2 _ rfl).1; have c3 := (hEn.2 3 _ rfl).1; have c4 := (hEn.2 4 _ rfl).1; have c5 := (hEn.2 5 _ rfl).1; have c6 := (hEn.2 6 _ rfl).1; have c7 := (hEn.2 7 _ rfl).1) | (go_at_call 14; (with_reducible refine (k1 _ (hM.calm HT0)).mono ?_); rintro r u0 ⟨rfl, HT1⟩; have HT0 := HT0.trans HT1 (by simp); have hSn := hS.keep HT0 (by simp); have d0 := (hSn.2 0 _ rfl).1; have d1 := (hSn.2 1 _ rfl).1; have d2 := (hSn.2 2 _ rfl).1; have d3 := (hSn.2 3 _ rfl).1; have hEn := hE.keep HT0 (by simp); have c0 := (hEn.2 0 _ rfl).1; have c1 := (hEn.2 1 _ rfl).1; have c2 := (hEn.2 2 _ rfl).1; have c3 := (hEn.2 3 _ rfl).1; have c4 := (hEn.2 4 _ rfl).1; have c5 := (hEn.2 5 _ rfl).1; have c6 := (hEn.2 6 _ rfl).1; have c7 := (hEn.2 7 _ rfl).1))
        go_ret
        exact ⟨rfl, (hT.trans HT0 (by simp)).none⟩
      | true =>
        rw [hst] at k1
        have kW := fun (e : En.E) (he : e.wf) (s0 s1 : Int) (h0 : -128 ≤ s0 ∧ s0 ≤ 127) (h1 : -128 ≤ s1 ∧ s1 ≤ 127) (u : World) (h : MapAt a0_m a0_oa a0_ob u) => K.walk a0_m a0_oa a0_ca a0_ob a0_cb e s0 s1 he h0 h1 u h
        have kS := fun (x y : Int) (u : World) (h : MapAt a0_m a0_oa a0_ob u) => K.stands a0_m a0_oa a0_ca a0_ob a0_cb x y u h
        unfold mapVal enVal at kW
        unfold mapVal at kS
        rw [← hnw, ← hns] at kW kS
        have HE : Hid (a2_l.length = a2_n) := w2_e
        have HF : Hid (a0_m.ws.length ≤ 1100 ∧ a0_m.sp.length ≤ 1100) := ⟨by rw [← hnw]; exact hfew.1, by rw [← hns]; exact hfew.2⟩
        have hBC : B ≠ C := by omega
        have hCw : w.heap.size ≤ C := by omega
        have HK : Hid (∀ a ∈ a2_l, (-128 ≤ a.1 ∧ a.1 ≤ 127) ∧ (-128 ≤ a.2 ∧ a.2 ≤ 127)) := fun a ha => ⟨i8_in (en_ok (w2_k a ha).1), i8_in (en_ok (w2_k a ha).2.1)⟩
        have hst0 : Hid (Mv.stands a0_m a1.ax a1.ay = true) := hst
        clear hfew hq hnw hns hst w2_e w2_k
        go_enter Try.func4, Try.ntmps4
        go_wp2_with fail
        rw [← hW0, ← hC, ← hB]
        clear hW0 hsz hB hC
        go_wp2_with (first | (go_at_call 8; (with_reducible refine (kA _).mono ?_); rintro r u0 ⟨rfl, HT1⟩; have HT0 := HT0.trans HT1 (by simp); have hSn := hS.keep HT0 (by simp); have d0 := (hSn.2 0 _ rfl).1; have d1 := (hSn.2 1 _ rfl).1; have d2 := (hSn.2 2 _ rfl).1; have d3 := (hSn.2 3 _ rfl).1; have hEn := hE.keep HT0 (by simp); have c0 := (hEn.2 0 _ rfl).1; have c1 := (hEn.2 1 _ rfl).1; have c2 := (hEn.2 2 _ rfl).1; have c3 := (hEn.2 3 _ rfl).1; have c4 := (hEn.2 4 _ rfl).1; have c5 := (hEn.2 5 _ rfl).1; have c6 := (hEn.2 6 _ rfl).1; have c7 := (hEn.2 7 _ rfl).1) | (go_at_call 9; (with_reducible refine (kf _).mono ?_); rintro r u0 ⟨rfl, HT1⟩; have HT0 := HT0.trans HT1 (by simp); have hSn := hS.keep HT0 (by simp); have d0 := (hSn.2 0 _ rfl).1; have d1 := (hSn.2 1 _ rfl).1; have d2 := (hSn.2 2 _ rfl).1; have d3 := (hSn.2 3 _ rfl).1; have hEn := hE.keep HT0 (by simp); have c0 := (hEn.2 0 _ rfl).1; have c1 := (hEn.2 1 _ rfl).1; have c2 := (hEn.2 2 _ rfl).1; have c3 := (hEn.2 3 _ rfl).1; have c4 := (hEn.2 4 _ rfl).1; have c5 := (hEn.2 5 _ rfl).1; have c6 := (hEn.2 6 _ rfl).1; have c7 := (hEn.2 7 _ rfl).1) | (go_at_call 14; (with_reducible refine (k1 _ (hM.calm HT0)).mono ?_); rintro r u0 ⟨rfl, HT1⟩; have HT0 := HT0.trans HT1 (by simp); have hSn := hS.keep HT0 (by simp); have d0 := (hSn.2 0 _ rfl).1; have d1 := (hSn.2 1 _ rfl).1; have d2 := (hSn.2 2 _ rfl).1; have d3 := (hSn.2 3 _ rfl).1; have hEn := hE.keep HT0 (by simp); have c0 := (hEn.2 0 _ rfl).1; have c1 := (hEn.2 1 _ rfl).1; have c2 := (hEn.2 2 _ rfl).1; have c3 := (hEn.2 3 _ rfl).1; have c4 := (hEn.2 4 _ rfl).1; have c5 := (hEn.2 5 _ rfl).1; have c6 := (hEn.2 6 _ rfl).1; have c7 := (hEn.2 7 _ rfl).1))
        have hSn0 := hS.keep HT0 (by simp)
        have hEn0 := hE.keep HT0 (by simp)
        have HTC := HT0.mono (S' := [C]) (by simp)
        clear d0 d1 d2 d3 c0 c1 c2 c3 c4 c5 c6 c7 hSn hEn k1
        go_loopw [7] (fun i wr => ∃ (k : Nat) (e : En.E), k ≤ a2_n ∧ i = .int .i64 (k : Int) ∧ Struct C (enEnc e) wr ∧ e.wf ∧ Mv.stands a0_m e.ax e.ay = true ∧ Turned [C] W0 wr) (fun i _ => a2_n - (intOf i).toNat)
        case atStart => exact ⟨0, a1, by omega, rfl, hEn0, hewf, hst0.out, HTC⟩
        case round =>
          clear hEn0 hSn0 HTC HT0
          obtain ⟨k, e, hk, rfl, hE1, hewf1, hst1, HT1⟩ := hrel
          have hS1 := hS.keep HT1 (by simpa using hBC)
          have hTw1 : Turned [] w wr := hT.trans HT1 (by intro k hk hl; simp at hk; omega)
          by_cases hlt : (k : Int) < (a2_n : Int)
          · obtain ⟨s, hs⟩ : ∃ s, a2_l[k]? = some s := ⟨_, List.getElem?_eq_getElem (by have := HE.out; omega)⟩
            obtain ⟨s0, s1⟩ := s
            obtain ⟨hs0, hs1⟩ := HK.out _ (List.mem_of_getElem? hs)
            have hs0 : -128 ≤ s0 ∧ s0 ≤ 127 := hs0
            have hs1 : -128 ≤ s1 ∧ s1 ≤ 127 := hs1
            obtain ⟨g, off, rfl, hg, hc⟩ := (w2.turned hTw1 (by simp)) k _ hs
            have p0 : wr.cell? ⟨g, off + k * 2, none⟩ = some (.int .i8 s0) := hc 0 _ rfl
            have p1 : wr.cell? ⟨g, off + k * 2 + 1, none⟩ = some (.int .i8 s1) := hc 1 _ rfl
            obtain ⟨y1, y2, y3, y4, y5, y6⟩ := Mv.walk_free hst1 hs0 hs1
            have hxwf := Mv.walk_wf (m := a0_m) hewf1 hs0 hs1
            have kw := kW e hewf1 s0 s1 hs0 hs1
            obtain ⟨x, hx⟩ : ∃ x, x = Mv.walk a0_m e s0 s1 := ⟨_, rfl⟩
            rw [← hx] at y1 y2 y3 y4 y5 y6 hxwf kw
            have hMr := (w0.at HF.out.1 HF.out.2).calm hTw1
            have ks := kS x.ax x.ay
            rw [y1] at ks
            have kw' := fun (u : World) (hu : Turned [] wr u) => kw u (hMr.calm hu)
            have d0 := (hS1.2 0 _ rfl).1
            have d1 := (hS1.2 1 _ rfl).1
            have d2 := (hS1.2 2 _ rfl).1
            have d3 := (hS1.2 3 _ rfl).1
            have c0 := (hE1.2 0 _ rfl).1
            have f0 := (hE1.2 0 _ rfl).2
            have c1 := (hE1.2 1 _ rfl).1
            have f1 := (hE1.2 1 _ rfl).2
            have c2 := (hE1.2 2 _ rfl).1
            have f2 := (hE1.2 2 _ rfl).2
            have c3 := (hE1.2 3 _ rfl).1
            have f3 := (hE1.2 3 _ rfl).2
            have c4 := (hE1.2 4 _ rfl).1
            have f4 := (hE1.2 4 _ rfl).2
            have c5 := (hE1.2 5 _ rfl).1
            have f5 := (hE1.2 5 _ rfl).2
            have c6 := (hE1.2 6 _ rfl).1
            have f6 := (hE1.2 6 _ rfl).2
            have c7 := (hE1.2 7 _ rfl).1
            have f7 := (hE1.2 7 _ rfl).2
            have dd0 := fun o => ((hS1.keep ((Turned.refl [] wr).alloc o) (by simp)).2 0 _ rfl).1
            have dd1 := fun o => ((hS1.keep ((Turned.refl [] wr).alloc o) (by simp)).2 1 _ rfl).1
            have dd2 := fun o => ((hS1.keep ((Turned.refl [] wr).alloc o) (by simp)).2 2 _ rfl).1
            have dd3 := fun o => ((hS1.keep ((Turned.refl [] wr).alloc o) (by simp)).2 3 _ rfl).1
            have cc0 := fun o => ((hE1.keep ((Turned.refl [] wr).alloc o) (by simp)).2 0 _ rfl).1
            have cc1 := fun o => ((hE1.keep ((Turned.refl [] wr).alloc o) (by simp)).2 1 _ rfl).1
            have cc2 := fun o => ((hE1.keep ((Turned.refl [] wr).alloc o) (by simp)).2 2 _ rfl).1
            have cc3 := fun o => ((hE1.keep ((Turned.refl [] wr).alloc o) (by simp)).2 3 _ rfl).1
            have cc4 := fun o => ((hE1.keep ((Turned.refl [] wr).alloc o) (by simp)).2 4 _ rfl).1
            have cc5 := fun o => ((hE1.keep ((Turned.refl [] wr).alloc o) (by simp)).2 5 _ rfl).1
            have cc6 := fun o => ((hE1.keep ((Turned.refl [] wr).alloc o) (by simp)).2 6 _ rfl).1
            have cc7 := fun o => ((hE1.keep ((Turned.refl [] wr).alloc o) (by simp)).2 7 _ rfl).1
            have q0 := fun o => ((((Turned.refl [] wr).alloc o).cell (p := ⟨g, off + k * 2, none⟩) hg (by simp)).trans p0)
            have q1 := fun o => ((((Turned.refl [] wr).alloc o).cell (p := ⟨g, off + k * 2 + 1, none⟩) hg (by simp)).trans p1)
            have HY : Hid (x.id = e.id ∧ x.h = e.h ∧ x.t = e.t) := ⟨y4, y5, y6⟩
            obtain ⟨y2a, y2b⟩ := y2
            obtain ⟨y3a, y3b⟩ := y3
            have kz1 := fun u => MvL.size_any (x.ax - e.ax) (by unfold En.I64; omega) u
            have kz2 := fun u => MvL.size_any (x.ay - e.ay) (by unfold En.I64; omega) u
            obtain ⟨z1, hz1, l1⟩ : ∃ z, Mv.size (x.ax - e.ax) = z ∧ z ≤ 16384 := ⟨_, rfl, by unfold Mv.size; split <;> (try split) <;> omega⟩
            obtain ⟨z2, hz2, l2⟩ : ∃ z, Mv.size (x.ay - e.ay) = z ∧ z ≤ 16384 := ⟨_, rfl, by unfold Mv.size; split <;> (try split) <;> omega⟩
            rw [hz1] at kz1
            rw [hz2] at kz2
            clear hz1 hz2 y4 y5 y6
            clear hx kw kW kS
            go_wp2_with fail
            have hSof : ∀ u, Turned [] wr u → (fun u => (u.cell? ⟨B, 0, none⟩ = some (.int .i64 a0_m.W) ∧ u.cell? ⟨B, 1, none⟩ = some (.int .i64 a0_m.H) ∧ u.cell? ⟨B, 2, none⟩ = some (.slice a0_oa nw a0_ca) ∧ u.cell? ⟨B, 3, none⟩ = some (.slice a0_ob ns a0_cb)) ∧ (u.cell? ⟨C, 0, none⟩ = some (.int .i64 e.id) ∧ u.cell? ⟨C, 1, none⟩ = some (.int .i64 e.kind) ∧ u.cell? ⟨C, 2, none⟩ = some (.int .i64 e.ax) ∧ u.cell? ⟨C, 3, none⟩ = some (.int .i64 e.ay) ∧ u.cell? ⟨C, 4, none⟩ = some (.int .i64 e.vx) ∧ u.cell? ⟨C, 5, none⟩ = some (.int .i64 e.vy) ∧ u.cell? ⟨C, 6, none⟩ = some (.int .i64 e.h) ∧ u.cell? ⟨C, 7, none⟩ = some (.int .i64 e.t)) ∧ (u.cell? ⟨g, off + k * 2, none⟩ = some (.int .i8 s0) ∧ u.cell? ⟨g, off + k * 2 + 1, none⟩ = some (.int .i8 s1)) ∧ Turned [] wr u) u := fun u h => ⟨⟨((hS1.keep h (by simp)).2 0 _ rfl).1, ((hS1.keep h (by simp)).2 1 _ rfl).1, ((hS1.keep h (by simp)).2 2 _ rfl).1, ((hS1.keep h (by simp)).2 3 _ rfl).1⟩, ⟨((hE1.keep h (by simp)).2 0 _ rfl).1, ((hE1.keep h (by simp)).2 1 _ rfl).1, ((hE1.keep h (by simp)).2 2 _ rfl).1, ((hE1.keep h (by simp)).2 3 _ rfl).1, ((hE1.keep h (by simp)).2 4 _ rfl).1, ((hE1.keep h (by simp)).2 5 _ rfl).1, ((hE1.keep h (by simp)).2 6 _ rfl).1, ((hE1.keep h (by simp)).2 7 _ rfl).1⟩, ⟨(h.cell (p := ⟨g, off + k * 2, none⟩) hg (by simp)).trans p0, (h.cell (p := ⟨g, off + k * 2 + 1, none⟩) hg (by simp)).trans p1⟩, h⟩
            have hTof : ∀ u, (fun u => (u.cell? ⟨B, 0, none⟩ = some (.int .i64 a0_m.W) ∧ u.cell? ⟨B, 1, none⟩ = some (.int .i64 a0_m.H) ∧ u.cell? ⟨B, 2, none⟩ = some (.slice a0_oa nw a0_ca) ∧ u.cell? ⟨B, 3, none⟩ = some (.slice a0_ob ns a0_cb)) ∧ (u.cell? ⟨C, 0, none⟩ = some (.int .i64 e.id) ∧ u.cell? ⟨C, 1, none⟩ = some (.int .i64 e.kind) ∧ u.cell? ⟨C, 2, none⟩ = some (.int .i64 e.ax) ∧ u.cell? ⟨C, 3, none⟩ = some (.int .i64 e.ay) ∧ u.cell? ⟨C, 4, none⟩ = some (.int .i64 e.vx) ∧ u.cell? ⟨C, 5, none⟩ = some (.int .i64 e.vy) ∧ u.cell? ⟨C, 6, none⟩ = some (.int .i64 e.h) ∧ u.cell? ⟨C, 7, none⟩ = some (.int .i64 e.t)) ∧ (u.cell? ⟨g, off + k * 2, none⟩ = some (.int .i8 s0) ∧ u.cell? ⟨g, off + k * 2 + 1, none⟩ = some (.int .i8 s1)) ∧ Turned [] wr u) u → Turned [] wr u := fun u h => h.2.2.2
            go_region_held3 (fun u => (u.cell? ⟨B, 0, none⟩ = some (.int .i64 a0_m.W) ∧ u.cell? ⟨B, 1, none⟩ = some (.int .i64 a0_m.H) ∧ u.cell? ⟨B, 2, none⟩ = some (.slice a0_oa nw a0_ca) ∧ u.cell? ⟨B, 3, none⟩ = some (.slice a0_ob ns a0_cb)) ∧ (u.cell? ⟨C, 0, none⟩ = some (.int .i64 e.id) ∧ u.cell? ⟨C, 1, none⟩ = some (.int .i64 e.kind) ∧ u.cell? ⟨C, 2, none⟩ = some (.int .i64 e.ax) ∧ u.cell? ⟨C, 3, none⟩ = some (.int .i64 e.ay) ∧ u.cell? ⟨C, 4, none⟩ = some (.int .i64 e.vx) ∧ u.cell? ⟨C, 5, none⟩ = some (.int .i64 e.vy) ∧ u.cell? ⟨C, 6, none⟩ = some (.int .i64 e.h) ∧ u.cell? ⟨C, 7, none⟩ = some (.int .i64 e.t)) ∧ (u.cell? ⟨g, off + k * 2, none⟩ = some (.int .i8 s0) ∧ u.cell? ⟨g, off + k * 2 + 1, none⟩ = some (.int .i8 s1)) ∧ Turned [] wr u)
              (first | with_reducible assumption | ((with_reducible refine hSof _ ?_); (repeat (first | with_reducible assumption | with_reducible exact hTof _ (by with_reducible assumption) | with_reducible exact Turned.refl [] wr | with_reducible refine Turned.drew ?_ | with_reducible refine Turned.alloc ?_ _ | with_reducible refine MvR.turned8 ?_ (.inr (by first | with_reducible exact Nat.le_refl _ | with_reducible exact HT3.size)) x))))
              (first | (go_at_call 10; (with_reducible refine (kw' _ (by (repeat (first | with_reducible assumption | with_reducible exact hTof _ (by with_reducible assumption) | with_reducible exact Turned.refl [] wr | with_reducible refine Turned.drew ?_ | with_reducible refine Turned.alloc ?_ _ | with_reducible refine MvR.turned8 ?_ (.inr (by first | with_reducible exact Nat.le_refl _ | with_reducible exact HT3.size)) x)))).mono ?_); rintro r u1 ⟨rfl, HT2⟩; have HT3 : Turned [] wr u1 := (Turned.trans (S' := []) (by (repeat (first | with_reducible assumption | with_reducible exact hTof _ (by with_reducible assumption) | with_reducible exact Turned.refl [] wr | with_reducible refine Turned.drew ?_ | with_reducible refine Turned.alloc ?_ _ | with_reducible refine MvR.turned8 ?_ (.inr (by first | with_reducible exact Nat.le_refl _ | with_reducible exact HT3.size)) x))) HT2 (by simp)); (first | (have hZ := (Struct.new wr [.int .i64 0, .int .i64 0, .int .i64 0, .int .i64 0, .int .i64 0, .int .i64 0, .int .i64 0, .int .i64 0] 30).keep (S := []) (by first | with_reducible exact HT2 | with_reducible exact ((Turned.refl [] _).drew).trans HT2 (by simp)) (by simp); have z0 : u1.cell? ⟨_, 0, none⟩ = some (.int .i64 0) := (hZ.2 0 _ rfl).1; have zf0 : u1.frozen? ⟨_, 0, none⟩ = false := (hZ.2 0 _ rfl).2; have z1 : u1.cell? ⟨_, 1, none⟩ = some (.int .i64 0) := (hZ.2 1 _ rfl).1; have zf1 : u1.frozen? ⟨_, 1, none⟩ = false := (hZ.2 1 _ rfl).2; have z2 : u1.cell? ⟨_, 2, none⟩ = some (.int .i64 0) := (hZ.2 2 _ rfl).1; have zf2 : u1.frozen? ⟨_, 2, none⟩ = false := (hZ.2 2 _ rfl).2; have z3 : u1.cell? ⟨_, 3, none⟩ = some (.int .i64 0) := (hZ.2 3 _ rfl).1; have zf3 : u1.frozen? ⟨_, 3, none⟩ = false := (hZ.2 3 _ rfl).2; have z4 : u1.cell? ⟨_, 4, none⟩ = some (.int .i64 0) := (hZ.2 4 _ rfl).1; have zf4 : u1.frozen? ⟨_, 4, none⟩ = false := (hZ.2 4 _ rfl).2; have z5 : u1.cell? ⟨_, 5, none⟩ = some (.int .i64 0) := (hZ.2 5 _ rfl).1; have zf5 : u1.frozen? ⟨_, 5, none⟩ = false := (hZ.2 5 _ rfl).2; have z6 : u1.cell? ⟨_, 6, none⟩ = some (.int .i64 0) := (hZ.2 6 _ rfl).1; have zf6 : u1.frozen? ⟨_, 6, none⟩ = false := (hZ.2 6 _ rfl).2; have z7 : u1.cell? ⟨_, 7, none⟩ = some (.int .i64 0) := (hZ.2 7 _ rfl).1; have zf7 : u1.frozen? ⟨_, 7, none⟩ = false := (hZ.2 7 _ rfl).2) | (have hZ := (Struct.new wr.drew [.int .i64 0, .int .i64 0, .int .i64 0, .int .i64 0, .int .i64 0, .int .i64 0, .int .i64 0, .int .i64 0] 30).keep (S := []) (by first | with_reducible exact HT2 | with_reducible exact ((Turned.refl [] _).drew).trans HT2 (by simp)) (by simp); have z0 : u1.cell? ⟨_, 0, none⟩ = some (.int .i64 0) := (hZ.2 0 _ rfl).1; have zf0 : u1.frozen? ⟨_, 0, none⟩ = false := (hZ.2 0 _ rfl).2; have z1 : u1.cell? ⟨_, 1, none⟩ = some (.int .i64 0) := (hZ.2 1 _ rfl).1; have zf1 : u1.frozen? ⟨_, 1, none⟩ = false := (hZ.2 1 _ rfl).2; have z2 : u1.cell? ⟨_, 2, none⟩ = some (.int .i64 0) := (hZ.2 2 _ rfl).1; have zf2 : u1.frozen? ⟨_, 2, none⟩ = false := (hZ.2 2 _ rfl).2; have z3 : u1.cell? ⟨_, 3, none⟩ = some (.int .i64 0) := (hZ.2 3 _ rfl).1; have zf3 : u1.frozen? ⟨_, 3, none⟩ = false := (hZ.2 3 _ rfl).2; have z4 : u1.cell? ⟨_, 4, none⟩ = some (.int .i64 0) := (hZ.2 4 _ rfl).1; have zf4 : u1.frozen? ⟨_, 4, none⟩ = false := (hZ.2 4 _ rfl).2; have z5 : u1.cell? ⟨_, 5, none⟩ = some (.int .i64 0) := (hZ.2 5 _ rfl).1; have zf5 : u1.frozen? ⟨_, 5, none⟩ = false := (hZ.2 5 _ rfl).2; have z6 : u1.cell? ⟨_, 6, none⟩ = some (.int .i64 0) := (hZ.2 6 _ rfl).1; have zf6 : u1.frozen? ⟨_, 6, none⟩ = false := (hZ.2 6 _ rfl).2; have z7 : u1.cell? ⟨_, 7, none⟩ = some (.int .i64 0) := (hZ.2 7 _ rfl).1; have zf7 : u1.frozen? ⟨_, 7, none⟩ = false := (hZ.2 7 _ rfl).2) | skip)))
            all_goals (first
              | (obtain ⟨V, hV⟩ : ∃ V, V = MvR.put8 u1 wr.heap.size x := ⟨_, rfl⟩; obtain ⟨X, hX⟩ : ∃ b, b = wr.heap.size := ⟨_, rfl⟩; have hXV : Struct X (enEnc x) V := (by rw [hV, hX]; exact MvR.set8 (e := MvR.zeroE) hZ x); have hTV : Turned [] wr V := (by rw [hV]; exact MvR.turned8 HT3 (.inr (Nat.le_refl _)) x); simp only [MvR.put8] at hV; rw [← hV, ← hX]; clear hV hX)
              | (obtain ⟨V, hV⟩ : ∃ V, V = u1.alloc (.cells #[.int .i64 x.id, .int .i64 x.kind, .int .i64 x.ax, .int .i64 x.ay, .int .i64 x.vx, .int .i64 x.vy, .int .i64 x.h, .int .i64 x.t] 30) := ⟨_, rfl⟩; obtain ⟨X, hX⟩ : ∃ b, b = u1.heap.size := ⟨_, rfl⟩; have hXV : Struct X (enEnc x) V := (by rw [hV, hX]; exact Struct.new u1 (enEnc x) _); have hTV : Turned [] wr V := (by rw [hV]; exact HT3.alloc _); rw [← hV, ← hX]; clear hV hX))
            all_goals
              obtain ⟨y4, y5, y6⟩ := HY.out
              have j4 : (x.id != e.id) = false := by rw [y4]; simp
              have j5 : (x.h != e.h) = false := by rw [y5]; simp
              have j6 : (x.t != e.t) = false := by rw [y6]; simp
              clear y4 y5 y6
              have d0 := ((hS1.keep hTV (by simp)).2 0 _ rfl).1; have d1 := ((hS1.keep hTV (by simp)).2 1 _ rfl).1; have d2 := ((hS1.keep hTV (by simp)).2 2 _ rfl).1; have d3 := ((hS1.keep hTV (by simp)).2 3 _ rfl).1
              have v0 := (hXV.2 0 _ rfl).1; have v1 := (hXV.2 1 _ rfl).1; have v2 := (hXV.2 2 _ rfl).1; have v3 := (hXV.2 3 _ rfl).1; have v4 := (hXV.2 4 _ rfl).1; have v5 := (hXV.2 5 _ rfl).1; have v6 := (hXV.2 6 _ rfl).1; have v7 := (hXV.2 7 _ rfl).1
              go_wp2_with (first | (go_at_call 14; (with_reducible refine (ks _ (hMr.calm hTV)).mono ?_); rintro r u2 ⟨rfl, HT5⟩; have HT6 := hTV.trans HT5 (by simp); have hX2 := hXV.keep HT5 (by simp); have hE2 := hE1.keep HT6 (by simp); have x0 := (hX2.2 0 _ rfl).1; have x1 := (hX2.2 1 _ rfl).1; have x2 := (hX2.2 2 _ rfl).1; have x3 := (hX2.2 3 _ rfl).1; have x4 := (hX2.2 4 _ rfl).1; have x5 := (hX2.2 5 _ rfl).1; have x6 := (hX2.2 6 _ rfl).1; have x7 := (hX2.2 7 _ rfl).1; have c0 := (hE2.2 0 _ rfl).1; have f0 := (hE2.2 0 _ rfl).2; have c1 := (hE2.2 1 _ rfl).1; have f1 := (hE2.2 1 _ rfl).2; have c2 := (hE2.2 2 _ rfl).1; have f2 := (hE2.2 2 _ rfl).2; have c3 := (hE2.2 3 _ rfl).1; have f3 := (hE2.2 3 _ rfl).2; have c4 := (hE2.2 4 _ rfl).1; have f4 := (hE2.2 4 _ rfl).2; have c5 := (hE2.2 5 _ rfl).1; have f5 := (hE2.2 5 _ rfl).2; have c6 := (hE2.2 6 _ rfl).1; have f6 := (hE2.2 6 _ rfl).2; have c7 := (hE2.2 7 _ rfl).1; have f7 := (hE2.2 7 _ rfl).2) | (go_at_call 16; (with_reducible refine (kz1 _).mono ?_); rintro r w9 ⟨rfl, hw9⟩; rw [hw9]; clear hw9 w9) | (go_at_call 16; (with_reducible refine (kz2 _).mono ?_); rintro r w9 ⟨rfl, hw9⟩; rw [hw9]; clear hw9 w9))
              go_roundw
              case rel => exact ⟨k + 1, x, by omega, by go_num, MvR.set8 (e := e) hE2 x, hxwf, y1, MvR.turned8 (HT1.trans HT6 (by simp)) (.inl (by simp)) x⟩
              case measure => simp [intOf]; omega
          · go_wp2_with fail
            go_ret
            exact ⟨rfl, hTw1.none⟩
    · have hlen' : 50 < (a2_n : Int) := by omega
      clear hfew hq hnw hns
      go_enter Try.func4, Try.ntmps4
      go_wp2_with fail
      rw [← hW0, ← hC, ← hB]
      clear hW0 hsz hB hC
      go_wp2_with (first | (go_at_call 8; (with_reducible refine (kA _).mono ?_); rintro r u0 ⟨rfl, HT1⟩; have HT0 := HT0.trans HT1 (by simp); have hSn := hS.keep HT0 (by simp); have d0 := (hSn.2 0 _ rfl).1; have d1 := (hSn.2 1 _ rfl).1; have d2 := (hSn.2 2 _ rfl).1; have d3 := (hSn.2 3 _ rfl).1; have hEn := hE.keep HT0 (by simp); have c0 := (hEn.2 0 _ rfl).1; have c1 := (hEn.2 1 _ rfl).1; have c2 := (hEn.2 2 _ rfl).1; have c3 := (hEn.2 3 _ rfl).1; have c4 := (hEn.2 4 _ rfl).1; have c5 := (hEn.2 5 _ rfl).1; have c6 := (hEn.2 6 _ rfl).1; have c7 := (hEn.2 7 _ rfl).1) | (go_at_call 9; (with_reducible refine (kf _).mono ?_); rintro r u0 ⟨rfl, HT1⟩; have HT0 := HT0.trans HT1 (by simp); have hSn := hS.keep HT0 (by simp); have d0 := (hSn.2 0 _ rfl).1; have d1 := (hSn.2 1 _ rfl).1; have d2 := (hSn.2 2 _ rfl).1; have d3 := (hSn.2 3 _ rfl).1; have hEn := hE.keep HT0 (by simp); have c0 := (hEn.2 0 _ rfl).1; have c1 := (hEn.2 1 _ rfl).1; have c2 := (hEn.2 2 _ rfl).1; have c3 := (hEn.2 3 _ rfl).1; have c4 := (hEn.2 4 _ rfl).1; have c5 := (hEn.2 5 _ rfl).1; have c6 := (hEn.2 6 _ rfl).1; have c7 := (hEn.2 7 _ rfl).1))
      go_ret
      exact ⟨rfl, (hT.trans HT0 (by simp)).none⟩
  · have hq : (decide (nw ≤ 1100) && decide (ns ≤ 1100)) = false := by simpa using hfew
    rw [hq] at kf
    clear hfew hq hnw hns
    go_enter Try.func4, Try.ntmps4
    go_wp2_with fail
    rw [← hW0, ← hC, ← hB]
    clear hW0 hsz hB hC
    go_wp2_with (first | (go_at_call 8; (with_reducible refine (kA _).mono ?_); rintro r u0 ⟨rfl, HT1⟩; have HT0 := HT0.trans HT1 (by simp); have hSn := hS.keep HT0 (by simp); have d0 := (hSn.2 0 _ rfl).1; have d1 := (hSn.2 1 _ rfl).1; have d2 := (hSn.2 2 _ rfl).1; have d3 := (hSn.2 3 _ rfl).1; have hEn := hE.keep HT0 (by simp); have c0 := (hEn.2 0 _ rfl).1; have c1 := (hEn.2 1 _ rfl).1; have c2 := (hEn.2 2 _ rfl).1; have c3 := (hEn.2 3 _ rfl).1; have c4 := (hEn.2 4 _ rfl).1; have c5 := (hEn.2 5 _ rfl).1; have c6 := (hEn.2 6 _ rfl).1; have c7 := (hEn.2 7 _ rfl).1) | (go_at_call 9; (with_reducible refine (kf _).mono ?_); rintro r u0 ⟨rfl, HT1⟩; have HT0 := HT0.trans HT1 (by simp); have hSn := hS.keep HT0 (by simp); have d0 := (hSn.2 0 _ rfl).1; have d1 := (hSn.2 1 _ rfl).1; have d2 := (hSn.2 2 _ rfl).1; have d3 := (hSn.2 3 _ rfl).1; have hEn := hE.keep HT0 (by simp); have c0 := (hEn.2 0 _ rfl).1; have c1 := (hEn.2 1 _ rfl).1; have c2 := (hEn.2 2 _ rfl).1; have c3 := (hEn.2 3 _ rfl).1; have c4 := (hEn.2 4 _ rfl).1; have c5 := (hEn.2 5 _ rfl).1; have c6 := (hEn.2 6 _ rfl).1; have c7 := (hEn.2 7 _ rfl).1))
    go_ret
    exact ⟨rfl, (hT.trans HT0 (by simp)).none⟩

set_option maxRecDepth 100000 in
theorem lifted (os : Os) (started : os.Started) (H : Type) (enc : TypeId × Value → H) :
    ReturnsInHanded {} Try.checked os 4 .any (Rows.moveFreeSpec.pre6 enc Try.prog Try.f4 Rows.moveFreeRow.domain false) (Rows.moveFreeSpec.post enc Try.prog Try.f4 false true false false) := by
  refine returnsInHanded_of_change (C := Try.checked) own started (by kernel_rfl) Try.func4
    (ChangeSpec.witness6 (enc := enc) (C := Try.checked) false ⟨#[], #[.agg #[.int .i64 0, .int .i64 0, .slice none 0 0, .slice none 0 0], .agg #[.int .i64 0, .int .i64 0, .int .i64 0, .int .i64 0, .int .i64 0, .int .i64 0, .int .i64 0, .int .i64 0], .slice none 0 0], []⟩ 8 (by kernel_rfl) (by kernel_rfl) (by kernel_rfl) (by kernel_rfl)) ?_
  intro W base args ds gs before hval0 hW hcnd _
  have hval : ∀ (j : Nat) t v, Try.f4.params[j]? = some t → args[j]? = some v → Value.okWide Try.prog W .any base t v := hval0
  have hW' := hW
  obtain ⟨p, q, hA0, hV, rfl, hfz, hnd⟩ := hW
  have hA : DataW.TrodAll enc Try.prog W 0 (fun _ => true) true Try.f4.params.toList args.toList ds p := hA0
  rw [Try.params4] at hA hval
  obtain ⟨v0, vs0, d0, ds0, p0, q0, hargs, rfl, rfl, h0, r0⟩ := trodAll_cons hA
  obtain ⟨v1, vs1, d1, ds1, p1, q1, rfl, rfl, rfl, h1, r1⟩ := trodAll_cons r0
  obtain ⟨v2, vs2, d2, ds2, p2, q2, rfl, rfl, rfl, h2, r2⟩ := trodAll_cons r1
  obtain ⟨rfl, rfl, rfl⟩ := trodAll_nil r2
  obtain rfl : args = #[v0, v1, v2] := by cases args; simp_all
  obtain ⟨rfl, rfl⟩ := trodVars_none hV
  have k0 := h0
  have lt0 : ∀ x ∈ p0, x.block < W.heap.size := by obtain ⟨m, hm⟩ := k0; exact DataW.trod_lt m _ _ _ hm
  have k1 := h1
  have lt1 : ∀ x ∈ p1, x.block < W.heap.size := by obtain ⟨m, hm⟩ := k1; exact DataW.trod_lt m _ _ _ hm
  have k2 := h2
  have lt2 : ∀ x ∈ p2, x.block < W.heap.size := by obtain ⟨m, hm⟩ := k2; exact DataW.trod_lt m _ _ _ hm
  obtain ⟨a0_m, a0_oa, a0_ca, a0_ob, a0_cb, rfl, w0⟩ := open_map (hval 0 25 v0 rfl rfl) h0
  obtain ⟨cs1, rfl, ok1⟩ := open_flat (d := 8) (ks := [.int .i64, .int .i64, .int .i64, .int .i64, .int .i64, .int .i64, .int .i64, .int .i64]) (Or.inl ⟨_, Try.underlying30⟩) (by kernel_rfl) (hval 1 30 v1 rfl rfl) h1
  obtain ⟨a1, rfl⟩ := enEnc_of cs1 ok1
  have w1_k := ok1
  obtain ⟨a2_o, a2_n, a2_c, a2_l, rfl, w2_m, w2_l, w2_e, w2, w2_k⟩ := open_flats (d := 8) (ks := [.int .i8, .int .i8]) enc2 Try.underlying43 (by kernel_rfl) (by kernel_rfl) (by decide) enc2_of (hval 2 43 v2 rfl rfl) h2
  clear hA0 hval0
  refine (walk a0_m a0_oa a0_ca a0_ob a0_cb a1 a2_o a2_n a2_c a2_l w1_k w2_m w2_l w2_e w2_k W w0 w2).mono fun e W' ⟨he, bel⟩ => ?_
  subst he
  exact ⟨_, rfl, _, _, _, [], _, [], hW', trodAll_mk1 (shut_bool Try.underlying4 _), (trodAll_cons_mk (Below.trod laidOut (by kernel_rfl) (of_decide_eq_true (by kernel_rfl)) k0 bel lt0) (trodAll_cons_mk (Below.trod laidOut (by kernel_rfl) (of_decide_eq_true (by kernel_rfl)) k1 bel lt1) (trodAll_cons_mk (Below.trod laidOut (by kernel_rfl) (of_decide_eq_true (by kernel_rfl)) k2 bel lt2) trodAll_mk0))), rfl, bel.frame _, fun h => by cases h⟩

theorem over : Rows.moveFreeRow.holds Try.pinned (OpenSpec.ofChange Rows.moveFreeSpec) :=
  OpenClaim.holds_of_wide 4 Try.f4 rfl rfl rfl rfl rfl rfl rfl ⟨rfl, rfl, rfl, rfl, rfl⟩ rfl rfl rfl rfl rfl (by kernel_rfl) Try.func4 (by kernel_rfl)
    (of_decide_eq_true (by kernel_rfl)) (by unfold Func.isWrapper; first | (rw [if_pos (by decide +kernel)]; kernel_rfl) | (rw [if_neg (by decide +kernel)]; exact ⟨rfl, rfl⟩))
    (fun os started H enc _ => lifted os started H enc)

theorem proved : Rows.MoveFreeSaid :=
  over
#print axioms proved
end Go.Proofs.Ytbfffgnalopfbaa.moveFree

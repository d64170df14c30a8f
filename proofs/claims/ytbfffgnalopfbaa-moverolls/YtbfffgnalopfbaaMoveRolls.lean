/- In all maps of up to 1100 tiles and spawns, a ball that stands free stands free behind each of up to 200 steps; its speed stays as great in each direction, and where it is blocked it is turned about, and stays. -/
import Derived.Test.YtbfffgnalopfbaaRows
import Derived.Test.YtbfffgnalopfbaaMvWalks
import Derived.Test.YtbfffgnalopfbaaMvLaw2
import Derived.Test.YtbfffgnalopfbaaFlat
import Derived.WalkKit
import Derived.ProofKit
import Derived.OpenShut
import Derived.ChangeOld
import Derived.Below
import Derived.WalkSmall
import Derived.Lib.SmallJoins
import Derived.Laws.IdiomArrays
namespace Go.Proofs.Ytbfffgnalopfbaa.moveRolls
open Go.ChangeShapes Go.WideShapes Go.ChangeAt Go.RowKit
set_option linter.unusedVariables false

theorem own : ownKnob Try.prog.godebug = none := by kernel_rfl
theorem laidOut : laidOutB Try.prog = true := by kernel_rfl

theorem rmod_in {a : Int} {n : Nat} (ha : 0 ≤ a) (hn : 1 ≤ n) : ∃ k : Nat, a.tmod (n : Int) = (k : Int) ∧ k < n := by
  have h1 : a.tmod (n : Int) = a % (n : Int) := Int.tmod_eq_emod_of_nonneg ha
  have h2 := Int.emod_nonneg a (show (n : Int) ≠ 0 by omega)
  have h3 := Int.emod_lt_of_pos a (show (0 : Int) < (n : Int) by omega)
  exact ⟨(a.tmod (n : Int)).toNat, by rw [h1]; omega, by rw [h1]; omega⟩
theorem size_neg {v : Int} (h1 : En.I64 v) (h2 : En.I64 (-v)) : Mv.size (-v) = Mv.size v := by
  unfold En.I64 at h1 h2
  unfold Mv.size
  repeat' split
  all_goals omega
theorem roll_ways {m : Ti.M} {e : En.E} (he : e.wf) (h : Mv.stands m e.ax e.ay = true) :
    Mv.stands m (Mv.roll m e).ax (Mv.roll m e).ay = true ∧ Mv.size (Mv.roll m e).vx = Mv.size e.vx ∧ Mv.size (Mv.roll m e).vy = Mv.size e.vy ∧ ((Mv.roll m e).ax = e.ax ∨ (Mv.roll m e).ax ≠ e.ax ∧ (Mv.roll m e).ax = e.ax + e.vx ∧ (Mv.roll m e).vx = e.vx) ∧ ((Mv.roll m e).ay = e.ay ∨ (Mv.roll m e).ay ≠ e.ay ∧ (Mv.roll m e).ay = e.ay + e.vy ∧ (Mv.roll m e).vy = e.vy) := by
  obtain ⟨y1, y2, y3, _⟩ := Mv.roll_free h
  obtain ⟨_, _, _, _, q5, q6, _, _⟩ := Mv.roll_wf (m := m) he
  obtain ⟨_, _, _, _, p5, p6, _, _⟩ := he
  refine ⟨y1, ?_, ?_, ?_, ?_⟩
  · rcases y2 with ⟨e1, _⟩ | ⟨e1, _⟩
    · rw [e1]
    · rw [e1] at q5 ⊢; exact size_neg p5 q5
  · rcases y3 with ⟨e1, _⟩ | ⟨e1, _⟩
    · rw [e1]
    · rw [e1] at q6 ⊢; exact size_neg p6 q6
  · by_cases hx : (Mv.roll m e).ax = e.ax
    · exact .inl hx
    · rcases y2 with ⟨e1, e2 | e2⟩ | ⟨_, e2⟩
      · exact .inr ⟨hx, e2, e1⟩
      · exact absurd e2 hx
      · exact absurd e2 hx
  · by_cases hx : (Mv.roll m e).ay = e.ay
    · exact .inl hx
    · rcases y3 with ⟨e1, e2 | e2⟩ | ⟨_, e2⟩
      · exact .inr ⟨hx, e2, e1⟩
      · exact absurd e2 hx
      · exact absurd e2 hx

set_option maxRecDepth 20000 in
set_option maxHeartbeats 8000000 in
theorem walk (a0_m : Ti.M) (a0_oa : Option Addr) (a0_ca : Nat) (a0_ob : Option Addr) (a0_cb : Nat) (a1 : En.E) (a2 : Int) (w1_k : AllOk [.int .i64, .int .i64, .int .i64, .int .i64, .int .i64, .int .i64, .int .i64, .int .i64] (enEnc a1)) (w2 : (Lit.int .u8 a2).wf = true) (w : World) (w0 : MapIn a0_m a0_oa a0_ca a0_ob a0_cb w) :
    Calls Try.prog 5 #[mapVal a0_m a0_oa a0_ca a0_ob a0_cb, enVal a1, .int .u8 a2] w fun e w' => e = .returned (.bool true) ∧ Below w.heap.size w w' := by
  have K := MvW.contracts
  have kA := MvL.awake_any K
  obtain ⟨nw, hnw⟩ : ∃ n, n = a0_m.ws.length := ⟨_, rfl⟩
  obtain ⟨ns, hns⟩ : ∃ n, n = a0_m.sp.length := ⟨_, rfl⟩
  have kf := fun u => MvL.few_any a0_m a0_oa a0_ca a0_ob a0_cb u
  unfold mapVal at kf ⊢
  rw [← hnw, ← hns] at kf ⊢
  have hewf := en_wf w1_k
  obtain ⟨W0, hW0⟩ : ∃ W0, W0 = (w.alloc (.cells #[.int .i64 a0_m.W, .int .i64 a0_m.H, .slice a0_oa nw a0_ca, .slice a0_ob ns a0_cb] 25)).alloc (.cells #[.int .i64 a1.id, .int .i64 a1.kind, .int .i64 a1.ax, .int .i64 a1.ay, .int .i64 a1.vx, .int .i64 a1.vy, .int .i64 a1.h, .int .i64 a1.t] 30) := ⟨_, rfl⟩
  obtain ⟨B, hB⟩ : ∃ b, b = w.heap.size := ⟨_, rfl⟩
  obtain ⟨C, hC⟩ : ∃ b, b = w.heap.size + 1 := ⟨_, rfl⟩
  have hsz : W0.heap.size = w.heap.size + 2 := by rw [hW0]; simp
  have hT : Turned [] w W0 := by rw [hW0]; exact ((Turned.refl [] w).alloc _).alloc _
  have hS : Struct B [.int .i64 a0_m.W, .int .i64 a0_m.H, .slice a0_oa nw a0_ca, .slice a0_ob ns a0_cb] W0 := by
    have h0 := Struct.new w [.int .i64 a0_m.W, .int .i64 a0_m.H, .slice a0_oa nw a0_ca, .slice a0_ob ns a0_cb] 25
    rw [← hB] at h0
    rw [hW0]; exact (h0.keep ((Turned.refl [] _).alloc _) (by simp))
  have hE : Struct C [.int .i64 a1.id, .int .i64 a1.kind, .int .i64 a1.ax, .int .i64 a1.ay, .int .i64 a1.vx, .int .i64 a1.vy, .int .i64 a1.h, .int .i64 a1.t] W0 := by
    have h0 := Struct.new (w.alloc (.cells #[.int .i64 a0_m.W, .int .i64 a0_m.H, .slice a0_oa nw a0_ca, .slice a0_ob ns a0_cb] 25)) [.int .i64 a1.id, .int .i64 a1.kind, .int .i64 a1.ax, .int .i64 a1.ay, .int .i64 a1.vx, .int .i64 a1.vy, .int .i64 a1.h, .int .i64 a1.t] 30
    rw [show (w.alloc (.cells #[.int .i64 a0_m.W, .int .i64 a0_m.H, .slice a0_oa nw a0_ca, .slice a0_ob ns a0_cb] 25)).heap.size = w.heap.size + 1 by simp, ← hC] at h0
    rw [hW0]; exact h0
  have HT0 : Turned [] W0 W0 := Turned.refl _ _
  by_cases hfew : nw ≤ 1100 ∧ ns ≤ 1100
  · have hM := (w0.at (by rw [← hnw]; exact hfew.1) (by rw [← hns]; exact hfew.2)).calm hT
    have hq : (decide (nw ≤ 1100) && decide (ns ≤ 1100)) = true := by simpa using hfew
    rw [hq] at kf
    have hu := u8_in w2
    obtain ⟨N, hN, hNl⟩ := rmod_in (a := a2) (n := 200) hu.1 (by decide)
    have hN : a2.tmod 200 = (N : Int) := hN
    have k1 := fun (u : World) (h : MapAt a0_m a0_oa a0_ob u) => K.stands a0_m a0_oa a0_ca a0_ob a0_cb a1.ax a1.ay u h
    unfold mapVal at k1
    rw [← hnw, ← hns] at k1
    cases hst : Mv.stands a0_m a1.ax a1.ay with
    | false =>
      rw [hst] at k1
      clear hfew hq hnw hns hst
      go_enter Try.func5, Try.ntmps5
      go_wp2_with fail
      rw [← hW0, ← hC, ← hB]
      clear hW0 hsz hB hC
      go_wp2_with (first | (go_at_call 8; (with_reducible refine (kA _).mono ?_); rintro r u0 ⟨rfl, HT1⟩; have HT0 := HT0.trans HT1 (by simp); have hSn := hS.keep HT0 (by simp); have d0 := (hSn.2 0 _ rfl).1; have d1 := (hSn.2 1 _ rfl).1; have d2 := (hSn.2 2 _ rfl).1; have d3 := (hSn.2 3 _ rfl).1; have hEn := hE.keep HT0 (by simp); have c0 := (hEn.2 0 _ rfl).1; have c1 := (hEn.2 1 _ rfl).1; have c2 := (hEn.2 2 _ rfl).1; have c3 := (hEn.2 3 _ rfl).1; have c4 := (hEn.2 4 _ rfl).1; have c5 := (hEn.2 5 _ rfl).1; have c6 := (hEn.2 6 _ rfl).1; have c7 := (hEn.2 7 _ rfl).1) | (go_at_call 9; (with_reducible refine (kf _).mono ?_); rintro r u0 ⟨rfl, HT1⟩; have HT0 := HT0.trans HT1 (by simp); have hSn := hS.keep HT0 (by simp); have d0 := (hSn.2 0 _ rfl).1; have d1 := (hSn.2 1 _ rfl).1; have d2 := (hSn.2 2 _ rfl).1; have d3 := (hSn.2 3 _ rfl).1; have hEn := hE.keep HT0 (by simp); have c0 := (hEn.2 0 _ rfl).1; have c1 := (hEn.2 1 _ rfl).1; have c2 := (hEn.2 2 _ rfl).1; have c3 := (hEn.2 3 _ rfl).1; have c4 := (hEn.2 4 _ rfl).1; have c5 := (hEn.2 5 _ rfl).1; have c6 := (hEn.2 6 _ rfl).1; have c7 := (hEn.2 7 _ rfl).1) | (go_at_call 14; (with_reducible refine (k1 _ (hM.calm HT0)).mono ?_); rintro r u0 ⟨rfl, HT1⟩; have HT0 := HT0.trans HT1 (by simp); have hSn := hS.keep HT0 (by simp); have d0 := (hSn.2 0 _ rfl).1; have d1 := (hSn.2 1 _ rfl).1; have d2 := (hSn.2 2 _ rfl).1; have d3 := (hSn.2 3 _ rfl).1; have hEn := hE.keep HT0 (by simp); have c0 := (hEn.2 0 _ rfl).1; have c1 := (hEn.2 1 _ rfl).1; have c2 := (hEn.2 2 _ rfl).1; have c3 := (hEn.2 3 _ rfl).1; have c4 := (hEn.2 4 _ rfl).1; have c5 := (hEn.2 5 _ rfl).1; have c6 := (hEn.2 6 _ rfl).1; have c7 := (hEn.2 7 _ rfl).1))
      go_ret
      exact ⟨rfl, (hT.trans HT0 (by simp)).none⟩
    | true =>
      rw [hst] at k1
      by_cases hkd : a1.kind = 2
      · have hkd' : (a1.kind != 2) = false := by rw [hkd]; rfl
        have kR := fun (e : En.E) (he : e.wf) (u : World) (h : MapAt a0_m a0_oa a0_ob u) => K.roll a0_m a0_oa a0_ca a0_ob a0_cb e he u h
        have kS := fun (x y : Int) (u : World) (h : MapAt a0_m a0_oa a0_ob u) => K.stands a0_m a0_oa a0_ca a0_ob a0_cb x y u h
        unfold mapVal enVal at kR
        unfold mapVal at kS
        rw [← hnw, ← hns] at kR kS
        have HF : Hid (a0_m.ws.length ≤ 1100 ∧ a0_m.sp.length ≤ 1100) := ⟨by rw [← hnw]; exact hfew.1, by rw [← hns]; exact hfew.2⟩
        have hBC : B ≠ C := by omega
        have hCw : w.heap.size ≤ C := by omega
        have hst0 : Hid (Mv.stands a0_m a1.ax a1.ay = true) := hst
        clear hfew hq hnw hns hst hkd
        go_enter Try.func5, Try.ntmps5
        go_wp2_with fail
        rw [← hW0, ← hC, ← hB]
        clear hW0 hsz hB hC
        go_wp2_with (first | (go_at_call 8; (with_reducible refine (kA _).mono ?_); rintro r u0 ⟨rfl, HT1⟩; have HT0 := HT0.trans HT1 (by simp); have hSn := hS.keep HT0 (by simp); have d0 := (hSn.2 0 _ rfl).1; have d1 := (hSn.2 1 _ rfl).1; have d2 := (hSn.2 2 _ rfl).1; have d3 := (hSn.2 3 _ rfl).1; have hEn := hE.keep HT0 (by simp); have c0 := (hEn.2 0 _ rfl).1; have c1 := (hEn.2 1 _ rfl).1; have c2 := (hEn.2 2 _ rfl).1; have c3 := (hEn.2 3 _ rfl).1; have c4 := (hEn.2 4 _ rfl).1; have c5 := (hEn.2 5 _ rfl).1; have c6 := (hEn.2 6 _ rfl).1; have c7 := (hEn.2 7 _ rfl).1) | (go_at_call 9; (with_reducible refine (kf _).mono ?_); rintro r u0 ⟨rfl, HT1⟩; have HT0 := HT0.trans HT1 (by simp); have hSn := hS.keep HT0 (by simp); have d0 := (hSn.2 0 _ rfl).1; have d1 := (hSn.2 1 _ rfl).1; have d2 := (hSn.2 2 _ rfl).1; have d3 := (hSn.2 3 _ rfl).1; have hEn := hE.keep HT0 (by simp); have c0 := (hEn.2 0 _ rfl).1; have c1 := (hEn.2 1 _ rfl).1; have c2 := (hEn.2 2 _ rfl).1; have c3 := (hEn.2 3 _ rfl).1; have c4 := (hEn.2 4 _ rfl).1; have c5 := (hEn.2 5 _ rfl).1; have c6 := (hEn.2 6 _ rfl).1; have c7 := (hEn.2 7 _ rfl).1) | (go_at_call 14; (with_reducible refine (k1 _ (hM.calm HT0)).mono ?_); rintro r u0 ⟨rfl, HT1⟩; have HT0 := HT0.trans HT1 (by simp); have hSn := hS.keep HT0 (by simp); have d0 := (hSn.2 0 _ rfl).1; have d1 := (hSn.2 1 _ rfl).1; have d2 := (hSn.2 2 _ rfl).1; have d3 := (hSn.2 3 _ rfl).1; have hEn := hE.keep HT0 (by simp); have c0 := (hEn.2 0 _ rfl).1; have c1 := (hEn.2 1 _ rfl).1; have c2 := (hEn.2 2 _ rfl).1; have c3 := (hEn.2 3 _ rfl).1; have c4 := (hEn.2 4 _ rfl).1; have c5 := (hEn.2 5 _ rfl).1; have c6 := (hEn.2 6 _ rfl).1; have c7 := (hEn.2 7 _ rfl).1))
        have hSn0 := hS.keep HT0 (by simp)
        have hEn0 := hE.keep HT0 (by simp)
        have HTC := HT0.mono (S' := [C]) (by simp)
        clear d0 d1 d2 d3 c0 c1 c2 c3 c4 c5 c6 c7 hSn hEn k1
        go_loopw [7] (fun i wr => ∃ (k : Nat) (e : En.E), k ≤ N ∧ i = .int .i64 (k : Int) ∧ Struct C (enEnc e) wr ∧ e.wf ∧ Mv.stands a0_m e.ax e.ay = true ∧ Turned [C] W0 wr) (fun i _ => N - (intOf i).toNat)
        case atStart => exact ⟨0, a1, by omega, rfl, hEn0, hewf, hst0.out, HTC⟩
        case round =>
          clear hEn0 hSn0 HTC HT0
          obtain ⟨k, e, hk, rfl, hE1, hewf1, hst1, HT1⟩ := hrel
          have hS1 := hS.keep HT1 (by simpa using hBC)
          have hTw1 : Turned [] w wr := hT.trans HT1 (by intro k hk hl; simp at hk; omega)
          by_cases hlt : (k : Int) < (N : Int)
          · obtain ⟨y1, y2, y3, y4, y5⟩ := roll_ways (m := a0_m) hewf1 hst1
            have hxwf := Mv.roll_wf (m := a0_m) hewf1
            have kr := kR e hewf1
            obtain ⟨x, hx⟩ : ∃ x, x = Mv.roll a0_m e := ⟨_, rfl⟩
            rw [← hx] at y1 y2 y3 y4 y5 hxwf kr
            have hMr := (w0.at HF.out.1 HF.out.2).calm hTw1
            have ks := kS x.ax x.ay
            rw [y1] at ks
            have kz1 := fun u => MvL.size_any x.vx hxwf.2.2.2.2.1 u
            have kz2 := fun u => MvL.size_any e.vx hewf1.2.2.2.2.1 u
            have kz3 := fun u => MvL.size_any x.vy hxwf.2.2.2.2.2.1 u
            have kz4 := fun u => MvL.size_any e.vy hewf1.2.2.2.2.2.1 u
            rw [y2] at kz1
            rw [y3] at kz3
            obtain ⟨z1, hz1⟩ : ∃ z, z = Mv.size e.vx := ⟨_, rfl⟩
            obtain ⟨z2, hz2⟩ : ∃ z, z = Mv.size e.vy := ⟨_, rfl⟩
            rw [← hz1] at kz1 kz2
            rw [← hz2] at kz3 kz4
            have HQ : Hid (En.I64 x.ax ∧ En.I64 x.ay) := ⟨hxwf.2.2.1, hxwf.2.2.2.1⟩
            have HXW : Hid x.wf := hxwf
            have HY : Hid ((x.ax = e.ax ∨ x.ax ≠ e.ax ∧ x.ax = e.ax + e.vx ∧ x.vx = e.vx) ∧ (x.ay = e.ay ∨ x.ay ≠ e.ay ∧ x.ay = e.ay + e.vy ∧ x.vy = e.vy)) := ⟨y4, y5⟩
            clear hx hz1 hz2 y2 y3 y4 y5 kR kS hxwf hewf1
            have d0 := (hS1.2 0 _ rfl).1
            have d1 := (hS1.2 1 _ rfl).1
            have d2 := (hS1.2 2 _ rfl).1
            have d3 := (hS1.2 3 _ rfl).1
            have c0 := (hE1.2 0 _ rfl).1
            have f0 := (hE1.2 0 _ rfl).2
            have c1 := (hE1.2 1 _ rfl).1
            have f1 := (hE1.2 1 _ rfl).2
            have c2 := (hE1.2 2 _ rfl).1
            have f2 := (hE1.2 2 _ rfl).2
            have c3 := (hE1.2 3 _ rfl).1
            have f3 := (hE1.2 3 _ rfl).2
            have c4 := (hE1.2 4 _ rfl).1
            have f4 := (hE1.2 4 _ rfl).2
            have c5 := (hE1.2 5 _ rfl).1
            have f5 := (hE1.2 5 _ rfl).2
            have c6 := (hE1.2 6 _ rfl).1
            have f6 := (hE1.2 6 _ rfl).2
            have c7 := (hE1.2 7 _ rfl).1
            have f7 := (hE1.2 7 _ rfl).2
            go_wp2_with (first | (go_at_call 12; (with_reducible refine (kr _ hMr).mono ?_); rintro r u1 ⟨rfl, HT3⟩))
            obtain ⟨V, hV⟩ : ∃ V, V = u1.alloc (.cells #[.int .i64 x.id, .int .i64 x.kind, .int .i64 x.ax, .int .i64 x.ay, .int .i64 x.vx, .int .i64 x.vy, .int .i64 x.h, .int .i64 x.t] 30) := ⟨_, rfl⟩
            obtain ⟨X, hX⟩ : ∃ b, b = u1.heap.size := ⟨_, rfl⟩
            have hXV : Struct X (enEnc x) V := (by rw [hV, hX]; exact Struct.new u1 (enEnc x) _)
            have hTV : Turned [] wr V := (by rw [hV]; exact HT3.alloc _)
            rw [← hV, ← hX]
            clear hV hX
            have hSV := hS1.keep hTV (by simp)
            have hEV := hE1.keep hTV (by simp)
            have hMV := hMr.calm hTV
            have kd0 := KeptW.at hSV.1 (hSV.2 0 _ rfl).1
            have kd1 := KeptW.at hSV.1 (hSV.2 1 _ rfl).1
            have kd2 := KeptW.at hSV.1 (hSV.2 2 _ rfl).1
            have kd3 := KeptW.at hSV.1 (hSV.2 3 _ rfl).1
            have kc0 := KeptW.at hEV.1 (hEV.2 0 _ rfl).1
            have kc1 := KeptW.at hEV.1 (hEV.2 1 _ rfl).1
            have kc2 := KeptW.at hEV.1 (hEV.2 2 _ rfl).1
            have kc3 := KeptW.at hEV.1 (hEV.2 3 _ rfl).1
            have kc4 := KeptW.at hEV.1 (hEV.2 4 _ rfl).1
            have kc5 := KeptW.at hEV.1 (hEV.2 5 _ rfl).1
            have kc6 := KeptW.at hEV.1 (hEV.2 6 _ rfl).1
            have kc7 := KeptW.at hEV.1 (hEV.2 7 _ rfl).1
            have kx0 := KeptW.at hXV.1 (hXV.2 0 _ rfl).1
            have kx1 := KeptW.at hXV.1 (hXV.2 1 _ rfl).1
            have kx2 := KeptW.at hXV.1 (hXV.2 2 _ rfl).1
            have kx3 := KeptW.at hXV.1 (hXV.2 3 _ rfl).1
            have kx4 := KeptW.at hXV.1 (hXV.2 4 _ rfl).1
            have kx5 := KeptW.at hXV.1 (hXV.2 5 _ rfl).1
            have kx6 := KeptW.at hXV.1 (hXV.2 6 _ rfl).1
            have kx7 := KeptW.at hXV.1 (hXV.2 7 _ rfl).1
            have ne : Nonempty (KeptW V) := KeptW.one V
            have gS := fun (v : KeptW V) => MvL.quiet (ks v.u (hMV.calm (Turned.ofBelow v.h)))
            have g1 := fun (v : KeptW V) => MvL.quiet ((kz1 v.u).mono fun r w' h => ⟨h.1, h.2 ▸ Turned.refl [] _⟩)
            have g2 := fun (v : KeptW V) => MvL.quiet ((kz2 v.u).mono fun r w' h => ⟨h.1, h.2 ▸ Turned.refl [] _⟩)
            have g3 := fun (v : KeptW V) => MvL.quiet ((kz3 v.u).mono fun r w' h => ⟨h.1, h.2 ▸ Turned.refl [] _⟩)
            have g4 := fun (v : KeptW V) => MvL.quiet ((kz4 v.u).mono fun r w' h => ⟨h.1, h.2 ▸ Turned.refl [] _⟩)
            refine wp_region_kept (by kernel_rfl) (by kernel_rfl) ?_
            repeat (go_big_quiet_step (first | (go_at_call 14; with_reducible exact gS _) | (go_at_call 16; with_reducible exact g1 _) | (go_at_call 16; with_reducible exact g2 _) | (go_at_call 16; with_reducible exact g3 _) | (go_at_call 16; with_reducible exact g4 _)))
            refine wpQuiet_nil ?_
            rintro _ ⟨v, rfl⟩
            have HTv := hTV.trans (Turned.ofBelow v.h) (by simp)
            have hX2 := hXV.keep (Turned.ofBelow v.h) (by simp)
            have hE2 := hE1.keep HTv (by simp)
            clear gS g1 g2 g3 g4 ks kz1 kz2 kz3 kz4 kr kd0 kd1 kd2 kd3 kc0 kc1 kc2 kc3 kc4 kc5 kc6 kc7 kx0 kx1 kx2 kx3 kx4 kx5 kx6 kx7
            have c0 := (hE2.2 0 _ rfl).1
            have f0 := (hE2.2 0 _ rfl).2
            have c1 := (hE2.2 1 _ rfl).1
            have f1 := (hE2.2 1 _ rfl).2
            have c2 := (hE2.2 2 _ rfl).1
            have f2 := (hE2.2 2 _ rfl).2
            have c3 := (hE2.2 3 _ rfl).1
            have f3 := (hE2.2 3 _ rfl).2
            have c4 := (hE2.2 4 _ rfl).1
            have f4 := (hE2.2 4 _ rfl).2
            have c5 := (hE2.2 5 _ rfl).1
            have f5 := (hE2.2 5 _ rfl).2
            have c6 := (hE2.2 6 _ rfl).1
            have f6 := (hE2.2 6 _ rfl).2
            have c7 := (hE2.2 7 _ rfl).1
            have f7 := (hE2.2 7 _ rfl).2
            have x0 := (hX2.2 0 _ rfl).1
            have x1 := (hX2.2 1 _ rfl).1
            have x2 := (hX2.2 2 _ rfl).1
            have x3 := (hX2.2 3 _ rfl).1
            have x4 := (hX2.2 4 _ rfl).1
            have x5 := (hX2.2 5 _ rfl).1
            have x6 := (hX2.2 6 _ rfl).1
            have x7 := (hX2.2 7 _ rfl).1
            obtain ⟨Q1, Q2⟩ := HQ.out
            obtain ⟨Y1, Y2⟩ := HY.out
            have R1 : (x.ax != e.ax) = false ∨ (x.ax != e.ax) = true ∧ (x.ax != e.ax + e.vx) = false ∧ IntKind.i64.wrap (e.ax + e.vx) = e.ax + e.vx ∧ (x.vx != e.vx) = false := by
              rcases Y1 with h | ⟨h1, h2, h3⟩
              · exact .inl (by rw [bne_eq_false_iff_eq]; exact h)
              · exact .inr ⟨by simpa using h1, by rw [bne_eq_false_iff_eq]; exact h2, by unfold En.I64 at Q1; rw [h2] at Q1; simp [IntKind.wrap, IntKind.bits, IntKind.signed]; omega, by rw [bne_eq_false_iff_eq]; exact h3⟩
            have R2 : (x.ay != e.ay) = false ∨ (x.ay != e.ay) = true ∧ (x.ay != e.ay + e.vy) = false ∧ IntKind.i64.wrap (e.ay + e.vy) = e.ay + e.vy ∧ (x.vy != e.vy) = false := by
              rcases Y2 with h | ⟨h1, h2, h3⟩
              · exact .inl (by rw [bne_eq_false_iff_eq]; exact h)
              · exact .inr ⟨by simpa using h1, by rw [bne_eq_false_iff_eq]; exact h2, by unfold En.I64 at Q2; rw [h2] at Q2; simp [IntKind.wrap, IntKind.bits, IntKind.signed]; omega, by rw [bne_eq_false_iff_eq]; exact h3⟩
            clear Y1 Y2 Q1 Q2
            rcases R1 with r1 | ⟨r1, r2, r3, r4⟩ <;> rcases R2 with s1 | ⟨s1, s2, s3, s4⟩
            all_goals
              go_wp2_with fail
              go_roundw
              case rel => exact ⟨k + 1, x, by omega, by go_num, MvR.set8 (e := e) hE2 x, HXW.out, y1, MvR.turned8 (HT1.trans HTv (by simp)) (.inl (by simp)) x⟩
              case measure => simp [intOf]; omega
          · go_wp2_with fail
            go_ret
            exact ⟨rfl, hTw1.none⟩
      · have hkd' : (a1.kind != 2) = true := by simpa using hkd
        clear hfew hq hnw hns hst hkd
        go_enter Try.func5, Try.ntmps5
        go_wp2_with fail
        rw [← hW0, ← hC, ← hB]
        clear hW0 hsz hB hC
        go_wp2_with (first | (go_at_call 8; (with_reducible refine (kA _).mono ?_); rintro r u0 ⟨rfl, HT1⟩; have HT0 := HT0.trans HT1 (by simp); have hSn := hS.keep HT0 (by simp); have d0 := (hSn.2 0 _ rfl).1; have d1 := (hSn.2 1 _ rfl).1; have d2 := (hSn.2 2 _ rfl).1; have d3 := (hSn.2 3 _ rfl).1; have hEn := hE.keep HT0 (by simp); have c0 := (hEn.2 0 _ rfl).1; have c1 := (hEn.2 1 _ rfl).1; have c2 := (hEn.2 2 _ rfl).1; have c3 := (hEn.2 3 _ rfl).1; have c4 := (hEn.2 4 _ rfl).1; have c5 := (hEn.2 5 _ rfl).1; have c6 := (hEn.2 6 _ rfl).1; have c7 := (hEn.2 7 _ rfl).1) | (go_at_call 9; (with_reducible refine (kf _).mono ?_); rintro r u0 ⟨rfl, HT1⟩; have HT0 := HT0.trans HT1 (by simp); have hSn := hS.keep HT0 (by simp); have d0 := (hSn.2 0 _ rfl).1; have d1 := (hSn.2 1 _ rfl).1; have d2 := (hSn.2 2 _ rfl).1; have d3 := (hSn.2 3 _ rfl).1; have hEn := hE.keep HT0 (by simp); have c0 := (hEn.2 0 _ rfl).1; have c1 := (hEn.2 1 _ rfl).1; have c2 := (hEn.2 2 _ rfl).1; have c3 := (hEn.2 3 _ rfl).1; have c4 := (hEn.2 4 _ rfl).1; have c5 := (hEn.2 5 _ rfl).1; have c6 := (hEn.2 6 _ rfl).1; have c7 := (hEn.2 7 _ rfl).1) | (go_at_call 14; (with_reducible refine (k1 _ (hM.calm HT0)).mono ?_); rintro r u0 ⟨rfl, HT1⟩; have HT0 := HT0.trans HT1 (by simp); have hSn := hS.keep HT0 (by simp); have d0 := (hSn.2 0 _ rfl).1; have d1 := (hSn.2 1 _ rfl).1; have d2 := (hSn.2 2 _ rfl).1; have d3 := (hSn.2 3 _ rfl).1; have hEn := hE.keep HT0 (by simp); have c0 := (hEn.2 0 _ rfl).1; have c1 := (hEn.2 1 _ rfl).1; have c2 := (hEn.2 2 _ rfl).1; have c3 := (hEn.2 3 _ rfl).1; have c4 := (hEn.2 4 _ rfl).1; have c5 := (hEn.2 5 _ rfl).1; have c6 := (hEn.2 6 _ rfl).1; have c7 := (hEn.2 7 _ rfl).1))
        go_ret
        exact ⟨rfl, (hT.trans HT0 (by simp)).none⟩
  · have hq : (decide (nw ≤ 1100) && decide (ns ≤ 1100)) = false := by simpa using hfew
    rw [hq] at kf
    clear hfew hq hnw hns
    go_enter Try.func5, Try.ntmps5
    go_wp2_with fail
    rw [← hW0, ← hC, ← hB]
    clear hW0 hsz hB hC
    go_wp2_with (first | (go_at_call 8; (with_reducible refine (kA _).mono ?_); rintro r u0 ⟨rfl, HT1⟩; have HT0 := HT0.trans HT1 (by simp); have hSn := hS.keep HT0 (by simp); have d0 := (hSn.2 0 _ rfl).1; have d1 := (hSn.2 1 _ rfl).1; have d2 := (hSn.2 2 _ rfl).1; have d3 := (hSn.2 3 _ rfl).1; have hEn := hE.keep HT0 (by simp); have c0 := (hEn.2 0 _ rfl).1; have c1 := (hEn.2 1 _ rfl).1; have c2 := (hEn.2 2 _ rfl).1; have c3 := (hEn.2 3 _ rfl).1; have c4 := (hEn.2 4 _ rfl).1; have c5 := (hEn.2 5 _ rfl).1; have c6 := (hEn.2 6 _ rfl).1; have c7 := (hEn.2 7 _ rfl).1) | (go_at_call 9; (with_reducible refine (kf _).mono ?_); rintro r u0 ⟨rfl, HT1⟩; have HT0 := HT0.trans HT1 (by simp); have hSn := hS.keep HT0 (by simp); have d0 := (hSn.2 0 _ rfl).1; have d1 := (hSn.2 1 _ rfl).1; have d2 := (hSn.2 2 _ rfl).1; have d3 := (hSn.2 3 _ rfl).1; have hEn := hE.keep HT0 (by simp); have c0 := (hEn.2 0 _ rfl).1; have c1 := (hEn.2 1 _ rfl).1; have c2 := (hEn.2 2 _ rfl).1; have c3 := (hEn.2 3 _ rfl).1; have c4 := (hEn.2 4 _ rfl).1; have c5 := (hEn.2 5 _ rfl).1; have c6 := (hEn.2 6 _ rfl).1; have c7 := (hEn.2 7 _ rfl).1))
    go_ret
    exact ⟨rfl, (hT.trans HT0 (by simp)).none⟩

set_option maxRecDepth 100000 in
theorem lifted (os : Os) (started : os.Started) (H : Type) (enc : TypeId × Value → H) :
    ReturnsInHanded {} Try.checked os 5 .any (Rows.moveRollsSpec.pre6 enc Try.prog Try.f5 Rows.moveRollsRow.domain false) (Rows.moveRollsSpec.post enc Try.prog Try.f5 false true false false) := by
  refine returnsInHanded_of_change (C := Try.checked) own started (by kernel_rfl) Try.func5
    (ChangeSpec.witness6 (enc := enc) (C := Try.checked) false ⟨#[], #[.agg #[.int .i64 0, .int .i64 0, .slice none 0 0, .slice none 0 0], .agg #[.int .i64 0, .int .i64 0, .int .i64 0, .int .i64 0, .int .i64 0, .int .i64 0, .int .i64 0, .int .i64 0], .int .u8 0], []⟩ 8 (by kernel_rfl) (by kernel_rfl) (by kernel_rfl) (by kernel_rfl)) ?_
  intro W base args ds gs before hval0 hW hcnd _
  have hval : ∀ (j : Nat) t v, Try.f5.params[j]? = some t → args[j]? = some v → Value.okWide Try.prog W .any base t v := hval0
  have hW' := hW
  obtain ⟨p, q, hA0, hV, rfl, hfz, hnd⟩ := hW
  have hA : DataW.TrodAll enc Try.prog W 0 (fun _ => true) true Try.f5.params.toList args.toList ds p := hA0
  rw [Try.params5] at hA hval
  obtain ⟨v0, vs0, d0, ds0, p0, q0, hargs, rfl, rfl, h0, r0⟩ := trodAll_cons hA
  obtain ⟨v1, vs1, d1, ds1, p1, q1, rfl, rfl, rfl, h1, r1⟩ := trodAll_cons r0
  obtain ⟨v2, vs2, d2, ds2, p2, q2, rfl, rfl, rfl, h2, r2⟩ := trodAll_cons r1
  obtain ⟨rfl, rfl, rfl⟩ := trodAll_nil r2
  obtain rfl : args = #[v0, v1, v2] := by cases args; simp_all
  obtain ⟨rfl, rfl⟩ := trodVars_none hV
  have k0 := h0
  have lt0 : ∀ x ∈ p0, x.block < W.heap.size := by obtain ⟨m, hm⟩ := k0; exact DataW.trod_lt m _ _ _ hm
  have k1 := h1
  have lt1 : ∀ x ∈ p1, x.block < W.heap.size := by obtain ⟨m, hm⟩ := k1; exact DataW.trod_lt m _ _ _ hm
  have k2 := h2
  have lt2 : ∀ x ∈ p2, x.block < W.heap.size := by obtain ⟨m, hm⟩ := k2; exact DataW.trod_lt m _ _ _ hm
  obtain ⟨a0_m, a0_oa, a0_ca, a0_ob, a0_cb, rfl, w0⟩ := open_map (hval 0 25 v0 rfl rfl) h0
  obtain ⟨cs1, rfl, ok1⟩ := open_flat (d := 8) (ks := [.int .i64, .int .i64, .int .i64, .int .i64, .int .i64, .int .i64, .int .i64, .int .i64]) (Or.inl ⟨_, Try.underlying30⟩) (by kernel_rfl) (hval 1 30 v1 rfl rfl) h1
  obtain ⟨a1, rfl⟩ := enEnc_of cs1 ok1
  have w1_k := ok1
  obtain ⟨a2, rfl, _, _, w2⟩ := open_int Try.underlying5 (hval 2 5 v2 rfl rfl) h2
  clear hA0 hval0
  refine (walk a0_m a0_oa a0_ca a0_ob a0_cb a1 a2 w1_k w2 W w0).mono fun e W' ⟨he, bel⟩ => ?_
  subst he
  exact ⟨_, rfl, _, _, _, [], _, [], hW', trodAll_mk1 (shut_bool Try.underlying4 _), (trodAll_cons_mk (Below.trod laidOut (by kernel_rfl) (of_decide_eq_true (by kernel_rfl)) k0 bel lt0) (trodAll_cons_mk (Below.trod laidOut (by kernel_rfl) (of_decide_eq_true (by kernel_rfl)) k1 bel lt1) (trodAll_cons_mk (Below.trod laidOut (by kernel_rfl) (of_decide_eq_true (by kernel_rfl)) k2 bel lt2) trodAll_mk0))), rfl, bel.frame _, fun h => by cases h⟩

theorem over : Rows.moveRollsRow.holds Try.pinned (OpenSpec.ofChange Rows.moveRollsSpec) :=
  OpenClaim.holds_of_wide 5 Try.f5 rfl rfl rfl rfl rfl rfl rfl ⟨rfl, rfl, rfl, rfl, rfl⟩ rfl rfl rfl rfl rfl (by kernel_rfl) Try.func5 (by kernel_rfl)
    (of_decide_eq_true (by kernel_rfl)) (by unfold Func.isWrapper; first | (rw [if_pos (by decide +kernel)]; kernel_rfl) | (rw [if_neg (by decide +kernel)]; exact ⟨rfl, rfl⟩))
    (fun os started H enc _ => lifted os started H enc)

theorem proved : Rows.MoveRollsSaid :=
  over
#print axioms proved
end Go.Proofs.Ytbfffgnalopfbaa.moveRolls

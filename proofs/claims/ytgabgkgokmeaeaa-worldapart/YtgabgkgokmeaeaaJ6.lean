/- Joined: MvWalks, WdLeave, WdHit, Made, WdSort. -/
import Derived.Test.YtgabgkgokmeaeaaJ5
import Derived.OwnWalk
/- How one moves: the program's speedOf, formed, a whole step, Walk and Roll (MvW). -/
namespace Go.Proofs.Ytgabgkgokmeaeaa
open Go.RowKit
set_option linter.unusedVariables false
set_option linter.unusedSimpArgs false

namespace MvW
theorem div_down {a : Int} (h1 : -128 ≤ a) (h2 : a ≤ 127) : Fx.div (a * 16384) (Fx.ofI 127) = Mv.down (a * 16384) := by
  have e1 : Fx.ofI 127 = 8323072 := by decide
  rw [e1]
  unfold Fx.div Mv.down
  rw [if_neg (by omega), Fx.hold_of (x := a * 16384) (by omega) (by omega), Fx.hold_of (x := 8323072) (by omega) (by omega), Int.fdiv_eq_ediv_of_nonneg _ (by omega)]
  have e2 : a * 16384 * 65536 / 8323072 = a * 16384 / 127 := by omega
  rw [e2]
  exact Fx.hold_of (by omega) (by omega)

set_option maxHeartbeats 1000000 in
theorem speed_any (a : Int) (h1 : -128 ≤ a) (h2 : a ≤ 127) (w : World) :
    Calls Try.prog 52 #[.int .i8 a] w fun e w' => e = .returned (.int .i64 (Mv.down (a * 16384))) ∧ w' = w := by
  have ko := fun u => FxW.of_any 127 u
  have kd := fun u => FxW.div_any (a * 16384) (Fx.ofI 127) u
  rw [div_down h1 h2] at kd
  obtain ⟨o, ho⟩ : ∃ o, o = Fx.ofI 127 := ⟨_, rfl⟩
  obtain ⟨d, hd⟩ : ∃ d, d = Mv.down (a * 16384) := ⟨_, rfl⟩
  rw [← ho] at ko kd
  rw [← hd] at kd ⊢
  clear ho hd
  go_enter Try.func52, Try.ntmps52
  go_wp2_with (first | (go_at_call 67; (with_reducible refine (ko _).mono ?_); rintro r w9 ⟨rfl, hw9⟩; rw [hw9]; clear hw9 w9) | (go_at_call 66; (with_reducible refine (kd _).mono ?_); rintro r w9 ⟨rfl, hw9⟩; rw [hw9]; clear hw9 w9))
  go_ret
  exact ⟨rfl, rfl⟩

set_option maxHeartbeats 2000000 in
theorem formed_any (e : En.E) (k : Int) (w : World) :
    Calls Try.prog 51 #[enVal e, .int .i64 k] w fun r w' => r = .returned (.bool (decide (e.kind = k) && decide (En.Formed e))) ∧ Turned [] w w' := by
  have kf := fun u => EnW.formed_any e u
  obtain ⟨fb, hfb⟩ : ∃ b, b = decide (En.Formed e) := ⟨_, rfl⟩
  rw [← hfb] at kf ⊢
  obtain ⟨id, kind, ax, ay, vx, vy, hh, t⟩ := e
  unfold enVal at kf ⊢
  simp only at kf ⊢
  clear hfb
  obtain ⟨W0, hW0⟩ : ∃ W0, W0 = w.alloc (.cells #[.int .i64 id, .int .i64 kind, .int .i64 ax, .int .i64 ay, .int .i64 vx, .int .i64 vy, .int .i64 hh, .int .i64 t] 49) := ⟨_, rfl⟩
  have hT : Turned [] w W0 := by rw [hW0]; exact (Turned.refl [] w).alloc _
  by_cases h1 : kind = k
  · have i1 : (kind == k) = true := by rw [beq_iff_eq]; exact h1
    have HA : Hid ((decide (kind = k) && fb) = fb) := by show _ = _; rw [decide_eq_true h1]; rfl
    clear h1
    go_enter Try.func51, Try.ntmps51
    go_wp2_with (go_at_call 65; (with_reducible refine (kf _).mono ?_); rintro r u0 ⟨rfl, HT0⟩)
    go_ret
    rw [HA.out]
    rw [← hW0] at HT0
    exact ⟨rfl, hT.trans HT0 (by simp)⟩
  · have i1 : (kind == k) = false := by rw [beq_eq_false_iff_ne]; exact h1
    have HA : Hid ((decide (kind = k) && fb) = false) := by show _ = _; rw [decide_eq_false h1]; rfl
    clear h1
    go_enter Try.func51, Try.ntmps51
    go_wp2_with fail
    go_ret
    rw [HA.out]
    rw [← hW0]
    exact ⟨rfl, hT⟩

set_option maxRecDepth 20000 in
set_option maxHeartbeats 4000000 in
/-- a whole step -/
theorem step_any (m : Ti.M) (oa : Option Addr) (ca : Nat) (ob : Option Addr) (cb : Nat) (x y vx vy : Int) (hx : -134217728 ≤ x ∧ x ≤ 134217728) (hy : -134217728 ≤ y ∧ y ≤ 134217728) (hvx : -65536 ≤ vx ∧ vx ≤ 65536) (hvy : -65536 ≤ vy ∧ vy ≤ 65536) (w : World) (h : MapAt m oa ob w) :
    Calls Try.prog 53 #[mapVal m oa ca ob cb, .agg #[.int .i64 x, .int .i64 y], .agg #[.int .i64 vx, .int .i64 vy]] w fun e w' => e = .returned (.tuple #[.agg #[.int .i64 (Mv.goX m x y vx), .int .i64 (Mv.goY m (Mv.goX m x y vx) y vy)], .bool (Mv.stands m (x + vx) y), .bool (Mv.stands m (Mv.goX m x y vx) (y + vy))]) ∧ Turned [] w w' := by
  have a1 : Fx.add x vx = x + vx := by
    unfold Fx.add
    rw [Fx.hold_of (x := x) (by omega) (by omega), Fx.hold_of (x := vx) (by omega) (by omega), Fx.hold_of (by omega) (by omega)]
  have a2 : Fx.add y vy = y + vy := by
    unfold Fx.add
    rw [Fx.hold_of (x := y) (by omega) (by omega), Fx.hold_of (x := vy) (by omega) (by omega), Fx.hold_of (by omega) (by omega)]
  obtain ⟨nx, hnx⟩ : ∃ n, n = Mv.goX m x y vx := ⟨_, rfl⟩
  obtain ⟨sx, hsx⟩ : ∃ s, s = Mv.stands m (x + vx) y := ⟨_, rfl⟩
  rw [← hnx, ← hsx]
  obtain ⟨ny, hny⟩ : ∃ n, n = Mv.goY m nx y vy := ⟨_, rfl⟩
  obtain ⟨sy, hsy⟩ : ∃ s, s = Mv.stands m nx (y + vy) := ⟨_, rfl⟩
  rw [← hny, ← hsy]
  have k1 := fun (B : Nat) (u : World) (hu : MapAt m oa ob u) (hb : Struct B [.int .i64 x, .int .i64 y] u) => alongX_any m oa ca ob cb x vx (x + vx) y B u hu (fun v hv => by rw [a1]; exact atX_any (x + vx) x y B v (hb.keep hv (by simp)))
  have k2 := fun (B : Nat) (u : World) (hu : MapAt m oa ob u) (hb : Struct B [.int .i64 nx, .int .i64 y] u) => alongY_any m oa ca ob cb y vy nx (y + vy) B u hu (fun v hv => by rw [a2]; exact atY_any (y + vy) nx y B v (hb.keep hv (by simp)))
  rw [a1, show (if Mv.stands m (x + vx) y = true then x + vx else x) = nx from hnx.symm, ← hsx] at k1
  rw [a2, show (if Mv.stands m nx (y + vy) = true then y + vy else y) = ny from hny.symm, ← hsy] at k2
  clear hnx hsx hny hsy a1 a2 hx hy hvx hvy
  obtain ⟨nw, hnw⟩ : ∃ n, n = m.ws.length := ⟨_, rfl⟩
  obtain ⟨ns, hns⟩ : ∃ n, n = m.sp.length := ⟨_, rfl⟩
  unfold mapVal at k1 k2 ⊢
  rw [← hnw, ← hns] at k1 k2 ⊢
  obtain ⟨W0, hW0⟩ : ∃ W0, W0 = (((w.alloc (.cells #[.int .i64 m.W, .int .i64 m.H, .slice oa nw ca, .slice ob ns cb] 25)).alloc (.cells #[.int .i64 x, .int .i64 y] 47)).alloc (.cells #[.int .i64 vx, .int .i64 vy] 47)).alloc (.cells #[.int .i64 0, .int .i64 0] 47) := ⟨_, rfl⟩
  obtain ⟨B, hB⟩ : ∃ b, b = w.heap.size := ⟨_, rfl⟩
  obtain ⟨C, hC⟩ : ∃ b, b = w.heap.size + 1 := ⟨_, rfl⟩
  obtain ⟨D, hD⟩ : ∃ b, b = w.heap.size + 1 + 1 := ⟨_, rfl⟩
  obtain ⟨E, hE⟩ : ∃ b, b = w.heap.size + 1 + 1 + 1 := ⟨_, rfl⟩
  have hT : Turned [] w W0 := by rw [hW0]; exact ((((Turned.refl [] w).alloc _).alloc _).alloc _).alloc _
  have hS : Struct B [.int .i64 m.W, .int .i64 m.H, .slice oa nw ca, .slice ob ns cb] W0 := by
    have h0 := Struct.new w [.int .i64 m.W, .int .i64 m.H, .slice oa nw ca, .slice ob ns cb] 25
    rw [← hB] at h0
    rw [hW0]; exact (((h0.keep ((Turned.refl [] _).alloc _) (by simp)).keep ((Turned.refl [] _).alloc _) (by simp)).keep ((Turned.refl [] _).alloc _) (by simp))
  have hP : Struct C [.int .i64 x, .int .i64 y] W0 := by
    have h0 := Struct.new (w.alloc (.cells #[.int .i64 m.W, .int .i64 m.H, .slice oa nw ca, .slice ob ns cb] 25)) [.int .i64 x, .int .i64 y] 47
    rw [show (w.alloc (.cells #[.int .i64 m.W, .int .i64 m.H, .slice oa nw ca, .slice ob ns cb] 25)).heap.size = w.heap.size + 1 by simp, ← hC] at h0
    rw [hW0]; exact ((h0.keep ((Turned.refl [] _).alloc _) (by simp)).keep ((Turned.refl [] _).alloc _) (by simp))
  have hV : Struct D [.int .i64 vx, .int .i64 vy] W0 := by
    have h0 := Struct.new ((w.alloc (.cells #[.int .i64 m.W, .int .i64 m.H, .slice oa nw ca, .slice ob ns cb] 25)).alloc (.cells #[.int .i64 x, .int .i64 y] 47)) [.int .i64 vx, .int .i64 vy] 47
    rw [show ((w.alloc (.cells #[.int .i64 m.W, .int .i64 m.H, .slice oa nw ca, .slice ob ns cb] 25)).alloc (.cells #[.int .i64 x, .int .i64 y] 47)).heap.size = w.heap.size + 1 + 1 by simp, ← hD] at h0
    rw [hW0]; exact (h0.keep ((Turned.refl [] _).alloc _) (by simp))
  have hR : Struct E [.int .i64 0, .int .i64 0] W0 := by
    have h0 := Struct.new (((w.alloc (.cells #[.int .i64 m.W, .int .i64 m.H, .slice oa nw ca, .slice ob ns cb] 25)).alloc (.cells #[.int .i64 x, .int .i64 y] 47)).alloc (.cells #[.int .i64 vx, .int .i64 vy] 47)) [.int .i64 0, .int .i64 0] 47
    rw [show (((w.alloc (.cells #[.int .i64 m.W, .int .i64 m.H, .slice oa nw ca, .slice ob ns cb] 25)).alloc (.cells #[.int .i64 x, .int .i64 y] 47)).alloc (.cells #[.int .i64 vx, .int .i64 vy] 47)).heap.size = w.heap.size + 1 + 1 + 1 by simp, ← hE] at h0
    rw [hW0]; exact h0
  have hBw : w.heap.size ≤ B := by omega
  have hCw : w.heap.size ≤ C := by omega
  have hDw : w.heap.size ≤ D := by omega
  have hEw : w.heap.size ≤ E := by omega
  have nBC : B ≠ C := by omega
  have nBD : B ≠ D := by omega
  have nBE : B ≠ E := by omega
  have nCD : C ≠ D := by omega
  have nCE : C ≠ E := by omega
  have nDE : D ≠ E := by omega
  have hM := h.calm hT
  clear hnw hns
  have hmf : ∀ (fn : Fn) (first cap : Array Value) (u : World), (Instr.makeFunc fn first cap).run Try.prog u = .ok (.func fn first cap) u := fun _ _ _ _ => rfl
  have d0 := (hS.2 0 _ rfl).1; have d1 := (hS.2 1 _ rfl).1; have d2 := (hS.2 2 _ rfl).1; have d3 := (hS.2 3 _ rfl).1
  have c0 := (hP.2 0 _ rfl).1; have f0 := (hP.2 0 _ rfl).2; have c1 := (hP.2 1 _ rfl).1; have f1 := (hP.2 1 _ rfl).2
  have v0 := (hV.2 0 _ rfl).1; have v1 := (hV.2 1 _ rfl).1
  have z0 := (hR.2 0 _ rfl).1; have y0 := (hR.2 0 _ rfl).2; have z1 := (hR.2 1 _ rfl).1; have y1 := (hR.2 1 _ rfl).2
  have q1 := k1 C W0 hM hP
  go_enter Try.func53, Try.ntmps53
  go_wp2_with fail
  rw [← hW0, ← hE, ← hD, ← hC, ← hB]
  clear hW0 hB hC hD hE
  go_wp2_with fail
  refine (k1 C W0 hM hP).mono ?_
  rintro r u1 ⟨rfl, HS1⟩
  have hS1 := hS.keep HS1 (by simp)
  have hP1 := hP.keep HS1 (by simp)
  have hV1 := hV.keep HS1 (by simp)
  have hR1 := hR.keep HS1 (by simp)
  have hT1 := hT.trans HS1 (by simp)
  clear d0 d1 d2 d3 c0 c1 f0 f1 v0 v1 z0 z1 y0 y1 k1 HS1 hS hP hV hR hT hM
  have hP2 := hP1.set (i := 0) (by simp) (.int .i64 nx)
  have hS2 := hS1.keep ((Turned.refl [C] u1).setCell (p := ⟨C, 0, none⟩) (.inl (by simp)) (.int .i64 nx)) (by simpa using nBC)
  have hV2 := hV1.keep ((Turned.refl [C] u1).setCell (p := ⟨C, 0, none⟩) (.inl (by simp)) (.int .i64 nx)) (by simpa using nCD.symm)
  have hR2 := hR1.keep ((Turned.refl [C] u1).setCell (p := ⟨C, 0, none⟩) (.inl (by simp)) (.int .i64 nx)) (by simpa using nCE.symm)
  have hT2 := hT1.setCell (p := ⟨C, 0, none⟩) (.inr hCw) (.int .i64 nx)
  have b0 := (hP1.2 0 _ rfl).1
  have b1 := (hP1.2 0 _ rfl).2
  obtain ⟨U1, hU1⟩ : ∃ U, U = u1.setCell ⟨C, 0, none⟩ (.int .i64 nx) := ⟨_, rfl⟩
  rw [← hU1] at hP2 hS2 hV2 hR2 hT2
  have d0 := (hS2.2 0 _ rfl).1; have d1 := (hS2.2 1 _ rfl).1; have d2 := (hS2.2 2 _ rfl).1; have d3 := (hS2.2 3 _ rfl).1
  have c0 := (hP2.2 0 _ rfl).1; have f0 := (hP2.2 0 _ rfl).2; have c1 := (hP2.2 1 _ rfl).1; have f1 := (hP2.2 1 _ rfl).2
  have v0 := (hV2.2 0 _ rfl).1; have v1 := (hV2.2 1 _ rfl).1
  have z0 := (hR2.2 0 _ rfl).1; have y0 := (hR2.2 0 _ rfl).2; have z1 := (hR2.2 1 _ rfl).1; have y1 := (hR2.2 1 _ rfl).2
  rw [hU1] at d0 d1 d2 d3 c0 c1 f0 f1 v0 v1 z0 z1 y0 y1
  go_wp2_with fail
  rw [← hU1]
  clear d0 d1 d2 d3 c0 c1 f0 f1 v0 v1 z0 z1 y0 y1 b0 b1 hU1
  refine (k2 C U1 (h.calm hT2) hP2).mono ?_
  rintro r u2 ⟨rfl, HS2⟩
  have hP3 := hP2.keep HS2 (by simp)
  have hR3 := hR2.keep HS2 (by simp)
  have hT3 := hT2.trans HS2 (by simp)
  have hP4 := hP3.set (i := 1) (by simp) (.int .i64 ny)
  have hR4 := hR3.keep ((Turned.refl [C] u2).setCell (p := ⟨C, 1, none⟩) (.inl (by simp)) (.int .i64 ny)) (by simpa using nCE.symm)
  have hT4 := hT3.setCell (p := ⟨C, 1, none⟩) (.inr hCw) (.int .i64 ny)
  have b0 := (hP3.2 1 _ rfl).1
  have b1 := (hP3.2 1 _ rfl).2
  have c0 := (hP4.2 0 _ rfl).1; have f0 := (hP4.2 0 _ rfl).2; have c1 := (hP4.2 1 _ rfl).1; have f1 := (hP4.2 1 _ rfl).2
  have z0 := (hR4.2 0 _ rfl).1; have y0 := (hR4.2 0 _ rfl).2; have z1 := (hR4.2 1 _ rfl).1; have y1 := (hR4.2 1 _ rfl).2
  go_wp2_with fail
  have hR9 := (hR4.set (i := 0) (by simp) (.int .i64 nx)).set (i := 1) (by simp) (.int .i64 ny)
  have hT9 := (hT4.setCell (p := ⟨E, 0, none⟩) (.inr hEw) (.int .i64 nx)).setCell (p := ⟨E, 1, none⟩) (.inr hEw) (.int .i64 ny)
  have e0 := (hR9.2 0 _ rfl).1
  have e1 := (hR9.2 1 _ rfl).1
  exact bodyPost_ret (v := .tuple #[.agg #[.int .i64 nx, .int .i64 ny], .bool sx, .bool sy]) (by simp [results, Try.results53, go_sem, e0, e1]) rfl ⟨rfl, hT9⟩

set_option maxRecDepth 20000 in
set_option maxHeartbeats 16000000 in
theorem walk_any (m : Ti.M) (oa : Option Addr) (ca : Nat) (ob : Option Addr) (cb : Nat) (e : En.E) (mx my : Int) (hx : -128 ≤ mx ∧ mx ≤ 127) (hy : -128 ≤ my ∧ my ≤ 127) (w : World) (h : MapAt m oa ob w) :
    Calls Try.prog 38 #[mapVal m oa ca ob cb, enVal e, .int .i8 mx, .int .i8 my] w fun r w' => r = .returned (enVal (Mv.walk m e mx my)) ∧ Turned [] w w' := by
  obtain ⟨id, kind, ax, ay, vx, vy, hh, t⟩ := e
  have kfm := fun u => formed_any ⟨id, kind, ax, ay, vx, vy, hh, t⟩ 1 u
  have kst := fun (x y a b : Int) hx hy ha hb (u : World) (hu : MapAt m oa ob u) => step_any m oa ca ob cb x y a b hx hy ha hb u hu
  obtain ⟨fb, hfb⟩ : ∃ b, b = (decide (kind = 1) && decide (En.Formed ⟨id, kind, ax, ay, vx, vy, hh, t⟩)) := ⟨_, rfl⟩
  simp only at kfm
  rw [← hfb] at kfm
  obtain ⟨nw, hnw⟩ : ∃ n, n = m.ws.length := ⟨_, rfl⟩
  obtain ⟨ns, hns⟩ : ∃ n, n = m.sp.length := ⟨_, rfl⟩
  unfold mapVal at kst ⊢
  rw [← hnw, ← hns] at kst ⊢
  unfold enVal at kfm
  simp only at kfm
  show Calls _ _ #[_, .agg #[.int .i64 id, .int .i64 kind, .int .i64 ax, .int .i64 ay, .int .i64 vx, .int .i64 vy, .int .i64 hh, .int .i64 t], .int .i8 mx, .int .i8 my] _ _
  obtain ⟨W0, hW0⟩ : ∃ W0, W0 = ((w.alloc (.cells #[.int .i64 m.W, .int .i64 m.H, .slice oa nw ca, .slice ob ns cb] 25)).alloc (.cells #[.int .i64 id, .int .i64 kind, .int .i64 ax, .int .i64 ay, .int .i64 vx, .int .i64 vy, .int .i64 hh, .int .i64 t] 49)).alloc (.cells #[.int .i64 0, .int .i64 0, .int .i64 0, .int .i64 0, .int .i64 0, .int .i64 0, .int .i64 0, .int .i64 0] 49) := ⟨_, rfl⟩
  obtain ⟨B, hB⟩ : ∃ b, b = w.heap.size := ⟨_, rfl⟩
  obtain ⟨C, hC⟩ : ∃ b, b = w.heap.size + 1 := ⟨_, rfl⟩
  obtain ⟨D, hD⟩ : ∃ b, b = w.heap.size + 1 + 1 := ⟨_, rfl⟩
  have hT : Turned [] w W0 := by rw [hW0]; exact (((Turned.refl [] w).alloc _).alloc _).alloc _
  have hS : Struct B [.int .i64 m.W, .int .i64 m.H, .slice oa nw ca, .slice ob ns cb] W0 := by
    have h0 := Struct.new w [.int .i64 m.W, .int .i64 m.H, .slice oa nw ca, .slice ob ns cb] 25
    rw [← hB] at h0
    rw [hW0]; exact ((h0.keep ((Turned.refl [] _).alloc _) (by simp)).keep ((Turned.refl [] _).alloc _) (by simp))
  have hE : Struct C [.int .i64 id, .int .i64 kind, .int .i64 ax, .int .i64 ay, .int .i64 vx, .int .i64 vy, .int .i64 hh, .int .i64 t] W0 := by
    have h0 := Struct.new (w.alloc (.cells #[.int .i64 m.W, .int .i64 m.H, .slice oa nw ca, .slice ob ns cb] 25)) [.int .i64 id, .int .i64 kind, .int .i64 ax, .int .i64 ay, .int .i64 vx, .int .i64 vy, .int .i64 hh, .int .i64 t] 49
    rw [show (w.alloc (.cells #[.int .i64 m.W, .int .i64 m.H, .slice oa nw ca, .slice ob ns cb] 25)).heap.size = w.heap.size + 1 by simp, ← hC] at h0
    rw [hW0]; exact (h0.keep ((Turned.refl [] _).alloc _) (by simp))
  have hR : Struct D [.int .i64 0, .int .i64 0, .int .i64 0, .int .i64 0, .int .i64 0, .int .i64 0, .int .i64 0, .int .i64 0] W0 := by
    have h0 := Struct.new ((w.alloc (.cells #[.int .i64 m.W, .int .i64 m.H, .slice oa nw ca, .slice ob ns cb] 25)).alloc (.cells #[.int .i64 id, .int .i64 kind, .int .i64 ax, .int .i64 ay, .int .i64 vx, .int .i64 vy, .int .i64 hh, .int .i64 t] 49)) [.int .i64 0, .int .i64 0, .int .i64 0, .int .i64 0, .int .i64 0, .int .i64 0, .int .i64 0, .int .i64 0] 49
    rw [show ((w.alloc (.cells #[.int .i64 m.W, .int .i64 m.H, .slice oa nw ca, .slice ob ns cb] 25)).alloc (.cells #[.int .i64 id, .int .i64 kind, .int .i64 ax, .int .i64 ay, .int .i64 vx, .int .i64 vy, .int .i64 hh, .int .i64 t] 49)).heap.size = w.heap.size + 1 + 1 by simp, ← hD] at h0
    rw [hW0]; exact h0
  have hBw : w.heap.size ≤ B := by omega
  have hCw : w.heap.size ≤ C := by omega
  have hDw : w.heap.size ≤ D := by omega
  have nBC : B ≠ C := by omega
  have nBD : B ≠ D := by omega
  have nCD : C ≠ D := by omega
  have hM := h.calm hT
  clear hnw hns
  by_cases hF : En.Formed ⟨id, kind, ax, ay, vx, vy, hh, t⟩
  · by_cases h1 : kind = 1
    · by_cases h2 : hh = 0
      · have HA : Hid (Mv.walk m ⟨id, kind, ax, ay, vx, vy, hh, t⟩ mx my = ⟨id, kind, ax, ay, vx, vy, hh, t⟩) := by
          show _ = _
          unfold Mv.walk
          rw [if_neg]
          rw [Mv.walks_iff]
          rintro ⟨_, _, hn, _⟩
          exact hn h2
        have i2 : (hh == 0) = true := by rw [beq_iff_eq]; exact h2
        rw [show fb = true by rw [hfb, decide_eq_true h1, decide_eq_true hF]; rfl] at kfm
        clear h1 h2 hF
        clear hfb kst
        go_enter Try.func38, Try.ntmps38
        go_wp2_with fail
        rw [← hW0, ← hD, ← hC, ← hB]
        clear hW0 hB hC hD
        go_wp2_with (go_at_call 51; (with_reducible refine (kfm _).mono ?_); rintro r u0 ⟨rfl, HT0⟩; have hS0 := hS.keep HT0 (by simp); have hE0 := hE.keep HT0 (by simp); have hR0 := hR.keep HT0 (by simp); have hTu0 := hT.trans HT0 (by simp); have d0 := (hS0.2 0 _ rfl).1; have d1 := (hS0.2 1 _ rfl).1; have d2 := (hS0.2 2 _ rfl).1; have d3 := (hS0.2 3 _ rfl).1; have c0 := (hE0.2 0 _ rfl).1; have f0 := (hE0.2 0 _ rfl).2; have c1 := (hE0.2 1 _ rfl).1; have f1 := (hE0.2 1 _ rfl).2; have c2 := (hE0.2 2 _ rfl).1; have f2 := (hE0.2 2 _ rfl).2; have c3 := (hE0.2 3 _ rfl).1; have f3 := (hE0.2 3 _ rfl).2; have c4 := (hE0.2 4 _ rfl).1; have f4 := (hE0.2 4 _ rfl).2; have c5 := (hE0.2 5 _ rfl).1; have f5 := (hE0.2 5 _ rfl).2; have c6 := (hE0.2 6 _ rfl).1; have f6 := (hE0.2 6 _ rfl).2; have c7 := (hE0.2 7 _ rfl).1; have f7 := (hE0.2 7 _ rfl).2; have z0 := (hR0.2 0 _ rfl).1; have y0 := (hR0.2 0 _ rfl).2; have z1 := (hR0.2 1 _ rfl).1; have y1 := (hR0.2 1 _ rfl).2; have z2 := (hR0.2 2 _ rfl).1; have y2 := (hR0.2 2 _ rfl).2; have z3 := (hR0.2 3 _ rfl).1; have y3 := (hR0.2 3 _ rfl).2; have z4 := (hR0.2 4 _ rfl).1; have y4 := (hR0.2 4 _ rfl).2; have z5 := (hR0.2 5 _ rfl).1; have y5 := (hR0.2 5 _ rfl).2; have z6 := (hR0.2 6 _ rfl).1; have y6 := (hR0.2 6 _ rfl).2; have z7 := (hR0.2 7 _ rfl).1; have y7 := (hR0.2 7 _ rfl).2)
        obtain ⟨W9, hW9⟩ : ∃ W9, W9 = MvR.put8 u0 D ⟨id, kind, ax, ay, vx, vy, hh, t⟩ := ⟨_, rfl⟩
        have hS9 : Struct D (enEnc ⟨id, kind, ax, ay, vx, vy, hh, t⟩) W9 := by rw [hW9]; exact MvR.set8 (e := MvR.zeroE) hR0 _
        have hT9 : Turned [] w W9 := by rw [hW9]; exact MvR.turned8 hTu0 (.inr hDw) _
        simp only [MvR.put8] at hW9
        rw [← hW9]
        have e0 := (hS9.2 0 _ rfl).1
        have e1 := (hS9.2 1 _ rfl).1
        have e2 := (hS9.2 2 _ rfl).1
        have e3 := (hS9.2 3 _ rfl).1
        have e4 := (hS9.2 4 _ rfl).1
        have e5 := (hS9.2 5 _ rfl).1
        have e6 := (hS9.2 6 _ rfl).1
        have e7 := (hS9.2 7 _ rfl).1
        simp only [enEnc] at e0 e1 e2 e3 e4 e5 e6 e7
        exact bodyPost_ret (v := enVal ⟨id, kind, ax, ay, vx, vy, hh, t⟩) (by simp [results, Try.results38, go_sem, e0, e1, e2, e3, e4, e5, e6, e7]) rfl ⟨by rw [HA.out], hT9⟩
      · by_cases h3 : mx = -128
        · have HA : Hid (Mv.walk m ⟨id, kind, ax, ay, vx, vy, hh, t⟩ mx my = ⟨id, kind, ax, ay, vx, vy, hh, t⟩) := by
            show _ = _
            unfold Mv.walk
            rw [if_neg]
            rw [Mv.walks_iff]
            rintro ⟨_, _, _, hn, _⟩
            exact hn h3
          have i2 : (hh == 0) = false := by rw [beq_eq_false_iff_ne]; exact h2
          have i3 : (mx == -128) = true := by rw [beq_iff_eq]; exact h3
          rw [show fb = true by rw [hfb, decide_eq_true h1, decide_eq_true hF]; rfl] at kfm
          clear h1 h2 h3 hF
          clear hfb kst
          go_enter Try.func38, Try.ntmps38
          go_wp2_with fail
          rw [← hW0, ← hD, ← hC, ← hB]
          clear hW0 hB hC hD
          go_wp2_with (go_at_call 51; (with_reducible refine (kfm _).mono ?_); rintro r u0 ⟨rfl, HT0⟩; have hS0 := hS.keep HT0 (by simp); have hE0 := hE.keep HT0 (by simp); have hR0 := hR.keep HT0 (by simp); have hTu0 := hT.trans HT0 (by simp); have d0 := (hS0.2 0 _ rfl).1; have d1 := (hS0.2 1 _ rfl).1; have d2 := (hS0.2 2 _ rfl).1; have d3 := (hS0.2 3 _ rfl).1; have c0 := (hE0.2 0 _ rfl).1; have f0 := (hE0.2 0 _ rfl).2; have c1 := (hE0.2 1 _ rfl).1; have f1 := (hE0.2 1 _ rfl).2; have c2 := (hE0.2 2 _ rfl).1; have f2 := (hE0.2 2 _ rfl).2; have c3 := (hE0.2 3 _ rfl).1; have f3 := (hE0.2 3 _ rfl).2; have c4 := (hE0.2 4 _ rfl).1; have f4 := (hE0.2 4 _ rfl).2; have c5 := (hE0.2 5 _ rfl).1; have f5 := (hE0.2 5 _ rfl).2; have c6 := (hE0.2 6 _ rfl).1; have f6 := (hE0.2 6 _ rfl).2; have c7 := (hE0.2 7 _ rfl).1; have f7 := (hE0.2 7 _ rfl).2; have z0 := (hR0.2 0 _ rfl).1; have y0 := (hR0.2 0 _ rfl).2; have z1 := (hR0.2 1 _ rfl).1; have y1 := (hR0.2 1 _ rfl).2; have z2 := (hR0.2 2 _ rfl).1; have y2 := (hR0.2 2 _ rfl).2; have z3 := (hR0.2 3 _ rfl).1; have y3 := (hR0.2 3 _ rfl).2; have z4 := (hR0.2 4 _ rfl).1; have y4 := (hR0.2 4 _ rfl).2; have z5 := (hR0.2 5 _ rfl).1; have y5 := (hR0.2 5 _ rfl).2; have z6 := (hR0.2 6 _ rfl).1; have y6 := (hR0.2 6 _ rfl).2; have z7 := (hR0.2 7 _ rfl).1; have y7 := (hR0.2 7 _ rfl).2)
          obtain ⟨W9, hW9⟩ : ∃ W9, W9 = MvR.put8 u0 D ⟨id, kind, ax, ay, vx, vy, hh, t⟩ := ⟨_, rfl⟩
          have hS9 : Struct D (enEnc ⟨id, kind, ax, ay, vx, vy, hh, t⟩) W9 := by rw [hW9]; exact MvR.set8 (e := MvR.zeroE) hR0 _
          have hT9 : Turned [] w W9 := by rw [hW9]; exact MvR.turned8 hTu0 (.inr hDw) _
          simp only [MvR.put8] at hW9
          rw [← hW9]
          have e0 := (hS9.2 0 _ rfl).1
          have e1 := (hS9.2 1 _ rfl).1
          have e2 := (hS9.2 2 _ rfl).1
          have e3 := (hS9.2 3 _ rfl).1
          have e4 := (hS9.2 4 _ rfl).1
          have e5 := (hS9.2 5 _ rfl).1
          have e6 := (hS9.2 6 _ rfl).1
          have e7 := (hS9.2 7 _ rfl).1
          simp only [enEnc] at e0 e1 e2 e3 e4 e5 e6 e7
          exact bodyPost_ret (v := enVal ⟨id, kind, ax, ay, vx, vy, hh, t⟩) (by simp [results, Try.results38, go_sem, e0, e1, e2, e3, e4, e5, e6, e7]) rfl ⟨by rw [HA.out], hT9⟩
        · by_cases h4 : my = -128
          · have HA : Hid (Mv.walk m ⟨id, kind, ax, ay, vx, vy, hh, t⟩ mx my = ⟨id, kind, ax, ay, vx, vy, hh, t⟩) := by
              show _ = _
              unfold Mv.walk
              rw [if_neg]
              rw [Mv.walks_iff]
              rintro ⟨_, _, _, _, hn⟩
              exact hn h4
            have i2 : (hh == 0) = false := by rw [beq_eq_false_iff_ne]; exact h2
            have i3 : (mx == -128) = false := by rw [beq_eq_false_iff_ne]; exact h3
            have i4 : (my == -128) = true := by rw [beq_iff_eq]; exact h4
            rw [show fb = true by rw [hfb, decide_eq_true h1, decide_eq_true hF]; rfl] at kfm
            clear h1 h2 h3 h4 hF
            clear hfb kst
            go_enter Try.func38, Try.ntmps38
            go_wp2_with fail
            rw [← hW0, ← hD, ← hC, ← hB]
            clear hW0 hB hC hD
            go_wp2_with (go_at_call 51; (with_reducible refine (kfm _).mono ?_); rintro r u0 ⟨rfl, HT0⟩; have hS0 := hS.keep HT0 (by simp); have hE0 := hE.keep HT0 (by simp); have hR0 := hR.keep HT0 (by simp); have hTu0 := hT.trans HT0 (by simp); have d0 := (hS0.2 0 _ rfl).1; have d1 := (hS0.2 1 _ rfl).1; have d2 := (hS0.2 2 _ rfl).1; have d3 := (hS0.2 3 _ rfl).1; have c0 := (hE0.2 0 _ rfl).1; have f0 := (hE0.2 0 _ rfl).2; have c1 := (hE0.2 1 _ rfl).1; have f1 := (hE0.2 1 _ rfl).2; have c2 := (hE0.2 2 _ rfl).1; have f2 := (hE0.2 2 _ rfl).2; have c3 := (hE0.2 3 _ rfl).1; have f3 := (hE0.2 3 _ rfl).2; have c4 := (hE0.2 4 _ rfl).1; have f4 := (hE0.2 4 _ rfl).2; have c5 := (hE0.2 5 _ rfl).1; have f5 := (hE0.2 5 _ rfl).2; have c6 := (hE0.2 6 _ rfl).1; have f6 := (hE0.2 6 _ rfl).2; have c7 := (hE0.2 7 _ rfl).1; have f7 := (hE0.2 7 _ rfl).2; have z0 := (hR0.2 0 _ rfl).1; have y0 := (hR0.2 0 _ rfl).2; have z1 := (hR0.2 1 _ rfl).1; have y1 := (hR0.2 1 _ rfl).2; have z2 := (hR0.2 2 _ rfl).1; have y2 := (hR0.2 2 _ rfl).2; have z3 := (hR0.2 3 _ rfl).1; have y3 := (hR0.2 3 _ rfl).2; have z4 := (hR0.2 4 _ rfl).1; have y4 := (hR0.2 4 _ rfl).2; have z5 := (hR0.2 5 _ rfl).1; have y5 := (hR0.2 5 _ rfl).2; have z6 := (hR0.2 6 _ rfl).1; have y6 := (hR0.2 6 _ rfl).2; have z7 := (hR0.2 7 _ rfl).1; have y7 := (hR0.2 7 _ rfl).2)
            obtain ⟨W9, hW9⟩ : ∃ W9, W9 = MvR.put8 u0 D ⟨id, kind, ax, ay, vx, vy, hh, t⟩ := ⟨_, rfl⟩
            have hS9 : Struct D (enEnc ⟨id, kind, ax, ay, vx, vy, hh, t⟩) W9 := by rw [hW9]; exact MvR.set8 (e := MvR.zeroE) hR0 _
            have hT9 : Turned [] w W9 := by rw [hW9]; exact MvR.turned8 hTu0 (.inr hDw) _
            simp only [MvR.put8] at hW9
            rw [← hW9]
            have e0 := (hS9.2 0 _ rfl).1
            have e1 := (hS9.2 1 _ rfl).1
            have e2 := (hS9.2 2 _ rfl).1
            have e3 := (hS9.2 3 _ rfl).1
            have e4 := (hS9.2 4 _ rfl).1
            have e5 := (hS9.2 5 _ rfl).1
            have e6 := (hS9.2 6 _ rfl).1
            have e7 := (hS9.2 7 _ rfl).1
            simp only [enEnc] at e0 e1 e2 e3 e4 e5 e6 e7
            exact bodyPost_ret (v := enVal ⟨id, kind, ax, ay, vx, vy, hh, t⟩) (by simp [results, Try.results38, go_sem, e0, e1, e2, e3, e4, e5, e6, e7]) rfl ⟨by rw [HA.out], hT9⟩
          · have hwk : Mv.walks ⟨id, kind, ax, ay, vx, vy, hh, t⟩ mx my = true := Mv.walks_iff.2 ⟨hF, h1, h2, h3, h4⟩
            have i2 : (hh == 0) = false := by rw [beq_eq_false_iff_ne]; exact h2
            have i3 : (mx == -128) = false := by rw [beq_eq_false_iff_ne]; exact h3
            have i4 : (my == -128) = false := by rw [beq_eq_false_iff_ne]; exact h4
            rw [show fb = true by rw [hfb, decide_eq_true h1, decide_eq_true hF]; rfl] at kfm
            obtain ⟨_, ⟨b1, b2, b3, b4⟩, ⟨b5, b6, b7, b8⟩, _⟩ := hF
            have b1 : -134217728 ≤ ax := b1
            have b2 : ax ≤ 134217728 := b2
            have b3 : -134217728 ≤ ay := b3
            have b4 : ay ≤ 134217728 := b4
            have b5 : -65536 ≤ vx := b5
            have b6 : vx ≤ 65536 := b6
            have b7 : -65536 ≤ vy := b7
            have b8 : vy ≤ 65536 := b8
            have kd1 := fun u => speed_any mx hx.1 hx.2 u
            have kd2 := fun u => speed_any my hy.1 hy.2 u
            have q1 := Mv.down_in (n := mx) (by omega) (by omega)
            have q2 := Mv.down_in (n := my) (by omega) (by omega)
            obtain ⟨dx, hdx⟩ : ∃ d, d = Mv.down (mx * 16384) := ⟨_, rfl⟩
            obtain ⟨dy, hdy⟩ : ∃ d, d = Mv.down (my * 16384) := ⟨_, rfl⟩
            rw [← hdx] at kd1 q1
            rw [← hdy] at kd2 q2
            have ks := kst ax ay dx dy ⟨b1, b2⟩ ⟨b3, b4⟩ (by omega) (by omega)
            obtain ⟨nx, hnx⟩ : ∃ n, n = Mv.goX m ax ay dx := ⟨_, rfl⟩
            obtain ⟨sx, hsx⟩ : ∃ n, n = Mv.stands m (ax + dx) ay := ⟨_, rfl⟩
            rw [← hnx, ← hsx] at ks
            obtain ⟨ny, hny⟩ : ∃ n, n = Mv.goY m nx ay dy := ⟨_, rfl⟩
            obtain ⟨sy, hsy⟩ : ∃ n, n = Mv.stands m nx (ay + dy) := ⟨_, rfl⟩
            rw [← hny, ← hsy] at ks
            have HA : Hid (Mv.walk m ⟨id, kind, ax, ay, vx, vy, hh, t⟩ mx my = ⟨id, kind, nx, ny, dx, dy, hh, t⟩) := by
              show _ = _
              simp only [Mv.walk, hwk, if_true, Mv.stepped, ← hdx, ← hdy, ← hnx, ← hny]
            clear h1 h2 h3 h4 hfb kst hdx hdy hnx hny hsx hsy hwk hx hy q1 q2 b1 b2 b3 b4 b5 b6 b7 b8
            go_enter Try.func38, Try.ntmps38
            go_wp2_with fail
            rw [← hW0, ← hD, ← hC, ← hB]
            clear hW0 hB hC hD
            go_wp2_with (first | (go_at_call 51; (with_reducible refine (kfm _).mono ?_); rintro r u0 ⟨rfl, HT0⟩; have hS0 := hS.keep HT0 (by simp); have hE0 := hE.keep HT0 (by simp); have hR0 := hR.keep HT0 (by simp); have hTu0 := hT.trans HT0 (by simp); have d0 := (hS0.2 0 _ rfl).1; have d1 := (hS0.2 1 _ rfl).1; have d2 := (hS0.2 2 _ rfl).1; have d3 := (hS0.2 3 _ rfl).1; have c0 := (hE0.2 0 _ rfl).1; have f0 := (hE0.2 0 _ rfl).2; have c1 := (hE0.2 1 _ rfl).1; have f1 := (hE0.2 1 _ rfl).2; have c2 := (hE0.2 2 _ rfl).1; have f2 := (hE0.2 2 _ rfl).2; have c3 := (hE0.2 3 _ rfl).1; have f3 := (hE0.2 3 _ rfl).2; have c4 := (hE0.2 4 _ rfl).1; have f4 := (hE0.2 4 _ rfl).2; have c5 := (hE0.2 5 _ rfl).1; have f5 := (hE0.2 5 _ rfl).2; have c6 := (hE0.2 6 _ rfl).1; have f6 := (hE0.2 6 _ rfl).2; have c7 := (hE0.2 7 _ rfl).1; have f7 := (hE0.2 7 _ rfl).2; have z0 := (hR0.2 0 _ rfl).1; have y0 := (hR0.2 0 _ rfl).2; have z1 := (hR0.2 1 _ rfl).1; have y1 := (hR0.2 1 _ rfl).2; have z2 := (hR0.2 2 _ rfl).1; have y2 := (hR0.2 2 _ rfl).2; have z3 := (hR0.2 3 _ rfl).1; have y3 := (hR0.2 3 _ rfl).2; have z4 := (hR0.2 4 _ rfl).1; have y4 := (hR0.2 4 _ rfl).2; have z5 := (hR0.2 5 _ rfl).1; have y5 := (hR0.2 5 _ rfl).2; have z6 := (hR0.2 6 _ rfl).1; have y6 := (hR0.2 6 _ rfl).2; have z7 := (hR0.2 7 _ rfl).1; have y7 := (hR0.2 7 _ rfl).2; have hSb := ((((hS0).keep ((Turned.refl [C] u0).setCell (p := ⟨C, 4, none⟩) (.inl (by simp)) (.int .i64 dx)) (by simpa using nBC))).keep ((Turned.refl [C] ((u0).setCell ⟨C, 4, none⟩ (.int .i64 dx))).setCell (p := ⟨C, 5, none⟩) (.inl (by simp)) (.int .i64 dy)) (by simpa using nBC)); have dd0 := (hSb.2 0 _ rfl).1; have dd1 := (hSb.2 1 _ rfl).1; have dd2 := (hSb.2 2 _ rfl).1; have dd3 := (hSb.2 3 _ rfl).1) | (go_at_call 52; (with_reducible refine (kd1 _).mono ?_); rintro r w9 ⟨rfl, hw9⟩; rw [hw9]; clear hw9 w9) | (go_at_call 52; (with_reducible refine (kd2 _).mono ?_); rintro r w9 ⟨rfl, hw9⟩; rw [hw9]; clear hw9 w9))
            have hEa := ((((hE0).set (i := 4) (by simp) (.int .i64 dx))).set (i := 5) (by simp) (.int .i64 dy))
            have hRa := ((((hR0).keep ((Turned.refl [C] u0).setCell (p := ⟨C, 4, none⟩) (.inl (by simp)) (.int .i64 dx)) (by simpa using nCD.symm))).keep ((Turned.refl [C] ((u0).setCell ⟨C, 4, none⟩ (.int .i64 dx))).setCell (p := ⟨C, 5, none⟩) (.inl (by simp)) (.int .i64 dy)) (by simpa using nCD.symm))
            have hTa := ((((hTu0).setCell (p := ⟨C, 4, none⟩) (.inr hCw) (.int .i64 dx))).setCell (p := ⟨C, 5, none⟩) (.inr hCw) (.int .i64 dy))
            have hMs := h.calm hTa
            refine (ks _ hMs).mono ?_
            rintro r u1 ⟨rfl, HS1⟩
            have hE1 := (hEa).keep HS1 (by simp)
            have hR1 := (hRa).keep HS1 (by simp)
            have hT1 := (hTa).trans HS1 (by simp)
            clear hMs HS1 d0 d1 d2 d3 c0 c1 c2 c3 c4 c5 c6 c7 f0 f1 f2 f3 f4 f5 f6 f7 z0 z1 z2 z3 z4 z5 z6 z7 y0 y1 y2 y3 y4 y5 y6 y7
            have c0 := (hE1.2 0 _ rfl).1
            have f0 := (hE1.2 0 _ rfl).2
            have c1 := (hE1.2 1 _ rfl).1
            have f1 := (hE1.2 1 _ rfl).2
            have c2 := (hE1.2 2 _ rfl).1
            have f2 := (hE1.2 2 _ rfl).2
            have c3 := (hE1.2 3 _ rfl).1
            have f3 := (hE1.2 3 _ rfl).2
            have c4 := (hE1.2 4 _ rfl).1
            have f4 := (hE1.2 4 _ rfl).2
            have c5 := (hE1.2 5 _ rfl).1
            have f5 := (hE1.2 5 _ rfl).2
            have c6 := (hE1.2 6 _ rfl).1
            have f6 := (hE1.2 6 _ rfl).2
            have c7 := (hE1.2 7 _ rfl).1
            have f7 := (hE1.2 7 _ rfl).2
            have z0 := (hR1.2 0 _ rfl).1
            have y0 := (hR1.2 0 _ rfl).2
            have z1 := (hR1.2 1 _ rfl).1
            have y1 := (hR1.2 1 _ rfl).2
            have z2 := (hR1.2 2 _ rfl).1
            have y2 := (hR1.2 2 _ rfl).2
            have z3 := (hR1.2 3 _ rfl).1
            have y3 := (hR1.2 3 _ rfl).2
            have z4 := (hR1.2 4 _ rfl).1
            have y4 := (hR1.2 4 _ rfl).2
            have z5 := (hR1.2 5 _ rfl).1
            have y5 := (hR1.2 5 _ rfl).2
            have z6 := (hR1.2 6 _ rfl).1
            have y6 := (hR1.2 6 _ rfl).2
            have z7 := (hR1.2 7 _ rfl).1
            have y7 := (hR1.2 7 _ rfl).2
            go_wp2_with fail
            obtain ⟨W9, hW9⟩ : ∃ W9, W9 = MvR.put8 (((u1).setCell ⟨C, 2, none⟩ (.int .i64 nx)).setCell ⟨C, 3, none⟩ (.int .i64 ny)) D ⟨id, kind, nx, ny, dx, dy, hh, t⟩ := ⟨_, rfl⟩
            have hS9 : Struct D (enEnc ⟨id, kind, nx, ny, dx, dy, hh, t⟩) W9 := by rw [hW9]; exact MvR.set8 (e := MvR.zeroE) ((((hR1).keep ((Turned.refl [C] u1).setCell (p := ⟨C, 2, none⟩) (.inl (by simp)) (.int .i64 nx)) (by simpa using nCD.symm))).keep ((Turned.refl [C] ((u1).setCell ⟨C, 2, none⟩ (.int .i64 nx))).setCell (p := ⟨C, 3, none⟩) (.inl (by simp)) (.int .i64 ny)) (by simpa using nCD.symm)) _
            have hT9 : Turned [] w W9 := by rw [hW9]; exact MvR.turned8 ((((hT1).setCell (p := ⟨C, 2, none⟩) (.inr hCw) (.int .i64 nx))).setCell (p := ⟨C, 3, none⟩) (.inr hCw) (.int .i64 ny)) (.inr hDw) _
            simp only [MvR.put8] at hW9
            rw [← hW9]
            have e0 := (hS9.2 0 _ rfl).1
            have e1 := (hS9.2 1 _ rfl).1
            have e2 := (hS9.2 2 _ rfl).1
            have e3 := (hS9.2 3 _ rfl).1
            have e4 := (hS9.2 4 _ rfl).1
            have e5 := (hS9.2 5 _ rfl).1
            have e6 := (hS9.2 6 _ rfl).1
            have e7 := (hS9.2 7 _ rfl).1
            simp only [enEnc] at e0 e1 e2 e3 e4 e5 e6 e7
            exact bodyPost_ret (v := enVal ⟨id, kind, nx, ny, dx, dy, hh, t⟩) (by simp [results, Try.results38, go_sem, e0, e1, e2, e3, e4, e5, e6, e7]) rfl ⟨by rw [HA.out], hT9⟩
    · have HA : Hid (Mv.walk m ⟨id, kind, ax, ay, vx, vy, hh, t⟩ mx my = ⟨id, kind, ax, ay, vx, vy, hh, t⟩) := by
        show _ = _
        unfold Mv.walk
        rw [if_neg]
        rw [Mv.walks_iff]
        rintro ⟨_, hn, _⟩
        exact h1 hn
      rw [show fb = false by rw [hfb, decide_eq_false h1]; rfl] at kfm
      clear h1 hF
      clear hfb kst
      go_enter Try.func38, Try.ntmps38
      go_wp2_with fail
      rw [← hW0, ← hD, ← hC, ← hB]
      clear hW0 hB hC hD
      go_wp2_with (go_at_call 51; (with_reducible refine (kfm _).mono ?_); rintro r u0 ⟨rfl, HT0⟩; have hS0 := hS.keep HT0 (by simp); have hE0 := hE.keep HT0 (by simp); have hR0 := hR.keep HT0 (by simp); have hTu0 := hT.trans HT0 (by simp); have d0 := (hS0.2 0 _ rfl).1; have d1 := (hS0.2 1 _ rfl).1; have d2 := (hS0.2 2 _ rfl).1; have d3 := (hS0.2 3 _ rfl).1; have c0 := (hE0.2 0 _ rfl).1; have f0 := (hE0.2 0 _ rfl).2; have c1 := (hE0.2 1 _ rfl).1; have f1 := (hE0.2 1 _ rfl).2; have c2 := (hE0.2 2 _ rfl).1; have f2 := (hE0.2 2 _ rfl).2; have c3 := (hE0.2 3 _ rfl).1; have f3 := (hE0.2 3 _ rfl).2; have c4 := (hE0.2 4 _ rfl).1; have f4 := (hE0.2 4 _ rfl).2; have c5 := (hE0.2 5 _ rfl).1; have f5 := (hE0.2 5 _ rfl).2; have c6 := (hE0.2 6 _ rfl).1; have f6 := (hE0.2 6 _ rfl).2; have c7 := (hE0.2 7 _ rfl).1; have f7 := (hE0.2 7 _ rfl).2; have z0 := (hR0.2 0 _ rfl).1; have y0 := (hR0.2 0 _ rfl).2; have z1 := (hR0.2 1 _ rfl).1; have y1 := (hR0.2 1 _ rfl).2; have z2 := (hR0.2 2 _ rfl).1; have y2 := (hR0.2 2 _ rfl).2; have z3 := (hR0.2 3 _ rfl).1; have y3 := (hR0.2 3 _ rfl).2; have z4 := (hR0.2 4 _ rfl).1; have y4 := (hR0.2 4 _ rfl).2; have z5 := (hR0.2 5 _ rfl).1; have y5 := (hR0.2 5 _ rfl).2; have z6 := (hR0.2 6 _ rfl).1; have y6 := (hR0.2 6 _ rfl).2; have z7 := (hR0.2 7 _ rfl).1; have y7 := (hR0.2 7 _ rfl).2)
      obtain ⟨W9, hW9⟩ : ∃ W9, W9 = MvR.put8 u0 D ⟨id, kind, ax, ay, vx, vy, hh, t⟩ := ⟨_, rfl⟩
      have hS9 : Struct D (enEnc ⟨id, kind, ax, ay, vx, vy, hh, t⟩) W9 := by rw [hW9]; exact MvR.set8 (e := MvR.zeroE) hR0 _
      have hT9 : Turned [] w W9 := by rw [hW9]; exact MvR.turned8 hTu0 (.inr hDw) _
      simp only [MvR.put8] at hW9
      rw [← hW9]
      have e0 := (hS9.2 0 _ rfl).1
      have e1 := (hS9.2 1 _ rfl).1
      have e2 := (hS9.2 2 _ rfl).1
      have e3 := (hS9.2 3 _ rfl).1
      have e4 := (hS9.2 4 _ rfl).1
      have e5 := (hS9.2 5 _ rfl).1
      have e6 := (hS9.2 6 _ rfl).1
      have e7 := (hS9.2 7 _ rfl).1
      simp only [enEnc] at e0 e1 e2 e3 e4 e5 e6 e7
      exact bodyPost_ret (v := enVal ⟨id, kind, ax, ay, vx, vy, hh, t⟩) (by simp [results, Try.results38, go_sem, e0, e1, e2, e3, e4, e5, e6, e7]) rfl ⟨by rw [HA.out], hT9⟩
  · have HA : Hid (Mv.walk m ⟨id, kind, ax, ay, vx, vy, hh, t⟩ mx my = ⟨id, kind, ax, ay, vx, vy, hh, t⟩) := by
      show _ = _
      unfold Mv.walk
      rw [if_neg]
      rw [Mv.walks_iff]
      rintro ⟨hn, _⟩
      exact hF hn
    rw [show fb = false by rw [hfb, decide_eq_false hF, Bool.and_false]] at kfm
    clear hF
    clear hfb kst
    go_enter Try.func38, Try.ntmps38
    go_wp2_with fail
    rw [← hW0, ← hD, ← hC, ← hB]
    clear hW0 hB hC hD
    go_wp2_with (go_at_call 51; (with_reducible refine (kfm _).mono ?_); rintro r u0 ⟨rfl, HT0⟩; have hS0 := hS.keep HT0 (by simp); have hE0 := hE.keep HT0 (by simp); have hR0 := hR.keep HT0 (by simp); have hTu0 := hT.trans HT0 (by simp); have d0 := (hS0.2 0 _ rfl).1; have d1 := (hS0.2 1 _ rfl).1; have d2 := (hS0.2 2 _ rfl).1; have d3 := (hS0.2 3 _ rfl).1; have c0 := (hE0.2 0 _ rfl).1; have f0 := (hE0.2 0 _ rfl).2; have c1 := (hE0.2 1 _ rfl).1; have f1 := (hE0.2 1 _ rfl).2; have c2 := (hE0.2 2 _ rfl).1; have f2 := (hE0.2 2 _ rfl).2; have c3 := (hE0.2 3 _ rfl).1; have f3 := (hE0.2 3 _ rfl).2; have c4 := (hE0.2 4 _ rfl).1; have f4 := (hE0.2 4 _ rfl).2; have c5 := (hE0.2 5 _ rfl).1; have f5 := (hE0.2 5 _ rfl).2; have c6 := (hE0.2 6 _ rfl).1; have f6 := (hE0.2 6 _ rfl).2; have c7 := (hE0.2 7 _ rfl).1; have f7 := (hE0.2 7 _ rfl).2; have z0 := (hR0.2 0 _ rfl).1; have y0 := (hR0.2 0 _ rfl).2; have z1 := (hR0.2 1 _ rfl).1; have y1 := (hR0.2 1 _ rfl).2; have z2 := (hR0.2 2 _ rfl).1; have y2 := (hR0.2 2 _ rfl).2; have z3 := (hR0.2 3 _ rfl).1; have y3 := (hR0.2 3 _ rfl).2; have z4 := (hR0.2 4 _ rfl).1; have y4 := (hR0.2 4 _ rfl).2; have z5 := (hR0.2 5 _ rfl).1; have y5 := (hR0.2 5 _ rfl).2; have z6 := (hR0.2 6 _ rfl).1; have y6 := (hR0.2 6 _ rfl).2; have z7 := (hR0.2 7 _ rfl).1; have y7 := (hR0.2 7 _ rfl).2)
    obtain ⟨W9, hW9⟩ : ∃ W9, W9 = MvR.put8 u0 D ⟨id, kind, ax, ay, vx, vy, hh, t⟩ := ⟨_, rfl⟩
    have hS9 : Struct D (enEnc ⟨id, kind, ax, ay, vx, vy, hh, t⟩) W9 := by rw [hW9]; exact MvR.set8 (e := MvR.zeroE) hR0 _
    have hT9 : Turned [] w W9 := by rw [hW9]; exact MvR.turned8 hTu0 (.inr hDw) _
    simp only [MvR.put8] at hW9
    rw [← hW9]
    have e0 := (hS9.2 0 _ rfl).1
    have e1 := (hS9.2 1 _ rfl).1
    have e2 := (hS9.2 2 _ rfl).1
    have e3 := (hS9.2 3 _ rfl).1
    have e4 := (hS9.2 4 _ rfl).1
    have e5 := (hS9.2 5 _ rfl).1
    have e6 := (hS9.2 6 _ rfl).1
    have e7 := (hS9.2 7 _ rfl).1
    simp only [enEnc] at e0 e1 e2 e3 e4 e5 e6 e7
    exact bodyPost_ret (v := enVal ⟨id, kind, ax, ay, vx, vy, hh, t⟩) (by simp [results, Try.results38, go_sem, e0, e1, e2, e3, e4, e5, e6, e7]) rfl ⟨by rw [HA.out], hT9⟩

set_option maxRecDepth 20000 in
set_option maxHeartbeats 16000000 in
theorem roll_any (m : Ti.M) (oa : Option Addr) (ca : Nat) (ob : Option Addr) (cb : Nat) (e : En.E) (w : World) (h : MapAt m oa ob w) :
    Calls Try.prog 39 #[mapVal m oa ca ob cb, enVal e] w fun r w' => r = .returned (enVal (Mv.roll m e)) ∧ Turned [] w w' := by
  obtain ⟨id, kind, ax, ay, vx, vy, hh, t⟩ := e
  have kfm := fun u => formed_any ⟨id, kind, ax, ay, vx, vy, hh, t⟩ 2 u
  have kst := fun (x y a b : Int) hx hy ha hb (u : World) (hu : MapAt m oa ob u) => step_any m oa ca ob cb x y a b hx hy ha hb u hu
  obtain ⟨fb, hfb⟩ : ∃ b, b = (decide (kind = 2) && decide (En.Formed ⟨id, kind, ax, ay, vx, vy, hh, t⟩)) := ⟨_, rfl⟩
  simp only at kfm
  rw [← hfb] at kfm
  obtain ⟨nw, hnw⟩ : ∃ n, n = m.ws.length := ⟨_, rfl⟩
  obtain ⟨ns, hns⟩ : ∃ n, n = m.sp.length := ⟨_, rfl⟩
  unfold mapVal at kst ⊢
  rw [← hnw, ← hns] at kst ⊢
  unfold enVal at kfm
  simp only at kfm
  show Calls _ _ #[_, .agg #[.int .i64 id, .int .i64 kind, .int .i64 ax, .int .i64 ay, .int .i64 vx, .int .i64 vy, .int .i64 hh, .int .i64 t]] _ _
  obtain ⟨W0, hW0⟩ : ∃ W0, W0 = ((w.alloc (.cells #[.int .i64 m.W, .int .i64 m.H, .slice oa nw ca, .slice ob ns cb] 25)).alloc (.cells #[.int .i64 id, .int .i64 kind, .int .i64 ax, .int .i64 ay, .int .i64 vx, .int .i64 vy, .int .i64 hh, .int .i64 t] 49)).alloc (.cells #[.int .i64 0, .int .i64 0, .int .i64 0, .int .i64 0, .int .i64 0, .int .i64 0, .int .i64 0, .int .i64 0] 49) := ⟨_, rfl⟩
  obtain ⟨B, hB⟩ : ∃ b, b = w.heap.size := ⟨_, rfl⟩
  obtain ⟨C, hC⟩ : ∃ b, b = w.heap.size + 1 := ⟨_, rfl⟩
  obtain ⟨D, hD⟩ : ∃ b, b = w.heap.size + 1 + 1 := ⟨_, rfl⟩
  have hT : Turned [] w W0 := by rw [hW0]; exact (((Turned.refl [] w).alloc _).alloc _).alloc _
  have hS : Struct B [.int .i64 m.W, .int .i64 m.H, .slice oa nw ca, .slice ob ns cb] W0 := by
    have h0 := Struct.new w [.int .i64 m.W, .int .i64 m.H, .slice oa nw ca, .slice ob ns cb] 25
    rw [← hB] at h0
    rw [hW0]; exact ((h0.keep ((Turned.refl [] _).alloc _) (by simp)).keep ((Turned.refl [] _).alloc _) (by simp))
  have hE : Struct C [.int .i64 id, .int .i64 kind, .int .i64 ax, .int .i64 ay, .int .i64 vx, .int .i64 vy, .int .i64 hh, .int .i64 t] W0 := by
    have h0 := Struct.new (w.alloc (.cells #[.int .i64 m.W, .int .i64 m.H, .slice oa nw ca, .slice ob ns cb] 25)) [.int .i64 id, .int .i64 kind, .int .i64 ax, .int .i64 ay, .int .i64 vx, .int .i64 vy, .int .i64 hh, .int .i64 t] 49
    rw [show (w.alloc (.cells #[.int .i64 m.W, .int .i64 m.H, .slice oa nw ca, .slice ob ns cb] 25)).heap.size = w.heap.size + 1 by simp, ← hC] at h0
    rw [hW0]; exact (h0.keep ((Turned.refl [] _).alloc _) (by simp))
  have hR : Struct D [.int .i64 0, .int .i64 0, .int .i64 0, .int .i64 0, .int .i64 0, .int .i64 0, .int .i64 0, .int .i64 0] W0 := by
    have h0 := Struct.new ((w.alloc (.cells #[.int .i64 m.W, .int .i64 m.H, .slice oa nw ca, .slice ob ns cb] 25)).alloc (.cells #[.int .i64 id, .int .i64 kind, .int .i64 ax, .int .i64 ay, .int .i64 vx, .int .i64 vy, .int .i64 hh, .int .i64 t] 49)) [.int .i64 0, .int .i64 0, .int .i64 0, .int .i64 0, .int .i64 0, .int .i64 0, .int .i64 0, .int .i64 0] 49
    rw [show ((w.alloc (.cells #[.int .i64 m.W, .int .i64 m.H, .slice oa nw ca, .slice ob ns cb] 25)).alloc (.cells #[.int .i64 id, .int .i64 kind, .int .i64 ax, .int .i64 ay, .int .i64 vx, .int .i64 vy, .int .i64 hh, .int .i64 t] 49)).heap.size = w.heap.size + 1 + 1 by simp, ← hD] at h0
    rw [hW0]; exact h0
  have hBw : w.heap.size ≤ B := by omega
  have hCw : w.heap.size ≤ C := by omega
  have hDw : w.heap.size ≤ D := by omega
  have nBC : B ≠ C := by omega
  have nBD : B ≠ D := by omega
  have nCD : C ≠ D := by omega
  have hM := h.calm hT
  clear hnw hns
  by_cases hF : En.Formed ⟨id, kind, ax, ay, vx, vy, hh, t⟩
  · by_cases h1 : kind = 2
    · have hwk : Mv.rolls ⟨id, kind, ax, ay, vx, vy, hh, t⟩ = true := Mv.rolls_iff.2 ⟨hF, h1⟩
      rw [show fb = true by rw [hfb, decide_eq_true h1, decide_eq_true hF]; rfl] at kfm
      obtain ⟨_, ⟨b1, b2, b3, b4⟩, ⟨b5, b6, b7, b8⟩, _⟩ := hF
      have b1 : -134217728 ≤ ax := b1
      have b2 : ax ≤ 134217728 := b2
      have b3 : -134217728 ≤ ay := b3
      have b4 : ay ≤ 134217728 := b4
      have b5 : -65536 ≤ vx := b5
      have b6 : vx ≤ 65536 := b6
      have b7 : -65536 ≤ vy := b7
      have b8 : vy ≤ 65536 := b8
      have ks := kst ax ay vx vy ⟨b1, b2⟩ ⟨b3, b4⟩ ⟨b5, b6⟩ ⟨b7, b8⟩
      obtain ⟨nx, hnx⟩ : ∃ n, n = Mv.goX m ax ay vx := ⟨_, rfl⟩
      rw [← hnx] at ks
      obtain ⟨ny, hny⟩ : ∃ n, n = Mv.goY m nx ay vy := ⟨_, rfl⟩
      rw [← hny] at ks
      clear h1
      cases hsx : Mv.stands m (ax + vx) ay with
      | false =>
        cases hsy : Mv.stands m nx (ay + vy) with
        | false =>
          have HA : Hid (Mv.roll m ⟨id, kind, ax, ay, vx, vy, hh, t⟩ = ⟨id, kind, nx, ny, -vx, -vy, hh, t⟩) := by
            show _ = _
            simp only [Mv.roll, hwk, if_true, Mv.rolled, Mv.turnX, Mv.turnY, ← hnx, hsx, ← hny, hsy, Bool.false_eq_true, if_false]
          rw [hsx, hsy] at ks
          clear hfb kst hnx hny hsx hsy hwk b1 b2 b3 b4
          go_enter Try.func39, Try.ntmps39
          go_wp2_with fail
          rw [← hW0, ← hD, ← hC, ← hB]
          clear hW0 hB hC hD
          go_wp2_with (go_at_call 51; (with_reducible refine (kfm _).mono ?_); rintro r u0 ⟨rfl, HT0⟩; have hS0 := hS.keep HT0 (by simp); have hE0 := hE.keep HT0 (by simp); have hR0 := hR.keep HT0 (by simp); have hTu0 := hT.trans HT0 (by simp); have d0 := (hS0.2 0 _ rfl).1; have d1 := (hS0.2 1 _ rfl).1; have d2 := (hS0.2 2 _ rfl).1; have d3 := (hS0.2 3 _ rfl).1; have c0 := (hE0.2 0 _ rfl).1; have f0 := (hE0.2 0 _ rfl).2; have c1 := (hE0.2 1 _ rfl).1; have f1 := (hE0.2 1 _ rfl).2; have c2 := (hE0.2 2 _ rfl).1; have f2 := (hE0.2 2 _ rfl).2; have c3 := (hE0.2 3 _ rfl).1; have f3 := (hE0.2 3 _ rfl).2; have c4 := (hE0.2 4 _ rfl).1; have f4 := (hE0.2 4 _ rfl).2; have c5 := (hE0.2 5 _ rfl).1; have f5 := (hE0.2 5 _ rfl).2; have c6 := (hE0.2 6 _ rfl).1; have f6 := (hE0.2 6 _ rfl).2; have c7 := (hE0.2 7 _ rfl).1; have f7 := (hE0.2 7 _ rfl).2; have z0 := (hR0.2 0 _ rfl).1; have y0 := (hR0.2 0 _ rfl).2; have z1 := (hR0.2 1 _ rfl).1; have y1 := (hR0.2 1 _ rfl).2; have z2 := (hR0.2 2 _ rfl).1; have y2 := (hR0.2 2 _ rfl).2; have z3 := (hR0.2 3 _ rfl).1; have y3 := (hR0.2 3 _ rfl).2; have z4 := (hR0.2 4 _ rfl).1; have y4 := (hR0.2 4 _ rfl).2; have z5 := (hR0.2 5 _ rfl).1; have y5 := (hR0.2 5 _ rfl).2; have z6 := (hR0.2 6 _ rfl).1; have y6 := (hR0.2 6 _ rfl).2; have z7 := (hR0.2 7 _ rfl).1; have y7 := (hR0.2 7 _ rfl).2)
          have hMs := h.calm hTu0
          refine (ks _ hMs).mono ?_
          rintro r u1 ⟨rfl, HS1⟩
          have hE1 := (hE0).keep HS1 (by simp)
          have hR1 := (hR0).keep HS1 (by simp)
          have hT1 := (hTu0).trans HS1 (by simp)
          clear hMs HS1 d0 d1 d2 d3 c0 c1 c2 c3 c4 c5 c6 c7 f0 f1 f2 f3 f4 f5 f6 f7 z0 z1 z2 z3 z4 z5 z6 z7 y0 y1 y2 y3 y4 y5 y6 y7
          have c0 := (hE1.2 0 _ rfl).1
          have f0 := (hE1.2 0 _ rfl).2
          have c1 := (hE1.2 1 _ rfl).1
          have f1 := (hE1.2 1 _ rfl).2
          have c2 := (hE1.2 2 _ rfl).1
          have f2 := (hE1.2 2 _ rfl).2
          have c3 := (hE1.2 3 _ rfl).1
          have f3 := (hE1.2 3 _ rfl).2
          have c4 := (hE1.2 4 _ rfl).1
          have f4 := (hE1.2 4 _ rfl).2
          have c5 := (hE1.2 5 _ rfl).1
          have f5 := (hE1.2 5 _ rfl).2
          have c6 := (hE1.2 6 _ rfl).1
          have f6 := (hE1.2 6 _ rfl).2
          have c7 := (hE1.2 7 _ rfl).1
          have f7 := (hE1.2 7 _ rfl).2
          have z0 := (hR1.2 0 _ rfl).1
          have y0 := (hR1.2 0 _ rfl).2
          have z1 := (hR1.2 1 _ rfl).1
          have y1 := (hR1.2 1 _ rfl).2
          have z2 := (hR1.2 2 _ rfl).1
          have y2 := (hR1.2 2 _ rfl).2
          have z3 := (hR1.2 3 _ rfl).1
          have y3 := (hR1.2 3 _ rfl).2
          have z4 := (hR1.2 4 _ rfl).1
          have y4 := (hR1.2 4 _ rfl).2
          have z5 := (hR1.2 5 _ rfl).1
          have y5 := (hR1.2 5 _ rfl).2
          have z6 := (hR1.2 6 _ rfl).1
          have y6 := (hR1.2 6 _ rfl).2
          have z7 := (hR1.2 7 _ rfl).1
          have y7 := (hR1.2 7 _ rfl).2
          have hlt := hE1.1
          have hltD := hR1.1
          have nC : C ≠ u1.heap.size := by omega
          have nD : D ≠ u1.heap.size := by omega
          go_wp2_with fail
          obtain ⟨W9, hW9⟩ : ∃ W9, W9 = MvR.put8 (((((u1).setCell ⟨C, 2, none⟩ (.int .i64 nx)).setCell ⟨C, 3, none⟩ (.int .i64 ny)).setCell ⟨C, 4, none⟩ (.int .i64 (-vx))).setCell ⟨C, 5, none⟩ (.int .i64 (-vy))) D ⟨id, kind, nx, ny, -vx, -vy, hh, t⟩ := ⟨_, rfl⟩
          have hS9 : Struct D (enEnc ⟨id, kind, nx, ny, -vx, -vy, hh, t⟩) W9 := by rw [hW9]; exact MvR.set8 (e := MvR.zeroE) ((((((((hR1).keep ((Turned.refl [C] u1).setCell (p := ⟨C, 2, none⟩) (.inl (by simp)) (.int .i64 nx)) (by simpa using nCD.symm))).keep ((Turned.refl [C] ((u1).setCell ⟨C, 2, none⟩ (.int .i64 nx))).setCell (p := ⟨C, 3, none⟩) (.inl (by simp)) (.int .i64 ny)) (by simpa using nCD.symm))).keep ((Turned.refl [C] (((u1).setCell ⟨C, 2, none⟩ (.int .i64 nx)).setCell ⟨C, 3, none⟩ (.int .i64 ny))).setCell (p := ⟨C, 4, none⟩) (.inl (by simp)) (.int .i64 (-vx))) (by simpa using nCD.symm))).keep ((Turned.refl [C] ((((u1).setCell ⟨C, 2, none⟩ (.int .i64 nx)).setCell ⟨C, 3, none⟩ (.int .i64 ny)).setCell ⟨C, 4, none⟩ (.int .i64 (-vx)))).setCell (p := ⟨C, 5, none⟩) (.inl (by simp)) (.int .i64 (-vy))) (by simpa using nCD.symm)) _
          have hT9 : Turned [] w W9 := by rw [hW9]; exact MvR.turned8 ((((((((hT1).setCell (p := ⟨C, 2, none⟩) (.inr hCw) (.int .i64 nx))).setCell (p := ⟨C, 3, none⟩) (.inr hCw) (.int .i64 ny))).setCell (p := ⟨C, 4, none⟩) (.inr hCw) (.int .i64 (-vx)))).setCell (p := ⟨C, 5, none⟩) (.inr hCw) (.int .i64 (-vy))) (.inr hDw) _
          simp only [MvR.put8] at hW9
          rw [← hW9]
          have e0 := (hS9.2 0 _ rfl).1
          have e1 := (hS9.2 1 _ rfl).1
          have e2 := (hS9.2 2 _ rfl).1
          have e3 := (hS9.2 3 _ rfl).1
          have e4 := (hS9.2 4 _ rfl).1
          have e5 := (hS9.2 5 _ rfl).1
          have e6 := (hS9.2 6 _ rfl).1
          have e7 := (hS9.2 7 _ rfl).1
          simp only [enEnc] at e0 e1 e2 e3 e4 e5 e6 e7
          exact bodyPost_ret (v := enVal ⟨id, kind, nx, ny, -vx, -vy, hh, t⟩) (by simp [World.cell?_alloc_past, hS9.1, results, Try.results39, go_sem, e0, e1, e2, e3, e4, e5, e6, e7]) rfl ⟨by rw [HA.out], hT9.alloc _⟩
        | true =>
          have HA : Hid (Mv.roll m ⟨id, kind, ax, ay, vx, vy, hh, t⟩ = ⟨id, kind, nx, ny, -vx, vy, hh, t⟩) := by
            show _ = _
            simp only [Mv.roll, hwk, if_true, Mv.rolled, Mv.turnX, Mv.turnY, ← hnx, hsx, ← hny, hsy, Bool.false_eq_true, if_false]
          rw [hsx, hsy] at ks
          clear hfb kst hnx hny hsx hsy hwk b1 b2 b3 b4
          go_enter Try.func39, Try.ntmps39
          go_wp2_with fail
          rw [← hW0, ← hD, ← hC, ← hB]
          clear hW0 hB hC hD
          go_wp2_with (go_at_call 51; (with_reducible refine (kfm _).mono ?_); rintro r u0 ⟨rfl, HT0⟩; have hS0 := hS.keep HT0 (by simp); have hE0 := hE.keep HT0 (by simp); have hR0 := hR.keep HT0 (by simp); have hTu0 := hT.trans HT0 (by simp); have d0 := (hS0.2 0 _ rfl).1; have d1 := (hS0.2 1 _ rfl).1; have d2 := (hS0.2 2 _ rfl).1; have d3 := (hS0.2 3 _ rfl).1; have c0 := (hE0.2 0 _ rfl).1; have f0 := (hE0.2 0 _ rfl).2; have c1 := (hE0.2 1 _ rfl).1; have f1 := (hE0.2 1 _ rfl).2; have c2 := (hE0.2 2 _ rfl).1; have f2 := (hE0.2 2 _ rfl).2; have c3 := (hE0.2 3 _ rfl).1; have f3 := (hE0.2 3 _ rfl).2; have c4 := (hE0.2 4 _ rfl).1; have f4 := (hE0.2 4 _ rfl).2; have c5 := (hE0.2 5 _ rfl).1; have f5 := (hE0.2 5 _ rfl).2; have c6 := (hE0.2 6 _ rfl).1; have f6 := (hE0.2 6 _ rfl).2; have c7 := (hE0.2 7 _ rfl).1; have f7 := (hE0.2 7 _ rfl).2; have z0 := (hR0.2 0 _ rfl).1; have y0 := (hR0.2 0 _ rfl).2; have z1 := (hR0.2 1 _ rfl).1; have y1 := (hR0.2 1 _ rfl).2; have z2 := (hR0.2 2 _ rfl).1; have y2 := (hR0.2 2 _ rfl).2; have z3 := (hR0.2 3 _ rfl).1; have y3 := (hR0.2 3 _ rfl).2; have z4 := (hR0.2 4 _ rfl).1; have y4 := (hR0.2 4 _ rfl).2; have z5 := (hR0.2 5 _ rfl).1; have y5 := (hR0.2 5 _ rfl).2; have z6 := (hR0.2 6 _ rfl).1; have y6 := (hR0.2 6 _ rfl).2; have z7 := (hR0.2 7 _ rfl).1; have y7 := (hR0.2 7 _ rfl).2)
          have hMs := h.calm hTu0
          refine (ks _ hMs).mono ?_
          rintro r u1 ⟨rfl, HS1⟩
          have hE1 := (hE0).keep HS1 (by simp)
          have hR1 := (hR0).keep HS1 (by simp)
          have hT1 := (hTu0).trans HS1 (by simp)
          clear hMs HS1 d0 d1 d2 d3 c0 c1 c2 c3 c4 c5 c6 c7 f0 f1 f2 f3 f4 f5 f6 f7 z0 z1 z2 z3 z4 z5 z6 z7 y0 y1 y2 y3 y4 y5 y6 y7
          have c0 := (hE1.2 0 _ rfl).1
          have f0 := (hE1.2 0 _ rfl).2
          have c1 := (hE1.2 1 _ rfl).1
          have f1 := (hE1.2 1 _ rfl).2
          have c2 := (hE1.2 2 _ rfl).1
          have f2 := (hE1.2 2 _ rfl).2
          have c3 := (hE1.2 3 _ rfl).1
          have f3 := (hE1.2 3 _ rfl).2
          have c4 := (hE1.2 4 _ rfl).1
          have f4 := (hE1.2 4 _ rfl).2
          have c5 := (hE1.2 5 _ rfl).1
          have f5 := (hE1.2 5 _ rfl).2
          have c6 := (hE1.2 6 _ rfl).1
          have f6 := (hE1.2 6 _ rfl).2
          have c7 := (hE1.2 7 _ rfl).1
          have f7 := (hE1.2 7 _ rfl).2
          have z0 := (hR1.2 0 _ rfl).1
          have y0 := (hR1.2 0 _ rfl).2
          have z1 := (hR1.2 1 _ rfl).1
          have y1 := (hR1.2 1 _ rfl).2
          have z2 := (hR1.2 2 _ rfl).1
          have y2 := (hR1.2 2 _ rfl).2
          have z3 := (hR1.2 3 _ rfl).1
          have y3 := (hR1.2 3 _ rfl).2
          have z4 := (hR1.2 4 _ rfl).1
          have y4 := (hR1.2 4 _ rfl).2
          have z5 := (hR1.2 5 _ rfl).1
          have y5 := (hR1.2 5 _ rfl).2
          have z6 := (hR1.2 6 _ rfl).1
          have y6 := (hR1.2 6 _ rfl).2
          have z7 := (hR1.2 7 _ rfl).1
          have y7 := (hR1.2 7 _ rfl).2
          have hlt := hE1.1
          have hltD := hR1.1
          have nC : C ≠ u1.heap.size := by omega
          have nD : D ≠ u1.heap.size := by omega
          go_wp2_with fail
          obtain ⟨W9, hW9⟩ : ∃ W9, W9 = MvR.put8 ((((u1).setCell ⟨C, 2, none⟩ (.int .i64 nx)).setCell ⟨C, 3, none⟩ (.int .i64 ny)).setCell ⟨C, 4, none⟩ (.int .i64 (-vx))) D ⟨id, kind, nx, ny, -vx, vy, hh, t⟩ := ⟨_, rfl⟩
          have hS9 : Struct D (enEnc ⟨id, kind, nx, ny, -vx, vy, hh, t⟩) W9 := by rw [hW9]; exact MvR.set8 (e := MvR.zeroE) ((((((hR1).keep ((Turned.refl [C] u1).setCell (p := ⟨C, 2, none⟩) (.inl (by simp)) (.int .i64 nx)) (by simpa using nCD.symm))).keep ((Turned.refl [C] ((u1).setCell ⟨C, 2, none⟩ (.int .i64 nx))).setCell (p := ⟨C, 3, none⟩) (.inl (by simp)) (.int .i64 ny)) (by simpa using nCD.symm))).keep ((Turned.refl [C] (((u1).setCell ⟨C, 2, none⟩ (.int .i64 nx)).setCell ⟨C, 3, none⟩ (.int .i64 ny))).setCell (p := ⟨C, 4, none⟩) (.inl (by simp)) (.int .i64 (-vx))) (by simpa using nCD.symm)) _
          have hT9 : Turned [] w W9 := by rw [hW9]; exact MvR.turned8 ((((((hT1).setCell (p := ⟨C, 2, none⟩) (.inr hCw) (.int .i64 nx))).setCell (p := ⟨C, 3, none⟩) (.inr hCw) (.int .i64 ny))).setCell (p := ⟨C, 4, none⟩) (.inr hCw) (.int .i64 (-vx))) (.inr hDw) _
          simp only [MvR.put8] at hW9
          rw [← hW9]
          have e0 := (hS9.2 0 _ rfl).1
          have e1 := (hS9.2 1 _ rfl).1
          have e2 := (hS9.2 2 _ rfl).1
          have e3 := (hS9.2 3 _ rfl).1
          have e4 := (hS9.2 4 _ rfl).1
          have e5 := (hS9.2 5 _ rfl).1
          have e6 := (hS9.2 6 _ rfl).1
          have e7 := (hS9.2 7 _ rfl).1
          simp only [enEnc] at e0 e1 e2 e3 e4 e5 e6 e7
          exact bodyPost_ret (v := enVal ⟨id, kind, nx, ny, -vx, vy, hh, t⟩) (by simp [World.cell?_alloc_past, hS9.1, results, Try.results39, go_sem, e0, e1, e2, e3, e4, e5, e6, e7]) rfl ⟨by rw [HA.out], hT9.alloc _⟩
      | true =>
        cases hsy : Mv.stands m nx (ay + vy) with
        | false =>
          have HA : Hid (Mv.roll m ⟨id, kind, ax, ay, vx, vy, hh, t⟩ = ⟨id, kind, nx, ny, vx, -vy, hh, t⟩) := by
            show _ = _
            simp only [Mv.roll, hwk, if_true, Mv.rolled, Mv.turnX, Mv.turnY, ← hnx, hsx, ← hny, hsy, Bool.false_eq_true, if_false]
          rw [hsx, hsy] at ks
          clear hfb kst hnx hny hsx hsy hwk b1 b2 b3 b4
          go_enter Try.func39, Try.ntmps39
          go_wp2_with fail
          rw [← hW0, ← hD, ← hC, ← hB]
          clear hW0 hB hC hD
          go_wp2_with (go_at_call 51; (with_reducible refine (kfm _).mono ?_); rintro r u0 ⟨rfl, HT0⟩; have hS0 := hS.keep HT0 (by simp); have hE0 := hE.keep HT0 (by simp); have hR0 := hR.keep HT0 (by simp); have hTu0 := hT.trans HT0 (by simp); have d0 := (hS0.2 0 _ rfl).1; have d1 := (hS0.2 1 _ rfl).1; have d2 := (hS0.2 2 _ rfl).1; have d3 := (hS0.2 3 _ rfl).1; have c0 := (hE0.2 0 _ rfl).1; have f0 := (hE0.2 0 _ rfl).2; have c1 := (hE0.2 1 _ rfl).1; have f1 := (hE0.2 1 _ rfl).2; have c2 := (hE0.2 2 _ rfl).1; have f2 := (hE0.2 2 _ rfl).2; have c3 := (hE0.2 3 _ rfl).1; have f3 := (hE0.2 3 _ rfl).2; have c4 := (hE0.2 4 _ rfl).1; have f4 := (hE0.2 4 _ rfl).2; have c5 := (hE0.2 5 _ rfl).1; have f5 := (hE0.2 5 _ rfl).2; have c6 := (hE0.2 6 _ rfl).1; have f6 := (hE0.2 6 _ rfl).2; have c7 := (hE0.2 7 _ rfl).1; have f7 := (hE0.2 7 _ rfl).2; have z0 := (hR0.2 0 _ rfl).1; have y0 := (hR0.2 0 _ rfl).2; have z1 := (hR0.2 1 _ rfl).1; have y1 := (hR0.2 1 _ rfl).2; have z2 := (hR0.2 2 _ rfl).1; have y2 := (hR0.2 2 _ rfl).2; have z3 := (hR0.2 3 _ rfl).1; have y3 := (hR0.2 3 _ rfl).2; have z4 := (hR0.2 4 _ rfl).1; have y4 := (hR0.2 4 _ rfl).2; have z5 := (hR0.2 5 _ rfl).1; have y5 := (hR0.2 5 _ rfl).2; have z6 := (hR0.2 6 _ rfl).1; have y6 := (hR0.2 6 _ rfl).2; have z7 := (hR0.2 7 _ rfl).1; have y7 := (hR0.2 7 _ rfl).2)
          have hMs := h.calm hTu0
          refine (ks _ hMs).mono ?_
          rintro r u1 ⟨rfl, HS1⟩
          have hE1 := (hE0).keep HS1 (by simp)
          have hR1 := (hR0).keep HS1 (by simp)
          have hT1 := (hTu0).trans HS1 (by simp)
          clear hMs HS1 d0 d1 d2 d3 c0 c1 c2 c3 c4 c5 c6 c7 f0 f1 f2 f3 f4 f5 f6 f7 z0 z1 z2 z3 z4 z5 z6 z7 y0 y1 y2 y3 y4 y5 y6 y7
          have c0 := (hE1.2 0 _ rfl).1
          have f0 := (hE1.2 0 _ rfl).2
          have c1 := (hE1.2 1 _ rfl).1
          have f1 := (hE1.2 1 _ rfl).2
          have c2 := (hE1.2 2 _ rfl).1
          have f2 := (hE1.2 2 _ rfl).2
          have c3 := (hE1.2 3 _ rfl).1
          have f3 := (hE1.2 3 _ rfl).2
          have c4 := (hE1.2 4 _ rfl).1
          have f4 := (hE1.2 4 _ rfl).2
          have c5 := (hE1.2 5 _ rfl).1
          have f5 := (hE1.2 5 _ rfl).2
          have c6 := (hE1.2 6 _ rfl).1
          have f6 := (hE1.2 6 _ rfl).2
          have c7 := (hE1.2 7 _ rfl).1
          have f7 := (hE1.2 7 _ rfl).2
          have z0 := (hR1.2 0 _ rfl).1
          have y0 := (hR1.2 0 _ rfl).2
          have z1 := (hR1.2 1 _ rfl).1
          have y1 := (hR1.2 1 _ rfl).2
          have z2 := (hR1.2 2 _ rfl).1
          have y2 := (hR1.2 2 _ rfl).2
          have z3 := (hR1.2 3 _ rfl).1
          have y3 := (hR1.2 3 _ rfl).2
          have z4 := (hR1.2 4 _ rfl).1
          have y4 := (hR1.2 4 _ rfl).2
          have z5 := (hR1.2 5 _ rfl).1
          have y5 := (hR1.2 5 _ rfl).2
          have z6 := (hR1.2 6 _ rfl).1
          have y6 := (hR1.2 6 _ rfl).2
          have z7 := (hR1.2 7 _ rfl).1
          have y7 := (hR1.2 7 _ rfl).2
          have hlt := hE1.1
          have hltD := hR1.1
          have nC : C ≠ u1.heap.size := by omega
          have nD : D ≠ u1.heap.size := by omega
          go_wp2_with fail
          obtain ⟨W9, hW9⟩ : ∃ W9, W9 = MvR.put8 ((((u1).setCell ⟨C, 2, none⟩ (.int .i64 nx)).setCell ⟨C, 3, none⟩ (.int .i64 ny)).setCell ⟨C, 5, none⟩ (.int .i64 (-vy))) D ⟨id, kind, nx, ny, vx, -vy, hh, t⟩ := ⟨_, rfl⟩
          have hS9 : Struct D (enEnc ⟨id, kind, nx, ny, vx, -vy, hh, t⟩) W9 := by rw [hW9]; exact MvR.set8 (e := MvR.zeroE) ((((((hR1).keep ((Turned.refl [C] u1).setCell (p := ⟨C, 2, none⟩) (.inl (by simp)) (.int .i64 nx)) (by simpa using nCD.symm))).keep ((Turned.refl [C] ((u1).setCell ⟨C, 2, none⟩ (.int .i64 nx))).setCell (p := ⟨C, 3, none⟩) (.inl (by simp)) (.int .i64 ny)) (by simpa using nCD.symm))).keep ((Turned.refl [C] (((u1).setCell ⟨C, 2, none⟩ (.int .i64 nx)).setCell ⟨C, 3, none⟩ (.int .i64 ny))).setCell (p := ⟨C, 5, none⟩) (.inl (by simp)) (.int .i64 (-vy))) (by simpa using nCD.symm)) _
          have hT9 : Turned [] w W9 := by rw [hW9]; exact MvR.turned8 ((((((hT1).setCell (p := ⟨C, 2, none⟩) (.inr hCw) (.int .i64 nx))).setCell (p := ⟨C, 3, none⟩) (.inr hCw) (.int .i64 ny))).setCell (p := ⟨C, 5, none⟩) (.inr hCw) (.int .i64 (-vy))) (.inr hDw) _
          simp only [MvR.put8] at hW9
          rw [← hW9]
          have e0 := (hS9.2 0 _ rfl).1
          have e1 := (hS9.2 1 _ rfl).1
          have e2 := (hS9.2 2 _ rfl).1
          have e3 := (hS9.2 3 _ rfl).1
          have e4 := (hS9.2 4 _ rfl).1
          have e5 := (hS9.2 5 _ rfl).1
          have e6 := (hS9.2 6 _ rfl).1
          have e7 := (hS9.2 7 _ rfl).1
          simp only [enEnc] at e0 e1 e2 e3 e4 e5 e6 e7
          exact bodyPost_ret (v := enVal ⟨id, kind, nx, ny, vx, -vy, hh, t⟩) (by simp [World.cell?_alloc_past, hS9.1, results, Try.results39, go_sem, e0, e1, e2, e3, e4, e5, e6, e7]) rfl ⟨by rw [HA.out], hT9.alloc _⟩
        | true =>
          have HA : Hid (Mv.roll m ⟨id, kind, ax, ay, vx, vy, hh, t⟩ = ⟨id, kind, nx, ny, vx, vy, hh, t⟩) := by
            show _ = _
            simp only [Mv.roll, hwk, if_true, Mv.rolled, Mv.turnX, Mv.turnY, ← hnx, hsx, ← hny, hsy, Bool.false_eq_true, if_false]
          rw [hsx, hsy] at ks
          clear hfb kst hnx hny hsx hsy hwk b1 b2 b3 b4
          go_enter Try.func39, Try.ntmps39
          go_wp2_with fail
          rw [← hW0, ← hD, ← hC, ← hB]
          clear hW0 hB hC hD
          go_wp2_with (go_at_call 51; (with_reducible refine (kfm _).mono ?_); rintro r u0 ⟨rfl, HT0⟩; have hS0 := hS.keep HT0 (by simp); have hE0 := hE.keep HT0 (by simp); have hR0 := hR.keep HT0 (by simp); have hTu0 := hT.trans HT0 (by simp); have d0 := (hS0.2 0 _ rfl).1; have d1 := (hS0.2 1 _ rfl).1; have d2 := (hS0.2 2 _ rfl).1; have d3 := (hS0.2 3 _ rfl).1; have c0 := (hE0.2 0 _ rfl).1; have f0 := (hE0.2 0 _ rfl).2; have c1 := (hE0.2 1 _ rfl).1; have f1 := (hE0.2 1 _ rfl).2; have c2 := (hE0.2 2 _ rfl).1; have f2 := (hE0.2 2 _ rfl).2; have c3 := (hE0.2 3 _ rfl).1; have f3 := (hE0.2 3 _ rfl).2; have c4 := (hE0.2 4 _ rfl).1; have f4 := (hE0.2 4 _ rfl).2; have c5 := (hE0.2 5 _ rfl).1; have f5 := (hE0.2 5 _ rfl).2; have c6 := (hE0.2 6 _ rfl).1; have f6 := (hE0.2 6 _ rfl).2; have c7 := (hE0.2 7 _ rfl).1; have f7 := (hE0.2 7 _ rfl).2; have z0 := (hR0.2 0 _ rfl).1; have y0 := (hR0.2 0 _ rfl).2; have z1 := (hR0.2 1 _ rfl).1; have y1 := (hR0.2 1 _ rfl).2; have z2 := (hR0.2 2 _ rfl).1; have y2 := (hR0.2 2 _ rfl).2; have z3 := (hR0.2 3 _ rfl).1; have y3 := (hR0.2 3 _ rfl).2; have z4 := (hR0.2 4 _ rfl).1; have y4 := (hR0.2 4 _ rfl).2; have z5 := (hR0.2 5 _ rfl).1; have y5 := (hR0.2 5 _ rfl).2; have z6 := (hR0.2 6 _ rfl).1; have y6 := (hR0.2 6 _ rfl).2; have z7 := (hR0.2 7 _ rfl).1; have y7 := (hR0.2 7 _ rfl).2)
          have hMs := h.calm hTu0
          refine (ks _ hMs).mono ?_
          rintro r u1 ⟨rfl, HS1⟩
          have hE1 := (hE0).keep HS1 (by simp)
          have hR1 := (hR0).keep HS1 (by simp)
          have hT1 := (hTu0).trans HS1 (by simp)
          clear hMs HS1 d0 d1 d2 d3 c0 c1 c2 c3 c4 c5 c6 c7 f0 f1 f2 f3 f4 f5 f6 f7 z0 z1 z2 z3 z4 z5 z6 z7 y0 y1 y2 y3 y4 y5 y6 y7
          have c0 := (hE1.2 0 _ rfl).1
          have f0 := (hE1.2 0 _ rfl).2
          have c1 := (hE1.2 1 _ rfl).1
          have f1 := (hE1.2 1 _ rfl).2
          have c2 := (hE1.2 2 _ rfl).1
          have f2 := (hE1.2 2 _ rfl).2
          have c3 := (hE1.2 3 _ rfl).1
          have f3 := (hE1.2 3 _ rfl).2
          have c4 := (hE1.2 4 _ rfl).1
          have f4 := (hE1.2 4 _ rfl).2
          have c5 := (hE1.2 5 _ rfl).1
          have f5 := (hE1.2 5 _ rfl).2
          have c6 := (hE1.2 6 _ rfl).1
          have f6 := (hE1.2 6 _ rfl).2
          have c7 := (hE1.2 7 _ rfl).1
          have f7 := (hE1.2 7 _ rfl).2
          have z0 := (hR1.2 0 _ rfl).1
          have y0 := (hR1.2 0 _ rfl).2
          have z1 := (hR1.2 1 _ rfl).1
          have y1 := (hR1.2 1 _ rfl).2
          have z2 := (hR1.2 2 _ rfl).1
          have y2 := (hR1.2 2 _ rfl).2
          have z3 := (hR1.2 3 _ rfl).1
          have y3 := (hR1.2 3 _ rfl).2
          have z4 := (hR1.2 4 _ rfl).1
          have y4 := (hR1.2 4 _ rfl).2
          have z5 := (hR1.2 5 _ rfl).1
          have y5 := (hR1.2 5 _ rfl).2
          have z6 := (hR1.2 6 _ rfl).1
          have y6 := (hR1.2 6 _ rfl).2
          have z7 := (hR1.2 7 _ rfl).1
          have y7 := (hR1.2 7 _ rfl).2
          have hlt := hE1.1
          have hltD := hR1.1
          have nC : C ≠ u1.heap.size := by omega
          have nD : D ≠ u1.heap.size := by omega
          go_wp2_with fail
          obtain ⟨W9, hW9⟩ : ∃ W9, W9 = MvR.put8 (((u1).setCell ⟨C, 2, none⟩ (.int .i64 nx)).setCell ⟨C, 3, none⟩ (.int .i64 ny)) D ⟨id, kind, nx, ny, vx, vy, hh, t⟩ := ⟨_, rfl⟩
          have hS9 : Struct D (enEnc ⟨id, kind, nx, ny, vx, vy, hh, t⟩) W9 := by rw [hW9]; exact MvR.set8 (e := MvR.zeroE) ((((hR1).keep ((Turned.refl [C] u1).setCell (p := ⟨C, 2, none⟩) (.inl (by simp)) (.int .i64 nx)) (by simpa using nCD.symm))).keep ((Turned.refl [C] ((u1).setCell ⟨C, 2, none⟩ (.int .i64 nx))).setCell (p := ⟨C, 3, none⟩) (.inl (by simp)) (.int .i64 ny)) (by simpa using nCD.symm)) _
          have hT9 : Turned [] w W9 := by rw [hW9]; exact MvR.turned8 ((((hT1).setCell (p := ⟨C, 2, none⟩) (.inr hCw) (.int .i64 nx))).setCell (p := ⟨C, 3, none⟩) (.inr hCw) (.int .i64 ny)) (.inr hDw) _
          simp only [MvR.put8] at hW9
          rw [← hW9]
          have e0 := (hS9.2 0 _ rfl).1
          have e1 := (hS9.2 1 _ rfl).1
          have e2 := (hS9.2 2 _ rfl).1
          have e3 := (hS9.2 3 _ rfl).1
          have e4 := (hS9.2 4 _ rfl).1
          have e5 := (hS9.2 5 _ rfl).1
          have e6 := (hS9.2 6 _ rfl).1
          have e7 := (hS9.2 7 _ rfl).1
          simp only [enEnc] at e0 e1 e2 e3 e4 e5 e6 e7
          exact bodyPost_ret (v := enVal ⟨id, kind, nx, ny, vx, vy, hh, t⟩) (by simp [World.cell?_alloc_past, hS9.1, results, Try.results39, go_sem, e0, e1, e2, e3, e4, e5, e6, e7]) rfl ⟨by rw [HA.out], hT9.alloc _⟩
    · have HA : Hid (Mv.roll m ⟨id, kind, ax, ay, vx, vy, hh, t⟩ = ⟨id, kind, ax, ay, vx, vy, hh, t⟩) := by
        show _ = _
        unfold Mv.roll
        rw [if_neg]
        rw [Mv.rolls_iff]
        rintro ⟨_, hn⟩
        exact h1 hn
      rw [show fb = false by rw [hfb, decide_eq_false h1]; rfl] at kfm
      clear h1 hF
      clear hfb kst
      go_enter Try.func39, Try.ntmps39
      go_wp2_with fail
      rw [← hW0, ← hD, ← hC, ← hB]
      clear hW0 hB hC hD
      go_wp2_with (go_at_call 51; (with_reducible refine (kfm _).mono ?_); rintro r u0 ⟨rfl, HT0⟩; have hS0 := hS.keep HT0 (by simp); have hE0 := hE.keep HT0 (by simp); have hR0 := hR.keep HT0 (by simp); have hTu0 := hT.trans HT0 (by simp); have d0 := (hS0.2 0 _ rfl).1; have d1 := (hS0.2 1 _ rfl).1; have d2 := (hS0.2 2 _ rfl).1; have d3 := (hS0.2 3 _ rfl).1; have c0 := (hE0.2 0 _ rfl).1; have f0 := (hE0.2 0 _ rfl).2; have c1 := (hE0.2 1 _ rfl).1; have f1 := (hE0.2 1 _ rfl).2; have c2 := (hE0.2 2 _ rfl).1; have f2 := (hE0.2 2 _ rfl).2; have c3 := (hE0.2 3 _ rfl).1; have f3 := (hE0.2 3 _ rfl).2; have c4 := (hE0.2 4 _ rfl).1; have f4 := (hE0.2 4 _ rfl).2; have c5 := (hE0.2 5 _ rfl).1; have f5 := (hE0.2 5 _ rfl).2; have c6 := (hE0.2 6 _ rfl).1; have f6 := (hE0.2 6 _ rfl).2; have c7 := (hE0.2 7 _ rfl).1; have f7 := (hE0.2 7 _ rfl).2; have z0 := (hR0.2 0 _ rfl).1; have y0 := (hR0.2 0 _ rfl).2; have z1 := (hR0.2 1 _ rfl).1; have y1 := (hR0.2 1 _ rfl).2; have z2 := (hR0.2 2 _ rfl).1; have y2 := (hR0.2 2 _ rfl).2; have z3 := (hR0.2 3 _ rfl).1; have y3 := (hR0.2 3 _ rfl).2; have z4 := (hR0.2 4 _ rfl).1; have y4 := (hR0.2 4 _ rfl).2; have z5 := (hR0.2 5 _ rfl).1; have y5 := (hR0.2 5 _ rfl).2; have z6 := (hR0.2 6 _ rfl).1; have y6 := (hR0.2 6 _ rfl).2; have z7 := (hR0.2 7 _ rfl).1; have y7 := (hR0.2 7 _ rfl).2)
      obtain ⟨W9, hW9⟩ : ∃ W9, W9 = MvR.put8 u0 D ⟨id, kind, ax, ay, vx, vy, hh, t⟩ := ⟨_, rfl⟩
      have hS9 : Struct D (enEnc ⟨id, kind, ax, ay, vx, vy, hh, t⟩) W9 := by rw [hW9]; exact MvR.set8 (e := MvR.zeroE) hR0 _
      have hT9 : Turned [] w W9 := by rw [hW9]; exact MvR.turned8 hTu0 (.inr hDw) _
      simp only [MvR.put8] at hW9
      rw [← hW9]
      have e0 := (hS9.2 0 _ rfl).1
      have e1 := (hS9.2 1 _ rfl).1
      have e2 := (hS9.2 2 _ rfl).1
      have e3 := (hS9.2 3 _ rfl).1
      have e4 := (hS9.2 4 _ rfl).1
      have e5 := (hS9.2 5 _ rfl).1
      have e6 := (hS9.2 6 _ rfl).1
      have e7 := (hS9.2 7 _ rfl).1
      simp only [enEnc] at e0 e1 e2 e3 e4 e5 e6 e7
      exact bodyPost_ret (v := enVal ⟨id, kind, ax, ay, vx, vy, hh, t⟩) (by simp [results, Try.results39, go_sem, e0, e1, e2, e3, e4, e5, e6, e7]) rfl ⟨by rw [HA.out], hT9⟩
  · have HA : Hid (Mv.roll m ⟨id, kind, ax, ay, vx, vy, hh, t⟩ = ⟨id, kind, ax, ay, vx, vy, hh, t⟩) := by
      show _ = _
      unfold Mv.roll
      rw [if_neg]
      rw [Mv.rolls_iff]
      rintro ⟨hn, _⟩
      exact hF hn
    rw [show fb = false by rw [hfb, decide_eq_false hF, Bool.and_false]] at kfm
    clear hF
    clear hfb kst
    go_enter Try.func39, Try.ntmps39
    go_wp2_with fail
    rw [← hW0, ← hD, ← hC, ← hB]
    clear hW0 hB hC hD
    go_wp2_with (go_at_call 51; (with_reducible refine (kfm _).mono ?_); rintro r u0 ⟨rfl, HT0⟩; have hS0 := hS.keep HT0 (by simp); have hE0 := hE.keep HT0 (by simp); have hR0 := hR.keep HT0 (by simp); have hTu0 := hT.trans HT0 (by simp); have d0 := (hS0.2 0 _ rfl).1; have d1 := (hS0.2 1 _ rfl).1; have d2 := (hS0.2 2 _ rfl).1; have d3 := (hS0.2 3 _ rfl).1; have c0 := (hE0.2 0 _ rfl).1; have f0 := (hE0.2 0 _ rfl).2; have c1 := (hE0.2 1 _ rfl).1; have f1 := (hE0.2 1 _ rfl).2; have c2 := (hE0.2 2 _ rfl).1; have f2 := (hE0.2 2 _ rfl).2; have c3 := (hE0.2 3 _ rfl).1; have f3 := (hE0.2 3 _ rfl).2; have c4 := (hE0.2 4 _ rfl).1; have f4 := (hE0.2 4 _ rfl).2; have c5 := (hE0.2 5 _ rfl).1; have f5 := (hE0.2 5 _ rfl).2; have c6 := (hE0.2 6 _ rfl).1; have f6 := (hE0.2 6 _ rfl).2; have c7 := (hE0.2 7 _ rfl).1; have f7 := (hE0.2 7 _ rfl).2; have z0 := (hR0.2 0 _ rfl).1; have y0 := (hR0.2 0 _ rfl).2; have z1 := (hR0.2 1 _ rfl).1; have y1 := (hR0.2 1 _ rfl).2; have z2 := (hR0.2 2 _ rfl).1; have y2 := (hR0.2 2 _ rfl).2; have z3 := (hR0.2 3 _ rfl).1; have y3 := (hR0.2 3 _ rfl).2; have z4 := (hR0.2 4 _ rfl).1; have y4 := (hR0.2 4 _ rfl).2; have z5 := (hR0.2 5 _ rfl).1; have y5 := (hR0.2 5 _ rfl).2; have z6 := (hR0.2 6 _ rfl).1; have y6 := (hR0.2 6 _ rfl).2; have z7 := (hR0.2 7 _ rfl).1; have y7 := (hR0.2 7 _ rfl).2)
    obtain ⟨W9, hW9⟩ : ∃ W9, W9 = MvR.put8 u0 D ⟨id, kind, ax, ay, vx, vy, hh, t⟩ := ⟨_, rfl⟩
    have hS9 : Struct D (enEnc ⟨id, kind, ax, ay, vx, vy, hh, t⟩) W9 := by rw [hW9]; exact MvR.set8 (e := MvR.zeroE) hR0 _
    have hT9 : Turned [] w W9 := by rw [hW9]; exact MvR.turned8 hTu0 (.inr hDw) _
    simp only [MvR.put8] at hW9
    rw [← hW9]
    have e0 := (hS9.2 0 _ rfl).1
    have e1 := (hS9.2 1 _ rfl).1
    have e2 := (hS9.2 2 _ rfl).1
    have e3 := (hS9.2 3 _ rfl).1
    have e4 := (hS9.2 4 _ rfl).1
    have e5 := (hS9.2 5 _ rfl).1
    have e6 := (hS9.2 6 _ rfl).1
    have e7 := (hS9.2 7 _ rfl).1
    simp only [enEnc] at e0 e1 e2 e3 e4 e5 e6 e7
    exact bodyPost_ret (v := enVal ⟨id, kind, ax, ay, vx, vy, hh, t⟩) (by simp [results, Try.results39, go_sem, e0, e1, e2, e3, e4, e5, e6, e7]) rfl ⟨by rw [HA.out], hT9⟩

/-- what the laws lean on -/
theorem contracts : Contracts where
  stands := stands_any
  walk := fun m oa ca ob cb e mx my _ hx hy w h => walk_any m oa ca ob cb e mx my hx hy w h
  roll := fun m oa ca ob cb e _ w h => roll_any m oa ca ob cb e w h
end MvW
end Go.Proofs.Ytgabgkgokmeaeaa


/- Who leaves, is hit, walks, joins. The program's (WdW). -/
namespace Go.Proofs.Ytgabgkgokmeaeaa
open Go.RowKit
set_option linter.unusedVariables false
set_option linter.unusedSimpArgs false

namespace Wd
theorem leave_no {w : W} {id : Int} (h : ∀ e ∈ w.l, isP id e = false) : leave w id = w ∧ leaveE w id = 6 := by
  unfold leave leaveE
  have h1 : w.l.filter (fun e => !isP id e) = w.l := List.filter_eq_self.2 fun e he => by rw [h e he]; rfl
  have h2 : w.l.any (isP id) = false := by rw [List.any_eq_false]; intro e he; rw [h e he]; simp
  rw [h1, h2]
  exact ⟨rfl, rfl⟩
theorem leave_yes {w : W} {id : Int} {k : Nat} {e : En.E} (hR : Rise w.l) (hk : w.l[k]? = some e) (hp : isP id e = true) : leave w id = ⟨w.m, w.st, w.tick, w.l.take k ++ w.l.drop (k + 1)⟩ ∧ leaveE w id = 0 := by
  have h2 : w.l.any (isP id) = true := by rw [List.any_eq_true]; exact ⟨e, List.mem_of_getElem? hk, hp⟩
  have hid := (isP_iff.1 hp).1
  have hkl := (List.getElem?_eq_some_iff.1 hk).1
  have h1 : w.l.filter (fun e => !isP id e) = w.l.take k ++ w.l.drop (k + 1) := by
    conv => lhs; rw [← List.take_append_drop k w.l, List.drop_eq_getElem_cons hkl, List.filter_append, List.filter_cons]
    have he : w.l[k] = e := (List.getElem?_eq_some_iff.1 hk).2
    rw [he, hp]
    have a1 : (w.l.take k).filter (fun e => !isP id e) = w.l.take k := List.filter_eq_self.2 fun d hd => by
      obtain ⟨i, hi⟩ := List.getElem?_of_mem hd
      rw [List.getElem?_take] at hi
      split at hi
      · rename_i hik
        have := hR.lt hi hk hik
        cases hpd : isP id d with
        | false => rfl
        | true => have := (isP_iff.1 hpd).1; omega
      · cases hi
    have a2 : (w.l.drop (k + 1)).filter (fun e => !isP id e) = w.l.drop (k + 1) := List.filter_eq_self.2 fun d hd => by
      obtain ⟨i, hi⟩ := List.getElem?_of_mem hd
      rw [List.getElem?_drop] at hi
      have := hR.lt hk hi (by omega)
      cases hpd : isP id d with
      | false => rfl
      | true => have := (isP_iff.1 hpd).1; omega
    rw [a1, a2]
    rfl
  unfold leave leaveE
  rw [h1, h2]
  exact ⟨rfl, rfl⟩
theorem player_or (l : List En.E) (id : Int) : (∀ e ∈ l, isP id e = false) ∨ ∃ (k : Nat) (e : En.E), l[k]? = some e ∧ isP id e = true := by
  by_cases h : ∃ e ∈ l, isP id e = true
  · obtain ⟨e, he, hp⟩ := h
    obtain ⟨k, hk⟩ := List.getElem?_of_mem he
    exact .inr ⟨k, e, hk, hp⟩
  · left
    intro e he
    cases hp : isP id e with
    | false => rfl
    | true => exact absurd ⟨e, he, hp⟩ h
end Wd
namespace WdW
set_option maxRecDepth 20000 in
set_option maxHeartbeats 4000000 in
theorem leave_any (W : Wd.W) (V : WV) (id : Int) (hG : Wd.Gd W) (hid : En.I64 id) (w : World) (hV : Tells W V w) :
    Calls Try.prog 15 #[wvVal V, .int .i64 id] w fun e w' => ∃ V', e = .returned (.tuple #[wvVal V', .int .i64 (Wd.leaveE W id)]) ∧ Tells (Wd.leave W id) V' w' ∧ (∀ k, V'.At k → V.At k ∨ w.heap.size ≤ k) ∧ Turned [] w w' := by
  obtain ⟨W0, hW0⟩ : ∃ W0, W0 = (w.alloc (.cells #[.int .i64 V.mw, .int .i64 V.mh, .slice V.oa V.nw V.ca, .slice V.ob V.ns V.cb, .int .u64 V.st, .int .i64 V.tk, .slice V.ol V.nl V.cl] 34)).alloc (.cells #[.int .i64 0, .int .i64 0, .slice none 0 0, .slice none 0 0, .int .u64 0, .int .i64 0, .slice none 0 0] 34) := ⟨_, rfl⟩
  obtain ⟨B, hB⟩ : ∃ b, b = w.heap.size := ⟨_, rfl⟩
  obtain ⟨D, hD⟩ : ∃ b, b = w.heap.size + 1 := ⟨_, rfl⟩
  have hT : Turned [] w W0 := by rw [hW0]; exact (((Turned.refl [] w).alloc _).alloc _)
  have hS : Struct B [.int .i64 V.mw, .int .i64 V.mh, .slice V.oa V.nw V.ca, .slice V.ob V.ns V.cb, .int .u64 V.st, .int .i64 V.tk, .slice V.ol V.nl V.cl] W0 := by
    have h0 := Struct.new w [.int .i64 V.mw, .int .i64 V.mh, .slice V.oa V.nw V.ca, .slice V.ob V.ns V.cb, .int .u64 V.st, .int .i64 V.tk, .slice V.ol V.nl V.cl] 34
    rw [← hB] at h0
    rw [hW0]; exact h0.keep ((Turned.refl [] _).alloc _) (by simp)
  have hR : Struct D [.int .i64 0, .int .i64 0, .slice none 0 0, .slice none 0 0, .int .u64 0, .int .i64 0, .slice none 0 0] W0 := by
    have h0 := Struct.new (w.alloc (.cells #[.int .i64 V.mw, .int .i64 V.mh, .slice V.oa V.nw V.ca, .slice V.ob V.ns V.cb, .int .u64 V.st, .int .i64 V.tk, .slice V.ol V.nl V.cl] 34)) [.int .i64 0, .int .i64 0, .slice none 0 0, .slice none 0 0, .int .u64 0, .int .i64 0, .slice none 0 0] 34
    rw [show (w.alloc (.cells #[.int .i64 V.mw, .int .i64 V.mh, .slice V.oa V.nw V.ca, .slice V.ob V.ns V.cb, .int .u64 V.st, .int .i64 V.tk, .slice V.ol V.nl V.cl] 34)).heap.size = w.heap.size + 1 by simp, ← hD] at h0
    rw [hW0]; exact h0
  have hBw : w.heap.size ≤ B := by omega
  have hDw : w.heap.size ≤ D := by omega
  have nBD : B ≠ D := by omega
  have nDB : D ≠ B := by omega
  have hbB : B < W0.heap.size := hS.1
  have hbD : D < W0.heap.size := hR.1
  have kc := copied_any W V (by have := hG.short; omega) W0 (hV.calm hT)
  obtain ⟨b0, hb0⟩ : ∃ b, b = W0.heap.size := ⟨_, rfl⟩
  rw [← hb0] at kc hbB hbD
  have hb0w : w.heap.size ≤ b0 := by rw [hb0]; exact hT.size
  have c0 := (hS.2 0 _ rfl).1
  have f0 := (hS.2 0 _ rfl).2
  have c1 := (hS.2 1 _ rfl).1
  have f1 := (hS.2 1 _ rfl).2
  have c2 := (hS.2 2 _ rfl).1
  have f2 := (hS.2 2 _ rfl).2
  have c3 := (hS.2 3 _ rfl).1
  have f3 := (hS.2 3 _ rfl).2
  have c4 := (hS.2 4 _ rfl).1
  have f4 := (hS.2 4 _ rfl).2
  have c5 := (hS.2 5 _ rfl).1
  have f5 := (hS.2 5 _ rfl).2
  have c6 := (hS.2 6 _ rfl).1
  have f6 := (hS.2 6 _ rfl).2
  have z0 := (hR.2 0 _ rfl).1
  have y0 := (hR.2 0 _ rfl).2
  have z1 := (hR.2 1 _ rfl).1
  have y1 := (hR.2 1 _ rfl).2
  have z2 := (hR.2 2 _ rfl).1
  have y2 := (hR.2 2 _ rfl).2
  have z3 := (hR.2 3 _ rfl).1
  have y3 := (hR.2 3 _ rfl).2
  have z4 := (hR.2 4 _ rfl).1
  have y4 := (hR.2 4 _ rfl).2
  have z5 := (hR.2 5 _ rfl).1
  have y5 := (hR.2 5 _ rfl).2
  have z6 := (hR.2 6 _ rfl).1
  have y6 := (hR.2 6 _ rfl).2
  have HGd : Hid (Wd.Gd W) := hG
  have HV : Hid (Tells W V w) := hV
  clear hG hV
  go_enter Try.func15, Try.ntmps15
  go_wp2_with fail
  rw [← hW0, ← hD, ← hB]
  clear hW0 hB hD
  go_wp2_with (go_at_call 12; (with_reducible refine kc.mono ?_); rintro r u1 ⟨V1, rfl, hF1, HT1⟩; have hS1 := hS.keep HT1 (by simp); have hR1 := hR.keep HT1 (by simp); have c0 := (hS1.2 0 _ rfl).1; have f0 := (hS1.2 0 _ rfl).2; have c1 := (hS1.2 1 _ rfl).1; have f1 := (hS1.2 1 _ rfl).2; have c2 := (hS1.2 2 _ rfl).1; have f2 := (hS1.2 2 _ rfl).2; have c3 := (hS1.2 3 _ rfl).1; have f3 := (hS1.2 3 _ rfl).2; have c4 := (hS1.2 4 _ rfl).1; have f4 := (hS1.2 4 _ rfl).2; have c5 := (hS1.2 5 _ rfl).1; have f5 := (hS1.2 5 _ rfl).2; have c6 := (hS1.2 6 _ rfl).1; have f6 := (hS1.2 6 _ rfl).2; have z0 := (hR1.2 0 _ rfl).1; have y0 := (hR1.2 0 _ rfl).2; have z1 := (hR1.2 1 _ rfl).1; have y1 := (hR1.2 1 _ rfl).2; have z2 := (hR1.2 2 _ rfl).1; have y2 := (hR1.2 2 _ rfl).2; have z3 := (hR1.2 3 _ rfl).1; have y3 := (hR1.2 3 _ rfl).2; have z4 := (hR1.2 4 _ rfl).1; have y4 := (hR1.2 4 _ rfl).2; have z5 := (hR1.2 5 _ rfl).1; have y5 := (hR1.2 5 _ rfl).2; have z6 := (hR1.2 6 _ rfl).1; have y6 := (hR1.2 6 _ rfl).2)
  have hb1 : b0 ≤ u1.heap.size := by rw [hb0]; exact HT1.size
  obtain ⟨X1, hX1⟩ : ∃ X, X = put7 u1 B V1 := ⟨_, rfl⟩
  have hBX : Struct B (wvEnc V1) X1 := by rw [hX1]; exact set7 hS1 rfl V1
  have hTX : Turned [B] u1 X1 := by rw [hX1]; exact turned7 (Turned.refl _ _) (.inl (by simp)) V1
  have hDX : Struct D [.int .i64 0, .int .i64 0, .slice none 0 0, .slice none 0 0, .int .u64 0, .int .i64 0, .slice none 0 0] X1 := hR1.keep hTX (by simpa using nDB)
  have hF : Fresh W V1 b0 X1 := hF1.keep hTX (by intro k hk; simp at hk; omega)
  have hbX : b0 ≤ X1.heap.size := Nat.le_trans hb1 hTX.size
  have HTX : Turned [] w X1 := ((hT.trans HT1 (by simp)).trans (S' := [B]) hTX (by intro k hk hl; simp at hk; omega))
  have hnl := hF.tells.nl
  simp only [put7] at hX1
  rw [← hX1]
  clear hX1 c0 c1 c2 c3 c4 c5 c6 f0 f1 f2 f3 f4 f5 f6 z0 z1 z2 z3 z4 z5 z6 y0 y1 y2 y3 y4 y5 y6 hb0
  have c0 := (hBX.2 0 _ rfl).1
  have f0 := (hBX.2 0 _ rfl).2
  have c1 := (hBX.2 1 _ rfl).1
  have f1 := (hBX.2 1 _ rfl).2
  have c2 := (hBX.2 2 _ rfl).1
  have f2 := (hBX.2 2 _ rfl).2
  have c3 := (hBX.2 3 _ rfl).1
  have f3 := (hBX.2 3 _ rfl).2
  have c4 := (hBX.2 4 _ rfl).1
  have f4 := (hBX.2 4 _ rfl).2
  have c5 := (hBX.2 5 _ rfl).1
  have f5 := (hBX.2 5 _ rfl).2
  have c6 := (hBX.2 6 _ rfl).1
  have f6 := (hBX.2 6 _ rfl).2
  have z0 := (hDX.2 0 _ rfl).1
  have y0 := (hDX.2 0 _ rfl).2
  have z1 := (hDX.2 1 _ rfl).1
  have y1 := (hDX.2 1 _ rfl).2
  have z2 := (hDX.2 2 _ rfl).1
  have y2 := (hDX.2 2 _ rfl).2
  have z3 := (hDX.2 3 _ rfl).1
  have y3 := (hDX.2 3 _ rfl).2
  have z4 := (hDX.2 4 _ rfl).1
  have y4 := (hDX.2 4 _ rfl).2
  have z5 := (hDX.2 5 _ rfl).1
  have y5 := (hDX.2 5 _ rfl).2
  have z6 := (hDX.2 6 _ rfl).1
  have y6 := (hDX.2 6 _ rfl).2

  have hRise := HGd.out.rise
  have hlen : W.l.length ≤ 1000 := by have := HGd.out.short; omega
  rcases Wd.player_or W.l id with hno | ⟨k, e, hk, hp⟩
  · obtain ⟨hl1, hl2⟩ := Wd.leave_no hno
    have kf := findPlayer_no V1.ol V1.cl W.l id hRise hno X1 hF.tells.row (by omega)
    rw [← hnl] at kf
    have HL : Hid (Wd.leave W id = W ∧ Wd.leaveE W id = 6) := ⟨hl1, hl2⟩
    clear hno hl1 hl2 hnl hRise
    go_wp2_with (go_at_call 33; (with_reducible refine kf.mono ?_); rintro r u2 ⟨rfl, HT2⟩; have hB2 := hBX.keep HT2 (by simp); have hD2 := hDX.keep HT2 (by simp); have c0 := (hB2.2 0 _ rfl).1; have f0 := (hB2.2 0 _ rfl).2; have c1 := (hB2.2 1 _ rfl).1; have f1 := (hB2.2 1 _ rfl).2; have c2 := (hB2.2 2 _ rfl).1; have f2 := (hB2.2 2 _ rfl).2; have c3 := (hB2.2 3 _ rfl).1; have f3 := (hB2.2 3 _ rfl).2; have c4 := (hB2.2 4 _ rfl).1; have f4 := (hB2.2 4 _ rfl).2; have c5 := (hB2.2 5 _ rfl).1; have f5 := (hB2.2 5 _ rfl).2; have c6 := (hB2.2 6 _ rfl).1; have f6 := (hB2.2 6 _ rfl).2; have z0 := (hD2.2 0 _ rfl).1; have y0 := (hD2.2 0 _ rfl).2; have z1 := (hD2.2 1 _ rfl).1; have y1 := (hD2.2 1 _ rfl).2; have z2 := (hD2.2 2 _ rfl).1; have y2 := (hD2.2 2 _ rfl).2; have z3 := (hD2.2 3 _ rfl).1; have y3 := (hD2.2 3 _ rfl).2; have z4 := (hD2.2 4 _ rfl).1; have y4 := (hD2.2 4 _ rfl).2; have z5 := (hD2.2 5 _ rfl).1; have y5 := (hD2.2 5 _ rfl).2; have z6 := (hD2.2 6 _ rfl).1; have y6 := (hD2.2 6 _ rfl).2)
    have hF2 := hF.calm HT2
    have HT3 := HTX.trans HT2 (by simp)
    obtain ⟨X9, hX9⟩ : ∃ X, X = put7 u2 D V1 := ⟨_, rfl⟩
    have hS9 : Struct D (wvEnc V1) X9 := by rw [hX9]; exact set7 hD2 rfl _
    have hT9 : Turned [D] u2 X9 := by rw [hX9]; exact turned7 (Turned.refl _ _) (.inl (by simp)) _
    simp only [put7] at hX9
    rw [← hX9]
    clear hX9
    have e0 := (hS9.2 0 _ rfl).1
    have e1 := (hS9.2 1 _ rfl).1
    have e2 := (hS9.2 2 _ rfl).1
    have e3 := (hS9.2 3 _ rfl).1
    have e4 := (hS9.2 4 _ rfl).1
    have e5 := (hS9.2 5 _ rfl).1
    have e6 := (hS9.2 6 _ rfl).1
    go_wp2_with fail
    refine bodyPost_ret (v := .tuple #[wvVal V1, .int .i64 6]) (by simp [results, Try.results15, go_sem, e0, e1, e2, e3, e4, e5, e6]) rfl ⟨_, ?_, ?_, fun k hk => .inr (Nat.le_trans hb0w (hF2.at_ge hk)), HT3.trans (S' := [D]) hT9 (by intro k hk hl; simp at hk; omega)⟩
    · rw [HL.out.2]
    · rw [HL.out.1]; exact (hF2.keep hT9 (by intro k hk; simp at hk; omega)).tells

  · obtain ⟨hl1, hl2⟩ := Wd.leave_yes hRise hk hp
    have kf := findPlayer_yes V1.ol V1.cl W.l k e id hRise hk hp X1 hF.tells.row (by omega)
    rw [← hnl] at kf
    have hkl := (List.getElem?_eq_some_iff.1 hk).1
    have kd := fun u (h : Turned [] X1 u) => delete_any (.slice V1.ol V1.nl V1.cl) W.l k u ((hF.calm h).own) hkl hlen
    rw [show ((k + 1 : Nat) : Int) = (k : Int) + 1 by omega] at kd
    have hw : ∀ x : Int, x = (k : Int) → wrap64 (x + 1) = x + 1 := fun x hx => w64 (by omega)
    have hne : ¬ (k : Int) = -1 := by omega
    have HL : Hid (Wd.leave W id = ⟨W.m, W.st, W.tick, W.l.take k ++ W.l.drop (k + 1)⟩ ∧ Wd.leaveE W id = 0) := ⟨hl1, hl2⟩
    clear hk hp hl1 hl2 hnl hRise hkl hlen
    have nB : B ∉ blk (.slice V1.ol V1.nl V1.cl) := fun h => by have := hF.gl B h; omega
    have nD : D ∉ blk (.slice V1.ol V1.nl V1.cl) := fun h => by have := hF.gl D h; omega
    go_wp2_with (first | (go_at_call 33; (with_reducible refine kf.mono ?_); rintro r u2 ⟨rfl, HT2⟩; have hB2 := hBX.keep HT2 (by simp); have hD2 := hDX.keep HT2 (by simp); have c0 := (hB2.2 0 _ rfl).1; have f0 := (hB2.2 0 _ rfl).2; have c1 := (hB2.2 1 _ rfl).1; have f1 := (hB2.2 1 _ rfl).2; have c2 := (hB2.2 2 _ rfl).1; have f2 := (hB2.2 2 _ rfl).2; have c3 := (hB2.2 3 _ rfl).1; have f3 := (hB2.2 3 _ rfl).2; have c4 := (hB2.2 4 _ rfl).1; have f4 := (hB2.2 4 _ rfl).2; have c5 := (hB2.2 5 _ rfl).1; have f5 := (hB2.2 5 _ rfl).2; have c6 := (hB2.2 6 _ rfl).1; have f6 := (hB2.2 6 _ rfl).2; have z0 := (hD2.2 0 _ rfl).1; have y0 := (hD2.2 0 _ rfl).2; have z1 := (hD2.2 1 _ rfl).1; have y1 := (hD2.2 1 _ rfl).2; have z2 := (hD2.2 2 _ rfl).1; have y2 := (hD2.2 2 _ rfl).2; have z3 := (hD2.2 3 _ rfl).1; have y3 := (hD2.2 3 _ rfl).2; have z4 := (hD2.2 4 _ rfl).1; have y4 := (hD2.2 4 _ rfl).2; have z5 := (hD2.2 5 _ rfl).1; have y5 := (hD2.2 5 _ rfl).2; have z6 := (hD2.2 6 _ rfl).1; have y6 := (hD2.2 6 _ rfl).2) | (go_at_call 34; (with_reducible refine (kd _ HT2).mono ?_); rintro r u3 ⟨v3, rfl, ho3, ht3, hb3⟩; obtain ⟨o3, c3x, hv3, _, _⟩ := ho3.form; obtain ⟨n3, hn3⟩ : ∃ n, n = (W.l.take k ++ W.l.drop (k + 1)).length := ⟨_, rfl⟩; rw [← hn3] at hv3; subst hv3; clear hn3; have hB3 := hB2.keep ht3 nB; have hD3 := hD2.keep ht3 nD; have c0 := (hB3.2 0 _ rfl).1; have f0 := (hB3.2 0 _ rfl).2; have c1 := (hB3.2 1 _ rfl).1; have f1 := (hB3.2 1 _ rfl).2; have c2 := (hB3.2 2 _ rfl).1; have f2 := (hB3.2 2 _ rfl).2; have c3 := (hB3.2 3 _ rfl).1; have f3 := (hB3.2 3 _ rfl).2; have c4 := (hB3.2 4 _ rfl).1; have f4 := (hB3.2 4 _ rfl).2; have c5 := (hB3.2 5 _ rfl).1; have f5 := (hB3.2 5 _ rfl).2; have c6 := (hB3.2 6 _ rfl).1; have f6 := (hB3.2 6 _ rfl).2; have z0 := (hD3.2 0 _ rfl).1; have y0 := (hD3.2 0 _ rfl).2; have z1 := (hD3.2 1 _ rfl).1; have y1 := (hD3.2 1 _ rfl).2; have z2 := (hD3.2 2 _ rfl).1; have y2 := (hD3.2 2 _ rfl).2; have z3 := (hD3.2 3 _ rfl).1; have y3 := (hD3.2 3 _ rfl).2; have z4 := (hD3.2 4 _ rfl).1; have y4 := (hD3.2 4 _ rfl).2; have z5 := (hD3.2 5 _ rfl).1; have y5 := (hD3.2 5 _ rfl).2; have z6 := (hD3.2 6 _ rfl).1; have y6 := (hD3.2 6 _ rfl).2))
    obtain ⟨X2, hX2⟩ : ∃ X, X = u3.setCell ⟨B, 6, none⟩ (.slice o3 n3 c3x) := ⟨_, rfl⟩
    have hD4 := hD3.keep ((Turned.refl [B] u3).setCell (p := ⟨B, 6, none⟩) (.inl (by simp)) (.slice o3 n3 c3x)) (by simpa using nDB)
    rw [← hX2] at hD4
    have hF3 := (hF.calm HT2).turn ho3 ht3 (Nat.le_trans hbX HT2.size) (.inl hb3) (st := W.st) (tk := W.tick) (sv := V1.st) (tv := V1.tk) hF.tells.st hF.tells.tk
    have hF4 := hF3.keep ((Turned.refl [B] u3).setCell (p := ⟨B, 6, none⟩) (.inl (by simp)) (.slice o3 n3 c3x)) (by intro j hj; simp at hj; omega)
    rw [← hX2] at hF4
    have HT4 : Turned [] w X2 := by
      rw [hX2]
      exact ((HTX.trans HT2 (by simp)).trans (S' := blk (.slice V1.ol V1.nl V1.cl)) ht3 (fun j hj hl => by have := hF.gl j hj; omega)).setCell (p := ⟨B, 6, none⟩) (.inr hBw) _
    rw [← hX2]
    clear hX2
    obtain ⟨X9, hX9⟩ : ∃ X, X = put7 X2 D ⟨V1.mw, V1.mh, V1.oa, V1.nw, V1.ca, V1.ob, V1.ns, V1.cb, V1.st, V1.tk, o3, n3, c3x⟩ := ⟨_, rfl⟩
    have hS9 : Struct D (wvEnc ⟨V1.mw, V1.mh, V1.oa, V1.nw, V1.ca, V1.ob, V1.ns, V1.cb, V1.st, V1.tk, o3, n3, c3x⟩) X9 := by rw [hX9]; exact set7 hD4 rfl _
    have hT9 : Turned [D] X2 X9 := by rw [hX9]; exact turned7 (Turned.refl _ _) (.inl (by simp)) _
    simp only [put7] at hX9
    rw [← hX9]
    clear hX9
    have e0 := (hS9.2 0 _ rfl).1
    have e1 := (hS9.2 1 _ rfl).1
    have e2 := (hS9.2 2 _ rfl).1
    have e3 := (hS9.2 3 _ rfl).1
    have e4 := (hS9.2 4 _ rfl).1
    have e5 := (hS9.2 5 _ rfl).1
    have e6 := (hS9.2 6 _ rfl).1
    go_wp2_with fail
    refine bodyPost_ret (v := .tuple #[wvVal ⟨V1.mw, V1.mh, V1.oa, V1.nw, V1.ca, V1.ob, V1.ns, V1.cb, V1.st, V1.tk, o3, n3, c3x⟩, .int .i64 0]) (by simp [results, Try.results15, go_sem, e0, e1, e2, e3, e4, e5, e6]) rfl ⟨_, ?_, ?_, fun k hk => .inr (Nat.le_trans hb0w (hF4.at_ge hk)), HT4.trans (S' := [D]) hT9 (by intro k hk hl; simp at hk; omega)⟩
    · rw [HL.out.2]
    · rw [HL.out.1]; exact (hF4.keep hT9 (by intro k hk; simp at hk; omega)).tells

end WdW
end Go.Proofs.Ytgabgkgokmeaeaa


/- Who is hit, and who walks. The program's (WdW). -/
namespace Go.Proofs.Ytgabgkgokmeaeaa
open Go.RowKit
set_option linter.unusedVariables false
set_option linter.unusedSimpArgs false

/-- an element's cells written, from place o on -/
abbrev put8k (w : World) (g o : Nat) (x : En.E) : World := (((((((w.setCell ⟨g, o, none⟩ (.int .i64 x.id)).setCell ⟨g, o + 1, none⟩ (.int .i64 x.kind)).setCell ⟨g, o + 2, none⟩ (.int .i64 x.ax)).setCell ⟨g, o + 3, none⟩ (.int .i64 x.ay)).setCell ⟨g, o + 4, none⟩ (.int .i64 x.vx)).setCell ⟨g, o + 5, none⟩ (.int .i64 x.vy)).setCell ⟨g, o + 6, none⟩ (.int .i64 x.h)).setCell ⟨g, o + 7, none⟩ (.int .i64 x.t)
theorem put8k_eq (w : World) (g o : Nat) (x : En.E) : put8k w g o x = w.setCells g o (enEnc x) := rfl
theorem turned8k {S : List Nat} {w w' : World} {g : Nat} (h : Turned S w w') (hp : g ∈ S ∨ w.heap.size ≤ g) (o : Nat) (x : En.E) : Turned S w (put8k w' g o x) :=
  (((((((h.setCell (p := ⟨g, o, none⟩) hp _).setCell (p := ⟨g, o + 1, none⟩) hp _).setCell (p := ⟨g, o + 2, none⟩) hp _).setCell (p := ⟨g, o + 3, none⟩) hp _).setCell (p := ⟨g, o + 4, none⟩) hp _).setCell (p := ⟨g, o + 5, none⟩) hp _).setCell (p := ⟨g, o + 6, none⟩) hp _).setCell (p := ⟨g, o + 7, none⟩) hp _
/-- the k-th of a list of the call's own, where it lies -/
theorem own_at {ol : Option Addr} {nl cl : Nat} {l : List En.E} {w : World} (h : OwnL 49 8 enEnc (.slice ol nl cl) l w) {k : Nat} {e : En.E} (hk : l[k]? = some e) :
    ∃ g, ol = some ⟨g, 0, none⟩ ∧ nl = l.length ∧ blk (.slice ol nl cl) = [g] ∧ g < w.heap.size ∧ ∀ u, Turned [] w u →
      (u.cell? ⟨g, k * 8, none⟩ = some (.int .i64 e.id) ∧ u.cell? ⟨g, k * 8 + 1, none⟩ = some (.int .i64 e.kind) ∧ u.cell? ⟨g, k * 8 + 2, none⟩ = some (.int .i64 e.ax) ∧ u.cell? ⟨g, k * 8 + 3, none⟩ = some (.int .i64 e.ay) ∧ u.cell? ⟨g, k * 8 + 4, none⟩ = some (.int .i64 e.vx) ∧ u.cell? ⟨g, k * 8 + 5, none⟩ = some (.int .i64 e.vy) ∧ u.cell? ⟨g, k * 8 + 6, none⟩ = some (.int .i64 e.h) ∧ u.cell? ⟨g, k * 8 + 7, none⟩ = some (.int .i64 e.t)) ∧
      (u.frozen? ⟨g, k * 8, none⟩ = false ∧ u.frozen? ⟨g, k * 8 + 1, none⟩ = false ∧ u.frozen? ⟨g, k * 8 + 2, none⟩ = false ∧ u.frozen? ⟨g, k * 8 + 3, none⟩ = false ∧ u.frozen? ⟨g, k * 8 + 4, none⟩ = false ∧ u.frozen? ⟨g, k * 8 + 5, none⟩ = false ∧ u.frozen? ⟨g, k * 8 + 6, none⟩ = false ∧ u.frozen? ⟨g, k * 8 + 7, none⟩ = false) := by
  obtain ⟨g, cap, hv, hb, hg, hc⟩ := h.cell enEnc_len hk
  simp at hv
  refine ⟨g, hv.1, hv.2.1, hb, hg, fun u hu => ?_⟩
  have cc := fun j v hj => (hu.cell (p := ⟨g, k * 8 + j, none⟩) hg (by simp)).trans (hc j v hj).1
  have ff := fun j v hj => (hu.frozen (p := ⟨g, k * 8 + j, none⟩) hg (by simp)).trans (hc j v hj).2
  exact ⟨⟨cc 0 _ rfl, cc 1 _ rfl, cc 2 _ rfl, cc 3 _ rfl, cc 4 _ rfl, cc 5 _ rfl, cc 6 _ rfl, cc 7 _ rfl⟩, ⟨ff 0 _ rfl, ff 1 _ rfl, ff 2 _ rfl, ff 3 _ rfl, ff 4 _ rfl, ff 5 _ rfl, ff 6 _ rfl, ff 7 _ rfl⟩⟩
theorem own_put {ol : Option Addr} {nl cl : Nat} {l : List En.E} {w : World} (h : OwnL 49 8 enEnc (.slice ol nl cl) l w) {g k : Nat} (hg : ol = some ⟨g, 0, none⟩) (hk : k < l.length) (x : En.E) :
    OwnL 49 8 enEnc (.slice ol nl cl) (l.set k x) (put8k w g (k * 8) x) := by
  rw [put8k_eq]
  exact h.sets enEnc_len (by rw [hg]) hk x rfl
namespace Wd
theorem map_one {l : List En.E} {f : En.E → En.E} {k : Nat} {e : En.E} (hk : l[k]? = some e) (hf : ∀ (j : Nat) (d : En.E), l[j]? = some d → j ≠ k → f d = d) : l.map f = l.set k (f e) := by
  apply List.ext_getElem?
  intro j
  rw [List.getElem?_map, List.getElem?_set]
  by_cases hj : k = j
  · subst hj
    have hl := (List.getElem?_eq_some_iff.1 hk).1
    have := (List.getElem?_eq_some_iff.1 hk).2
    simp [hl, this]
  · rw [if_neg hj]
    cases hd : l[j]? with
    | none => rfl
    | some d => simp [hf j d hd (fun h => hj h.symm)]
theorem map_none {l : List En.E} {f : En.E → En.E} (hf : ∀ d ∈ l, f d = d) : l.map f = l := by
  conv => rhs; rw [← List.map_id l]
  exact List.map_congr_left hf
theorem isP_one {l : List En.E} (hR : Rise l) {id : Int} {k : Nat} {e : En.E} (hk : l[k]? = some e) (hp : isP id e = true) (j : Nat) (d : En.E) (hj : l[j]? = some d) (hne : j ≠ k) : isP id d = false := by
  cases hd : isP id d with
  | false => rfl
  | true =>
    have h1 := (isP_iff.1 hp).1
    have h2 := (isP_iff.1 hd).1
    rcases Nat.lt_or_gt_of_ne hne with h | h
    · have := hR.lt hj hk h; omega
    · have := hR.lt hk hj h; omega
theorem hit_no {w : W} {id b : Int} (h : ∀ e ∈ w.l, isP id e = false) : hit w id b = w := by
  unfold hit
  split
  · rfl
  · rw [map_none fun d hd => by unfold hit1; rw [h d hd]; simp]
theorem hit_less {w : W} {id b : Int} (h : b < 1) : hit w id b = w := by unfold hit; rw [if_pos h]
theorem hit_dead {w : W} {id b : Int} (hR : Rise w.l) {k : Nat} {e : En.E} (hk : w.l[k]? = some e) (hp : isP id e = true) (h0 : e.h = 0) : hit w id b = w := by
  unfold hit
  split
  · rfl
  · rw [map_none fun d hd => by
      unfold hit1
      obtain ⟨j, hj⟩ := List.getElem?_of_mem hd
      by_cases hjk : j = k
      · subst hjk
        rw [hk] at hj
        simp at hj
        subst hj
        rw [if_neg (by intro h; omega)]
      · rw [isP_one hR hk hp j d hj hjk]; simp]
theorem hit_yes {w : W} {id b : Int} (hR : Rise w.l) {k : Nat} {e : En.E} (hk : w.l[k]? = some e) (hp : isP id e = true) (h0 : 0 < e.h) (hb : 1 ≤ b) : hit w id b = ⟨w.m, w.st, w.tick, w.l.set k (struck e b)⟩ := by
  unfold hit
  rw [if_neg (by omega), map_one hk fun j d hj hne => by unfold hit1; rw [isP_one hR hk hp j d hj hne]; simp]
  unfold hit1
  rw [if_pos ⟨hp, h0⟩]
theorem go_no {w : W} {c : Cm.C} {id : Int} (h : ∀ e ∈ w.l, isP id e = false) : go w c id = w := by
  unfold go
  split
  · rw [map_none fun d hd => by unfold go1; rw [h d hd]; simp]
  · rfl
theorem go_odd {w : W} {c : Cm.C} {id : Int} (h : decide (Cm.Formed c) = false) : go w c id = w := by unfold go; rw [h]; simp
theorem go_yes {w : W} {c : Cm.C} {id : Int} (hR : Rise w.l) {k : Nat} {e : En.E} (hk : w.l[k]? = some e) (hp : isP id e = true) (hc : decide (Cm.Formed c) = true) : go w c id = ⟨w.m, w.st, w.tick, w.l.set k (Mv.walk w.m e c.x c.y)⟩ := by
  unfold go
  rw [if_pos hc, map_one hk fun j d hj hne => by unfold go1; rw [isP_one hR hk hp j d hj hne]; simp]
  unfold go1
  rw [if_pos hp]
end Wd

namespace WdW
set_option maxRecDepth 20000 in
set_option maxHeartbeats 4000000 in
theorem hit_world (W : Wd.W) (V : WV) (id b : Int) (hG : Wd.Gd W) (hid : En.I64 id) (hbb : En.I64 b) (w : World) (hV : Tells W V w) :
    Calls Try.prog 16 #[wvVal V, .int .i64 id, .int .i64 b] w fun e w' => ∃ V', e = .returned (wvVal V') ∧ Tells (Wd.hit W id b) V' w' ∧ (∀ k, V'.At k → V.At k ∨ w.heap.size ≤ k) ∧ Turned [] w w' := by
  obtain ⟨W0, hW0⟩ : ∃ W0, W0 = (w.alloc (.cells #[.int .i64 V.mw, .int .i64 V.mh, .slice V.oa V.nw V.ca, .slice V.ob V.ns V.cb, .int .u64 V.st, .int .i64 V.tk, .slice V.ol V.nl V.cl] 34)).alloc (.cells #[.int .i64 0, .int .i64 0, .slice none 0 0, .slice none 0 0, .int .u64 0, .int .i64 0, .slice none 0 0] 34) := ⟨_, rfl⟩
  obtain ⟨B, hB⟩ : ∃ b, b = w.heap.size := ⟨_, rfl⟩
  obtain ⟨D, hD⟩ : ∃ b, b = w.heap.size + 1 := ⟨_, rfl⟩
  have hT : Turned [] w W0 := by rw [hW0]; exact (((Turned.refl [] w).alloc _).alloc _)
  have hS : Struct B [.int .i64 V.mw, .int .i64 V.mh, .slice V.oa V.nw V.ca, .slice V.ob V.ns V.cb, .int .u64 V.st, .int .i64 V.tk, .slice V.ol V.nl V.cl] W0 := by
    have h0 := Struct.new w [.int .i64 V.mw, .int .i64 V.mh, .slice V.oa V.nw V.ca, .slice V.ob V.ns V.cb, .int .u64 V.st, .int .i64 V.tk, .slice V.ol V.nl V.cl] 34
    rw [← hB] at h0
    rw [hW0]; exact h0.keep ((Turned.refl [] _).alloc _) (by simp)
  have hR : Struct D [.int .i64 0, .int .i64 0, .slice none 0 0, .slice none 0 0, .int .u64 0, .int .i64 0, .slice none 0 0] W0 := by
    have h0 := Struct.new (w.alloc (.cells #[.int .i64 V.mw, .int .i64 V.mh, .slice V.oa V.nw V.ca, .slice V.ob V.ns V.cb, .int .u64 V.st, .int .i64 V.tk, .slice V.ol V.nl V.cl] 34)) [.int .i64 0, .int .i64 0, .slice none 0 0, .slice none 0 0, .int .u64 0, .int .i64 0, .slice none 0 0] 34
    rw [show (w.alloc (.cells #[.int .i64 V.mw, .int .i64 V.mh, .slice V.oa V.nw V.ca, .slice V.ob V.ns V.cb, .int .u64 V.st, .int .i64 V.tk, .slice V.ol V.nl V.cl] 34)).heap.size = w.heap.size + 1 by simp, ← hD] at h0
    rw [hW0]; exact h0
  have hBw : w.heap.size ≤ B := by omega
  have hDw : w.heap.size ≤ D := by omega
  have nBD : B ≠ D := by omega
  have nDB : D ≠ B := by omega
  have hbB : B < W0.heap.size := hS.1
  have hbD : D < W0.heap.size := hR.1
  have kc := copied_any W V (by have := hG.short; omega) W0 (hV.calm hT)
  obtain ⟨b0, hb0⟩ : ∃ b, b = W0.heap.size := ⟨_, rfl⟩
  rw [← hb0] at kc hbB hbD
  have hb0w : w.heap.size ≤ b0 := by rw [hb0]; exact hT.size
  have c0 := (hS.2 0 _ rfl).1
  have f0 := (hS.2 0 _ rfl).2
  have c1 := (hS.2 1 _ rfl).1
  have f1 := (hS.2 1 _ rfl).2
  have c2 := (hS.2 2 _ rfl).1
  have f2 := (hS.2 2 _ rfl).2
  have c3 := (hS.2 3 _ rfl).1
  have f3 := (hS.2 3 _ rfl).2
  have c4 := (hS.2 4 _ rfl).1
  have f4 := (hS.2 4 _ rfl).2
  have c5 := (hS.2 5 _ rfl).1
  have f5 := (hS.2 5 _ rfl).2
  have c6 := (hS.2 6 _ rfl).1
  have f6 := (hS.2 6 _ rfl).2
  have z0 := (hR.2 0 _ rfl).1
  have y0 := (hR.2 0 _ rfl).2
  have z1 := (hR.2 1 _ rfl).1
  have y1 := (hR.2 1 _ rfl).2
  have z2 := (hR.2 2 _ rfl).1
  have y2 := (hR.2 2 _ rfl).2
  have z3 := (hR.2 3 _ rfl).1
  have y3 := (hR.2 3 _ rfl).2
  have z4 := (hR.2 4 _ rfl).1
  have y4 := (hR.2 4 _ rfl).2
  have z5 := (hR.2 5 _ rfl).1
  have y5 := (hR.2 5 _ rfl).2
  have z6 := (hR.2 6 _ rfl).1
  have y6 := (hR.2 6 _ rfl).2
  have HGd : Hid (Wd.Gd W) := hG
  have HV : Hid (Tells W V w) := hV
  clear hG hV
  go_enter Try.func16, Try.ntmps16
  go_wp2_with fail
  rw [← hW0, ← hD, ← hB]
  clear hW0 hB hD
  go_wp2_with (go_at_call 12; (with_reducible refine kc.mono ?_); rintro r u1 ⟨V1, rfl, hF1, HT1⟩; have hS1 := hS.keep HT1 (by simp); have hR1 := hR.keep HT1 (by simp); have c0 := (hS1.2 0 _ rfl).1; have f0 := (hS1.2 0 _ rfl).2; have c1 := (hS1.2 1 _ rfl).1; have f1 := (hS1.2 1 _ rfl).2; have c2 := (hS1.2 2 _ rfl).1; have f2 := (hS1.2 2 _ rfl).2; have c3 := (hS1.2 3 _ rfl).1; have f3 := (hS1.2 3 _ rfl).2; have c4 := (hS1.2 4 _ rfl).1; have f4 := (hS1.2 4 _ rfl).2; have c5 := (hS1.2 5 _ rfl).1; have f5 := (hS1.2 5 _ rfl).2; have c6 := (hS1.2 6 _ rfl).1; have f6 := (hS1.2 6 _ rfl).2; have z0 := (hR1.2 0 _ rfl).1; have y0 := (hR1.2 0 _ rfl).2; have z1 := (hR1.2 1 _ rfl).1; have y1 := (hR1.2 1 _ rfl).2; have z2 := (hR1.2 2 _ rfl).1; have y2 := (hR1.2 2 _ rfl).2; have z3 := (hR1.2 3 _ rfl).1; have y3 := (hR1.2 3 _ rfl).2; have z4 := (hR1.2 4 _ rfl).1; have y4 := (hR1.2 4 _ rfl).2; have z5 := (hR1.2 5 _ rfl).1; have y5 := (hR1.2 5 _ rfl).2; have z6 := (hR1.2 6 _ rfl).1; have y6 := (hR1.2 6 _ rfl).2)
  have hb1 : b0 ≤ u1.heap.size := by rw [hb0]; exact HT1.size
  obtain ⟨X1, hX1⟩ : ∃ X, X = put7 u1 B V1 := ⟨_, rfl⟩
  have hBX : Struct B (wvEnc V1) X1 := by rw [hX1]; exact set7 hS1 rfl V1
  have hTX : Turned [B] u1 X1 := by rw [hX1]; exact turned7 (Turned.refl _ _) (.inl (by simp)) V1
  have hDX : Struct D [.int .i64 0, .int .i64 0, .slice none 0 0, .slice none 0 0, .int .u64 0, .int .i64 0, .slice none 0 0] X1 := hR1.keep hTX (by simpa using nDB)
  have hF : Fresh W V1 b0 X1 := hF1.keep hTX (by intro k hk; simp at hk; omega)
  have hbX : b0 ≤ X1.heap.size := Nat.le_trans hb1 hTX.size
  have HTX : Turned [] w X1 := ((hT.trans HT1 (by simp)).trans (S' := [B]) hTX (by intro k hk hl; simp at hk; omega))
  have hnl := hF.tells.nl
  simp only [put7] at hX1
  rw [← hX1]
  clear hX1 c0 c1 c2 c3 c4 c5 c6 f0 f1 f2 f3 f4 f5 f6 z0 z1 z2 z3 z4 z5 z6 y0 y1 y2 y3 y4 y5 y6 hb0
  have c0 := (hBX.2 0 _ rfl).1
  have f0 := (hBX.2 0 _ rfl).2
  have c1 := (hBX.2 1 _ rfl).1
  have f1 := (hBX.2 1 _ rfl).2
  have c2 := (hBX.2 2 _ rfl).1
  have f2 := (hBX.2 2 _ rfl).2
  have c3 := (hBX.2 3 _ rfl).1
  have f3 := (hBX.2 3 _ rfl).2
  have c4 := (hBX.2 4 _ rfl).1
  have f4 := (hBX.2 4 _ rfl).2
  have c5 := (hBX.2 5 _ rfl).1
  have f5 := (hBX.2 5 _ rfl).2
  have c6 := (hBX.2 6 _ rfl).1
  have f6 := (hBX.2 6 _ rfl).2
  have z0 := (hDX.2 0 _ rfl).1
  have y0 := (hDX.2 0 _ rfl).2
  have z1 := (hDX.2 1 _ rfl).1
  have y1 := (hDX.2 1 _ rfl).2
  have z2 := (hDX.2 2 _ rfl).1
  have y2 := (hDX.2 2 _ rfl).2
  have z3 := (hDX.2 3 _ rfl).1
  have y3 := (hDX.2 3 _ rfl).2
  have z4 := (hDX.2 4 _ rfl).1
  have y4 := (hDX.2 4 _ rfl).2
  have z5 := (hDX.2 5 _ rfl).1
  have y5 := (hDX.2 5 _ rfl).2
  have z6 := (hDX.2 6 _ rfl).1
  have y6 := (hDX.2 6 _ rfl).2

  have hRise := HGd.out.rise
  have hlen : W.l.length ≤ 1000 := by have := HGd.out.short; omega
  rcases Wd.player_or W.l id with hno | ⟨k, e, hk, hp⟩
  · have kf := findPlayer_no V1.ol V1.cl W.l id hRise hno X1 hF.tells.row (by omega)
    rw [← hnl] at kf
    have HL : Hid (Wd.hit W id b = W) := Wd.hit_no hno
    clear hno hnl hRise
    go_wp2_with (go_at_call 33; (with_reducible refine kf.mono ?_); rintro r u2 ⟨rfl, HT2⟩; have hB2 := hBX.keep HT2 (by simp); have hD2 := hDX.keep HT2 (by simp); have c0 := (hB2.2 0 _ rfl).1; have f0 := (hB2.2 0 _ rfl).2; have c1 := (hB2.2 1 _ rfl).1; have f1 := (hB2.2 1 _ rfl).2; have c2 := (hB2.2 2 _ rfl).1; have f2 := (hB2.2 2 _ rfl).2; have c3 := (hB2.2 3 _ rfl).1; have f3 := (hB2.2 3 _ rfl).2; have c4 := (hB2.2 4 _ rfl).1; have f4 := (hB2.2 4 _ rfl).2; have c5 := (hB2.2 5 _ rfl).1; have f5 := (hB2.2 5 _ rfl).2; have c6 := (hB2.2 6 _ rfl).1; have f6 := (hB2.2 6 _ rfl).2; have z0 := (hD2.2 0 _ rfl).1; have y0 := (hD2.2 0 _ rfl).2; have z1 := (hD2.2 1 _ rfl).1; have y1 := (hD2.2 1 _ rfl).2; have z2 := (hD2.2 2 _ rfl).1; have y2 := (hD2.2 2 _ rfl).2; have z3 := (hD2.2 3 _ rfl).1; have y3 := (hD2.2 3 _ rfl).2; have z4 := (hD2.2 4 _ rfl).1; have y4 := (hD2.2 4 _ rfl).2; have z5 := (hD2.2 5 _ rfl).1; have y5 := (hD2.2 5 _ rfl).2; have z6 := (hD2.2 6 _ rfl).1; have y6 := (hD2.2 6 _ rfl).2)
    have hF2 := hF.calm HT2
    have HT3 := HTX.trans HT2 (by simp)
    obtain ⟨X9, hX9⟩ : ∃ X, X = put7 u2 D V1 := ⟨_, rfl⟩
    have hS9 : Struct D (wvEnc V1) X9 := by rw [hX9]; exact set7 hD2 rfl _
    have hT9 : Turned [D] u2 X9 := by rw [hX9]; exact turned7 (Turned.refl _ _) (.inl (by simp)) _
    simp only [put7] at hX9
    rw [← hX9]
    clear hX9
    have e0 := (hS9.2 0 _ rfl).1
    have e1 := (hS9.2 1 _ rfl).1
    have e2 := (hS9.2 2 _ rfl).1
    have e3 := (hS9.2 3 _ rfl).1
    have e4 := (hS9.2 4 _ rfl).1
    have e5 := (hS9.2 5 _ rfl).1
    have e6 := (hS9.2 6 _ rfl).1
    go_wp2_with fail
    refine bodyPost_ret (v := wvVal V1) (by simp [results, Try.results16, go_sem, e0, e1, e2, e3, e4, e5, e6]) rfl ⟨_, rfl, ?_, fun k hk => .inr (Nat.le_trans hb0w (hF2.at_ge hk)), HT3.trans (S' := [D]) hT9 (by intro k hk hl; simp at hk; omega)⟩
    rw [HL.out]; exact (hF2.keep hT9 (by intro k hk; simp at hk; omega)).tells

  · have kf := findPlayer_yes V1.ol V1.cl W.l k e id hRise hk hp X1 hF.tells.row (by omega)
    rw [← hnl] at kf
    have hkl := (List.getElem?_eq_some_iff.1 hk).1
    have hne : ¬ (k : Int) = -1 := by omega
    obtain ⟨g, hol, -, hbk, hgl, hat⟩ := own_at hF.own hk
    have hkn : (k : Int) < (V1.nl : Int) := by omega
    have hgb : b0 ≤ g := hF.gl g (by rw [hbk]; simp)
    have nB : B ≠ g := by omega
    have nD : D ≠ g := by omega
    have kd := fun u => dead_any e u
    have hh := (HGd.out.good e (List.mem_of_getElem? hk)).1.2.2.2
    rw [hol] at kf c6
    have HFO : Hid (V1.ol = some ⟨g, 0, none⟩) := hol
    have HVG : Hid ((⟨V1.mw, V1.mh, V1.oa, V1.nw, V1.ca, V1.ob, V1.ns, V1.cb, V1.st, V1.tk, some ⟨g, 0, none⟩, V1.nl, V1.cl⟩ : WV) = V1) := by show _ = _; rw [← hol]
    have HNL : Hid (V1.nl = W.l.length) := hnl
    rw [hol]
    clear hol hnl
    by_cases hdd : e.h = 0
    · have HL : Hid (Wd.hit W id b = W) := Wd.hit_dead hRise hk hp hdd
      rw [decide_eq_true hdd] at kd
      clear hk hp hRise hh hdd
      go_wp2_with (first | (go_at_call 33; (with_reducible refine kf.mono ?_); rintro r u2 ⟨rfl, HT2⟩; have hB2 := hBX.keep HT2 (by simp); have hD2 := hDX.keep HT2 (by simp); have c0 := (hB2.2 0 _ rfl).1; have f0 := (hB2.2 0 _ rfl).2; have c1 := (hB2.2 1 _ rfl).1; have f1 := (hB2.2 1 _ rfl).2; have c2 := (hB2.2 2 _ rfl).1; have f2 := (hB2.2 2 _ rfl).2; have c3 := (hB2.2 3 _ rfl).1; have f3 := (hB2.2 3 _ rfl).2; have c4 := (hB2.2 4 _ rfl).1; have f4 := (hB2.2 4 _ rfl).2; have c5 := (hB2.2 5 _ rfl).1; have f5 := (hB2.2 5 _ rfl).2; have c6 := ((hB2.2 6 _ rfl).1.trans (by rw [HFO.out])); have f6 := (hB2.2 6 _ rfl).2; have z0 := (hD2.2 0 _ rfl).1; have y0 := (hD2.2 0 _ rfl).2; have z1 := (hD2.2 1 _ rfl).1; have y1 := (hD2.2 1 _ rfl).2; have z2 := (hD2.2 2 _ rfl).1; have y2 := (hD2.2 2 _ rfl).2; have z3 := (hD2.2 3 _ rfl).1; have y3 := (hD2.2 3 _ rfl).2; have z4 := (hD2.2 4 _ rfl).1; have y4 := (hD2.2 4 _ rfl).2; have z5 := (hD2.2 5 _ rfl).1; have y5 := (hD2.2 5 _ rfl).2; have z6 := (hD2.2 6 _ rfl).1; have y6 := (hD2.2 6 _ rfl).2; obtain ⟨⟨a0, a1, a2, a3, a4, a5, a6, a7⟩, ⟨i0, i1, i2, i3, i4, i5, i6, i7⟩⟩ := hat _ HT2) | (go_at_call 35; (with_reducible refine (kd _).mono ?_); rintro r u3 ⟨rfl, HT3⟩; have hB3 := hB2.keep HT3 (by simp); have hD3 := hD2.keep HT3 (by simp); have c0 := (hB3.2 0 _ rfl).1; have f0 := (hB3.2 0 _ rfl).2; have c1 := (hB3.2 1 _ rfl).1; have f1 := (hB3.2 1 _ rfl).2; have c2 := (hB3.2 2 _ rfl).1; have f2 := (hB3.2 2 _ rfl).2; have c3 := (hB3.2 3 _ rfl).1; have f3 := (hB3.2 3 _ rfl).2; have c4 := (hB3.2 4 _ rfl).1; have f4 := (hB3.2 4 _ rfl).2; have c5 := (hB3.2 5 _ rfl).1; have f5 := (hB3.2 5 _ rfl).2; have c6 := ((hB3.2 6 _ rfl).1.trans (by rw [HFO.out])); have f6 := (hB3.2 6 _ rfl).2; have z0 := (hD3.2 0 _ rfl).1; have y0 := (hD3.2 0 _ rfl).2; have z1 := (hD3.2 1 _ rfl).1; have y1 := (hD3.2 1 _ rfl).2; have z2 := (hD3.2 2 _ rfl).1; have y2 := (hD3.2 2 _ rfl).2; have z3 := (hD3.2 3 _ rfl).1; have y3 := (hD3.2 3 _ rfl).2; have z4 := (hD3.2 4 _ rfl).1; have y4 := (hD3.2 4 _ rfl).2; have z5 := (hD3.2 5 _ rfl).1; have y5 := (hD3.2 5 _ rfl).2; have z6 := (hD3.2 6 _ rfl).1; have y6 := (hD3.2 6 _ rfl).2; obtain ⟨⟨a0, a1, a2, a3, a4, a5, a6, a7⟩, ⟨i0, i1, i2, i3, i4, i5, i6, i7⟩⟩ := hat _ (HT2.trans HT3 (by simp))))
      have hF3 : Fresh W ⟨V1.mw, V1.mh, V1.oa, V1.nw, V1.ca, V1.ob, V1.ns, V1.cb, V1.st, V1.tk, some ⟨g, 0, none⟩, V1.nl, V1.cl⟩ b0 u3 := by rw [HVG.out]; exact hF.calm (HT2.trans HT3 (by simp))
      have HT4 := HTX.trans (HT2.trans HT3 (by simp)) (by simp)
      obtain ⟨X9, hX9⟩ : ∃ X, X = put7 u3 D ⟨V1.mw, V1.mh, V1.oa, V1.nw, V1.ca, V1.ob, V1.ns, V1.cb, V1.st, V1.tk, some ⟨g, 0, none⟩, V1.nl, V1.cl⟩ := ⟨_, rfl⟩
      have hS9 : Struct D (wvEnc ⟨V1.mw, V1.mh, V1.oa, V1.nw, V1.ca, V1.ob, V1.ns, V1.cb, V1.st, V1.tk, some ⟨g, 0, none⟩, V1.nl, V1.cl⟩) X9 := by rw [hX9]; exact set7 hD3 rfl _
      have hT9 : Turned [D] u3 X9 := by rw [hX9]; exact turned7 (Turned.refl _ _) (.inl (by simp)) _
      simp only [put7] at hX9
      rw [← hX9]
      clear hX9
      have e0 := (hS9.2 0 _ rfl).1
      have e1 := (hS9.2 1 _ rfl).1
      have e2 := (hS9.2 2 _ rfl).1
      have e3 := (hS9.2 3 _ rfl).1
      have e4 := (hS9.2 4 _ rfl).1
      have e5 := (hS9.2 5 _ rfl).1
      have e6 := (hS9.2 6 _ rfl).1
      go_wp2_with fail
      refine bodyPost_ret (v := wvVal ⟨V1.mw, V1.mh, V1.oa, V1.nw, V1.ca, V1.ob, V1.ns, V1.cb, V1.st, V1.tk, some ⟨g, 0, none⟩, V1.nl, V1.cl⟩) (by simp [results, Try.results16, go_sem, e0, e1, e2, e3, e4, e5, e6]) rfl ⟨_, rfl, ?_, fun k hk => .inr (Nat.le_trans hb0w (hF3.at_ge hk)), HT4.trans (S' := [D]) hT9 (by intro k hk hl; simp at hk; omega)⟩
      rw [HL.out]; exact (hF3.keep hT9 (by intro k hk; simp at hk; omega)).tells

    · have hdf : decide (e.h = 0) = false := by rw [decide_eq_false_iff_not]; exact hdd
      rw [hdf] at kd
      by_cases hbl : b < 1
      · have HL : Hid (Wd.hit W id b = W) := Wd.hit_less hbl
        have hbt : decide (b < 1) = true := by rw [decide_eq_true_iff]; exact hbl
        clear hbl hk hp hRise hh hdd hdf
        go_wp2_with (first | (go_at_call 33; (with_reducible refine kf.mono ?_); rintro r u2 ⟨rfl, HT2⟩; have hB2 := hBX.keep HT2 (by simp); have hD2 := hDX.keep HT2 (by simp); have c0 := (hB2.2 0 _ rfl).1; have f0 := (hB2.2 0 _ rfl).2; have c1 := (hB2.2 1 _ rfl).1; have f1 := (hB2.2 1 _ rfl).2; have c2 := (hB2.2 2 _ rfl).1; have f2 := (hB2.2 2 _ rfl).2; have c3 := (hB2.2 3 _ rfl).1; have f3 := (hB2.2 3 _ rfl).2; have c4 := (hB2.2 4 _ rfl).1; have f4 := (hB2.2 4 _ rfl).2; have c5 := (hB2.2 5 _ rfl).1; have f5 := (hB2.2 5 _ rfl).2; have c6 := ((hB2.2 6 _ rfl).1.trans (by rw [HFO.out])); have f6 := (hB2.2 6 _ rfl).2; have z0 := (hD2.2 0 _ rfl).1; have y0 := (hD2.2 0 _ rfl).2; have z1 := (hD2.2 1 _ rfl).1; have y1 := (hD2.2 1 _ rfl).2; have z2 := (hD2.2 2 _ rfl).1; have y2 := (hD2.2 2 _ rfl).2; have z3 := (hD2.2 3 _ rfl).1; have y3 := (hD2.2 3 _ rfl).2; have z4 := (hD2.2 4 _ rfl).1; have y4 := (hD2.2 4 _ rfl).2; have z5 := (hD2.2 5 _ rfl).1; have y5 := (hD2.2 5 _ rfl).2; have z6 := (hD2.2 6 _ rfl).1; have y6 := (hD2.2 6 _ rfl).2; obtain ⟨⟨a0, a1, a2, a3, a4, a5, a6, a7⟩, ⟨i0, i1, i2, i3, i4, i5, i6, i7⟩⟩ := hat _ HT2) | (go_at_call 35; (with_reducible refine (kd _).mono ?_); rintro r u3 ⟨rfl, HT3⟩; have hB3 := hB2.keep HT3 (by simp); have hD3 := hD2.keep HT3 (by simp); have c0 := (hB3.2 0 _ rfl).1; have f0 := (hB3.2 0 _ rfl).2; have c1 := (hB3.2 1 _ rfl).1; have f1 := (hB3.2 1 _ rfl).2; have c2 := (hB3.2 2 _ rfl).1; have f2 := (hB3.2 2 _ rfl).2; have c3 := (hB3.2 3 _ rfl).1; have f3 := (hB3.2 3 _ rfl).2; have c4 := (hB3.2 4 _ rfl).1; have f4 := (hB3.2 4 _ rfl).2; have c5 := (hB3.2 5 _ rfl).1; have f5 := (hB3.2 5 _ rfl).2; have c6 := ((hB3.2 6 _ rfl).1.trans (by rw [HFO.out])); have f6 := (hB3.2 6 _ rfl).2; have z0 := (hD3.2 0 _ rfl).1; have y0 := (hD3.2 0 _ rfl).2; have z1 := (hD3.2 1 _ rfl).1; have y1 := (hD3.2 1 _ rfl).2; have z2 := (hD3.2 2 _ rfl).1; have y2 := (hD3.2 2 _ rfl).2; have z3 := (hD3.2 3 _ rfl).1; have y3 := (hD3.2 3 _ rfl).2; have z4 := (hD3.2 4 _ rfl).1; have y4 := (hD3.2 4 _ rfl).2; have z5 := (hD3.2 5 _ rfl).1; have y5 := (hD3.2 5 _ rfl).2; have z6 := (hD3.2 6 _ rfl).1; have y6 := (hD3.2 6 _ rfl).2; obtain ⟨⟨a0, a1, a2, a3, a4, a5, a6, a7⟩, ⟨i0, i1, i2, i3, i4, i5, i6, i7⟩⟩ := hat _ (HT2.trans HT3 (by simp))))
        have hF3 : Fresh W ⟨V1.mw, V1.mh, V1.oa, V1.nw, V1.ca, V1.ob, V1.ns, V1.cb, V1.st, V1.tk, some ⟨g, 0, none⟩, V1.nl, V1.cl⟩ b0 u3 := by rw [HVG.out]; exact hF.calm (HT2.trans HT3 (by simp))
        have HT4 := HTX.trans (HT2.trans HT3 (by simp)) (by simp)
        obtain ⟨X9, hX9⟩ : ∃ X, X = put7 u3 D ⟨V1.mw, V1.mh, V1.oa, V1.nw, V1.ca, V1.ob, V1.ns, V1.cb, V1.st, V1.tk, some ⟨g, 0, none⟩, V1.nl, V1.cl⟩ := ⟨_, rfl⟩
        have hS9 : Struct D (wvEnc ⟨V1.mw, V1.mh, V1.oa, V1.nw, V1.ca, V1.ob, V1.ns, V1.cb, V1.st, V1.tk, some ⟨g, 0, none⟩, V1.nl, V1.cl⟩) X9 := by rw [hX9]; exact set7 hD3 rfl _
        have hT9 : Turned [D] u3 X9 := by rw [hX9]; exact turned7 (Turned.refl _ _) (.inl (by simp)) _
        simp only [put7] at hX9
        rw [← hX9]
        clear hX9
        have e0 := (hS9.2 0 _ rfl).1
        have e1 := (hS9.2 1 _ rfl).1
        have e2 := (hS9.2 2 _ rfl).1
        have e3 := (hS9.2 3 _ rfl).1
        have e4 := (hS9.2 4 _ rfl).1
        have e5 := (hS9.2 5 _ rfl).1
        have e6 := (hS9.2 6 _ rfl).1
        go_wp2_with fail
        refine bodyPost_ret (v := wvVal ⟨V1.mw, V1.mh, V1.oa, V1.nw, V1.ca, V1.ob, V1.ns, V1.cb, V1.st, V1.tk, some ⟨g, 0, none⟩, V1.nl, V1.cl⟩) (by simp [results, Try.results16, go_sem, e0, e1, e2, e3, e4, e5, e6]) rfl ⟨_, rfl, ?_, fun k hk => .inr (Nat.le_trans hb0w (hF3.at_ge hk)), HT4.trans (S' := [D]) hT9 (by intro k hk hl; simp at hk; omega)⟩
        rw [HL.out]; exact (hF3.keep hT9 (by intro k hk; simp at hk; omega)).tells

      · have kh := fun u => hit_any e b ⟨hh.1, hh.2.1⟩ (by omega) u
        have hbt : decide (b < 1) = false := by rw [decide_eq_false_iff_not]; exact hbl
        have HL : Hid (Wd.hit W id b = ⟨W.m, W.st, W.tick, W.l.set k (Wd.struck e b)⟩) := Wd.hit_yes hRise hk hp (by omega) (by omega)
        obtain ⟨x, hx⟩ : ∃ x, x = Wd.struck e b := ⟨_, rfl⟩
        rw [← hx] at kh
        have HX : Hid (x = Wd.struck e b) := hx
        have HKL : Hid (k < W.l.length) := hkl
        clear hx hk hp hRise hh hdd hdf hkl hbl
        go_wp2_with (first | (go_at_call 33; (with_reducible refine kf.mono ?_); rintro r u2 ⟨rfl, HT2⟩; have hB2 := hBX.keep HT2 (by simp); have hD2 := hDX.keep HT2 (by simp); have c0 := (hB2.2 0 _ rfl).1; have f0 := (hB2.2 0 _ rfl).2; have c1 := (hB2.2 1 _ rfl).1; have f1 := (hB2.2 1 _ rfl).2; have c2 := (hB2.2 2 _ rfl).1; have f2 := (hB2.2 2 _ rfl).2; have c3 := (hB2.2 3 _ rfl).1; have f3 := (hB2.2 3 _ rfl).2; have c4 := (hB2.2 4 _ rfl).1; have f4 := (hB2.2 4 _ rfl).2; have c5 := (hB2.2 5 _ rfl).1; have f5 := (hB2.2 5 _ rfl).2; have c6 := ((hB2.2 6 _ rfl).1.trans (by rw [HFO.out])); have f6 := (hB2.2 6 _ rfl).2; have z0 := (hD2.2 0 _ rfl).1; have y0 := (hD2.2 0 _ rfl).2; have z1 := (hD2.2 1 _ rfl).1; have y1 := (hD2.2 1 _ rfl).2; have z2 := (hD2.2 2 _ rfl).1; have y2 := (hD2.2 2 _ rfl).2; have z3 := (hD2.2 3 _ rfl).1; have y3 := (hD2.2 3 _ rfl).2; have z4 := (hD2.2 4 _ rfl).1; have y4 := (hD2.2 4 _ rfl).2; have z5 := (hD2.2 5 _ rfl).1; have y5 := (hD2.2 5 _ rfl).2; have z6 := (hD2.2 6 _ rfl).1; have y6 := (hD2.2 6 _ rfl).2; obtain ⟨⟨a0, a1, a2, a3, a4, a5, a6, a7⟩, ⟨i0, i1, i2, i3, i4, i5, i6, i7⟩⟩ := hat _ HT2) | (go_at_call 35; (with_reducible refine (kd _).mono ?_); rintro r u3 ⟨rfl, HT3⟩; have hB3 := hB2.keep HT3 (by simp); have hD3 := hD2.keep HT3 (by simp); have c0 := (hB3.2 0 _ rfl).1; have f0 := (hB3.2 0 _ rfl).2; have c1 := (hB3.2 1 _ rfl).1; have f1 := (hB3.2 1 _ rfl).2; have c2 := (hB3.2 2 _ rfl).1; have f2 := (hB3.2 2 _ rfl).2; have c3 := (hB3.2 3 _ rfl).1; have f3 := (hB3.2 3 _ rfl).2; have c4 := (hB3.2 4 _ rfl).1; have f4 := (hB3.2 4 _ rfl).2; have c5 := (hB3.2 5 _ rfl).1; have f5 := (hB3.2 5 _ rfl).2; have c6 := ((hB3.2 6 _ rfl).1.trans (by rw [HFO.out])); have f6 := (hB3.2 6 _ rfl).2; have z0 := (hD3.2 0 _ rfl).1; have y0 := (hD3.2 0 _ rfl).2; have z1 := (hD3.2 1 _ rfl).1; have y1 := (hD3.2 1 _ rfl).2; have z2 := (hD3.2 2 _ rfl).1; have y2 := (hD3.2 2 _ rfl).2; have z3 := (hD3.2 3 _ rfl).1; have y3 := (hD3.2 3 _ rfl).2; have z4 := (hD3.2 4 _ rfl).1; have y4 := (hD3.2 4 _ rfl).2; have z5 := (hD3.2 5 _ rfl).1; have y5 := (hD3.2 5 _ rfl).2; have z6 := (hD3.2 6 _ rfl).1; have y6 := (hD3.2 6 _ rfl).2; obtain ⟨⟨a0, a1, a2, a3, a4, a5, a6, a7⟩, ⟨i0, i1, i2, i3, i4, i5, i6, i7⟩⟩ := hat _ (HT2.trans HT3 (by simp))))
        go_region_with (go_at_call 36; (with_reducible refine (kh _).mono ?_); rintro r u4 ⟨rfl, HT4⟩; have HT5 : Turned [] u3 u4 := ((Turned.refl [] u3).drew).trans HT4 (by simp); have hB4 := hB3.keep HT5 (by simp); have hD4 := hD3.keep HT5 (by simp); have c0 := (hB4.2 0 _ rfl).1; have f0 := (hB4.2 0 _ rfl).2; have c1 := (hB4.2 1 _ rfl).1; have f1 := (hB4.2 1 _ rfl).2; have c2 := (hB4.2 2 _ rfl).1; have f2 := (hB4.2 2 _ rfl).2; have c3 := (hB4.2 3 _ rfl).1; have f3 := (hB4.2 3 _ rfl).2; have c4 := (hB4.2 4 _ rfl).1; have f4 := (hB4.2 4 _ rfl).2; have c5 := (hB4.2 5 _ rfl).1; have f5 := (hB4.2 5 _ rfl).2; have c6 := ((hB4.2 6 _ rfl).1.trans (by rw [HFO.out])); have f6 := (hB4.2 6 _ rfl).2; have z0 := (hD4.2 0 _ rfl).1; have y0 := (hD4.2 0 _ rfl).2; have z1 := (hD4.2 1 _ rfl).1; have y1 := (hD4.2 1 _ rfl).2; have z2 := (hD4.2 2 _ rfl).1; have y2 := (hD4.2 2 _ rfl).2; have z3 := (hD4.2 3 _ rfl).1; have y3 := (hD4.2 3 _ rfl).2; have z4 := (hD4.2 4 _ rfl).1; have y4 := (hD4.2 4 _ rfl).2; have z5 := (hD4.2 5 _ rfl).1; have y5 := (hD4.2 5 _ rfl).2; have z6 := (hD4.2 6 _ rfl).1; have y6 := (hD4.2 6 _ rfl).2; obtain ⟨⟨a0, a1, a2, a3, a4, a5, a6, a7⟩, ⟨i0, i1, i2, i3, i4, i5, i6, i7⟩⟩ := hat _ (HT2.trans (HT3.trans HT5 (by simp)) (by simp)))
        all_goals
          obtain ⟨X2, hX2⟩ : ∃ X, X = put8k u4 g (k * 8) x := ⟨_, rfl⟩
          have hTg : Turned [g] u4 X2 := by rw [hX2]; exact turned8k (Turned.refl _ _) (.inl (by simp)) _ x
          have hF4 := hF.calm (HT2.trans (HT3.trans HT5 (by simp)) (by simp))
          have hO := own_put hF4.own HFO.out HKL.out x
          rw [← hX2] at hO
          have hF5 := hF4.turn hO (by rw [hbk]; exact hTg) (Nat.le_trans hbX (HT2.trans (HT3.trans HT5 (by simp)) (by simp)).size) (.inl rfl) (st := W.st) (tk := W.tick) (sv := V1.st) (tv := V1.tk) hF.tells.st hF.tells.tk
          have hB5 := hB4.keep hTg (by simpa using nB)
          have hD5 := hD4.keep hTg (by simpa using nD)
          have HT6 : Turned [] w X2 := (HTX.trans (HT2.trans (HT3.trans HT5 (by simp)) (by simp)) (by simp)).trans (S' := [g]) hTg (by intro j hj hl; simp at hj; omega)
          simp only [put8k] at hX2
          rw [← hX2]
          clear hX2 c0 c1 c2 c3 c4 c5 c6 f0 f1 f2 f3 f4 f5 f6 z0 z1 z2 z3 z4 z5 z6 y0 y1 y2 y3 y4 y5 y6
          have c0 := (hB5.2 0 _ rfl).1
          have f0 := (hB5.2 0 _ rfl).2
          have c1 := (hB5.2 1 _ rfl).1
          have f1 := (hB5.2 1 _ rfl).2
          have c2 := (hB5.2 2 _ rfl).1
          have f2 := (hB5.2 2 _ rfl).2
          have c3 := (hB5.2 3 _ rfl).1
          have f3 := (hB5.2 3 _ rfl).2
          have c4 := (hB5.2 4 _ rfl).1
          have f4 := (hB5.2 4 _ rfl).2
          have c5 := (hB5.2 5 _ rfl).1
          have f5 := (hB5.2 5 _ rfl).2
          have c6 := (hB5.2 6 _ rfl).1
          have f6 := (hB5.2 6 _ rfl).2
          have z0 := (hD5.2 0 _ rfl).1
          have y0 := (hD5.2 0 _ rfl).2
          have z1 := (hD5.2 1 _ rfl).1
          have y1 := (hD5.2 1 _ rfl).2
          have z2 := (hD5.2 2 _ rfl).1
          have y2 := (hD5.2 2 _ rfl).2
          have z3 := (hD5.2 3 _ rfl).1
          have y3 := (hD5.2 3 _ rfl).2
          have z4 := (hD5.2 4 _ rfl).1
          have y4 := (hD5.2 4 _ rfl).2
          have z5 := (hD5.2 5 _ rfl).1
          have y5 := (hD5.2 5 _ rfl).2
          have z6 := (hD5.2 6 _ rfl).1
          have y6 := (hD5.2 6 _ rfl).2
          go_wp2_with fail
          obtain ⟨X9, hX9⟩ : ∃ X, X = put7 X2 D V1 := ⟨_, rfl⟩
          have hS9 : Struct D (wvEnc V1) X9 := by rw [hX9]; exact set7 hD5 rfl _
          have hT9 : Turned [D] X2 X9 := by rw [hX9]; exact turned7 (Turned.refl _ _) (.inl (by simp)) _
          simp only [put7] at hX9
          rw [← hX9]
          clear hX9
          have e0 := (hS9.2 0 _ rfl).1
          have e1 := (hS9.2 1 _ rfl).1
          have e2 := (hS9.2 2 _ rfl).1
          have e3 := (hS9.2 3 _ rfl).1
          have e4 := (hS9.2 4 _ rfl).1
          have e5 := (hS9.2 5 _ rfl).1
          have e6 := (hS9.2 6 _ rfl).1
          go_wp2_with fail
          refine bodyPost_ret (v := wvVal V1) (by simp [results, Try.results16, go_sem, e0, e1, e2, e3, e4, e5, e6]) rfl ⟨_, rfl, ?_, fun k hk => .inr (Nat.le_trans hb0w (hF5.at_ge hk)), HT6.trans (S' := [D]) hT9 (by intro k hk hl; simp at hk; omega)⟩
          rw [HL.out, ← HX.out]; exact (hF5.keep hT9 (by intro k hk; simp at hk; omega)).tells

end WdW

end Go.Proofs.Ytgabgkgokmeaeaa


/- 'make' of elements of several cells: what lies there. -/
namespace Go.Proofs.Ytgabgkgokmeaeaa
open Go.RowKit
set_option linter.unusedVariables false

theorem made_flat {α : Type} {enc : α → List Value} {a : α} {sz n : Nat} (hs : (enc a).length = sz) (h0 : 0 < sz) : (madeCells (enc a).toArray (n * sz)).toList = (List.replicate n a).flatMap enc := by
  have hlen : ((List.replicate n a).flatMap enc).length = n * sz := by
    rw [List.length_flatMap]
    simp [hs]
  apply List.ext_getElem?
  intro i
  by_cases hi : i < n * sz
  · have hq : i / sz < n := by rw [Nat.div_lt_iff_lt_mul h0]; exact hi
    have hr : i % sz < sz := Nat.mod_lt _ h0
    have h1 := flat_at (f := enc) (l := List.replicate n a) (sz := sz) (i := i / sz) (j := i % sz) (a := a) (by intro b hb; rw [List.eq_of_mem_replicate hb]; exact hs) (by simp [hq]) hr
    have h2 : i / sz * sz + i % sz = i := by have := Nat.div_add_mod i sz; rw [Nat.mul_comm] at this; exact this
    rw [h2] at h1
    rw [h1]
    have h3 : i % sz < (enc a).length := by omega
    simp [madeCells, hi, hs, List.getElem?_eq_getElem h3]
  · have e1 : (madeCells (enc a).toArray (n * sz)).toList[i]? = none := List.getElem?_eq_none (by simp [madeCells]; omega)
    have e2 : ((List.replicate n a).flatMap enc)[i]? = none := List.getElem?_eq_none (by omega)
    rw [e1, e2]
/-- what 'make' made -/
theorem made_ownL {α : Type} {e : TypeId} {enc : α → List Value} {a : α} {sz n base : Nat} {z v : Value} {w : World} (h : w.ownsRow base e sz v n (madeCells z.cells (n * sz)).toList) (hz : z.cells = (enc a).toArray) (hs : (enc a).length = sz) (h0 : 0 < sz) : OwnL e sz enc v (List.replicate n a) w := by
  rw [hz, made_flat hs h0] at h
  unfold OwnL
  rw [List.length_replicate]
  refine ⟨h.1, ?_⟩
  rcases h.2 with hn | ⟨g, cap, cur, hv, hg, rest⟩
  · exact .inl hn
  · exact .inr ⟨g, cap, cur, hv, Nat.zero_le _, rest⟩
theorem grown_turned {w w' : World} (h : w.grownBy w' none) : Turned [] w w' := (Turned.refl [] w).grown h (by simp)
end Go.Proofs.Ytgabgkgokmeaeaa


/- Places put in the order of IDs, where they are so already: cmp.Compare, slices.SortStableFunc at places, byID of the program (WdW). -/
namespace Go.Proofs.Ytgabgkgokmeaeaa
open Go.RowKit
set_option linter.unusedVariables false
set_option linter.unusedSimpArgs false

namespace WdW
set_option maxHeartbeats 400000 in
theorem isNaN_any (x : Int) (w : World) : Calls Try.prog 77 #[.int .i64 x] w fun e w' => e = .returned (.bool false) ∧ w' = w := by
  go_enter Try.func77, Try.ntmps77
  go_wp2
  go_ret
  exact bool_ret (by simp) rfl

set_option maxHeartbeats 1000000 in
theorem compare_gt (x y : Int) (h : y < x) (w : World) : Calls Try.prog 58 #[.int .i64 x, .int .i64 y] w fun e w' => e = .returned (.int .i64 1) ∧ w' = w := by
  have k1 := fun z u => isNaN_any z u
  have h1 : ¬ x < y := by omega
  go_enter Try.func58, Try.ntmps58
  go_wp2_with (go_at_call 77; (with_reducible refine (k1 _ _).mono ?_); rintro e w1 ⟨rfl, rfl⟩)
  go_ret
  exact ⟨rfl, rfl⟩
theorem compare_kept {W : World} (x y : Int) (h : y < x) (v : KeptW W) : Calls Try.prog 58 #[.int .i64 x, .int .i64 y] v.u fun r w'' => r = .returned (.int .i64 1) ∧ ∃ y : KeptW W, w'' = y.u :=
  kept_call ((compare_gt x y h v.u).mono fun r w' ⟨he, ht⟩ => ⟨he, by rw [ht]; exact Below.refl _ _⟩)

set_option maxRecDepth 20000 in
set_option maxHeartbeats 2000000 in
theorem after_any (C : Nat) (ol : Option Addr) (nl cl : Nat) (l : List En.E) (a b : Nat) (ea eb : En.E) (ha : l[a]? = some ea) (hb : l[b]? = some eb) (hlt : eb.id < ea.id) (hn : nl = l.length) (w : World) (hC : C < w.heap.size) (hc : w.cell? ⟨C, 0, none⟩ = some (.slice ol nl cl)) (hr : RowOf 8 enEnc ol l w) :
    Calls Try.prog 57 #[.int .i64 (a : Int), .int .i64 (b : Int), .pointer (some ⟨C, 0, none⟩)] w fun e w' => e = .returned (.int .i64 1) ∧ Turned [] w w' := by
  obtain ⟨g, off, rfl, hg, p0, _⟩ := en_at hr ha
  obtain ⟨g', off', hgo, _, q0, _⟩ := en_at hr hb
  simp at hgo
  obtain ⟨rfl, rfl⟩ := hgo
  have la := (List.getElem?_eq_some_iff.1 ha).1
  have lb := (List.getElem?_eq_some_iff.1 hb).1
  have ha1 : (a : Int) < (nl : Int) := by omega
  have hb1 : (b : Int) < (nl : Int) := by omega
  have ne : Nonempty (KeptW w) := KeptW.one w
  have e0 := KeptW.at hC hc
  have e1 := KeptW.at hg p0
  have e2 := KeptW.at hg q0
  have kc := compare_kept (W := w) ea.id eb.id hlt
  clear hr ha hb la lb hn p0 q0 hc hlt
  go_enter Try.func57, Try.ntmps57
  go_wp2_with fail
  refine wp_region_kept (by kernel_rfl) (by kernel_rfl) ?_
  repeat (go_big_quiet_step ((go_at_call 58; with_reducible exact kc _)))
  refine wpQuiet_nil ?_
  rintro _ ⟨y, rfl⟩
  go_wp2_with fail
  go_ret
  exact ⟨rfl, Turned.ofBelow y.h⟩

set_option maxRecDepth 20000 in
set_option maxHeartbeats 4000000 in
theorem insertion_any (p C n cp : Nat) (ol : Option Addr) (cl : Nat) (l : List En.E) (hR : Wd.Rise l) (hn : n = l.length) (hl : n ≤ 1000) (w : World) (hC : C < w.heap.size) (hc : w.cell? ⟨C, 0, none⟩ = some (.slice ol n cl)) (hr : RowOf 8 enEnc ol l w)
    (hp : p < w.heap.size) (hP : ∀ k : Nat, k < n → w.cell? ⟨p, k, none⟩ = some (.int .i64 (k : Int))) :
    Calls Try.prog 93 #[.slice (some ⟨p, 0, none⟩) n cp, .int .i64 0, .int .i64 (n : Int), .func (.func 57) #[] #[.pointer (some ⟨C, 0, none⟩)]] w fun e w' => e = .returned (.tuple #[]) ∧ Turned [] w w' := by
  have hn1 : (n : Int) ≤ 1000 := by omega
  go_enter Try.func93, Try.ntmps93
  go_wp2_with fail
  go_loopw [8] (fun i wr => ∃ k : Nat, 1 ≤ k ∧ k ≤ n + 1 ∧ i = .int .i64 (k : Int) ∧ Turned [] w wr) (fun i _ => n + 1 - (intOf i).toNat)
  case atStart => exact ⟨1, by omega, by omega, rfl, Turned.refl _ _⟩
  case round =>
    obtain ⟨k, hk1, hk, rfl, HT⟩ := hrel
    by_cases hlt : (k : Int) < (n : Int)
    · obtain ⟨m, rfl⟩ : ∃ m, k = m + 1 := ⟨k - 1, by omega⟩
      obtain ⟨ea, ha⟩ : ∃ e, l[m + 1]? = some e := ⟨_, List.getElem?_eq_getElem (by omega)⟩
      obtain ⟨eb, hb⟩ : ∃ e, l[m]? = some e := ⟨_, List.getElem?_eq_getElem (by omega)⟩
      have hid := hR.lt hb ha (by omega)
      go_wp2_with fail
      go_loopw [9] (fun j wq => j = .int .i64 ((m + 1 : Nat) : Int) ∧ Turned [] w wq) (fun _ _ => 0)
      case atStart => exact ⟨rfl, HT⟩
      case round =>
        clear HT
        obtain ⟨rfl, HT⟩ := hrel
        have ka := fun (v : KeptW wr) => kept_call ((after_any C ol n cl l (m + 1) m ea eb ha hb hid hn v.u (Nat.lt_of_lt_of_le hC (HT.trans (Turned.ofBelow v.h) (by simp)).size) (((HT.trans (Turned.ofBelow v.h) (by simp)).cell (p := ⟨C, 0, none⟩) hC (by simp)).trans hc) (hr.turned (HT.trans (Turned.ofBelow v.h) (by simp)) (by simp))).mono fun r w' h => ⟨h.1, h.2.none⟩)
        rw [show ((m + 1 : Nat) : Int) = (m : Int) + 1 from by omega] at ka
        have ne : Nonempty (KeptW wr) := KeptW.one wr
        have e1 := KeptW.at (Nat.lt_of_lt_of_le hp HT.size) ((HT.cell (p := ⟨p, m + 1, none⟩) hp (by simp)).trans (hP (m + 1) (by omega)))
        have e2 := KeptW.at (Nat.lt_of_lt_of_le hp HT.size) ((HT.cell (p := ⟨p, m, none⟩) hp (by simp)).trans (hP m (by omega)))
        have i0 : decide ((0 : Int) < ((m + 1 : Nat) : Int)) = true := by rw [decide_eq_true_iff]; omega
        have hwr : IntKind.i64.wrap (((m + 1 : Nat) : Int) - 1) = (m : Int) := by
          rw [IntKind.wrap_i64]; omega
        have hmn : (m : Int) < (n : Int) := by omega
        clear ha hb hid hc hr hP
        go_wp2_with fail
        refine wp_region_kept (by kernel_rfl) (by kernel_rfl) ?_
        repeat (go_big_quiet_step ((go_at_call 57; with_reducible exact ka _)))
        refine wpQuiet_nil ?_
        rintro _ ⟨y, rfl⟩
        go_wp2_with fail
        go_roundw
        case rel => exact ⟨m + 1 + 1, by omega, by omega, by go_num, HT.trans (Turned.ofBelow y.h) (by simp)⟩
        case measure => simp [intOf]; omega
    · go_wp2_with fail
      go_end0
      exact ⟨rfl, HT⟩

set_option maxRecDepth 20000 in
set_option maxHeartbeats 4000000 in
theorem stable_any (p C n cp : Nat) (ol : Option Addr) (cl : Nat) (l : List En.E) (hR : Wd.Rise l) (hn : n = l.length) (hl : n ≤ 16) (w : World) (hC : C < w.heap.size) (hc : w.cell? ⟨C, 0, none⟩ = some (.slice ol n cl)) (hr : RowOf 8 enEnc ol l w)
    (hp : p < w.heap.size) (hP : ∀ k : Nat, k < n → w.cell? ⟨p, k, none⟩ = some (.int .i64 (k : Int))) :
    Calls Try.prog 76 #[.slice (some ⟨p, 0, none⟩) n cp, .int .i64 (n : Int), .func (.func 57) #[] #[.pointer (some ⟨C, 0, none⟩)]] w fun e w' => e = .returned (.tuple #[]) ∧ Turned [] w w' := by
  have ki := insertion_any p C n cp ol cl l hR hn (by omega) w hC hc hr hp hP
  have h1 : ¬ (20 : Int) ≤ (n : Int) := by omega
  have h2 : ¬ (20 : Int) < (n : Int) := by omega
  clear hR hn hl hC hc hr hp hP
  go_enter Try.func76, Try.ntmps76
  go_wp2_with fail
  go_loopw [7, 8] (fun i j wr => i = .int .i64 0 ∧ j = .int .i64 20 ∧ wr = w) (fun _ _ _ => 0)
  case atStart => exact ⟨rfl, rfl, rfl⟩
  case round =>
    obtain ⟨rfl, rfl, rfl⟩ := hrel
    go_wp2_with (go_at_call 93; (with_reducible refine ki.mono ?_); rintro r u1 ⟨rfl, HT1⟩)
    go_loopw [6] (fun j wq => j = .int .i64 20 ∧ Turned [] wr wq) (fun _ _ => 0)
    case atStart => exact ⟨rfl, HT1⟩
    case round =>
      obtain ⟨rfl, HT2⟩ := hrel
      go_wp2_with fail
      go_end0
      exact ⟨rfl, HT2⟩
theorem sort_any (p C n cp : Nat) (ol : Option Addr) (cl : Nat) (l : List En.E) (hR : Wd.Rise l) (hn : n = l.length) (hl : n ≤ 16) (w : World) (hC : C < w.heap.size) (hc : w.cell? ⟨C, 0, none⟩ = some (.slice ol n cl)) (hr : RowOf 8 enEnc ol l w)
    (hp : p < w.heap.size) (hP : ∀ k : Nat, k < n → w.cell? ⟨p, k, none⟩ = some (.int .i64 (k : Int))) :
    Calls Try.prog 56 #[.slice (some ⟨p, 0, none⟩) n cp, .func (.func 57) #[] #[.pointer (some ⟨C, 0, none⟩)]] w fun e w' => e = .returned (.tuple #[]) ∧ Turned [] w w' := by
  have ki := stable_any p C n cp ol cl l hR hn hl w hC hc hr hp hP
  clear hR hn hl hC hc hr hp hP
  go_enter Try.func56, Try.ntmps56
  go_wp2_with (go_at_call 76; (with_reducible refine ki.mono ?_); rintro r u1 ⟨rfl, HT1⟩)
  go_end0
  exact ⟨rfl, HT1⟩

theorem elem_in : ElemOk Try.prog 81 3 (.int .i64 0) 1 8 := ⟨by kernel_rfl, by kernel_rfl, rfl, by decide⟩

theorem n_cell {p n c : Nat} {l : List Nat} {w : World} (h : OwnL 3 1 (fun k : Nat => [.int .i64 (k : Int)]) (.slice (some ⟨p, 0, none⟩) n c) l w) {k v : Nat} (hk : l[k]? = some v) :
    p < w.heap.size ∧ w.cell? ⟨p, k, none⟩ = some (.int .i64 (v : Int)) ∧ w.frozen? ⟨p, k, none⟩ = false := by
  obtain ⟨g, cap, hv, _, hg, hc⟩ := h.cell (fun _ _ => rfl) hk
  simp at hv
  obtain ⟨rfl, _⟩ := hv
  have := hc 0 _ rfl
  rw [Nat.mul_one, Nat.add_zero] at this
  exact ⟨hg, this⟩

set_option maxRecDepth 20000 in
set_option maxHeartbeats 4000000 in
theorem byID_any (ol : Option Addr) (nl cl : Nat) (l : List En.E) (hR : Wd.Rise l) (hn : nl = l.length) (hl : nl ≤ 16) (w : World) (hr : RowOf 8 enEnc ol l w) :
    Calls Try.prog 41 #[.slice ol nl cl] w fun e w' => ∃ p, e = .returned (.slice (some ⟨p, 0, none⟩) nl nl) ∧ w.heap.size ≤ p ∧ p < w'.heap.size ∧ (∀ k : Nat, k < nl → w'.cell? ⟨p, k, none⟩ = some (.int .i64 (k : Int))) ∧ Turned [] w w' := by
  have hS0 : Struct w.heap.size [.slice ol nl cl] (w.alloc (.cells #[.slice ol nl cl] 32)) := Struct.new w [.slice ol nl cl] 32
  have HN : Hid (nl = l.length ∧ nl ≤ 16) := ⟨hn, hl⟩
  have HR : Hid (Wd.Rise l) := hR
  have hn1 : (nl : Int) ≤ 16 := by omega
  obtain ⟨i0, hi, hz0, hz1, hz2⟩ := info_parts elem_in.info
  have hmf : ∀ (fn : Fn) (first cap : Array Value) (u : World), (Instr.makeFunc fn first cap).run Try.prog u = .ok (.func fn first cap) u := fun _ _ _ _ => rfl
  clear hn hl hR
  go_enter Try.func41, Try.ntmps41
  go_wp2_with (at_make; refine wpList_make_full _ rfl _ _ 81 rfl 0 3 i0 (.int .i64 0) 1 (by kernel_rfl) hi hz0 hz1 .i64 .i64 _ _ nl rfl rfl rfl rfl (by rw [hz2]; have := HN.out; omega) (by have := HN.out; unfold maxLen; omega) (Nat.zero_le _) ?_; intro w1 ho1 hg1)
  have hO1 := made_ownL (enc := fun k : Nat => [.int .i64 (k : Int)]) (a := 0) ho1 rfl rfl (by decide)
  have hT1 : Turned [] w w1 := ((Turned.refl [] w).alloc _).trans (grown_turned hg1) (by simp)
  have hS1 := hS0.keep (grown_turned hg1) (by simp)
  obtain ⟨p, hp⟩ : ∃ p, p = (w.alloc (.cells #[.slice ol nl cl] 32)).heap.size := ⟨_, rfl⟩
  obtain ⟨C, hC⟩ : ∃ b, b = w.heap.size := ⟨_, rfl⟩
  have hpC : p ≠ C := by rw [hp, hC]; simp
  have hpw : w.heap.size ≤ p := by rw [hp]; simp
  rw [← hp] at hO1
  rw [← hC] at hS1
  have hp' : w.heap.size + 1 = p := by rw [hp]; simp
  try rw [hp']
  try rw [← hp]
  rw [← hC]
  clear hp hC hp' hS0 ho1 hg1
  have HO : Hid (∃ l1 : List Nat, l1.length = nl ∧ OwnL 3 1 (fun k : Nat => [.int .i64 (k : Int)]) (.slice (some ⟨p, 0, none⟩) nl nl) l1 w1) := ⟨_, by simp, hO1⟩
  clear hO1
  go_wp2_with fail
  go_loopw [10] (fun i wr => ∃ (k : Nat) (l1 : List Nat), k ≤ nl ∧ i = .int .i64 (k : Int) ∧ l1.length = nl ∧ (∀ j : Nat, j < k → l1[j]? = some j) ∧ OwnL 3 1 (fun k : Nat => [.int .i64 (k : Int)]) (.slice (some ⟨p, 0, none⟩) nl nl) l1 wr ∧ Struct C [.slice ol nl cl] wr ∧ Turned [] w wr) (fun i _ => nl - (intOf i).toNat)
  case atStart =>
    obtain ⟨l1, h1, h2⟩ := HO.out
    exact ⟨0, l1, by omega, rfl, h1, fun j hj => absurd hj (by omega), h2, hS1, hT1⟩
  case round =>
    clear hS1 hT1
    obtain ⟨k, l1, hk, rfl, hl1, hall, hO, hS, hT⟩ := hrel
    by_cases hlt : (k : Int) < (nl : Int)
    · obtain ⟨v, hv⟩ : ∃ v, l1[k]? = some v := ⟨_, List.getElem?_eq_getElem (by omega)⟩
      obtain ⟨hpl, q0, q1⟩ := n_cell hO hv
      have hkl : k < l1.length := by omega
      have hO2 := hO.set (by rw [hl1]) hkl k
      have HA : Hid (∀ j : Nat, j < k + 1 → (l1.set k k)[j]? = some j) := fun j hj => by
        by_cases e : k = j
        · subst e; simp [hkl]
        · rw [List.getElem?_set_ne e]; exact hall j (by omega)
      have hS2 := hS.keep ((Turned.refl [p] wr).setCell (p := ⟨p, k, none⟩) (.inl (by simp)) (.int .i64 (k : Int))) (by simpa using hpC.symm)
      have hT2 : Turned [] w (wr.setCell ⟨p, k, none⟩ (.int .i64 (k : Int))) := hT.setCell (p := ⟨p, k, none⟩) (.inr hpw) _
      clear hall hv
      go_wp2_with fail
      go_roundw
      case rel => exact ⟨k + 1, l1.set k k, by omega, by go_num, by rw [List.length_set]; exact hl1, HA.out, hO2, hS2, hT2⟩
      case measure => simp [intOf]; omega
    · have hkn : k = nl := by omega
      subst hkn
      have hPP : ∀ j : Nat, j < k → wr.cell? ⟨p, j, none⟩ = some (.int .i64 (j : Int)) := fun j hj => (n_cell hO (hall j hj)).2.1
      have hpl : p < wr.heap.size := by
        have := hO.lt p (by simp [blk, Value.ownBlock])
        exact this
      have ks := sort_any p C k k ol cl l HR.out HN.out.1 HN.out.2 wr hS.1 (hS.2 0 _ rfl).1 (hr.turned hT (by simp)) hpl hPP
      have HP : Hid (∀ j : Nat, j < k → wr.cell? ⟨p, j, none⟩ = some (.int .i64 (j : Int))) := hPP
      clear hPP hall
      go_wp2_with (go_at_call 56; (with_reducible refine ks.mono ?_); rintro r u1 ⟨rfl, HT1⟩)
      go_ret
      exact ⟨p, rfl, hpw, Nat.lt_of_lt_of_le hpl HT1.size, fun j hj => (HT1.cell (p := ⟨p, j, none⟩) hpl (by simp)).trans (HP.out j hj), hT.trans HT1 (by simp)⟩
end WdW
end Go.Proofs.Ytgabgkgokmeaeaa

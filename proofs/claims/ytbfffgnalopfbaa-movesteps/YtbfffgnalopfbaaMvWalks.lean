/- How one moves: the program's speedOf, formed, a whole step, Walk and Roll (MvW). -/
import Derived.Test.YtbfffgnalopfbaaMvWStep
import Derived.Test.YtbfffgnalopfbaaEntWForm
import Derived.Test.YtbfffgnalopfbaaMvLaw
namespace Go.Proofs.Ytbfffgnalopfbaa
open Go.RowKit
set_option linter.unusedVariables false
set_option linter.unusedSimpArgs false

namespace MvW
theorem div_down {a : Int} (h1 : -128 ≤ a) (h2 : a ≤ 127) : Fx.div (a * 16384) (Fx.ofI 127) = Mv.down (a * 16384) := by
  have e1 : Fx.ofI 127 = 8323072 := by decide
  rw [e1]
  unfold Fx.div Mv.down
  rw [if_neg (by omega), Fx.hold_of (x := a * 16384) (by omega) (by omega), Fx.hold_of (x := 8323072) (by omega) (by omega), Int.fdiv_eq_ediv_of_nonneg _ (by omega)]
  have e2 : a * 16384 * 65536 / 8323072 = a * 16384 / 127 := by omega
  rw [e2]
  exact Fx.hold_of (by omega) (by omega)

set_option maxHeartbeats 1000000 in
theorem speed_any (a : Int) (h1 : -128 ≤ a) (h2 : a ≤ 127) (w : World) :
    Calls Try.prog 19 #[.int .i8 a] w fun e w' => e = .returned (.int .i64 (Mv.down (a * 16384))) ∧ w' = w := by
  have ko := fun u => FxW.of_any 127 u
  have kd := fun u => FxW.div_any (a * 16384) (Fx.ofI 127) u
  rw [div_down h1 h2] at kd
  obtain ⟨o, ho⟩ : ∃ o, o = Fx.ofI 127 := ⟨_, rfl⟩
  obtain ⟨d, hd⟩ : ∃ d, d = Mv.down (a * 16384) := ⟨_, rfl⟩
  rw [← ho] at ko kd
  rw [← hd] at kd ⊢
  clear ho hd
  go_enter Try.func19, Try.ntmps19
  go_wp2_with (first | (go_at_call 31; (with_reducible refine (ko _).mono ?_); rintro r w9 ⟨rfl, hw9⟩; rw [hw9]; clear hw9 w9) | (go_at_call 30; (with_reducible refine (kd _).mono ?_); rintro r w9 ⟨rfl, hw9⟩; rw [hw9]; clear hw9 w9))
  go_ret
  exact ⟨rfl, rfl⟩

set_option maxHeartbeats 2000000 in
theorem formed_any (e : En.E) (k : Int) (w : World) :
    Calls Try.prog 18 #[enVal e, .int .i64 k] w fun r w' => r = .returned (.bool (decide (e.kind = k) && decide (En.Formed e))) ∧ Turned [] w w' := by
  have kf := fun u => EnW.formed_any e u
  obtain ⟨fb, hfb⟩ : ∃ b, b = decide (En.Formed e) := ⟨_, rfl⟩
  rw [← hfb] at kf ⊢
  obtain ⟨id, kind, ax, ay, vx, vy, hh, t⟩ := e
  unfold enVal at kf ⊢
  simp only at kf ⊢
  clear hfb
  obtain ⟨W0, hW0⟩ : ∃ W0, W0 = w.alloc (.cells #[.int .i64 id, .int .i64 kind, .int .i64 ax, .int .i64 ay, .int .i64 vx, .int .i64 vy, .int .i64 hh, .int .i64 t] 30) := ⟨_, rfl⟩
  have hT : Turned [] w W0 := by rw [hW0]; exact (Turned.refl [] w).alloc _
  by_cases h1 : kind = k
  · have i1 : (kind == k) = true := by rw [beq_iff_eq]; exact h1
    have HA : Hid ((decide (kind = k) && fb) = fb) := by show _ = _; rw [decide_eq_true h1]; rfl
    clear h1
    go_enter Try.func18, Try.ntmps18
    go_wp2_with (go_at_call 29; (with_reducible refine (kf _).mono ?_); rintro r u0 ⟨rfl, HT0⟩)
    go_ret
    rw [HA.out]
    rw [← hW0] at HT0
    exact ⟨rfl, hT.trans HT0 (by simp)⟩
  · have i1 : (kind == k) = false := by rw [beq_eq_false_iff_ne]; exact h1
    have HA : Hid ((decide (kind = k) && fb) = false) := by show _ = _; rw [decide_eq_false h1]; rfl
    clear h1
    go_enter Try.func18, Try.ntmps18
    go_wp2_with fail
    go_ret
    rw [HA.out]
    rw [← hW0]
    exact ⟨rfl, hT⟩

set_option maxRecDepth 20000 in
set_option maxHeartbeats 4000000 in
/-- a whole step -/
theorem step_any (m : Ti.M) (oa : Option Addr) (ca : Nat) (ob : Option Addr) (cb : Nat) (x y vx vy : Int) (hx : -134217728 ≤ x ∧ x ≤ 134217728) (hy : -134217728 ≤ y ∧ y ≤ 134217728) (hvx : -65536 ≤ vx ∧ vx ≤ 65536) (hvy : -65536 ≤ vy ∧ vy ≤ 65536) (w : World) (h : MapAt m oa ob w) :
    Calls Try.prog 20 #[mapVal m oa ca ob cb, .agg #[.int .i64 x, .int .i64 y], .agg #[.int .i64 vx, .int .i64 vy]] w fun e w' => e = .returned (.tuple #[.agg #[.int .i64 (Mv.goX m x y vx), .int .i64 (Mv.goY m (Mv.goX m x y vx) y vy)], .bool (Mv.stands m (x + vx) y), .bool (Mv.stands m (Mv.goX m x y vx) (y + vy))]) ∧ Turned [] w w' := by
  have a1 : Fx.add x vx = x + vx := by
    unfold Fx.add
    rw [Fx.hold_of (x := x) (by omega) (by omega), Fx.hold_of (x := vx) (by omega) (by omega), Fx.hold_of (by omega) (by omega)]
  have a2 : Fx.add y vy = y + vy := by
    unfold Fx.add
    rw [Fx.hold_of (x := y) (by omega) (by omega), Fx.hold_of (x := vy) (by omega) (by omega), Fx.hold_of (by omega) (by omega)]
  obtain ⟨nx, hnx⟩ : ∃ n, n = Mv.goX m x y vx := ⟨_, rfl⟩
  obtain ⟨sx, hsx⟩ : ∃ s, s = Mv.stands m (x + vx) y := ⟨_, rfl⟩
  rw [← hnx, ← hsx]
  obtain ⟨ny, hny⟩ : ∃ n, n = Mv.goY m nx y vy := ⟨_, rfl⟩
  obtain ⟨sy, hsy⟩ : ∃ s, s = Mv.stands m nx (y + vy) := ⟨_, rfl⟩
  rw [← hny, ← hsy]
  have k1 := fun (B : Nat) (u : World) (hu : MapAt m oa ob u) (hb : Struct B [.int .i64 x, .int .i64 y] u) => alongX_any m oa ca ob cb x vx (x + vx) y B u hu (fun v hv => by rw [a1]; exact atX_any (x + vx) x y B v (hb.keep hv (by simp)))
  have k2 := fun (B : Nat) (u : World) (hu : MapAt m oa ob u) (hb : Struct B [.int .i64 nx, .int .i64 y] u) => alongY_any m oa ca ob cb y vy nx (y + vy) B u hu (fun v hv => by rw [a2]; exact atY_any (y + vy) nx y B v (hb.keep hv (by simp)))
  rw [a1, show (if Mv.stands m (x + vx) y = true then x + vx else x) = nx from hnx.symm, ← hsx] at k1
  rw [a2, show (if Mv.stands m nx (y + vy) = true then y + vy else y) = ny from hny.symm, ← hsy] at k2
  clear hnx hsx hny hsy a1 a2 hx hy hvx hvy
  obtain ⟨nw, hnw⟩ : ∃ n, n = m.ws.length := ⟨_, rfl⟩
  obtain ⟨ns, hns⟩ : ∃ n, n = m.sp.length := ⟨_, rfl⟩
  unfold mapVal at k1 k2 ⊢
  rw [← hnw, ← hns] at k1 k2 ⊢
  obtain ⟨W0, hW0⟩ : ∃ W0, W0 = (((w.alloc (.cells #[.int .i64 m.W, .int .i64 m.H, .slice oa nw ca, .slice ob ns cb] 25)).alloc (.cells #[.int .i64 x, .int .i64 y] 28)).alloc (.cells #[.int .i64 vx, .int .i64 vy] 28)).alloc (.cells #[.int .i64 0, .int .i64 0] 28) := ⟨_, rfl⟩
  obtain ⟨B, hB⟩ : ∃ b, b = w.heap.size := ⟨_, rfl⟩
  obtain ⟨C, hC⟩ : ∃ b, b = w.heap.size + 1 := ⟨_, rfl⟩
  obtain ⟨D, hD⟩ : ∃ b, b = w.heap.size + 1 + 1 := ⟨_, rfl⟩
  obtain ⟨E, hE⟩ : ∃ b, b = w.heap.size + 1 + 1 + 1 := ⟨_, rfl⟩
  have hT : Turned [] w W0 := by rw [hW0]; exact ((((Turned.refl [] w).alloc _).alloc _).alloc _).alloc _
  have hS : Struct B [.int .i64 m.W, .int .i64 m.H, .slice oa nw ca, .slice ob ns cb] W0 := by
    have h0 := Struct.new w [.int .i64 m.W, .int .i64 m.H, .slice oa nw ca, .slice ob ns cb] 25
    rw [← hB] at h0
    rw [hW0]; exact (((h0.keep ((Turned.refl [] _).alloc _) (by simp)).keep ((Turned.refl [] _).alloc _) (by simp)).keep ((Turned.refl [] _).alloc _) (by simp))
  have hP : Struct C [.int .i64 x, .int .i64 y] W0 := by
    have h0 := Struct.new (w.alloc (.cells #[.int .i64 m.W, .int .i64 m.H, .slice oa nw ca, .slice ob ns cb] 25)) [.int .i64 x, .int .i64 y] 28
    rw [show (w.alloc (.cells #[.int .i64 m.W, .int .i64 m.H, .slice oa nw ca, .slice ob ns cb] 25)).heap.size = w.heap.size + 1 by simp, ← hC] at h0
    rw [hW0]; exact ((h0.keep ((Turned.refl [] _).alloc _) (by simp)).keep ((Turned.refl [] _).alloc _) (by simp))
  have hV : Struct D [.int .i64 vx, .int .i64 vy] W0 := by
    have h0 := Struct.new ((w.alloc (.cells #[.int .i64 m.W, .int .i64 m.H, .slice oa nw ca, .slice ob ns cb] 25)).alloc (.cells #[.int .i64 x, .int .i64 y] 28)) [.int .i64 vx, .int .i64 vy] 28
    rw [show ((w.alloc (.cells #[.int .i64 m.W, .int .i64 m.H, .slice oa nw ca, .slice ob ns cb] 25)).alloc (.cells #[.int .i64 x, .int .i64 y] 28)).heap.size = w.heap.size + 1 + 1 by simp, ← hD] at h0
    rw [hW0]; exact (h0.keep ((Turned.refl [] _).alloc _) (by simp))
  have hR : Struct E [.int .i64 0, .int .i64 0] W0 := by
    have h0 := Struct.new (((w.alloc (.cells #[.int .i64 m.W, .int .i64 m.H, .slice oa nw ca, .slice ob ns cb] 25)).alloc (.cells #[.int .i64 x, .int .i64 y] 28)).alloc (.cells #[.int .i64 vx, .int .i64 vy] 28)) [.int .i64 0, .int .i64 0] 28
    rw [show (((w.alloc (.cells #[.int .i64 m.W, .int .i64 m.H, .slice oa nw ca, .slice ob ns cb] 25)).alloc (.cells #[.int .i64 x, .int .i64 y] 28)).alloc (.cells #[.int .i64 vx, .int .i64 vy] 28)).heap.size = w.heap.size + 1 + 1 + 1 by simp, ← hE] at h0
    rw [hW0]; exact h0
  have hBw : w.heap.size ≤ B := by omega
  have hCw : w.heap.size ≤ C := by omega
  have hDw : w.heap.size ≤ D := by omega
  have hEw : w.heap.size ≤ E := by omega
  have nBC : B ≠ C := by omega
  have nBD : B ≠ D := by omega
  have nBE : B ≠ E := by omega
  have nCD : C ≠ D := by omega
  have nCE : C ≠ E := by omega
  have nDE : D ≠ E := by omega
  have hM := h.calm hT
  clear hnw hns
  have hmf : ∀ (fn : Fn) (first cap : Array Value) (u : World), (Instr.makeFunc fn first cap).run Try.prog u = .ok (.func fn first cap) u := fun _ _ _ _ => rfl
  have d0 := (hS.2 0 _ rfl).1; have d1 := (hS.2 1 _ rfl).1; have d2 := (hS.2 2 _ rfl).1; have d3 := (hS.2 3 _ rfl).1
  have c0 := (hP.2 0 _ rfl).1; have f0 := (hP.2 0 _ rfl).2; have c1 := (hP.2 1 _ rfl).1; have f1 := (hP.2 1 _ rfl).2
  have v0 := (hV.2 0 _ rfl).1; have v1 := (hV.2 1 _ rfl).1
  have z0 := (hR.2 0 _ rfl).1; have y0 := (hR.2 0 _ rfl).2; have z1 := (hR.2 1 _ rfl).1; have y1 := (hR.2 1 _ rfl).2
  have q1 := k1 C W0 hM hP
  go_enter Try.func20, Try.ntmps20
  go_wp2_with fail
  rw [← hW0, ← hE, ← hD, ← hC, ← hB]
  clear hW0 hB hC hD hE
  go_wp2_with fail
  refine (k1 C W0 hM hP).mono ?_
  rintro r u1 ⟨rfl, HS1⟩
  have hS1 := hS.keep HS1 (by simp)
  have hP1 := hP.keep HS1 (by simp)
  have hV1 := hV.keep HS1 (by simp)
  have hR1 := hR.keep HS1 (by simp)
  have hT1 := hT.trans HS1 (by simp)
  clear d0 d1 d2 d3 c0 c1 f0 f1 v0 v1 z0 z1 y0 y1 k1 HS1 hS hP hV hR hT hM
  have hP2 := hP1.set (i := 0) (by simp) (.int .i64 nx)
  have hS2 := hS1.keep ((Turned.refl [C] u1).setCell (p := ⟨C, 0, none⟩) (.inl (by simp)) (.int .i64 nx)) (by simpa using nBC)
  have hV2 := hV1.keep ((Turned.refl [C] u1).setCell (p := ⟨C, 0, none⟩) (.inl (by simp)) (.int .i64 nx)) (by simpa using nCD.symm)
  have hR2 := hR1.keep ((Turned.refl [C] u1).setCell (p := ⟨C, 0, none⟩) (.inl (by simp)) (.int .i64 nx)) (by simpa using nCE.symm)
  have hT2 := hT1.setCell (p := ⟨C, 0, none⟩) (.inr hCw) (.int .i64 nx)
  have b0 := (hP1.2 0 _ rfl).1
  have b1 := (hP1.2 0 _ rfl).2
  obtain ⟨U1, hU1⟩ : ∃ U, U = u1.setCell ⟨C, 0, none⟩ (.int .i64 nx) := ⟨_, rfl⟩
  rw [← hU1] at hP2 hS2 hV2 hR2 hT2
  have d0 := (hS2.2 0 _ rfl).1; have d1 := (hS2.2 1 _ rfl).1; have d2 := (hS2.2 2 _ rfl).1; have d3 := (hS2.2 3 _ rfl).1
  have c0 := (hP2.2 0 _ rfl).1; have f0 := (hP2.2 0 _ rfl).2; have c1 := (hP2.2 1 _ rfl).1; have f1 := (hP2.2 1 _ rfl).2
  have v0 := (hV2.2 0 _ rfl).1; have v1 := (hV2.2 1 _ rfl).1
  have z0 := (hR2.2 0 _ rfl).1; have y0 := (hR2.2 0 _ rfl).2; have z1 := (hR2.2 1 _ rfl).1; have y1 := (hR2.2 1 _ rfl).2
  rw [hU1] at d0 d1 d2 d3 c0 c1 f0 f1 v0 v1 z0 z1 y0 y1
  go_wp2_with fail
  rw [← hU1]
  clear d0 d1 d2 d3 c0 c1 f0 f1 v0 v1 z0 z1 y0 y1 b0 b1 hU1
  refine (k2 C U1 (h.calm hT2) hP2).mono ?_
  rintro r u2 ⟨rfl, HS2⟩
  have hP3 := hP2.keep HS2 (by simp)
  have hR3 := hR2.keep HS2 (by simp)
  have hT3 := hT2.trans HS2 (by simp)
  have hP4 := hP3.set (i := 1) (by simp) (.int .i64 ny)
  have hR4 := hR3.keep ((Turned.refl [C] u2).setCell (p := ⟨C, 1, none⟩) (.inl (by simp)) (.int .i64 ny)) (by simpa using nCE.symm)
  have hT4 := hT3.setCell (p := ⟨C, 1, none⟩) (.inr hCw) (.int .i64 ny)
  have b0 := (hP3.2 1 _ rfl).1
  have b1 := (hP3.2 1 _ rfl).2
  have c0 := (hP4.2 0 _ rfl).1; have f0 := (hP4.2 0 _ rfl).2; have c1 := (hP4.2 1 _ rfl).1; have f1 := (hP4.2 1 _ rfl).2
  have z0 := (hR4.2 0 _ rfl).1; have y0 := (hR4.2 0 _ rfl).2; have z1 := (hR4.2 1 _ rfl).1; have y1 := (hR4.2 1 _ rfl).2
  go_wp2_with fail
  have hR9 := (hR4.set (i := 0) (by simp) (.int .i64 nx)).set (i := 1) (by simp) (.int .i64 ny)
  have hT9 := (hT4.setCell (p := ⟨E, 0, none⟩) (.inr hEw) (.int .i64 nx)).setCell (p := ⟨E, 1, none⟩) (.inr hEw) (.int .i64 ny)
  have e0 := (hR9.2 0 _ rfl).1
  have e1 := (hR9.2 1 _ rfl).1
  exact bodyPost_ret (v := .tuple #[.agg #[.int .i64 nx, .int .i64 ny], .bool sx, .bool sy]) (by simp [results, Try.results20, go_sem, e0, e1]) rfl ⟨rfl, hT9⟩

set_option maxRecDepth 20000 in
set_option maxHeartbeats 16000000 in
theorem walk_any (m : Ti.M) (oa : Option Addr) (ca : Nat) (ob : Option Addr) (cb : Nat) (e : En.E) (mx my : Int) (hx : -128 ≤ mx ∧ mx ≤ 127) (hy : -128 ≤ my ∧ my ≤ 127) (w : World) (h : MapAt m oa ob w) :
    Calls Try.prog 10 #[mapVal m oa ca ob cb, enVal e, .int .i8 mx, .int .i8 my] w fun r w' => r = .returned (enVal (Mv.walk m e mx my)) ∧ Turned [] w w' := by
  obtain ⟨id, kind, ax, ay, vx, vy, hh, t⟩ := e
  have kfm := fun u => formed_any ⟨id, kind, ax, ay, vx, vy, hh, t⟩ 1 u
  have kst := fun (x y a b : Int) hx hy ha hb (u : World) (hu : MapAt m oa ob u) => step_any m oa ca ob cb x y a b hx hy ha hb u hu
  obtain ⟨fb, hfb⟩ : ∃ b, b = (decide (kind = 1) && decide (En.Formed ⟨id, kind, ax, ay, vx, vy, hh, t⟩)) := ⟨_, rfl⟩
  simp only at kfm
  rw [← hfb] at kfm
  obtain ⟨nw, hnw⟩ : ∃ n, n = m.ws.length := ⟨_, rfl⟩
  obtain ⟨ns, hns⟩ : ∃ n, n = m.sp.length := ⟨_, rfl⟩
  unfold mapVal at kst ⊢
  rw [← hnw, ← hns] at kst ⊢
  unfold enVal at kfm
  simp only at kfm
  show Calls _ _ #[_, .agg #[.int .i64 id, .int .i64 kind, .int .i64 ax, .int .i64 ay, .int .i64 vx, .int .i64 vy, .int .i64 hh, .int .i64 t], .int .i8 mx, .int .i8 my] _ _
  obtain ⟨W0, hW0⟩ : ∃ W0, W0 = ((w.alloc (.cells #[.int .i64 m.W, .int .i64 m.H, .slice oa nw ca, .slice ob ns cb] 25)).alloc (.cells #[.int .i64 id, .int .i64 kind, .int .i64 ax, .int .i64 ay, .int .i64 vx, .int .i64 vy, .int .i64 hh, .int .i64 t] 30)).alloc (.cells #[.int .i64 0, .int .i64 0, .int .i64 0, .int .i64 0, .int .i64 0, .int .i64 0, .int .i64 0, .int .i64 0] 30) := ⟨_, rfl⟩
  obtain ⟨B, hB⟩ : ∃ b, b = w.heap.size := ⟨_, rfl⟩
  obtain ⟨C, hC⟩ : ∃ b, b = w.heap.size + 1 := ⟨_, rfl⟩
  obtain ⟨D, hD⟩ : ∃ b, b = w.heap.size + 1 + 1 := ⟨_, rfl⟩
  have hT : Turned [] w W0 := by rw [hW0]; exact (((Turned.refl [] w).alloc _).alloc _).alloc _
  have hS : Struct B [.int .i64 m.W, .int .i64 m.H, .slice oa nw ca, .slice ob ns cb] W0 := by
    have h0 := Struct.new w [.int .i64 m.W, .int .i64 m.H, .slice oa nw ca, .slice ob ns cb] 25
    rw [← hB] at h0
    rw [hW0]; exact ((h0.keep ((Turned.refl [] _).alloc _) (by simp)).keep ((Turned.refl [] _).alloc _) (by simp))
  have hE : Struct C [.int .i64 id, .int .i64 kind, .int .i64 ax, .int .i64 ay, .int .i64 vx, .int .i64 vy, .int .i64 hh, .int .i64 t] W0 := by
    have h0 := Struct.new (w.alloc (.cells #[.int .i64 m.W, .int .i64 m.H, .slice oa nw ca, .slice ob ns cb] 25)) [.int .i64 id, .int .i64 kind, .int .i64 ax, .int .i64 ay, .int .i64 vx, .int .i64 vy, .int .i64 hh, .int .i64 t] 30
    rw [show (w.alloc (.cells #[.int .i64 m.W, .int .i64 m.H, .slice oa nw ca, .slice ob ns cb] 25)).heap.size = w.heap.size + 1 by simp, ← hC] at h0
    rw [hW0]; exact (h0.keep ((Turned.refl [] _).alloc _) (by simp))
  have hR : Struct D [.int .i64 0, .int .i64 0, .int .i64 0, .int .i64 0, .int .i64 0, .int .i64 0, .int .i64 0, .int .i64 0] W0 := by
    have h0 := Struct.new ((w.alloc (.cells #[.int .i64 m.W, .int .i64 m.H, .slice oa nw ca, .slice ob ns cb] 25)).alloc (.cells #[.int .i64 id, .int .i64 kind, .int .i64 ax, .int .i64 ay, .int .i64 vx, .int .i64 vy, .int .i64 hh, .int .i64 t] 30)) [.int .i64 0, .int .i64 0, .int .i64 0, .int .i64 0, .int .i64 0, .int .i64 0, .int .i64 0, .int .i64 0] 30
    rw [show ((w.alloc (.cells #[.int .i64 m.W, .int .i64 m.H, .slice oa nw ca, .slice ob ns cb] 25)).alloc (.cells #[.int .i64 id, .int .i64 kind, .int .i64 ax, .int .i64 ay, .int .i64 vx, .int .i64 vy, .int .i64 hh, .int .i64 t] 30)).heap.size = w.heap.size + 1 + 1 by simp, ← hD] at h0
    rw [hW0]; exact h0
  have hBw : w.heap.size ≤ B := by omega
  have hCw : w.heap.size ≤ C := by omega
  have hDw : w.heap.size ≤ D := by omega
  have nBC : B ≠ C := by omega
  have nBD : B ≠ D := by omega
  have nCD : C ≠ D := by omega
  have hM := h.calm hT
  clear hnw hns
  by_cases hF : En.Formed ⟨id, kind, ax, ay, vx, vy, hh, t⟩
  · by_cases h1 : kind = 1
    · by_cases h2 : hh = 0
      · have HA : Hid (Mv.walk m ⟨id, kind, ax, ay, vx, vy, hh, t⟩ mx my = ⟨id, kind, ax, ay, vx, vy, hh, t⟩) := by
          show _ = _
          unfold Mv.walk
          rw [if_neg]
          rw [Mv.walks_iff]
          rintro ⟨_, _, hn, _⟩
          exact hn h2
        have i2 : (hh == 0) = true := by rw [beq_iff_eq]; exact h2
        rw [show fb = true by rw [hfb, decide_eq_true h1, decide_eq_true hF]; rfl] at kfm
        clear h1 h2 hF
        clear hfb kst
        go_enter Try.func10, Try.ntmps10
        go_wp2_with fail
        rw [← hW0, ← hD, ← hC, ← hB]
        clear hW0 hB hC hD
        go_wp2_with (go_at_call 18; (with_reducible refine (kfm _).mono ?_); rintro r u0 ⟨rfl, HT0⟩; have hS0 := hS.keep HT0 (by simp); have hE0 := hE.keep HT0 (by simp); have hR0 := hR.keep HT0 (by simp); have hTu0 := hT.trans HT0 (by simp); have d0 := (hS0.2 0 _ rfl).1; have d1 := (hS0.2 1 _ rfl).1; have d2 := (hS0.2 2 _ rfl).1; have d3 := (hS0.2 3 _ rfl).1; have c0 := (hE0.2 0 _ rfl).1; have f0 := (hE0.2 0 _ rfl).2; have c1 := (hE0.2 1 _ rfl).1; have f1 := (hE0.2 1 _ rfl).2; have c2 := (hE0.2 2 _ rfl).1; have f2 := (hE0.2 2 _ rfl).2; have c3 := (hE0.2 3 _ rfl).1; have f3 := (hE0.2 3 _ rfl).2; have c4 := (hE0.2 4 _ rfl).1; have f4 := (hE0.2 4 _ rfl).2; have c5 := (hE0.2 5 _ rfl).1; have f5 := (hE0.2 5 _ rfl).2; have c6 := (hE0.2 6 _ rfl).1; have f6 := (hE0.2 6 _ rfl).2; have c7 := (hE0.2 7 _ rfl).1; have f7 := (hE0.2 7 _ rfl).2; have z0 := (hR0.2 0 _ rfl).1; have y0 := (hR0.2 0 _ rfl).2; have z1 := (hR0.2 1 _ rfl).1; have y1 := (hR0.2 1 _ rfl).2; have z2 := (hR0.2 2 _ rfl).1; have y2 := (hR0.2 2 _ rfl).2; have z3 := (hR0.2 3 _ rfl).1; have y3 := (hR0.2 3 _ rfl).2; have z4 := (hR0.2 4 _ rfl).1; have y4 := (hR0.2 4 _ rfl).2; have z5 := (hR0.2 5 _ rfl).1; have y5 := (hR0.2 5 _ rfl).2; have z6 := (hR0.2 6 _ rfl).1; have y6 := (hR0.2 6 _ rfl).2; have z7 := (hR0.2 7 _ rfl).1; have y7 := (hR0.2 7 _ rfl).2)
        obtain ⟨W9, hW9⟩ : ∃ W9, W9 = MvR.put8 u0 D ⟨id, kind, ax, ay, vx, vy, hh, t⟩ := ⟨_, rfl⟩
        have hS9 : Struct D (enEnc ⟨id, kind, ax, ay, vx, vy, hh, t⟩) W9 := by rw [hW9]; exact MvR.set8 (e := MvR.zeroE) hR0 _
        have hT9 : Turned [] w W9 := by rw [hW9]; exact MvR.turned8 hTu0 (.inr hDw) _
        simp only [MvR.put8] at hW9
        rw [← hW9]
        have e0 := (hS9.2 0 _ rfl).1
        have e1 := (hS9.2 1 _ rfl).1
        have e2 := (hS9.2 2 _ rfl).1
        have e3 := (hS9.2 3 _ rfl).1
        have e4 := (hS9.2 4 _ rfl).1
        have e5 := (hS9.2 5 _ rfl).1
        have e6 := (hS9.2 6 _ rfl).1
        have e7 := (hS9.2 7 _ rfl).1
        simp only [enEnc] at e0 e1 e2 e3 e4 e5 e6 e7
        exact bodyPost_ret (v := enVal ⟨id, kind, ax, ay, vx, vy, hh, t⟩) (by simp [results, Try.results10, go_sem, e0, e1, e2, e3, e4, e5, e6, e7]) rfl ⟨by rw [HA.out], hT9⟩
      · by_cases h3 : mx = -128
        · have HA : Hid (Mv.walk m ⟨id, kind, ax, ay, vx, vy, hh, t⟩ mx my = ⟨id, kind, ax, ay, vx, vy, hh, t⟩) := by
            show _ = _
            unfold Mv.walk
            rw [if_neg]
            rw [Mv.walks_iff]
            rintro ⟨_, _, _, hn, _⟩
            exact hn h3
          have i2 : (hh == 0) = false := by rw [beq_eq_false_iff_ne]; exact h2
          have i3 : (mx == -128) = true := by rw [beq_iff_eq]; exact h3
          rw [show fb = true by rw [hfb, decide_eq_true h1, decide_eq_true hF]; rfl] at kfm
          clear h1 h2 h3 hF
          clear hfb kst
          go_enter Try.func10, Try.ntmps10
          go_wp2_with fail
          rw [← hW0, ← hD, ← hC, ← hB]
          clear hW0 hB hC hD
          go_wp2_with (go_at_call 18; (with_reducible refine (kfm _).mono ?_); rintro r u0 ⟨rfl, HT0⟩; have hS0 := hS.keep HT0 (by simp); have hE0 := hE.keep HT0 (by simp); have hR0 := hR.keep HT0 (by simp); have hTu0 := hT.trans HT0 (by simp); have d0 := (hS0.2 0 _ rfl).1; have d1 := (hS0.2 1 _ rfl).1; have d2 := (hS0.2 2 _ rfl).1; have d3 := (hS0.2 3 _ rfl).1; have c0 := (hE0.2 0 _ rfl).1; have f0 := (hE0.2 0 _ rfl).2; have c1 := (hE0.2 1 _ rfl).1; have f1 := (hE0.2 1 _ rfl).2; have c2 := (hE0.2 2 _ rfl).1; have f2 := (hE0.2 2 _ rfl).2; have c3 := (hE0.2 3 _ rfl).1; have f3 := (hE0.2 3 _ rfl).2; have c4 := (hE0.2 4 _ rfl).1; have f4 := (hE0.2 4 _ rfl).2; have c5 := (hE0.2 5 _ rfl).1; have f5 := (hE0.2 5 _ rfl).2; have c6 := (hE0.2 6 _ rfl).1; have f6 := (hE0.2 6 _ rfl).2; have c7 := (hE0.2 7 _ rfl).1; have f7 := (hE0.2 7 _ rfl).2; have z0 := (hR0.2 0 _ rfl).1; have y0 := (hR0.2 0 _ rfl).2; have z1 := (hR0.2 1 _ rfl).1; have y1 := (hR0.2 1 _ rfl).2; have z2 := (hR0.2 2 _ rfl).1; have y2 := (hR0.2 2 _ rfl).2; have z3 := (hR0.2 3 _ rfl).1; have y3 := (hR0.2 3 _ rfl).2; have z4 := (hR0.2 4 _ rfl).1; have y4 := (hR0.2 4 _ rfl).2; have z5 := (hR0.2 5 _ rfl).1; have y5 := (hR0.2 5 _ rfl).2; have z6 := (hR0.2 6 _ rfl).1; have y6 := (hR0.2 6 _ rfl).2; have z7 := (hR0.2 7 _ rfl).1; have y7 := (hR0.2 7 _ rfl).2)
          obtain ⟨W9, hW9⟩ : ∃ W9, W9 = MvR.put8 u0 D ⟨id, kind, ax, ay, vx, vy, hh, t⟩ := ⟨_, rfl⟩
          have hS9 : Struct D (enEnc ⟨id, kind, ax, ay, vx, vy, hh, t⟩) W9 := by rw [hW9]; exact MvR.set8 (e := MvR.zeroE) hR0 _
          have hT9 : Turned [] w W9 := by rw [hW9]; exact MvR.turned8 hTu0 (.inr hDw) _
          simp only [MvR.put8] at hW9
          rw [← hW9]
          have e0 := (hS9.2 0 _ rfl).1
          have e1 := (hS9.2 1 _ rfl).1
          have e2 := (hS9.2 2 _ rfl).1
          have e3 := (hS9.2 3 _ rfl).1
          have e4 := (hS9.2 4 _ rfl).1
          have e5 := (hS9.2 5 _ rfl).1
          have e6 := (hS9.2 6 _ rfl).1
          have e7 := (hS9.2 7 _ rfl).1
          simp only [enEnc] at e0 e1 e2 e3 e4 e5 e6 e7
          exact bodyPost_ret (v := enVal ⟨id, kind, ax, ay, vx, vy, hh, t⟩) (by simp [results, Try.results10, go_sem, e0, e1, e2, e3, e4, e5, e6, e7]) rfl ⟨by rw [HA.out], hT9⟩
        · by_cases h4 : my = -128
          · have HA : Hid (Mv.walk m ⟨id, kind, ax, ay, vx, vy, hh, t⟩ mx my = ⟨id, kind, ax, ay, vx, vy, hh, t⟩) := by
              show _ = _
              unfold Mv.walk
              rw [if_neg]
              rw [Mv.walks_iff]
              rintro ⟨_, _, _, _, hn⟩
              exact hn h4
            have i2 : (hh == 0) = false := by rw [beq_eq_false_iff_ne]; exact h2
            have i3 : (mx == -128) = false := by rw [beq_eq_false_iff_ne]; exact h3
            have i4 : (my == -128) = true := by rw [beq_iff_eq]; exact h4
            rw [show fb = true by rw [hfb, decide_eq_true h1, decide_eq_true hF]; rfl] at kfm
            clear h1 h2 h3 h4 hF
            clear hfb kst
            go_enter Try.func10, Try.ntmps10
            go_wp2_with fail
            rw [← hW0, ← hD, ← hC, ← hB]
            clear hW0 hB hC hD
            go_wp2_with (go_at_call 18; (with_reducible refine (kfm _).mono ?_); rintro r u0 ⟨rfl, HT0⟩; have hS0 := hS.keep HT0 (by simp); have hE0 := hE.keep HT0 (by simp); have hR0 := hR.keep HT0 (by simp); have hTu0 := hT.trans HT0 (by simp); have d0 := (hS0.2 0 _ rfl).1; have d1 := (hS0.2 1 _ rfl).1; have d2 := (hS0.2 2 _ rfl).1; have d3 := (hS0.2 3 _ rfl).1; have c0 := (hE0.2 0 _ rfl).1; have f0 := (hE0.2 0 _ rfl).2; have c1 := (hE0.2 1 _ rfl).1; have f1 := (hE0.2 1 _ rfl).2; have c2 := (hE0.2 2 _ rfl).1; have f2 := (hE0.2 2 _ rfl).2; have c3 := (hE0.2 3 _ rfl).1; have f3 := (hE0.2 3 _ rfl).2; have c4 := (hE0.2 4 _ rfl).1; have f4 := (hE0.2 4 _ rfl).2; have c5 := (hE0.2 5 _ rfl).1; have f5 := (hE0.2 5 _ rfl).2; have c6 := (hE0.2 6 _ rfl).1; have f6 := (hE0.2 6 _ rfl).2; have c7 := (hE0.2 7 _ rfl).1; have f7 := (hE0.2 7 _ rfl).2; have z0 := (hR0.2 0 _ rfl).1; have y0 := (hR0.2 0 _ rfl).2; have z1 := (hR0.2 1 _ rfl).1; have y1 := (hR0.2 1 _ rfl).2; have z2 := (hR0.2 2 _ rfl).1; have y2 := (hR0.2 2 _ rfl).2; have z3 := (hR0.2 3 _ rfl).1; have y3 := (hR0.2 3 _ rfl).2; have z4 := (hR0.2 4 _ rfl).1; have y4 := (hR0.2 4 _ rfl).2; have z5 := (hR0.2 5 _ rfl).1; have y5 := (hR0.2 5 _ rfl).2; have z6 := (hR0.2 6 _ rfl).1; have y6 := (hR0.2 6 _ rfl).2; have z7 := (hR0.2 7 _ rfl).1; have y7 := (hR0.2 7 _ rfl).2)
            obtain ⟨W9, hW9⟩ : ∃ W9, W9 = MvR.put8 u0 D ⟨id, kind, ax, ay, vx, vy, hh, t⟩ := ⟨_, rfl⟩
            have hS9 : Struct D (enEnc ⟨id, kind, ax, ay, vx, vy, hh, t⟩) W9 := by rw [hW9]; exact MvR.set8 (e := MvR.zeroE) hR0 _
            have hT9 : Turned [] w W9 := by rw [hW9]; exact MvR.turned8 hTu0 (.inr hDw) _
            simp only [MvR.put8] at hW9
            rw [← hW9]
            have e0 := (hS9.2 0 _ rfl).1
            have e1 := (hS9.2 1 _ rfl).1
            have e2 := (hS9.2 2 _ rfl).1
            have e3 := (hS9.2 3 _ rfl).1
            have e4 := (hS9.2 4 _ rfl).1
            have e5 := (hS9.2 5 _ rfl).1
            have e6 := (hS9.2 6 _ rfl).1
            have e7 := (hS9.2 7 _ rfl).1
            simp only [enEnc] at e0 e1 e2 e3 e4 e5 e6 e7
            exact bodyPost_ret (v := enVal ⟨id, kind, ax, ay, vx, vy, hh, t⟩) (by simp [results, Try.results10, go_sem, e0, e1, e2, e3, e4, e5, e6, e7]) rfl ⟨by rw [HA.out], hT9⟩
          · have hwk : Mv.walks ⟨id, kind, ax, ay, vx, vy, hh, t⟩ mx my = true := Mv.walks_iff.2 ⟨hF, h1, h2, h3, h4⟩
            have i2 : (hh == 0) = false := by rw [beq_eq_false_iff_ne]; exact h2
            have i3 : (mx == -128) = false := by rw [beq_eq_false_iff_ne]; exact h3
            have i4 : (my == -128) = false := by rw [beq_eq_false_iff_ne]; exact h4
            rw [show fb = true by rw [hfb, decide_eq_true h1, decide_eq_true hF]; rfl] at kfm
            obtain ⟨_, ⟨b1, b2, b3, b4⟩, ⟨b5, b6, b7, b8⟩, _⟩ := hF
            have b1 : -134217728 ≤ ax := b1
            have b2 : ax ≤ 134217728 := b2
            have b3 : -134217728 ≤ ay := b3
            have b4 : ay ≤ 134217728 := b4
            have b5 : -65536 ≤ vx := b5
            have b6 : vx ≤ 65536 := b6
            have b7 : -65536 ≤ vy := b7
            have b8 : vy ≤ 65536 := b8
            have kd1 := fun u => speed_any mx hx.1 hx.2 u
            have kd2 := fun u => speed_any my hy.1 hy.2 u
            have q1 := Mv.down_in (n := mx) (by omega) (by omega)
            have q2 := Mv.down_in (n := my) (by omega) (by omega)
            obtain ⟨dx, hdx⟩ : ∃ d, d = Mv.down (mx * 16384) := ⟨_, rfl⟩
            obtain ⟨dy, hdy⟩ : ∃ d, d = Mv.down (my * 16384) := ⟨_, rfl⟩
            rw [← hdx] at kd1 q1
            rw [← hdy] at kd2 q2
            have ks := kst ax ay dx dy ⟨b1, b2⟩ ⟨b3, b4⟩ (by omega) (by omega)
            obtain ⟨nx, hnx⟩ : ∃ n, n = Mv.goX m ax ay dx := ⟨_, rfl⟩
            obtain ⟨sx, hsx⟩ : ∃ n, n = Mv.stands m (ax + dx) ay := ⟨_, rfl⟩
            rw [← hnx, ← hsx] at ks
            obtain ⟨ny, hny⟩ : ∃ n, n = Mv.goY m nx ay dy := ⟨_, rfl⟩
            obtain ⟨sy, hsy⟩ : ∃ n, n = Mv.stands m nx (ay + dy) := ⟨_, rfl⟩
            rw [← hny, ← hsy] at ks
            have HA : Hid (Mv.walk m ⟨id, kind, ax, ay, vx, vy, hh, t⟩ mx my = ⟨id, kind, nx, ny, dx, dy, hh, t⟩) := by
              show _ = _
              simp only [Mv.walk, hwk, if_true, Mv.stepped, ← hdx, ← hdy, ← hnx, ← hny]
            clear h1 h2 h3 h4 hfb kst hdx hdy hnx hny hsx hsy hwk hx hy q1 q2 b1 b2 b3 b4 b5 b6 b7 b8
            go_enter Try.func10, Try.ntmps10
            go_wp2_with fail
            rw [← hW0, ← hD, ← hC, ← hB]
            clear hW0 hB hC hD
            go_wp2_with (first | (go_at_call 18; (with_reducible refine (kfm _).mono ?_); rintro r u0 ⟨rfl, HT0⟩; have hS0 := hS.keep HT0 (by simp); have hE0 := hE.keep HT0 (by simp); have hR0 := hR.keep HT0 (by simp); have hTu0 := hT.trans HT0 (by simp); have d0 := (hS0.2 0 _ rfl).1; have d1 := (hS0.2 1 _ rfl).1; have d2 := (hS0.2 2 _ rfl).1; have d3 := (hS0.2 3 _ rfl).1; have c0 := (hE0.2 0 _ rfl).1; have f0 := (hE0.2 0 _ rfl).2; have c1 := (hE0.2 1 _ rfl).1; have f1 := (hE0.2 1 _ rfl).2; have c2 := (hE0.2 2 _ rfl).1; have f2 := (hE0.2 2 _ rfl).2; have c3 := (hE0.2 3 _ rfl).1; have f3 := (hE0.2 3 _ rfl).2; have c4 := (hE0.2 4 _ rfl).1; have f4 := (hE0.2 4 _ rfl).2; have c5 := (hE0.2 5 _ rfl).1; have f5 := (hE0.2 5 _ rfl).2; have c6 := (hE0.2 6 _ rfl).1; have f6 := (hE0.2 6 _ rfl).2; have c7 := (hE0.2 7 _ rfl).1; have f7 := (hE0.2 7 _ rfl).2; have z0 := (hR0.2 0 _ rfl).1; have y0 := (hR0.2 0 _ rfl).2; have z1 := (hR0.2 1 _ rfl).1; have y1 := (hR0.2 1 _ rfl).2; have z2 := (hR0.2 2 _ rfl).1; have y2 := (hR0.2 2 _ rfl).2; have z3 := (hR0.2 3 _ rfl).1; have y3 := (hR0.2 3 _ rfl).2; have z4 := (hR0.2 4 _ rfl).1; have y4 := (hR0.2 4 _ rfl).2; have z5 := (hR0.2 5 _ rfl).1; have y5 := (hR0.2 5 _ rfl).2; have z6 := (hR0.2 6 _ rfl).1; have y6 := (hR0.2 6 _ rfl).2; have z7 := (hR0.2 7 _ rfl).1; have y7 := (hR0.2 7 _ rfl).2; have hSb := ((((hS0).keep ((Turned.refl [C] u0).setCell (p := ⟨C, 4, none⟩) (.inl (by simp)) (.int .i64 dx)) (by simpa using nBC))).keep ((Turned.refl [C] ((u0).setCell ⟨C, 4, none⟩ (.int .i64 dx))).setCell (p := ⟨C, 5, none⟩) (.inl (by simp)) (.int .i64 dy)) (by simpa using nBC)); have dd0 := (hSb.2 0 _ rfl).1; have dd1 := (hSb.2 1 _ rfl).1; have dd2 := (hSb.2 2 _ rfl).1; have dd3 := (hSb.2 3 _ rfl).1) | (go_at_call 19; (with_reducible refine (kd1 _).mono ?_); rintro r w9 ⟨rfl, hw9⟩; rw [hw9]; clear hw9 w9) | (go_at_call 19; (with_reducible refine (kd2 _).mono ?_); rintro r w9 ⟨rfl, hw9⟩; rw [hw9]; clear hw9 w9))
            have hEa := ((((hE0).set (i := 4) (by simp) (.int .i64 dx))).set (i := 5) (by simp) (.int .i64 dy))
            have hRa := ((((hR0).keep ((Turned.refl [C] u0).setCell (p := ⟨C, 4, none⟩) (.inl (by simp)) (.int .i64 dx)) (by simpa using nCD.symm))).keep ((Turned.refl [C] ((u0).setCell ⟨C, 4, none⟩ (.int .i64 dx))).setCell (p := ⟨C, 5, none⟩) (.inl (by simp)) (.int .i64 dy)) (by simpa using nCD.symm))
            have hTa := ((((hTu0).setCell (p := ⟨C, 4, none⟩) (.inr hCw) (.int .i64 dx))).setCell (p := ⟨C, 5, none⟩) (.inr hCw) (.int .i64 dy))
            have hMs := h.calm hTa
            refine (ks _ hMs).mono ?_
            rintro r u1 ⟨rfl, HS1⟩
            have hE1 := (hEa).keep HS1 (by simp)
            have hR1 := (hRa).keep HS1 (by simp)
            have hT1 := (hTa).trans HS1 (by simp)
            clear hMs HS1 d0 d1 d2 d3 c0 c1 c2 c3 c4 c5 c6 c7 f0 f1 f2 f3 f4 f5 f6 f7 z0 z1 z2 z3 z4 z5 z6 z7 y0 y1 y2 y3 y4 y5 y6 y7
            have c0 := (hE1.2 0 _ rfl).1
            have f0 := (hE1.2 0 _ rfl).2
            have c1 := (hE1.2 1 _ rfl).1
            have f1 := (hE1.2 1 _ rfl).2
            have c2 := (hE1.2 2 _ rfl).1
            have f2 := (hE1.2 2 _ rfl).2
            have c3 := (hE1.2 3 _ rfl).1
            have f3 := (hE1.2 3 _ rfl).2
            have c4 := (hE1.2 4 _ rfl).1
            have f4 := (hE1.2 4 _ rfl).2
            have c5 := (hE1.2 5 _ rfl).1
            have f5 := (hE1.2 5 _ rfl).2
            have c6 := (hE1.2 6 _ rfl).1
            have f6 := (hE1.2 6 _ rfl).2
            have c7 := (hE1.2 7 _ rfl).1
            have f7 := (hE1.2 7 _ rfl).2
            have z0 := (hR1.2 0 _ rfl).1
            have y0 := (hR1.2 0 _ rfl).2
            have z1 := (hR1.2 1 _ rfl).1
            have y1 := (hR1.2 1 _ rfl).2
            have z2 := (hR1.2 2 _ rfl).1
            have y2 := (hR1.2 2 _ rfl).2
            have z3 := (hR1.2 3 _ rfl).1
            have y3 := (hR1.2 3 _ rfl).2
            have z4 := (hR1.2 4 _ rfl).1
            have y4 := (hR1.2 4 _ rfl).2
            have z5 := (hR1.2 5 _ rfl).1
            have y5 := (hR1.2 5 _ rfl).2
            have z6 := (hR1.2 6 _ rfl).1
            have y6 := (hR1.2 6 _ rfl).2
            have z7 := (hR1.2 7 _ rfl).1
            have y7 := (hR1.2 7 _ rfl).2
            go_wp2_with fail
            obtain ⟨W9, hW9⟩ : ∃ W9, W9 = MvR.put8 (((u1).setCell ⟨C, 2, none⟩ (.int .i64 nx)).setCell ⟨C, 3, none⟩ (.int .i64 ny)) D ⟨id, kind, nx, ny, dx, dy, hh, t⟩ := ⟨_, rfl⟩
            have hS9 : Struct D (enEnc ⟨id, kind, nx, ny, dx, dy, hh, t⟩) W9 := by rw [hW9]; exact MvR.set8 (e := MvR.zeroE) ((((hR1).keep ((Turned.refl [C] u1).setCell (p := ⟨C, 2, none⟩) (.inl (by simp)) (.int .i64 nx)) (by simpa using nCD.symm))).keep ((Turned.refl [C] ((u1).setCell ⟨C, 2, none⟩ (.int .i64 nx))).setCell (p := ⟨C, 3, none⟩) (.inl (by simp)) (.int .i64 ny)) (by simpa using nCD.symm)) _
            have hT9 : Turned [] w W9 := by rw [hW9]; exact MvR.turned8 ((((hT1).setCell (p := ⟨C, 2, none⟩) (.inr hCw) (.int .i64 nx))).setCell (p := ⟨C, 3, none⟩) (.inr hCw) (.int .i64 ny)) (.inr hDw) _
            simp only [MvR.put8] at hW9
            rw [← hW9]
            have e0 := (hS9.2 0 _ rfl).1
            have e1 := (hS9.2 1 _ rfl).1
            have e2 := (hS9.2 2 _ rfl).1
            have e3 := (hS9.2 3 _ rfl).1
            have e4 := (hS9.2 4 _ rfl).1
            have e5 := (hS9.2 5 _ rfl).1
            have e6 := (hS9.2 6 _ rfl).1
            have e7 := (hS9.2 7 _ rfl).1
            simp only [enEnc] at e0 e1 e2 e3 e4 e5 e6 e7
            exact bodyPost_ret (v := enVal ⟨id, kind, nx, ny, dx, dy, hh, t⟩) (by simp [results, Try.results10, go_sem, e0, e1, e2, e3, e4, e5, e6, e7]) rfl ⟨by rw [HA.out], hT9⟩
    · have HA : Hid (Mv.walk m ⟨id, kind, ax, ay, vx, vy, hh, t⟩ mx my = ⟨id, kind, ax, ay, vx, vy, hh, t⟩) := by
        show _ = _
        unfold Mv.walk
        rw [if_neg]
        rw [Mv.walks_iff]
        rintro ⟨_, hn, _⟩
        exact h1 hn
      rw [show fb = false by rw [hfb, decide_eq_false h1]; rfl] at kfm
      clear h1 hF
      clear hfb kst
      go_enter Try.func10, Try.ntmps10
      go_wp2_with fail
      rw [← hW0, ← hD, ← hC, ← hB]
      clear hW0 hB hC hD
      go_wp2_with (go_at_call 18; (with_reducible refine (kfm _).mono ?_); rintro r u0 ⟨rfl, HT0⟩; have hS0 := hS.keep HT0 (by simp); have hE0 := hE.keep HT0 (by simp); have hR0 := hR.keep HT0 (by simp); have hTu0 := hT.trans HT0 (by simp); have d0 := (hS0.2 0 _ rfl).1; have d1 := (hS0.2 1 _ rfl).1; have d2 := (hS0.2 2 _ rfl).1; have d3 := (hS0.2 3 _ rfl).1; have c0 := (hE0.2 0 _ rfl).1; have f0 := (hE0.2 0 _ rfl).2; have c1 := (hE0.2 1 _ rfl).1; have f1 := (hE0.2 1 _ rfl).2; have c2 := (hE0.2 2 _ rfl).1; have f2 := (hE0.2 2 _ rfl).2; have c3 := (hE0.2 3 _ rfl).1; have f3 := (hE0.2 3 _ rfl).2; have c4 := (hE0.2 4 _ rfl).1; have f4 := (hE0.2 4 _ rfl).2; have c5 := (hE0.2 5 _ rfl).1; have f5 := (hE0.2 5 _ rfl).2; have c6 := (hE0.2 6 _ rfl).1; have f6 := (hE0.2 6 _ rfl).2; have c7 := (hE0.2 7 _ rfl).1; have f7 := (hE0.2 7 _ rfl).2; have z0 := (hR0.2 0 _ rfl).1; have y0 := (hR0.2 0 _ rfl).2; have z1 := (hR0.2 1 _ rfl).1; have y1 := (hR0.2 1 _ rfl).2; have z2 := (hR0.2 2 _ rfl).1; have y2 := (hR0.2 2 _ rfl).2; have z3 := (hR0.2 3 _ rfl).1; have y3 := (hR0.2 3 _ rfl).2; have z4 := (hR0.2 4 _ rfl).1; have y4 := (hR0.2 4 _ rfl).2; have z5 := (hR0.2 5 _ rfl).1; have y5 := (hR0.2 5 _ rfl).2; have z6 := (hR0.2 6 _ rfl).1; have y6 := (hR0.2 6 _ rfl).2; have z7 := (hR0.2 7 _ rfl).1; have y7 := (hR0.2 7 _ rfl).2)
      obtain ⟨W9, hW9⟩ : ∃ W9, W9 = MvR.put8 u0 D ⟨id, kind, ax, ay, vx, vy, hh, t⟩ := ⟨_, rfl⟩
      have hS9 : Struct D (enEnc ⟨id, kind, ax, ay, vx, vy, hh, t⟩) W9 := by rw [hW9]; exact MvR.set8 (e := MvR.zeroE) hR0 _
      have hT9 : Turned [] w W9 := by rw [hW9]; exact MvR.turned8 hTu0 (.inr hDw) _
      simp only [MvR.put8] at hW9
      rw [← hW9]
      have e0 := (hS9.2 0 _ rfl).1
      have e1 := (hS9.2 1 _ rfl).1
      have e2 := (hS9.2 2 _ rfl).1
      have e3 := (hS9.2 3 _ rfl).1
      have e4 := (hS9.2 4 _ rfl).1
      have e5 := (hS9.2 5 _ rfl).1
      have e6 := (hS9.2 6 _ rfl).1
      have e7 := (hS9.2 7 _ rfl).1
      simp only [enEnc] at e0 e1 e2 e3 e4 e5 e6 e7
      exact bodyPost_ret (v := enVal ⟨id, kind, ax, ay, vx, vy, hh, t⟩) (by simp [results, Try.results10, go_sem, e0, e1, e2, e3, e4, e5, e6, e7]) rfl ⟨by rw [HA.out], hT9⟩
  · have HA : Hid (Mv.walk m ⟨id, kind, ax, ay, vx, vy, hh, t⟩ mx my = ⟨id, kind, ax, ay, vx, vy, hh, t⟩) := by
      show _ = _
      unfold Mv.walk
      rw [if_neg]
      rw [Mv.walks_iff]
      rintro ⟨hn, _⟩
      exact hF hn
    rw [show fb = false by rw [hfb, decide_eq_false hF, Bool.and_false]] at kfm
    clear hF
    clear hfb kst
    go_enter Try.func10, Try.ntmps10
    go_wp2_with fail
    rw [← hW0, ← hD, ← hC, ← hB]
    clear hW0 hB hC hD
    go_wp2_with (go_at_call 18; (with_reducible refine (kfm _).mono ?_); rintro r u0 ⟨rfl, HT0⟩; have hS0 := hS.keep HT0 (by simp); have hE0 := hE.keep HT0 (by simp); have hR0 := hR.keep HT0 (by simp); have hTu0 := hT.trans HT0 (by simp); have d0 := (hS0.2 0 _ rfl).1; have d1 := (hS0.2 1 _ rfl).1; have d2 := (hS0.2 2 _ rfl).1; have d3 := (hS0.2 3 _ rfl).1; have c0 := (hE0.2 0 _ rfl).1; have f0 := (hE0.2 0 _ rfl).2; have c1 := (hE0.2 1 _ rfl).1; have f1 := (hE0.2 1 _ rfl).2; have c2 := (hE0.2 2 _ rfl).1; have f2 := (hE0.2 2 _ rfl).2; have c3 := (hE0.2 3 _ rfl).1; have f3 := (hE0.2 3 _ rfl).2; have c4 := (hE0.2 4 _ rfl).1; have f4 := (hE0.2 4 _ rfl).2; have c5 := (hE0.2 5 _ rfl).1; have f5 := (hE0.2 5 _ rfl).2; have c6 := (hE0.2 6 _ rfl).1; have f6 := (hE0.2 6 _ rfl).2; have c7 := (hE0.2 7 _ rfl).1; have f7 := (hE0.2 7 _ rfl).2; have z0 := (hR0.2 0 _ rfl).1; have y0 := (hR0.2 0 _ rfl).2; have z1 := (hR0.2 1 _ rfl).1; have y1 := (hR0.2 1 _ rfl).2; have z2 := (hR0.2 2 _ rfl).1; have y2 := (hR0.2 2 _ rfl).2; have z3 := (hR0.2 3 _ rfl).1; have y3 := (hR0.2 3 _ rfl).2; have z4 := (hR0.2 4 _ rfl).1; have y4 := (hR0.2 4 _ rfl).2; have z5 := (hR0.2 5 _ rfl).1; have y5 := (hR0.2 5 _ rfl).2; have z6 := (hR0.2 6 _ rfl).1; have y6 := (hR0.2 6 _ rfl).2; have z7 := (hR0.2 7 _ rfl).1; have y7 := (hR0.2 7 _ rfl).2)
    obtain ⟨W9, hW9⟩ : ∃ W9, W9 = MvR.put8 u0 D ⟨id, kind, ax, ay, vx, vy, hh, t⟩ := ⟨_, rfl⟩
    have hS9 : Struct D (enEnc ⟨id, kind, ax, ay, vx, vy, hh, t⟩) W9 := by rw [hW9]; exact MvR.set8 (e := MvR.zeroE) hR0 _
    have hT9 : Turned [] w W9 := by rw [hW9]; exact MvR.turned8 hTu0 (.inr hDw) _
    simp only [MvR.put8] at hW9
    rw [← hW9]
    have e0 := (hS9.2 0 _ rfl).1
    have e1 := (hS9.2 1 _ rfl).1
    have e2 := (hS9.2 2 _ rfl).1
    have e3 := (hS9.2 3 _ rfl).1
    have e4 := (hS9.2 4 _ rfl).1
    have e5 := (hS9.2 5 _ rfl).1
    have e6 := (hS9.2 6 _ rfl).1
    have e7 := (hS9.2 7 _ rfl).1
    simp only [enEnc] at e0 e1 e2 e3 e4 e5 e6 e7
    exact bodyPost_ret (v := enVal ⟨id, kind, ax, ay, vx, vy, hh, t⟩) (by simp [results, Try.results10, go_sem, e0, e1, e2, e3, e4, e5, e6, e7]) rfl ⟨by rw [HA.out], hT9⟩

set_option maxRecDepth 20000 in
set_option maxHeartbeats 16000000 in
theorem roll_any (m : Ti.M) (oa : Option Addr) (ca : Nat) (ob : Option Addr) (cb : Nat) (e : En.E) (w : World) (h : MapAt m oa ob w) :
    Calls Try.prog 12 #[mapVal m oa ca ob cb, enVal e] w fun r w' => r = .returned (enVal (Mv.roll m e)) ∧ Turned [] w w' := by
  obtain ⟨id, kind, ax, ay, vx, vy, hh, t⟩ := e
  have kfm := fun u => formed_any ⟨id, kind, ax, ay, vx, vy, hh, t⟩ 2 u
  have kst := fun (x y a b : Int) hx hy ha hb (u : World) (hu : MapAt m oa ob u) => step_any m oa ca ob cb x y a b hx hy ha hb u hu
  obtain ⟨fb, hfb⟩ : ∃ b, b = (decide (kind = 2) && decide (En.Formed ⟨id, kind, ax, ay, vx, vy, hh, t⟩)) := ⟨_, rfl⟩
  simp only at kfm
  rw [← hfb] at kfm
  obtain ⟨nw, hnw⟩ : ∃ n, n = m.ws.length := ⟨_, rfl⟩
  obtain ⟨ns, hns⟩ : ∃ n, n = m.sp.length := ⟨_, rfl⟩
  unfold mapVal at kst ⊢
  rw [← hnw, ← hns] at kst ⊢
  unfold enVal at kfm
  simp only at kfm
  show Calls _ _ #[_, .agg #[.int .i64 id, .int .i64 kind, .int .i64 ax, .int .i64 ay, .int .i64 vx, .int .i64 vy, .int .i64 hh, .int .i64 t]] _ _
  obtain ⟨W0, hW0⟩ : ∃ W0, W0 = ((w.alloc (.cells #[.int .i64 m.W, .int .i64 m.H, .slice oa nw ca, .slice ob ns cb] 25)).alloc (.cells #[.int .i64 id, .int .i64 kind, .int .i64 ax, .int .i64 ay, .int .i64 vx, .int .i64 vy, .int .i64 hh, .int .i64 t] 30)).alloc (.cells #[.int .i64 0, .int .i64 0, .int .i64 0, .int .i64 0, .int .i64 0, .int .i64 0, .int .i64 0, .int .i64 0] 30) := ⟨_, rfl⟩
  obtain ⟨B, hB⟩ : ∃ b, b = w.heap.size := ⟨_, rfl⟩
  obtain ⟨C, hC⟩ : ∃ b, b = w.heap.size + 1 := ⟨_, rfl⟩
  obtain ⟨D, hD⟩ : ∃ b, b = w.heap.size + 1 + 1 := ⟨_, rfl⟩
  have hT : Turned [] w W0 := by rw [hW0]; exact (((Turned.refl [] w).alloc _).alloc _).alloc _
  have hS : Struct B [.int .i64 m.W, .int .i64 m.H, .slice oa nw ca, .slice ob ns cb] W0 := by
    have h0 := Struct.new w [.int .i64 m.W, .int .i64 m.H, .slice oa nw ca, .slice ob ns cb] 25
    rw [← hB] at h0
    rw [hW0]; exact ((h0.keep ((Turned.refl [] _).alloc _) (by simp)).keep ((Turned.refl [] _).alloc _) (by simp))
  have hE : Struct C [.int .i64 id, .int .i64 kind, .int .i64 ax, .int .i64 ay, .int .i64 vx, .int .i64 vy, .int .i64 hh, .int .i64 t] W0 := by
    have h0 := Struct.new (w.alloc (.cells #[.int .i64 m.W, .int .i64 m.H, .slice oa nw ca, .slice ob ns cb] 25)) [.int .i64 id, .int .i64 kind, .int .i64 ax, .int .i64 ay, .int .i64 vx, .int .i64 vy, .int .i64 hh, .int .i64 t] 30
    rw [show (w.alloc (.cells #[.int .i64 m.W, .int .i64 m.H, .slice oa nw ca, .slice ob ns cb] 25)).heap.size = w.heap.size + 1 by simp, ← hC] at h0
    rw [hW0]; exact (h0.keep ((Turned.refl [] _).alloc _) (by simp))
  have hR : Struct D [.int .i64 0, .int .i64 0, .int .i64 0, .int .i64 0, .int .i64 0, .int .i64 0, .int .i64 0, .int .i64 0] W0 := by
    have h0 := Struct.new ((w.alloc (.cells #[.int .i64 m.W, .int .i64 m.H, .slice oa nw ca, .slice ob ns cb] 25)).alloc (.cells #[.int .i64 id, .int .i64 kind, .int .i64 ax, .int .i64 ay, .int .i64 vx, .int .i64 vy, .int .i64 hh, .int .i64 t] 30)) [.int .i64 0, .int .i64 0, .int .i64 0, .int .i64 0, .int .i64 0, .int .i64 0, .int .i64 0, .int .i64 0] 30
    rw [show ((w.alloc (.cells #[.int .i64 m.W, .int .i64 m.H, .slice oa nw ca, .slice ob ns cb] 25)).alloc (.cells #[.int .i64 id, .int .i64 kind, .int .i64 ax, .int .i64 ay, .int .i64 vx, .int .i64 vy, .int .i64 hh, .int .i64 t] 30)).heap.size = w.heap.size + 1 + 1 by simp, ← hD] at h0
    rw [hW0]; exact h0
  have hBw : w.heap.size ≤ B := by omega
  have hCw : w.heap.size ≤ C := by omega
  have hDw : w.heap.size ≤ D := by omega
  have nBC : B ≠ C := by omega
  have nBD : B ≠ D := by omega
  have nCD : C ≠ D := by omega
  have hM := h.calm hT
  clear hnw hns
  by_cases hF : En.Formed ⟨id, kind, ax, ay, vx, vy, hh, t⟩
  · by_cases h1 : kind = 2
    · have hwk : Mv.rolls ⟨id, kind, ax, ay, vx, vy, hh, t⟩ = true := Mv.rolls_iff.2 ⟨hF, h1⟩
      rw [show fb = true by rw [hfb, decide_eq_true h1, decide_eq_true hF]; rfl] at kfm
      obtain ⟨_, ⟨b1, b2, b3, b4⟩, ⟨b5, b6, b7, b8⟩, _⟩ := hF
      have b1 : -134217728 ≤ ax := b1
      have b2 : ax ≤ 134217728 := b2
      have b3 : -134217728 ≤ ay := b3
      have b4 : ay ≤ 134217728 := b4
      have b5 : -65536 ≤ vx := b5
      have b6 : vx ≤ 65536 := b6
      have b7 : -65536 ≤ vy := b7
      have b8 : vy ≤ 65536 := b8
      have ks := kst ax ay vx vy ⟨b1, b2⟩ ⟨b3, b4⟩ ⟨b5, b6⟩ ⟨b7, b8⟩
      obtain ⟨nx, hnx⟩ : ∃ n, n = Mv.goX m ax ay vx := ⟨_, rfl⟩
      rw [← hnx] at ks
      obtain ⟨ny, hny⟩ : ∃ n, n = Mv.goY m nx ay vy := ⟨_, rfl⟩
      rw [← hny] at ks
      clear h1
      cases hsx : Mv.stands m (ax + vx) ay with
      | false =>
        cases hsy : Mv.stands m nx (ay + vy) with
        | false =>
          have HA : Hid (Mv.roll m ⟨id, kind, ax, ay, vx, vy, hh, t⟩ = ⟨id, kind, nx, ny, -vx, -vy, hh, t⟩) := by
            show _ = _
            simp only [Mv.roll, hwk, if_true, Mv.rolled, Mv.turnX, Mv.turnY, ← hnx, hsx, ← hny, hsy, Bool.false_eq_true, if_false]
          rw [hsx, hsy] at ks
          clear hfb kst hnx hny hsx hsy hwk b1 b2 b3 b4
          go_enter Try.func12, Try.ntmps12
          go_wp2_with fail
          rw [← hW0, ← hD, ← hC, ← hB]
          clear hW0 hB hC hD
          go_wp2_with (go_at_call 18; (with_reducible refine (kfm _).mono ?_); rintro r u0 ⟨rfl, HT0⟩; have hS0 := hS.keep HT0 (by simp); have hE0 := hE.keep HT0 (by simp); have hR0 := hR.keep HT0 (by simp); have hTu0 := hT.trans HT0 (by simp); have d0 := (hS0.2 0 _ rfl).1; have d1 := (hS0.2 1 _ rfl).1; have d2 := (hS0.2 2 _ rfl).1; have d3 := (hS0.2 3 _ rfl).1; have c0 := (hE0.2 0 _ rfl).1; have f0 := (hE0.2 0 _ rfl).2; have c1 := (hE0.2 1 _ rfl).1; have f1 := (hE0.2 1 _ rfl).2; have c2 := (hE0.2 2 _ rfl).1; have f2 := (hE0.2 2 _ rfl).2; have c3 := (hE0.2 3 _ rfl).1; have f3 := (hE0.2 3 _ rfl).2; have c4 := (hE0.2 4 _ rfl).1; have f4 := (hE0.2 4 _ rfl).2; have c5 := (hE0.2 5 _ rfl).1; have f5 := (hE0.2 5 _ rfl).2; have c6 := (hE0.2 6 _ rfl).1; have f6 := (hE0.2 6 _ rfl).2; have c7 := (hE0.2 7 _ rfl).1; have f7 := (hE0.2 7 _ rfl).2; have z0 := (hR0.2 0 _ rfl).1; have y0 := (hR0.2 0 _ rfl).2; have z1 := (hR0.2 1 _ rfl).1; have y1 := (hR0.2 1 _ rfl).2; have z2 := (hR0.2 2 _ rfl).1; have y2 := (hR0.2 2 _ rfl).2; have z3 := (hR0.2 3 _ rfl).1; have y3 := (hR0.2 3 _ rfl).2; have z4 := (hR0.2 4 _ rfl).1; have y4 := (hR0.2 4 _ rfl).2; have z5 := (hR0.2 5 _ rfl).1; have y5 := (hR0.2 5 _ rfl).2; have z6 := (hR0.2 6 _ rfl).1; have y6 := (hR0.2 6 _ rfl).2; have z7 := (hR0.2 7 _ rfl).1; have y7 := (hR0.2 7 _ rfl).2)
          have hMs := h.calm hTu0
          refine (ks _ hMs).mono ?_
          rintro r u1 ⟨rfl, HS1⟩
          have hE1 := (hE0).keep HS1 (by simp)
          have hR1 := (hR0).keep HS1 (by simp)
          have hT1 := (hTu0).trans HS1 (by simp)
          clear hMs HS1 d0 d1 d2 d3 c0 c1 c2 c3 c4 c5 c6 c7 f0 f1 f2 f3 f4 f5 f6 f7 z0 z1 z2 z3 z4 z5 z6 z7 y0 y1 y2 y3 y4 y5 y6 y7
          have c0 := (hE1.2 0 _ rfl).1
          have f0 := (hE1.2 0 _ rfl).2
          have c1 := (hE1.2 1 _ rfl).1
          have f1 := (hE1.2 1 _ rfl).2
          have c2 := (hE1.2 2 _ rfl).1
          have f2 := (hE1.2 2 _ rfl).2
          have c3 := (hE1.2 3 _ rfl).1
          have f3 := (hE1.2 3 _ rfl).2
          have c4 := (hE1.2 4 _ rfl).1
          have f4 := (hE1.2 4 _ rfl).2
          have c5 := (hE1.2 5 _ rfl).1
          have f5 := (hE1.2 5 _ rfl).2
          have c6 := (hE1.2 6 _ rfl).1
          have f6 := (hE1.2 6 _ rfl).2
          have c7 := (hE1.2 7 _ rfl).1
          have f7 := (hE1.2 7 _ rfl).2
          have z0 := (hR1.2 0 _ rfl).1
          have y0 := (hR1.2 0 _ rfl).2
          have z1 := (hR1.2 1 _ rfl).1
          have y1 := (hR1.2 1 _ rfl).2
          have z2 := (hR1.2 2 _ rfl).1
          have y2 := (hR1.2 2 _ rfl).2
          have z3 := (hR1.2 3 _ rfl).1
          have y3 := (hR1.2 3 _ rfl).2
          have z4 := (hR1.2 4 _ rfl).1
          have y4 := (hR1.2 4 _ rfl).2
          have z5 := (hR1.2 5 _ rfl).1
          have y5 := (hR1.2 5 _ rfl).2
          have z6 := (hR1.2 6 _ rfl).1
          have y6 := (hR1.2 6 _ rfl).2
          have z7 := (hR1.2 7 _ rfl).1
          have y7 := (hR1.2 7 _ rfl).2
          have hlt := hE1.1
          have hltD := hR1.1
          have nC : C ≠ u1.heap.size := by omega
          have nD : D ≠ u1.heap.size := by omega
          go_wp2_with fail
          obtain ⟨W9, hW9⟩ : ∃ W9, W9 = MvR.put8 (((((u1).setCell ⟨C, 2, none⟩ (.int .i64 nx)).setCell ⟨C, 3, none⟩ (.int .i64 ny)).setCell ⟨C, 4, none⟩ (.int .i64 (-vx))).setCell ⟨C, 5, none⟩ (.int .i64 (-vy))) D ⟨id, kind, nx, ny, -vx, -vy, hh, t⟩ := ⟨_, rfl⟩
          have hS9 : Struct D (enEnc ⟨id, kind, nx, ny, -vx, -vy, hh, t⟩) W9 := by rw [hW9]; exact MvR.set8 (e := MvR.zeroE) ((((((((hR1).keep ((Turned.refl [C] u1).setCell (p := ⟨C, 2, none⟩) (.inl (by simp)) (.int .i64 nx)) (by simpa using nCD.symm))).keep ((Turned.refl [C] ((u1).setCell ⟨C, 2, none⟩ (.int .i64 nx))).setCell (p := ⟨C, 3, none⟩) (.inl (by simp)) (.int .i64 ny)) (by simpa using nCD.symm))).keep ((Turned.refl [C] (((u1).setCell ⟨C, 2, none⟩ (.int .i64 nx)).setCell ⟨C, 3, none⟩ (.int .i64 ny))).setCell (p := ⟨C, 4, none⟩) (.inl (by simp)) (.int .i64 (-vx))) (by simpa using nCD.symm))).keep ((Turned.refl [C] ((((u1).setCell ⟨C, 2, none⟩ (.int .i64 nx)).setCell ⟨C, 3, none⟩ (.int .i64 ny)).setCell ⟨C, 4, none⟩ (.int .i64 (-vx)))).setCell (p := ⟨C, 5, none⟩) (.inl (by simp)) (.int .i64 (-vy))) (by simpa using nCD.symm)) _
          have hT9 : Turned [] w W9 := by rw [hW9]; exact MvR.turned8 ((((((((hT1).setCell (p := ⟨C, 2, none⟩) (.inr hCw) (.int .i64 nx))).setCell (p := ⟨C, 3, none⟩) (.inr hCw) (.int .i64 ny))).setCell (p := ⟨C, 4, none⟩) (.inr hCw) (.int .i64 (-vx)))).setCell (p := ⟨C, 5, none⟩) (.inr hCw) (.int .i64 (-vy))) (.inr hDw) _
          simp only [MvR.put8] at hW9
          rw [← hW9]
          have e0 := (hS9.2 0 _ rfl).1
          have e1 := (hS9.2 1 _ rfl).1
          have e2 := (hS9.2 2 _ rfl).1
          have e3 := (hS9.2 3 _ rfl).1
          have e4 := (hS9.2 4 _ rfl).1
          have e5 := (hS9.2 5 _ rfl).1
          have e6 := (hS9.2 6 _ rfl).1
          have e7 := (hS9.2 7 _ rfl).1
          simp only [enEnc] at e0 e1 e2 e3 e4 e5 e6 e7
          exact bodyPost_ret (v := enVal ⟨id, kind, nx, ny, -vx, -vy, hh, t⟩) (by simp [World.cell?_alloc_past, hS9.1, results, Try.results12, go_sem, e0, e1, e2, e3, e4, e5, e6, e7]) rfl ⟨by rw [HA.out], hT9.alloc _⟩
        | true =>
          have HA : Hid (Mv.roll m ⟨id, kind, ax, ay, vx, vy, hh, t⟩ = ⟨id, kind, nx, ny, -vx, vy, hh, t⟩) := by
            show _ = _
            simp only [Mv.roll, hwk, if_true, Mv.rolled, Mv.turnX, Mv.turnY, ← hnx, hsx, ← hny, hsy, Bool.false_eq_true, if_false]
          rw [hsx, hsy] at ks
          clear hfb kst hnx hny hsx hsy hwk b1 b2 b3 b4
          go_enter Try.func12, Try.ntmps12
          go_wp2_with fail
          rw [← hW0, ← hD, ← hC, ← hB]
          clear hW0 hB hC hD
          go_wp2_with (go_at_call 18; (with_reducible refine (kfm _).mono ?_); rintro r u0 ⟨rfl, HT0⟩; have hS0 := hS.keep HT0 (by simp); have hE0 := hE.keep HT0 (by simp); have hR0 := hR.keep HT0 (by simp); have hTu0 := hT.trans HT0 (by simp); have d0 := (hS0.2 0 _ rfl).1; have d1 := (hS0.2 1 _ rfl).1; have d2 := (hS0.2 2 _ rfl).1; have d3 := (hS0.2 3 _ rfl).1; have c0 := (hE0.2 0 _ rfl).1; have f0 := (hE0.2 0 _ rfl).2; have c1 := (hE0.2 1 _ rfl).1; have f1 := (hE0.2 1 _ rfl).2; have c2 := (hE0.2 2 _ rfl).1; have f2 := (hE0.2 2 _ rfl).2; have c3 := (hE0.2 3 _ rfl).1; have f3 := (hE0.2 3 _ rfl).2; have c4 := (hE0.2 4 _ rfl).1; have f4 := (hE0.2 4 _ rfl).2; have c5 := (hE0.2 5 _ rfl).1; have f5 := (hE0.2 5 _ rfl).2; have c6 := (hE0.2 6 _ rfl).1; have f6 := (hE0.2 6 _ rfl).2; have c7 := (hE0.2 7 _ rfl).1; have f7 := (hE0.2 7 _ rfl).2; have z0 := (hR0.2 0 _ rfl).1; have y0 := (hR0.2 0 _ rfl).2; have z1 := (hR0.2 1 _ rfl).1; have y1 := (hR0.2 1 _ rfl).2; have z2 := (hR0.2 2 _ rfl).1; have y2 := (hR0.2 2 _ rfl).2; have z3 := (hR0.2 3 _ rfl).1; have y3 := (hR0.2 3 _ rfl).2; have z4 := (hR0.2 4 _ rfl).1; have y4 := (hR0.2 4 _ rfl).2; have z5 := (hR0.2 5 _ rfl).1; have y5 := (hR0.2 5 _ rfl).2; have z6 := (hR0.2 6 _ rfl).1; have y6 := (hR0.2 6 _ rfl).2; have z7 := (hR0.2 7 _ rfl).1; have y7 := (hR0.2 7 _ rfl).2)
          have hMs := h.calm hTu0
          refine (ks _ hMs).mono ?_
          rintro r u1 ⟨rfl, HS1⟩
          have hE1 := (hE0).keep HS1 (by simp)
          have hR1 := (hR0).keep HS1 (by simp)
          have hT1 := (hTu0).trans HS1 (by simp)
          clear hMs HS1 d0 d1 d2 d3 c0 c1 c2 c3 c4 c5 c6 c7 f0 f1 f2 f3 f4 f5 f6 f7 z0 z1 z2 z3 z4 z5 z6 z7 y0 y1 y2 y3 y4 y5 y6 y7
          have c0 := (hE1.2 0 _ rfl).1
          have f0 := (hE1.2 0 _ rfl).2
          have c1 := (hE1.2 1 _ rfl).1
          have f1 := (hE1.2 1 _ rfl).2
          have c2 := (hE1.2 2 _ rfl).1
          have f2 := (hE1.2 2 _ rfl).2
          have c3 := (hE1.2 3 _ rfl).1
          have f3 := (hE1.2 3 _ rfl).2
          have c4 := (hE1.2 4 _ rfl).1
          have f4 := (hE1.2 4 _ rfl).2
          have c5 := (hE1.2 5 _ rfl).1
          have f5 := (hE1.2 5 _ rfl).2
          have c6 := (hE1.2 6 _ rfl).1
          have f6 := (hE1.2 6 _ rfl).2
          have c7 := (hE1.2 7 _ rfl).1
          have f7 := (hE1.2 7 _ rfl).2
          have z0 := (hR1.2 0 _ rfl).1
          have y0 := (hR1.2 0 _ rfl).2
          have z1 := (hR1.2 1 _ rfl).1
          have y1 := (hR1.2 1 _ rfl).2
          have z2 := (hR1.2 2 _ rfl).1
          have y2 := (hR1.2 2 _ rfl).2
          have z3 := (hR1.2 3 _ rfl).1
          have y3 := (hR1.2 3 _ rfl).2
          have z4 := (hR1.2 4 _ rfl).1
          have y4 := (hR1.2 4 _ rfl).2
          have z5 := (hR1.2 5 _ rfl).1
          have y5 := (hR1.2 5 _ rfl).2
          have z6 := (hR1.2 6 _ rfl).1
          have y6 := (hR1.2 6 _ rfl).2
          have z7 := (hR1.2 7 _ rfl).1
          have y7 := (hR1.2 7 _ rfl).2
          have hlt := hE1.1
          have hltD := hR1.1
          have nC : C ≠ u1.heap.size := by omega
          have nD : D ≠ u1.heap.size := by omega
          go_wp2_with fail
          obtain ⟨W9, hW9⟩ : ∃ W9, W9 = MvR.put8 ((((u1).setCell ⟨C, 2, none⟩ (.int .i64 nx)).setCell ⟨C, 3, none⟩ (.int .i64 ny)).setCell ⟨C, 4, none⟩ (.int .i64 (-vx))) D ⟨id, kind, nx, ny, -vx, vy, hh, t⟩ := ⟨_, rfl⟩
          have hS9 : Struct D (enEnc ⟨id, kind, nx, ny, -vx, vy, hh, t⟩) W9 := by rw [hW9]; exact MvR.set8 (e := MvR.zeroE) ((((((hR1).keep ((Turned.refl [C] u1).setCell (p := ⟨C, 2, none⟩) (.inl (by simp)) (.int .i64 nx)) (by simpa using nCD.symm))).keep ((Turned.refl [C] ((u1).setCell ⟨C, 2, none⟩ (.int .i64 nx))).setCell (p := ⟨C, 3, none⟩) (.inl (by simp)) (.int .i64 ny)) (by simpa using nCD.symm))).keep ((Turned.refl [C] (((u1).setCell ⟨C, 2, none⟩ (.int .i64 nx)).setCell ⟨C, 3, none⟩ (.int .i64 ny))).setCell (p := ⟨C, 4, none⟩) (.inl (by simp)) (.int .i64 (-vx))) (by simpa using nCD.symm)) _
          have hT9 : Turned [] w W9 := by rw [hW9]; exact MvR.turned8 ((((((hT1).setCell (p := ⟨C, 2, none⟩) (.inr hCw) (.int .i64 nx))).setCell (p := ⟨C, 3, none⟩) (.inr hCw) (.int .i64 ny))).setCell (p := ⟨C, 4, none⟩) (.inr hCw) (.int .i64 (-vx))) (.inr hDw) _
          simp only [MvR.put8] at hW9
          rw [← hW9]
          have e0 := (hS9.2 0 _ rfl).1
          have e1 := (hS9.2 1 _ rfl).1
          have e2 := (hS9.2 2 _ rfl).1
          have e3 := (hS9.2 3 _ rfl).1
          have e4 := (hS9.2 4 _ rfl).1
          have e5 := (hS9.2 5 _ rfl).1
          have e6 := (hS9.2 6 _ rfl).1
          have e7 := (hS9.2 7 _ rfl).1
          simp only [enEnc] at e0 e1 e2 e3 e4 e5 e6 e7
          exact bodyPost_ret (v := enVal ⟨id, kind, nx, ny, -vx, vy, hh, t⟩) (by simp [World.cell?_alloc_past, hS9.1, results, Try.results12, go_sem, e0, e1, e2, e3, e4, e5, e6, e7]) rfl ⟨by rw [HA.out], hT9.alloc _⟩
      | true =>
        cases hsy : Mv.stands m nx (ay + vy) with
        | false =>
          have HA : Hid (Mv.roll m ⟨id, kind, ax, ay, vx, vy, hh, t⟩ = ⟨id, kind, nx, ny, vx, -vy, hh, t⟩) := by
            show _ = _
            simp only [Mv.roll, hwk, if_true, Mv.rolled, Mv.turnX, Mv.turnY, ← hnx, hsx, ← hny, hsy, Bool.false_eq_true, if_false]
          rw [hsx, hsy] at ks
          clear hfb kst hnx hny hsx hsy hwk b1 b2 b3 b4
          go_enter Try.func12, Try.ntmps12
          go_wp2_with fail
          rw [← hW0, ← hD, ← hC, ← hB]
          clear hW0 hB hC hD
          go_wp2_with (go_at_call 18; (with_reducible refine (kfm _).mono ?_); rintro r u0 ⟨rfl, HT0⟩; have hS0 := hS.keep HT0 (by simp); have hE0 := hE.keep HT0 (by simp); have hR0 := hR.keep HT0 (by simp); have hTu0 := hT.trans HT0 (by simp); have d0 := (hS0.2 0 _ rfl).1; have d1 := (hS0.2 1 _ rfl).1; have d2 := (hS0.2 2 _ rfl).1; have d3 := (hS0.2 3 _ rfl).1; have c0 := (hE0.2 0 _ rfl).1; have f0 := (hE0.2 0 _ rfl).2; have c1 := (hE0.2 1 _ rfl).1; have f1 := (hE0.2 1 _ rfl).2; have c2 := (hE0.2 2 _ rfl).1; have f2 := (hE0.2 2 _ rfl).2; have c3 := (hE0.2 3 _ rfl).1; have f3 := (hE0.2 3 _ rfl).2; have c4 := (hE0.2 4 _ rfl).1; have f4 := (hE0.2 4 _ rfl).2; have c5 := (hE0.2 5 _ rfl).1; have f5 := (hE0.2 5 _ rfl).2; have c6 := (hE0.2 6 _ rfl).1; have f6 := (hE0.2 6 _ rfl).2; have c7 := (hE0.2 7 _ rfl).1; have f7 := (hE0.2 7 _ rfl).2; have z0 := (hR0.2 0 _ rfl).1; have y0 := (hR0.2 0 _ rfl).2; have z1 := (hR0.2 1 _ rfl).1; have y1 := (hR0.2 1 _ rfl).2; have z2 := (hR0.2 2 _ rfl).1; have y2 := (hR0.2 2 _ rfl).2; have z3 := (hR0.2 3 _ rfl).1; have y3 := (hR0.2 3 _ rfl).2; have z4 := (hR0.2 4 _ rfl).1; have y4 := (hR0.2 4 _ rfl).2; have z5 := (hR0.2 5 _ rfl).1; have y5 := (hR0.2 5 _ rfl).2; have z6 := (hR0.2 6 _ rfl).1; have y6 := (hR0.2 6 _ rfl).2; have z7 := (hR0.2 7 _ rfl).1; have y7 := (hR0.2 7 _ rfl).2)
          have hMs := h.calm hTu0
          refine (ks _ hMs).mono ?_
          rintro r u1 ⟨rfl, HS1⟩
          have hE1 := (hE0).keep HS1 (by simp)
          have hR1 := (hR0).keep HS1 (by simp)
          have hT1 := (hTu0).trans HS1 (by simp)
          clear hMs HS1 d0 d1 d2 d3 c0 c1 c2 c3 c4 c5 c6 c7 f0 f1 f2 f3 f4 f5 f6 f7 z0 z1 z2 z3 z4 z5 z6 z7 y0 y1 y2 y3 y4 y5 y6 y7
          have c0 := (hE1.2 0 _ rfl).1
          have f0 := (hE1.2 0 _ rfl).2
          have c1 := (hE1.2 1 _ rfl).1
          have f1 := (hE1.2 1 _ rfl).2
          have c2 := (hE1.2 2 _ rfl).1
          have f2 := (hE1.2 2 _ rfl).2
          have c3 := (hE1.2 3 _ rfl).1
          have f3 := (hE1.2 3 _ rfl).2
          have c4 := (hE1.2 4 _ rfl).1
          have f4 := (hE1.2 4 _ rfl).2
          have c5 := (hE1.2 5 _ rfl).1
          have f5 := (hE1.2 5 _ rfl).2
          have c6 := (hE1.2 6 _ rfl).1
          have f6 := (hE1.2 6 _ rfl).2
          have c7 := (hE1.2 7 _ rfl).1
          have f7 := (hE1.2 7 _ rfl).2
          have z0 := (hR1.2 0 _ rfl).1
          have y0 := (hR1.2 0 _ rfl).2
          have z1 := (hR1.2 1 _ rfl).1
          have y1 := (hR1.2 1 _ rfl).2
          have z2 := (hR1.2 2 _ rfl).1
          have y2 := (hR1.2 2 _ rfl).2
          have z3 := (hR1.2 3 _ rfl).1
          have y3 := (hR1.2 3 _ rfl).2
          have z4 := (hR1.2 4 _ rfl).1
          have y4 := (hR1.2 4 _ rfl).2
          have z5 := (hR1.2 5 _ rfl).1
          have y5 := (hR1.2 5 _ rfl).2
          have z6 := (hR1.2 6 _ rfl).1
          have y6 := (hR1.2 6 _ rfl).2
          have z7 := (hR1.2 7 _ rfl).1
          have y7 := (hR1.2 7 _ rfl).2
          have hlt := hE1.1
          have hltD := hR1.1
          have nC : C ≠ u1.heap.size := by omega
          have nD : D ≠ u1.heap.size := by omega
          go_wp2_with fail
          obtain ⟨W9, hW9⟩ : ∃ W9, W9 = MvR.put8 ((((u1).setCell ⟨C, 2, none⟩ (.int .i64 nx)).setCell ⟨C, 3, none⟩ (.int .i64 ny)).setCell ⟨C, 5, none⟩ (.int .i64 (-vy))) D ⟨id, kind, nx, ny, vx, -vy, hh, t⟩ := ⟨_, rfl⟩
          have hS9 : Struct D (enEnc ⟨id, kind, nx, ny, vx, -vy, hh, t⟩) W9 := by rw [hW9]; exact MvR.set8 (e := MvR.zeroE) ((((((hR1).keep ((Turned.refl [C] u1).setCell (p := ⟨C, 2, none⟩) (.inl (by simp)) (.int .i64 nx)) (by simpa using nCD.symm))).keep ((Turned.refl [C] ((u1).setCell ⟨C, 2, none⟩ (.int .i64 nx))).setCell (p := ⟨C, 3, none⟩) (.inl (by simp)) (.int .i64 ny)) (by simpa using nCD.symm))).keep ((Turned.refl [C] (((u1).setCell ⟨C, 2, none⟩ (.int .i64 nx)).setCell ⟨C, 3, none⟩ (.int .i64 ny))).setCell (p := ⟨C, 5, none⟩) (.inl (by simp)) (.int .i64 (-vy))) (by simpa using nCD.symm)) _
          have hT9 : Turned [] w W9 := by rw [hW9]; exact MvR.turned8 ((((((hT1).setCell (p := ⟨C, 2, none⟩) (.inr hCw) (.int .i64 nx))).setCell (p := ⟨C, 3, none⟩) (.inr hCw) (.int .i64 ny))).setCell (p := ⟨C, 5, none⟩) (.inr hCw) (.int .i64 (-vy))) (.inr hDw) _
          simp only [MvR.put8] at hW9
          rw [← hW9]
          have e0 := (hS9.2 0 _ rfl).1
          have e1 := (hS9.2 1 _ rfl).1
          have e2 := (hS9.2 2 _ rfl).1
          have e3 := (hS9.2 3 _ rfl).1
          have e4 := (hS9.2 4 _ rfl).1
          have e5 := (hS9.2 5 _ rfl).1
          have e6 := (hS9.2 6 _ rfl).1
          have e7 := (hS9.2 7 _ rfl).1
          simp only [enEnc] at e0 e1 e2 e3 e4 e5 e6 e7
          exact bodyPost_ret (v := enVal ⟨id, kind, nx, ny, vx, -vy, hh, t⟩) (by simp [World.cell?_alloc_past, hS9.1, results, Try.results12, go_sem, e0, e1, e2, e3, e4, e5, e6, e7]) rfl ⟨by rw [HA.out], hT9.alloc _⟩
        | true =>
          have HA : Hid (Mv.roll m ⟨id, kind, ax, ay, vx, vy, hh, t⟩ = ⟨id, kind, nx, ny, vx, vy, hh, t⟩) := by
            show _ = _
            simp only [Mv.roll, hwk, if_true, Mv.rolled, Mv.turnX, Mv.turnY, ← hnx, hsx, ← hny, hsy, Bool.false_eq_true, if_false]
          rw [hsx, hsy] at ks
          clear hfb kst hnx hny hsx hsy hwk b1 b2 b3 b4
          go_enter Try.func12, Try.ntmps12
          go_wp2_with fail
          rw [← hW0, ← hD, ← hC, ← hB]
          clear hW0 hB hC hD
          go_wp2_with (go_at_call 18; (with_reducible refine (kfm _).mono ?_); rintro r u0 ⟨rfl, HT0⟩; have hS0 := hS.keep HT0 (by simp); have hE0 := hE.keep HT0 (by simp); have hR0 := hR.keep HT0 (by simp); have hTu0 := hT.trans HT0 (by simp); have d0 := (hS0.2 0 _ rfl).1; have d1 := (hS0.2 1 _ rfl).1; have d2 := (hS0.2 2 _ rfl).1; have d3 := (hS0.2 3 _ rfl).1; have c0 := (hE0.2 0 _ rfl).1; have f0 := (hE0.2 0 _ rfl).2; have c1 := (hE0.2 1 _ rfl).1; have f1 := (hE0.2 1 _ rfl).2; have c2 := (hE0.2 2 _ rfl).1; have f2 := (hE0.2 2 _ rfl).2; have c3 := (hE0.2 3 _ rfl).1; have f3 := (hE0.2 3 _ rfl).2; have c4 := (hE0.2 4 _ rfl).1; have f4 := (hE0.2 4 _ rfl).2; have c5 := (hE0.2 5 _ rfl).1; have f5 := (hE0.2 5 _ rfl).2; have c6 := (hE0.2 6 _ rfl).1; have f6 := (hE0.2 6 _ rfl).2; have c7 := (hE0.2 7 _ rfl).1; have f7 := (hE0.2 7 _ rfl).2; have z0 := (hR0.2 0 _ rfl).1; have y0 := (hR0.2 0 _ rfl).2; have z1 := (hR0.2 1 _ rfl).1; have y1 := (hR0.2 1 _ rfl).2; have z2 := (hR0.2 2 _ rfl).1; have y2 := (hR0.2 2 _ rfl).2; have z3 := (hR0.2 3 _ rfl).1; have y3 := (hR0.2 3 _ rfl).2; have z4 := (hR0.2 4 _ rfl).1; have y4 := (hR0.2 4 _ rfl).2; have z5 := (hR0.2 5 _ rfl).1; have y5 := (hR0.2 5 _ rfl).2; have z6 := (hR0.2 6 _ rfl).1; have y6 := (hR0.2 6 _ rfl).2; have z7 := (hR0.2 7 _ rfl).1; have y7 := (hR0.2 7 _ rfl).2)
          have hMs := h.calm hTu0
          refine (ks _ hMs).mono ?_
          rintro r u1 ⟨rfl, HS1⟩
          have hE1 := (hE0).keep HS1 (by simp)
          have hR1 := (hR0).keep HS1 (by simp)
          have hT1 := (hTu0).trans HS1 (by simp)
          clear hMs HS1 d0 d1 d2 d3 c0 c1 c2 c3 c4 c5 c6 c7 f0 f1 f2 f3 f4 f5 f6 f7 z0 z1 z2 z3 z4 z5 z6 z7 y0 y1 y2 y3 y4 y5 y6 y7
          have c0 := (hE1.2 0 _ rfl).1
          have f0 := (hE1.2 0 _ rfl).2
          have c1 := (hE1.2 1 _ rfl).1
          have f1 := (hE1.2 1 _ rfl).2
          have c2 := (hE1.2 2 _ rfl).1
          have f2 := (hE1.2 2 _ rfl).2
          have c3 := (hE1.2 3 _ rfl).1
          have f3 := (hE1.2 3 _ rfl).2
          have c4 := (hE1.2 4 _ rfl).1
          have f4 := (hE1.2 4 _ rfl).2
          have c5 := (hE1.2 5 _ rfl).1
          have f5 := (hE1.2 5 _ rfl).2
          have c6 := (hE1.2 6 _ rfl).1
          have f6 := (hE1.2 6 _ rfl).2
          have c7 := (hE1.2 7 _ rfl).1
          have f7 := (hE1.2 7 _ rfl).2
          have z0 := (hR1.2 0 _ rfl).1
          have y0 := (hR1.2 0 _ rfl).2
          have z1 := (hR1.2 1 _ rfl).1
          have y1 := (hR1.2 1 _ rfl).2
          have z2 := (hR1.2 2 _ rfl).1
          have y2 := (hR1.2 2 _ rfl).2
          have z3 := (hR1.2 3 _ rfl).1
          have y3 := (hR1.2 3 _ rfl).2
          have z4 := (hR1.2 4 _ rfl).1
          have y4 := (hR1.2 4 _ rfl).2
          have z5 := (hR1.2 5 _ rfl).1
          have y5 := (hR1.2 5 _ rfl).2
          have z6 := (hR1.2 6 _ rfl).1
          have y6 := (hR1.2 6 _ rfl).2
          have z7 := (hR1.2 7 _ rfl).1
          have y7 := (hR1.2 7 _ rfl).2
          have hlt := hE1.1
          have hltD := hR1.1
          have nC : C ≠ u1.heap.size := by omega
          have nD : D ≠ u1.heap.size := by omega
          go_wp2_with fail
          obtain ⟨W9, hW9⟩ : ∃ W9, W9 = MvR.put8 (((u1).setCell ⟨C, 2, none⟩ (.int .i64 nx)).setCell ⟨C, 3, none⟩ (.int .i64 ny)) D ⟨id, kind, nx, ny, vx, vy, hh, t⟩ := ⟨_, rfl⟩
          have hS9 : Struct D (enEnc ⟨id, kind, nx, ny, vx, vy, hh, t⟩) W9 := by rw [hW9]; exact MvR.set8 (e := MvR.zeroE) ((((hR1).keep ((Turned.refl [C] u1).setCell (p := ⟨C, 2, none⟩) (.inl (by simp)) (.int .i64 nx)) (by simpa using nCD.symm))).keep ((Turned.refl [C] ((u1).setCell ⟨C, 2, none⟩ (.int .i64 nx))).setCell (p := ⟨C, 3, none⟩) (.inl (by simp)) (.int .i64 ny)) (by simpa using nCD.symm)) _
          have hT9 : Turned [] w W9 := by rw [hW9]; exact MvR.turned8 ((((hT1).setCell (p := ⟨C, 2, none⟩) (.inr hCw) (.int .i64 nx))).setCell (p := ⟨C, 3, none⟩) (.inr hCw) (.int .i64 ny)) (.inr hDw) _
          simp only [MvR.put8] at hW9
          rw [← hW9]
          have e0 := (hS9.2 0 _ rfl).1
          have e1 := (hS9.2 1 _ rfl).1
          have e2 := (hS9.2 2 _ rfl).1
          have e3 := (hS9.2 3 _ rfl).1
          have e4 := (hS9.2 4 _ rfl).1
          have e5 := (hS9.2 5 _ rfl).1
          have e6 := (hS9.2 6 _ rfl).1
          have e7 := (hS9.2 7 _ rfl).1
          simp only [enEnc] at e0 e1 e2 e3 e4 e5 e6 e7
          exact bodyPost_ret (v := enVal ⟨id, kind, nx, ny, vx, vy, hh, t⟩) (by simp [World.cell?_alloc_past, hS9.1, results, Try.results12, go_sem, e0, e1, e2, e3, e4, e5, e6, e7]) rfl ⟨by rw [HA.out], hT9.alloc _⟩
    · have HA : Hid (Mv.roll m ⟨id, kind, ax, ay, vx, vy, hh, t⟩ = ⟨id, kind, ax, ay, vx, vy, hh, t⟩) := by
        show _ = _
        unfold Mv.roll
        rw [if_neg]
        rw [Mv.rolls_iff]
        rintro ⟨_, hn⟩
        exact h1 hn
      rw [show fb = false by rw [hfb, decide_eq_false h1]; rfl] at kfm
      clear h1 hF
      clear hfb kst
      go_enter Try.func12, Try.ntmps12
      go_wp2_with fail
      rw [← hW0, ← hD, ← hC, ← hB]
      clear hW0 hB hC hD
      go_wp2_with (go_at_call 18; (with_reducible refine (kfm _).mono ?_); rintro r u0 ⟨rfl, HT0⟩; have hS0 := hS.keep HT0 (by simp); have hE0 := hE.keep HT0 (by simp); have hR0 := hR.keep HT0 (by simp); have hTu0 := hT.trans HT0 (by simp); have d0 := (hS0.2 0 _ rfl).1; have d1 := (hS0.2 1 _ rfl).1; have d2 := (hS0.2 2 _ rfl).1; have d3 := (hS0.2 3 _ rfl).1; have c0 := (hE0.2 0 _ rfl).1; have f0 := (hE0.2 0 _ rfl).2; have c1 := (hE0.2 1 _ rfl).1; have f1 := (hE0.2 1 _ rfl).2; have c2 := (hE0.2 2 _ rfl).1; have f2 := (hE0.2 2 _ rfl).2; have c3 := (hE0.2 3 _ rfl).1; have f3 := (hE0.2 3 _ rfl).2; have c4 := (hE0.2 4 _ rfl).1; have f4 := (hE0.2 4 _ rfl).2; have c5 := (hE0.2 5 _ rfl).1; have f5 := (hE0.2 5 _ rfl).2; have c6 := (hE0.2 6 _ rfl).1; have f6 := (hE0.2 6 _ rfl).2; have c7 := (hE0.2 7 _ rfl).1; have f7 := (hE0.2 7 _ rfl).2; have z0 := (hR0.2 0 _ rfl).1; have y0 := (hR0.2 0 _ rfl).2; have z1 := (hR0.2 1 _ rfl).1; have y1 := (hR0.2 1 _ rfl).2; have z2 := (hR0.2 2 _ rfl).1; have y2 := (hR0.2 2 _ rfl).2; have z3 := (hR0.2 3 _ rfl).1; have y3 := (hR0.2 3 _ rfl).2; have z4 := (hR0.2 4 _ rfl).1; have y4 := (hR0.2 4 _ rfl).2; have z5 := (hR0.2 5 _ rfl).1; have y5 := (hR0.2 5 _ rfl).2; have z6 := (hR0.2 6 _ rfl).1; have y6 := (hR0.2 6 _ rfl).2; have z7 := (hR0.2 7 _ rfl).1; have y7 := (hR0.2 7 _ rfl).2)
      obtain ⟨W9, hW9⟩ : ∃ W9, W9 = MvR.put8 u0 D ⟨id, kind, ax, ay, vx, vy, hh, t⟩ := ⟨_, rfl⟩
      have hS9 : Struct D (enEnc ⟨id, kind, ax, ay, vx, vy, hh, t⟩) W9 := by rw [hW9]; exact MvR.set8 (e := MvR.zeroE) hR0 _
      have hT9 : Turned [] w W9 := by rw [hW9]; exact MvR.turned8 hTu0 (.inr hDw) _
      simp only [MvR.put8] at hW9
      rw [← hW9]
      have e0 := (hS9.2 0 _ rfl).1
      have e1 := (hS9.2 1 _ rfl).1
      have e2 := (hS9.2 2 _ rfl).1
      have e3 := (hS9.2 3 _ rfl).1
      have e4 := (hS9.2 4 _ rfl).1
      have e5 := (hS9.2 5 _ rfl).1
      have e6 := (hS9.2 6 _ rfl).1
      have e7 := (hS9.2 7 _ rfl).1
      simp only [enEnc] at e0 e1 e2 e3 e4 e5 e6 e7
      exact bodyPost_ret (v := enVal ⟨id, kind, ax, ay, vx, vy, hh, t⟩) (by simp [results, Try.results12, go_sem, e0, e1, e2, e3, e4, e5, e6, e7]) rfl ⟨by rw [HA.out], hT9⟩
  · have HA : Hid (Mv.roll m ⟨id, kind, ax, ay, vx, vy, hh, t⟩ = ⟨id, kind, ax, ay, vx, vy, hh, t⟩) := by
      show _ = _
      unfold Mv.roll
      rw [if_neg]
      rw [Mv.rolls_iff]
      rintro ⟨hn, _⟩
      exact hF hn
    rw [show fb = false by rw [hfb, decide_eq_false hF, Bool.and_false]] at kfm
    clear hF
    clear hfb kst
    go_enter Try.func12, Try.ntmps12
    go_wp2_with fail
    rw [← hW0, ← hD, ← hC, ← hB]
    clear hW0 hB hC hD
    go_wp2_with (go_at_call 18; (with_reducible refine (kfm _).mono ?_); rintro r u0 ⟨rfl, HT0⟩; have hS0 := hS.keep HT0 (by simp); have hE0 := hE.keep HT0 (by simp); have hR0 := hR.keep HT0 (by simp); have hTu0 := hT.trans HT0 (by simp); have d0 := (hS0.2 0 _ rfl).1; have d1 := (hS0.2 1 _ rfl).1; have d2 := (hS0.2 2 _ rfl).1; have d3 := (hS0.2 3 _ rfl).1; have c0 := (hE0.2 0 _ rfl).1; have f0 := (hE0.2 0 _ rfl).2; have c1 := (hE0.2 1 _ rfl).1; have f1 := (hE0.2 1 _ rfl).2; have c2 := (hE0.2 2 _ rfl).1; have f2 := (hE0.2 2 _ rfl).2; have c3 := (hE0.2 3 _ rfl).1; have f3 := (hE0.2 3 _ rfl).2; have c4 := (hE0.2 4 _ rfl).1; have f4 := (hE0.2 4 _ rfl).2; have c5 := (hE0.2 5 _ rfl).1; have f5 := (hE0.2 5 _ rfl).2; have c6 := (hE0.2 6 _ rfl).1; have f6 := (hE0.2 6 _ rfl).2; have c7 := (hE0.2 7 _ rfl).1; have f7 := (hE0.2 7 _ rfl).2; have z0 := (hR0.2 0 _ rfl).1; have y0 := (hR0.2 0 _ rfl).2; have z1 := (hR0.2 1 _ rfl).1; have y1 := (hR0.2 1 _ rfl).2; have z2 := (hR0.2 2 _ rfl).1; have y2 := (hR0.2 2 _ rfl).2; have z3 := (hR0.2 3 _ rfl).1; have y3 := (hR0.2 3 _ rfl).2; have z4 := (hR0.2 4 _ rfl).1; have y4 := (hR0.2 4 _ rfl).2; have z5 := (hR0.2 5 _ rfl).1; have y5 := (hR0.2 5 _ rfl).2; have z6 := (hR0.2 6 _ rfl).1; have y6 := (hR0.2 6 _ rfl).2; have z7 := (hR0.2 7 _ rfl).1; have y7 := (hR0.2 7 _ rfl).2)
    obtain ⟨W9, hW9⟩ : ∃ W9, W9 = MvR.put8 u0 D ⟨id, kind, ax, ay, vx, vy, hh, t⟩ := ⟨_, rfl⟩
    have hS9 : Struct D (enEnc ⟨id, kind, ax, ay, vx, vy, hh, t⟩) W9 := by rw [hW9]; exact MvR.set8 (e := MvR.zeroE) hR0 _
    have hT9 : Turned [] w W9 := by rw [hW9]; exact MvR.turned8 hTu0 (.inr hDw) _
    simp only [MvR.put8] at hW9
    rw [← hW9]
    have e0 := (hS9.2 0 _ rfl).1
    have e1 := (hS9.2 1 _ rfl).1
    have e2 := (hS9.2 2 _ rfl).1
    have e3 := (hS9.2 3 _ rfl).1
    have e4 := (hS9.2 4 _ rfl).1
    have e5 := (hS9.2 5 _ rfl).1
    have e6 := (hS9.2 6 _ rfl).1
    have e7 := (hS9.2 7 _ rfl).1
    simp only [enEnc] at e0 e1 e2 e3 e4 e5 e6 e7
    exact bodyPost_ret (v := enVal ⟨id, kind, ax, ay, vx, vy, hh, t⟩) (by simp [results, Try.results12, go_sem, e0, e1, e2, e3, e4, e5, e6, e7]) rfl ⟨by rw [HA.out], hT9⟩

/-- what the laws lean on -/
theorem contracts : Contracts where
  stands := stands_any
  walk := fun m oa ca ob cb e mx my _ hx hy w h => walk_any m oa ca ob cb e mx my hx hy w h
  roll := fun m oa ca ob cb e _ w h => roll_any m oa ca ob cb e w h
end MvW
end Go.Proofs.Ytbfffgnalopfbaa

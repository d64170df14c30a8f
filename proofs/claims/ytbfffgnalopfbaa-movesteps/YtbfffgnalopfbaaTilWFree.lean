/- Whether a box is free: the program's (TiW). -/
import Derived.Test.YtbfffgnalopfbaaTilWForm
import Derived.Test.YtbfffgnalopfbaaBoxCalls
namespace Go.Proofs.Ytbfffgnalopfbaa
open Go.RowKit
set_option linter.unusedVariables false
set_option linter.unusedSimpArgs false

namespace TiW
/-- whether a tile that is a wall overlaps a box -/
def hit (m : Ti.M) (b : Ti.Bx) (x y : Nat) : Bool := inWall m x y && Bx.overlap b.lx b.ly b.mx b.my ((x : Int) * 65536) ((y : Int) * 65536) (((x : Int) + 1) * 65536) (((y : Int) + 1) * 65536)
theorem hit_iff {m : Ti.M} {b : Ti.Bx} (hF : Ti.Formed m) (hW : Ti.Within m b) {x y : Nat} (hx : x ≤ 32) (hy : y ≤ 32) : hit m b x y = true ↔ x < m.W.toNat ∧ y < m.H.toNat ∧ Ti.wall m x y = true ∧ Ti.Over x y b := by
  have hbf := TiR.within_formed hF.1 hW
  have htf : Bx.formed ((x : Int) * 65536) ((y : Int) * 65536) (((x : Int) + 1) * 65536) (((y : Int) + 1) * 65536) = true := by
    unfold Bx.formed Vc.formedB Vc.inL
    simp
    omega
  obtain ⟨w1, w2, w3, w4, w5, w6⟩ := hW
  obtain ⟨d1, d2, d3, d4, _⟩ := hF.1
  unfold hit Bx.overlap Bx.laps inWall Ti.Over
  rw [hbf, htf, Int.toNat_natCast, Int.toNat_natCast]
  simp only [Bool.and_eq_true, Bool.or_eq_true, decide_eq_true_eq, Bool.true_and]
  constructor
  · rintro ⟨h1, ⟨h2, h3⟩, h4, h5⟩
    have a1 : x < m.W.toNat := by omega
    have a2 : y < m.H.toNat := by omega
    refine ⟨a1, a2, ?_, h3, by omega, h5, by omega⟩
    rcases h1 with h | h
    · omega
    · exact h
  · rintro ⟨a1, a2, h1, h2, h3, h4, h5⟩
    exact ⟨.inr h1, ⟨by omega, h2⟩, by omega, h4⟩
theorem free_of {m : Ti.M} {b : Ti.Bx} (hF : Ti.Formed m) (hW : Ti.Within m b) (h : ∀ x y : Nat, b.lx / 65536 ≤ (x : Int) → (x : Int) ≤ b.mx / 65536 → b.ly / 65536 ≤ (y : Int) → (y : Int) ≤ b.my / 65536 → hit m b x y = false) : Ti.Free m b := by
  refine ⟨hF, hW, ?_⟩
  intro x y hx hy hw ho
  have hD := hF.1
  have := h x y (by obtain ⟨h1, h2, h3, h4⟩ := ho; omega) (by obtain ⟨h1, h2, h3, h4⟩ := ho; omega) (by obtain ⟨h1, h2, h3, h4⟩ := ho; omega) (by obtain ⟨h1, h2, h3, h4⟩ := ho; omega)
  rw [(hit_iff hF hW (by have := hD.2.1; omega) (by have := hD.2.2.2.1; omega)).2 ⟨hx, hy, hw, ho⟩] at this
  cases this
theorem free_not {m : Ti.M} {b : Ti.Bx} {x y : Nat} (hF : Ti.Formed m) (hW : Ti.Within m b) (hx : x ≤ 32) (hy : y ≤ 32) (h : hit m b x y = true) : ¬ Ti.Free m b := by
  intro hf
  obtain ⟨h1, h2, h3, h4⟩ := (hit_iff hF hW hx hy).1 h
  exact hf.2.2 x y h1 h2 h3 h4

set_option maxHeartbeats 1000000 in
theorem tile_any (x y : Int) (hx0 : 0 ≤ x) (hx : x ≤ 900) (hy0 : 0 ≤ y) (hy : y ≤ 900) (w : World) :
    Calls Try.prog 43 #[.int .i64 x, .int .i64 y] w fun e w' => e = .returned (.agg #[.int .i64 (x * 65536), .int .i64 (y * 65536), .int .i64 ((x + 1) * 65536), .int .i64 ((y + 1) * 65536)]) ∧ Turned [] w w' := by
  have k1 := fun u => corner_any x y hx0 (by omega) hy0 (by omega) u
  have k2 := fun u => corner_any (x + 1) (y + 1) (by omega) (by omega) (by omega) (by omega) u
  go_enter Try.func43, Try.ntmps43
  go_wp2_with (first | (go_at_call_of 65 (Value.int IntKind.i64 x); refine (k1 _).mono ?_; rintro e u1 ⟨rfl, hT1⟩) | (go_at_call 65; refine (k2 _).mono ?_; rintro e u2 ⟨rfl, hT2⟩; have hS := (Struct.new w [.int .i64 0, .int .i64 0, .int .i64 0, .int .i64 0] 60).keep (hT1.trans hT2 (by simp)) (by simp); have z0 := (hS.2 0 _ rfl).1; have y0 := (hS.2 0 _ rfl).2; have z1 := (hS.2 1 _ rfl).1; have y1 := (hS.2 1 _ rfl).2; have z2 := (hS.2 2 _ rfl).1; have y2 := (hS.2 2 _ rfl).2; have z3 := (hS.2 3 _ rfl).1; have y3 := (hS.2 3 _ rfl).2; have hl := hS.1))
  obtain ⟨W9, hW9⟩ : ∃ W9, W9 = TiR.put4 u2 w.heap.size (.int .i64 (x * 65536)) (.int .i64 (y * 65536)) (.int .i64 ((x + 1) * 65536)) (.int .i64 ((y + 1) * 65536)) := ⟨_, rfl⟩
  have hS9 := TiR.set4 rfl hS (.int .i64 (x * 65536)) (.int .i64 (y * 65536)) (.int .i64 ((x + 1) * 65536)) (.int .i64 ((y + 1) * 65536))
  rw [← hW9] at hS9
  have hT9 : Turned [] w W9 := by rw [hW9]; exact TiR.turned4 (((Turned.refl [] w).alloc _).trans (hT1.trans hT2 (by simp)) (by simp)) (.inr (Nat.le_refl _)) _ _ _ _
  unfold TiR.put4 at hW9
  rw [← hW9]
  have g0 := (hS9.2 0 _ rfl).1
  have g1 := (hS9.2 1 _ rfl).1
  have g2 := (hS9.2 2 _ rfl).1
  have g3 := (hS9.2 3 _ rfl).1
  exact bodyPost_ret (v := .agg #[.int .i64 (x * 65536), .int .i64 (y * 65536), .int .i64 ((x + 1) * 65536), .int .i64 ((y + 1) * 65536)]) (by simp [results, Try.results43, go_sem, g0, g1, g2, g3]) rfl ⟨rfl, hT9⟩

def holdsB (m : Ti.M) (b : Ti.Bx) : Bool := Bx.inB b.lx b.ly 0 0 (m.W * 65536) (m.H * 65536) && Bx.inB b.mx b.my 0 0 (m.W * 65536) (m.H * 65536)
set_option maxHeartbeats 2000000 in
theorem holds_any (m : Ti.M) (hW1 : 1 ≤ m.W) (hW2 : m.W ≤ 32) (hH1 : 1 ≤ m.H) (hH2 : m.H ≤ 32) (b : Ti.Bx) (oa : Option Addr) (nw ca : Nat) (ob : Option Addr) (ns cb : Nat) (w : World) :
    Calls Try.prog 39 #[.agg #[.int .i64 m.W, .int .i64 m.H, .slice oa nw ca, .slice ob ns cb], .agg #[.int .i64 b.lx, .int .i64 b.ly, .int .i64 b.mx, .int .i64 b.my]] w fun e w' => e = .returned (.bool (holdsB m b)) ∧ Turned [] w w' := by
  have kc := fun u => corner_any m.W m.H (by omega) (by omega) (by omega) (by omega) u
  have k1 := fun u => BxW.in_any b.lx b.ly 0 0 (m.W * 65536) (m.H * 65536) u
  have k2 := fun u => BxW.in_any b.mx b.my 0 0 (m.W * 65536) (m.H * 65536) u
  unfold holdsB
  obtain ⟨W0, hW0⟩ : ∃ W0, W0 = (w.alloc (.cells #[.int .i64 m.W, .int .i64 m.H, .slice oa nw ca, .slice ob ns cb] 25)).alloc (.cells #[.int .i64 b.lx, .int .i64 b.ly, .int .i64 b.mx, .int .i64 b.my] 60) := ⟨_, rfl⟩
  obtain ⟨B, hB⟩ : ∃ B, B = w.heap.size := ⟨_, rfl⟩
  obtain ⟨C, hC⟩ : ∃ C, C = w.heap.size + 1 := ⟨_, rfl⟩
  have hT : Turned [] w W0 := by rw [hW0]; exact ((Turned.refl [] w).alloc _).alloc _
  have hS : Struct B [.int .i64 m.W, .int .i64 m.H, .slice oa nw ca, .slice ob ns cb] W0 := by rw [hW0, hB]; exact (Struct.new w [.int .i64 m.W, .int .i64 m.H, .slice oa nw ca, .slice ob ns cb] _).keep ((Turned.refl [] _).alloc _) (by simp)
  have hP : Struct C [.int .i64 b.lx, .int .i64 b.ly, .int .i64 b.mx, .int .i64 b.my] W0 := by
    have := Struct.new (w.alloc (.cells #[.int .i64 m.W, .int .i64 m.H, .slice oa nw ca, .slice ob ns cb] 25)) [.int .i64 b.lx, .int .i64 b.ly, .int .i64 b.mx, .int .i64 b.my] 60
    rw [show (w.alloc (.cells #[.int .i64 m.W, .int .i64 m.H, .slice oa nw ca, .slice ob ns cb] 25)).heap.size = w.heap.size + 1 by simp, ← hC] at this
    rw [hW0]; exact this
  have s0 := (hS.2 0 _ rfl).1
  have s1 := (hS.2 1 _ rfl).1
  cases h1 : Bx.inB b.lx b.ly 0 0 (m.W * 65536) (m.H * 65536) with
  | false =>
    rw [h1] at k1
    go_enter Try.func39, Try.ntmps39
    go_wp2_with fail
    rw [← hW0, ← hC, ← hB]
    clear hW0 hC hB
    go_wp2_with (first | (go_at_call 65; refine (kc _).mono ?_; rintro e u1 ⟨rfl, hT1⟩; have p0 := fun o => (((hP.keep hT1 (by simp)).keep ((Turned.refl [] u1).alloc o) (by simp)).2 0 _ rfl).1; have p1 := fun o => (((hP.keep hT1 (by simp)).keep ((Turned.refl [] u1).alloc o) (by simp)).2 1 _ rfl).1) | (go_at_call 66; refine (k1 _).mono ?_; rintro e u2 ⟨rfl, hb2⟩))
    go_ret
    exact ti_bool rfl (hT.trans ((hT1.alloc _).trans (Turned.ofBelow hb2) (by simp)) (by simp))
  | true =>
    rw [h1] at k1
    go_enter Try.func39, Try.ntmps39
    go_wp2_with fail
    rw [← hW0, ← hC, ← hB]
    clear hW0 hC hB
    go_wp2_with (first | (go_at_call 65; refine (kc _).mono ?_; rintro e u1 ⟨rfl, hT1⟩; have p0 := fun o => (((hP.keep hT1 (by simp)).keep ((Turned.refl [] u1).alloc o) (by simp)).2 0 _ rfl).1; have p1 := fun o => (((hP.keep hT1 (by simp)).keep ((Turned.refl [] u1).alloc o) (by simp)).2 1 _ rfl).1) | (go_at_call_of 66 (Value.agg #[Value.int IntKind.i64 b.lx, Value.int IntKind.i64 b.ly]); refine (k1 _).mono ?_; rintro e u2 ⟨rfl, hb2⟩; have hT2 := (((Turned.refl [] u1).alloc _).trans (Turned.ofBelow hb2) (by simp)); have hA2 := (Struct.new u1 [.int .i64 0, .int .i64 0, .int .i64 (m.W * 65536), .int .i64 (m.H * 65536)] 60).keep (Turned.ofBelow hb2) (by simp); have a0 := (hA2.2 0 _ rfl).1; have a1 := (hA2.2 1 _ rfl).1; have a2 := (hA2.2 2 _ rfl).1; have a3 := (hA2.2 3 _ rfl).1; have p2 := (((hP.keep hT1 (by simp)).keep hT2 (by simp)).2 2 _ rfl).1; have p3 := (((hP.keep hT1 (by simp)).keep hT2 (by simp)).2 3 _ rfl).1) | (go_at_call 66; refine (k2 _).mono ?_; rintro e u3 ⟨rfl, hb3⟩))
    go_ret
    exact ti_bool rfl (hT.trans (hT1.trans (hT2.trans (Turned.ofBelow hb3) (by simp)) (by simp)) (by simp))
theorem holds_iff {m : Ti.M} {b : Ti.Bx} (hD : Ti.Dims m) (hb : Bx.formed b.lx b.ly b.mx b.my = true) : holdsB m b = true ↔ Ti.Within m b := by
  obtain ⟨d1, d2, d3, d4, _⟩ := hD
  have hf : Bx.formed 0 0 (m.W * 65536) (m.H * 65536) = true := by
    unfold Bx.formed Vc.formedB Vc.inL
    simp
    omega
  unfold Bx.formed at hb
  simp at hb
  unfold holdsB Bx.inB Bx.has Ti.Within
  rw [hf]
  simp
  omega
theorem floor_nat {a : Int} (h0 : 0 ≤ a) (h1 : a ≤ 2097152) (u : World) : Calls Try.prog 40 #[.int .i64 a] u fun e w' => e = .returned (.int .i64 (((a / 65536).toNat : Nat) : Int)) ∧ w' = u := by
  have := FxW.floor_any a u
  rw [Ti.floor_small h0 (by omega)] at this
  rw [Int.toNat_of_nonneg (by omega)]
  exact this

set_option maxRecDepth 20000 in
set_option maxHeartbeats 8000000 in
theorem free_any (m : Ti.M) (oa : Option Addr) (ca : Nat) (ob : Option Addr) (cb : Nat) (b : Ti.Bx) (w : World) (h : MapAt m oa ob w) :
    Calls Try.prog 23 #[mapVal m oa ca ob cb, .agg #[.int .i64 b.lx, .int .i64 b.ly, .int .i64 b.mx, .int .i64 b.my]] w fun e w' => e = .returned (.bool (Ti.freeB m b)) ∧ Turned [] w w' := by
  obtain ⟨W0, hW0⟩ : ∃ W0, W0 = (w.alloc (.cells #[.int .i64 m.W, .int .i64 m.H, .slice oa m.ws.length ca, .slice ob m.sp.length cb] 25)).alloc (.cells #[.int .i64 b.lx, .int .i64 b.ly, .int .i64 b.mx, .int .i64 b.my] 60) := ⟨_, rfl⟩
  have hT : Turned [] w W0 := by rw [hW0]; exact ((Turned.refl [] w).alloc _).alloc _
  obtain ⟨B, hB⟩ : ∃ B, B = w.heap.size := ⟨_, rfl⟩
  obtain ⟨C, hC⟩ : ∃ C, C = w.heap.size + 1 := ⟨_, rfl⟩
  have hS : Struct B [.int .i64 m.W, .int .i64 m.H, .slice oa m.ws.length ca, .slice ob m.sp.length cb] W0 := by rw [hW0, hB]; exact (Struct.new w [.int .i64 m.W, .int .i64 m.H, .slice oa m.ws.length ca, .slice ob m.sp.length cb] _).keep ((Turned.refl [] _).alloc _) (by simp)
  have hP : Struct C [.int .i64 b.lx, .int .i64 b.ly, .int .i64 b.mx, .int .i64 b.my] W0 := by
    have := Struct.new (w.alloc (.cells #[.int .i64 m.W, .int .i64 m.H, .slice oa m.ws.length ca, .slice ob m.sp.length cb] 25)) [.int .i64 b.lx, .int .i64 b.ly, .int .i64 b.mx, .int .i64 b.my] 60
    rw [show (w.alloc (.cells #[.int .i64 m.W, .int .i64 m.H, .slice oa m.ws.length ca, .slice ob m.sp.length cb] 25)).heap.size = w.heap.size + 1 by simp, ← hC] at this
    rw [hW0]; exact this
  have hM := h.calm hT
  have kb := fun (u : World) => BxW.formed_any b.lx b.ly b.mx b.my u
  have kf := fun (u : World) (k : MapAt m oa ob u) => formed_any m oa ca ob cb u k
  have s0 := (hS.2 0 _ rfl).1
  have s1 := (hS.2 1 _ rfl).1
  have s2 := (hS.2 2 _ rfl).1
  have s3 := (hS.2 3 _ rfl).1
  have q0 := (hP.2 0 _ rfl).1
  have q1 := (hP.2 1 _ rfl).1
  have q2 := (hP.2 2 _ rfl).1
  have q3 := (hP.2 3 _ rfl).1
  unfold mapVal at kf ⊢
  cases c0 : Bx.formed b.lx b.ly b.mx b.my with
  | false =>
    have HA : Hid (Ti.freeB m b = false) := TiR.not_free (fun hf => by have := TiR.within_formed hf.1.1 hf.2.1; rw [c0] at this; cases this)
    rw [c0] at kb
    clear c0
    go_enter Try.func23, Try.ntmps23
    go_wp2_with fail
    rw [← hW0, ← hC, ← hB]
    clear hW0 hC hB
    go_wp2_with (go_at_call 37; (with_reducible refine (kb _).mono ?_); rintro e u1 ⟨rfl, hb1⟩; have hT1 := Turned.ofBelow hb1; have s0 := ((hS.keep hT1 (by simp)).2 0 _ rfl).1; have q0 := ((hP.keep hT1 (by simp)).2 0 _ rfl).1; have s1 := ((hS.keep hT1 (by simp)).2 1 _ rfl).1; have q1 := ((hP.keep hT1 (by simp)).2 1 _ rfl).1; have s2 := ((hS.keep hT1 (by simp)).2 2 _ rfl).1; have q2 := ((hP.keep hT1 (by simp)).2 2 _ rfl).1; have s3 := ((hS.keep hT1 (by simp)).2 3 _ rfl).1; have q3 := ((hP.keep hT1 (by simp)).2 3 _ rfl).1; have hM := hM.calm hT1)
    go_ret
    exact ti_bool HA.out.symm (hT.trans hT1 (by simp))
  | true =>
    rw [c0] at kb
    by_cases c1 : Ti.Formed m
    · rw [show Ti.formedB m = true from Ti.formedB_iff.2 c1] at kf
      have kh := fun (u : World) => holds_any m c1.1.1 c1.1.2.1 c1.1.2.2.1 c1.1.2.2.2.1 b oa m.ws.length ca ob m.sp.length cb u
      have hio := holds_iff c1.1 c0
      cases c2 : holdsB m b with
      | false =>
        have HA : Hid (Ti.freeB m b = false) := TiR.not_free (fun hf => by rw [hio.2 hf.2.1] at c2; cases c2)
        rw [c2] at kh
        clear c0 c1 c2 hio
        go_enter Try.func23, Try.ntmps23
        go_wp2_with fail
        rw [← hW0, ← hC, ← hB]
        clear hW0 hC hB
        go_wp2_with (first | (go_at_call 37; (with_reducible refine (kb _).mono ?_); rintro e u1 ⟨rfl, hb1⟩; have hT1 := Turned.ofBelow hb1; have s0 := ((hS.keep hT1 (by simp)).2 0 _ rfl).1; have q0 := ((hP.keep hT1 (by simp)).2 0 _ rfl).1; have s1 := ((hS.keep hT1 (by simp)).2 1 _ rfl).1; have q1 := ((hP.keep hT1 (by simp)).2 1 _ rfl).1; have s2 := ((hS.keep hT1 (by simp)).2 2 _ rfl).1; have q2 := ((hP.keep hT1 (by simp)).2 2 _ rfl).1; have s3 := ((hS.keep hT1 (by simp)).2 3 _ rfl).1; have q3 := ((hP.keep hT1 (by simp)).2 3 _ rfl).1; have hM := hM.calm hT1) | (go_at_call 38; (with_reducible refine (kf _ hM).mono ?_); rintro e u2 ⟨rfl, hT2⟩; have hT1 := hT1.trans hT2 (by simp); have s0 := ((hS.keep hT1 (by simp)).2 0 _ rfl).1; have q0 := ((hP.keep hT1 (by simp)).2 0 _ rfl).1; have s1 := ((hS.keep hT1 (by simp)).2 1 _ rfl).1; have q1 := ((hP.keep hT1 (by simp)).2 1 _ rfl).1; have s2 := ((hS.keep hT1 (by simp)).2 2 _ rfl).1; have q2 := ((hP.keep hT1 (by simp)).2 2 _ rfl).1; have s3 := ((hS.keep hT1 (by simp)).2 3 _ rfl).1; have q3 := ((hP.keep hT1 (by simp)).2 3 _ rfl).1; clear hb1) | (go_at_call 39; (with_reducible refine (kh _).mono ?_); rintro e u3 ⟨rfl, hT3⟩; have hT1 := hT1.trans hT3 (by simp); have s0 := ((hS.keep hT1 (by simp)).2 0 _ rfl).1; have q0 := ((hP.keep hT1 (by simp)).2 0 _ rfl).1; have s1 := ((hS.keep hT1 (by simp)).2 1 _ rfl).1; have q1 := ((hP.keep hT1 (by simp)).2 1 _ rfl).1; have s2 := ((hS.keep hT1 (by simp)).2 2 _ rfl).1; have q2 := ((hP.keep hT1 (by simp)).2 2 _ rfl).1; have s3 := ((hS.keep hT1 (by simp)).2 3 _ rfl).1; have q3 := ((hP.keep hT1 (by simp)).2 3 _ rfl).1; skip))
        go_ret
        exact ti_bool HA.out.symm (hT.trans hT1 (by simp))
      | true =>
        rw [c2] at kh
        have hwi := hio.1 c2
        have HF : Hid (Ti.Formed m) := c1
        have HWI : Hid (Ti.Within m b) := hwi
        have HFO : Hid (∀ x y : Nat, x ≤ 32 → y ≤ 32 → hit m b x y = true → Ti.freeB m b = false) := fun x y hx hy hh => TiR.not_free (free_not c1 hwi hx hy hh)
        obtain ⟨d1, d2, d3, d4, _⟩ := c1.1
        obtain ⟨w1, w2, w3, w4, w5, w6⟩ := hwi
        have kly := fun (u : World) => floor_nat (a := b.ly) (by omega) (by omega) u
        have kmy := fun (u : World) => floor_nat (a := b.my) (by omega) (by omega) u
        have klx := fun (u : World) => floor_nat (a := b.lx) (by omega) (by omega) u
        have kmx := fun (u : World) => floor_nat (a := b.mx) (by omega) (by omega) u
        have kw := fun (x y : Nat) (u : World) (k : MapAt m oa ob u) => wall1_any m oa ca ob cb (x : Int) (y : Int) u k c1.1
        have ko := fun (x y : Nat) (u : World) => BxW.overlap_any b.lx b.ly b.mx b.my ((x : Int) * 65536) ((y : Int) * 65536) (((x : Int) + 1) * 65536) (((y : Int) + 1) * 65536) u
        obtain ⟨yl, hyl⟩ : ∃ n, n = (b.ly / 65536).toNat := ⟨_, rfl⟩
        obtain ⟨ym, hym⟩ : ∃ n, n = (b.my / 65536).toNat := ⟨_, rfl⟩
        obtain ⟨xl, hxl⟩ : ∃ n, n = (b.lx / 65536).toNat := ⟨_, rfl⟩
        obtain ⟨xm, hxm⟩ : ∃ n, n = (b.mx / 65536).toNat := ⟨_, rfl⟩
        rw [← hyl] at kly
        rw [← hym] at kmy
        rw [← hxl] at klx
        rw [← hxm] at kmx
        have HXY : Hid (yl = (b.ly / 65536).toNat ∧ ym = (b.my / 65536).toNat ∧ xl = (b.lx / 65536).toNat ∧ xm = (b.mx / 65536).toNat) := ⟨hyl, hym, hxl, hxm⟩
        have b1 : yl ≤ ym := by omega
        have b2 : ym ≤ 32 := by omega
        have b3 : xl ≤ xm := by omega
        have b4 : xm ≤ 32 := by omega
        have HEN : Hid ((∀ x' y' : Nat, yl ≤ y' → y' ≤ ym → xl ≤ x' → x' ≤ xm → hit m b x' y' = false) → Ti.freeB m b = true) := by
          intro hall
          refine TiR.is_free (free_of c1 HWI.out ?_)
          intro x y e1 e2 e3 e4
          exact hall x y (by omega) (by omega) (by omega) (by omega)
        unfold mapVal at kw
        clear c0 c1 c2 hio hyl hym hxl hxm w1 w2 w3 w4 w5 w6 d1 d2 d3 d4
        go_enter Try.func23, Try.ntmps23
        go_wp2_with fail
        rw [← hW0, ← hC, ← hB]
        clear hW0 hC hB
        go_wp2_with (first | (go_at_call 37; (with_reducible refine (kb _).mono ?_); rintro e u1 ⟨rfl, hb1⟩; have hT1 := Turned.ofBelow hb1; have s0 := ((hS.keep hT1 (by simp)).2 0 _ rfl).1; have q0 := ((hP.keep hT1 (by simp)).2 0 _ rfl).1; have s1 := ((hS.keep hT1 (by simp)).2 1 _ rfl).1; have q1 := ((hP.keep hT1 (by simp)).2 1 _ rfl).1; have s2 := ((hS.keep hT1 (by simp)).2 2 _ rfl).1; have q2 := ((hP.keep hT1 (by simp)).2 2 _ rfl).1; have s3 := ((hS.keep hT1 (by simp)).2 3 _ rfl).1; have q3 := ((hP.keep hT1 (by simp)).2 3 _ rfl).1; have hM := hM.calm hT1) | (go_at_call 38; (with_reducible refine (kf _ hM).mono ?_); rintro e u2 ⟨rfl, hT2⟩; have hT1 := hT1.trans hT2 (by simp); have s0 := ((hS.keep hT1 (by simp)).2 0 _ rfl).1; have q0 := ((hP.keep hT1 (by simp)).2 0 _ rfl).1; have s1 := ((hS.keep hT1 (by simp)).2 1 _ rfl).1; have q1 := ((hP.keep hT1 (by simp)).2 1 _ rfl).1; have s2 := ((hS.keep hT1 (by simp)).2 2 _ rfl).1; have q2 := ((hP.keep hT1 (by simp)).2 2 _ rfl).1; have s3 := ((hS.keep hT1 (by simp)).2 3 _ rfl).1; have q3 := ((hP.keep hT1 (by simp)).2 3 _ rfl).1; clear hb1) | (go_at_call 39; (with_reducible refine (kh _).mono ?_); rintro e u3 ⟨rfl, hT3⟩; have hT1 := hT1.trans hT3 (by simp); have s0 := ((hS.keep hT1 (by simp)).2 0 _ rfl).1; have q0 := ((hP.keep hT1 (by simp)).2 0 _ rfl).1; have s1 := ((hS.keep hT1 (by simp)).2 1 _ rfl).1; have q1 := ((hP.keep hT1 (by simp)).2 1 _ rfl).1; have s2 := ((hS.keep hT1 (by simp)).2 2 _ rfl).1; have q2 := ((hP.keep hT1 (by simp)).2 2 _ rfl).1; have s3 := ((hS.keep hT1 (by simp)).2 3 _ rfl).1; have q3 := ((hP.keep hT1 (by simp)).2 3 _ rfl).1; skip) | (first | (go_at_call_of 40 (Value.int IntKind.i64 b.ly); (with_reducible refine (kly _).mono ?_); rintro e w9 ⟨rfl, hw9⟩; rw [hw9]; clear hw9 w9) | (go_at_call_of 40 (Value.int IntKind.i64 b.my); (with_reducible refine (kmy _).mono ?_); rintro e w9 ⟨rfl, hw9⟩; rw [hw9]; clear hw9 w9) | (go_at_call_of 40 (Value.int IntKind.i64 b.lx); (with_reducible refine (klx _).mono ?_); rintro e w9 ⟨rfl, hw9⟩; rw [hw9]; clear hw9 w9) | (go_at_call_of 40 (Value.int IntKind.i64 b.mx); (with_reducible refine (kmx _).mono ?_); rintro e w9 ⟨rfl, hw9⟩; rw [hw9]; clear hw9 w9)))
        obtain ⟨W1, hW1⟩ : ∃ W1, W1 = u3 := ⟨_, rfl⟩
        have hTW : Turned [] W0 W1 := by rw [hW1]; exact hT1
        have hS1 := hS.keep hTW (by simp)
        have hP1 := hP.keep hTW (by simp)
        have hM1 := (h.calm hT).calm hTW
        have hTT := hT.trans hTW (by simp)
        rw [← hW1]
        clear hW1 hT1 hT2 hT3 s0 s1 s2 s3 q0 q1 q2 q3 hM hTW hS hP hT kb kf kh
        go_loopw [5] (fun i wr => ∃ y : Nat, yl ≤ y ∧ y ≤ ym + 1 ∧ i = .int .i64 (y : Int) ∧ (∀ x' y' : Nat, yl ≤ y' → y' < y → xl ≤ x' → x' ≤ xm → hit m b x' y' = false) ∧ Turned [] W1 wr) (fun i _ => ym + 1 - (intOf i).toNat)
        case atStart => exact ⟨yl, by omega, by omega, rfl, fun _ y' h0 h1 _ _ => absurd h1 (by omega), Turned.refl _ _⟩
        case round =>
          obtain ⟨y, hy0, hy, rfl, hall, hT1⟩ := hrel
          have HALL : Hid (∀ x' y' : Nat, yl ≤ y' → y' < y → xl ≤ x' → x' ≤ xm → hit m b x' y' = false) := hall
          clear hall
          have q1 := ((hP1.keep hT1 (by simp)).2 1 _ rfl).1
          have q3 := ((hP1.keep hT1 (by simp)).2 3 _ rfl).1
          have q0 := ((hP1.keep hT1 (by simp)).2 0 _ rfl).1
          by_cases hlt : (y : Int) ≤ (ym : Int)
          · go_wp2_with (first | (go_at_call_of 40 (Value.int IntKind.i64 b.ly); (with_reducible refine (kly _).mono ?_); rintro e w9 ⟨rfl, hw9⟩; rw [hw9]; clear hw9 w9) | (go_at_call_of 40 (Value.int IntKind.i64 b.my); (with_reducible refine (kmy _).mono ?_); rintro e w9 ⟨rfl, hw9⟩; rw [hw9]; clear hw9 w9) | (go_at_call_of 40 (Value.int IntKind.i64 b.lx); (with_reducible refine (klx _).mono ?_); rintro e w9 ⟨rfl, hw9⟩; rw [hw9]; clear hw9 w9) | (go_at_call_of 40 (Value.int IntKind.i64 b.mx); (with_reducible refine (kmx _).mono ?_); rintro e w9 ⟨rfl, hw9⟩; rw [hw9]; clear hw9 w9))
            go_loopw [6] (fun i wq => ∃ x : Nat, xl ≤ x ∧ x ≤ xm + 1 ∧ i = .int .i64 (x : Int) ∧ (∀ x' : Nat, xl ≤ x' → x' < x → hit m b x' y = false) ∧ Turned [] W1 wq) (fun i _ => xm + 1 - (intOf i).toNat)
            case atStart => exact ⟨xl, by omega, by omega, rfl, fun x' h0 h1 => absurd h1 (by omega), hT1⟩
            case round =>
              clear hT1 q0 q1 q3
              obtain ⟨x, hx0, hx, rfl, hall, hT2⟩ := hrel
              have HROW : Hid (∀ x' : Nat, xl ≤ x' → x' < x → hit m b x' y = false) := hall
              clear hall
              have hS2 := hS1.keep hT2 (by simp)
              have hP2 := hP1.keep hT2 (by simp)
              have q2 := (hP2.2 2 _ rfl).1
              by_cases hlx : (x : Int) ≤ (xm : Int)
              · have s0 := KeptW.at hS2.1 (hS2.2 0 _ rfl).1
                have s1 := KeptW.at hS2.1 (hS2.2 1 _ rfl).1
                have s2 := KeptW.at hS2.1 (hS2.2 2 _ rfl).1
                have s3 := KeptW.at hS2.1 (hS2.2 3 _ rfl).1
                have t0 := KeptW.at hP2.1 (hP2.2 0 _ rfl).1
                have t1 := KeptW.at hP2.1 (hP2.2 1 _ rfl).1
                have t2 := KeptW.at hP2.1 (hP2.2 2 _ rfl).1
                have t3 := KeptW.at hP2.1 (hP2.2 3 _ rfl).1
                have ne : Nonempty (KeptW wr) := KeptW.one wr
                have gw := fun (v : KeptW wr) => kw x y v.u ((hM1.calm hT2).calm (Turned.ofBelow v.h))
                have gt := fun (v : KeptW wr) => tile_any (x : Int) (y : Int) (by omega) (by omega) (by omega) (by omega) v.u
                have go := fun (v : KeptW wr) => ko x y v.u
                have hhit : hit m b x y = (inWall m x y && Bx.overlap b.lx b.ly b.mx b.my ((x : Int) * 65536) ((y : Int) * 65536) (((x : Int) + 1) * 65536) (((y : Int) + 1) * 65536)) := rfl
                generalize inWall m x y = p1 at gw hhit
                generalize Bx.overlap b.lx b.ly b.mx b.my ((x : Int) * 65536) ((y : Int) * 65536) (((x : Int) + 1) * 65536) (((y : Int) + 1) * 65536) = p2 at go hhit
                cases p1 with
                | false =>
                  have HNX : Hid (∀ x' : Nat, xl ≤ x' → x' < x + 1 → hit m b x' y = false) := by
                    intro x' h0 h1
                    by_cases e : x' = x
                    · subst e; rw [hhit]; rfl
                    · exact HROW.out x' h0 (by omega)
                  clear hhit
                  go_wp2_with (first | (go_at_call_of 40 (Value.int IntKind.i64 b.ly); (with_reducible refine (kly _).mono ?_); rintro e w9 ⟨rfl, hw9⟩; rw [hw9]; clear hw9 w9) | (go_at_call_of 40 (Value.int IntKind.i64 b.my); (with_reducible refine (kmy _).mono ?_); rintro e w9 ⟨rfl, hw9⟩; rw [hw9]; clear hw9 w9) | (go_at_call_of 40 (Value.int IntKind.i64 b.lx); (with_reducible refine (klx _).mono ?_); rintro e w9 ⟨rfl, hw9⟩; rw [hw9]; clear hw9 w9) | (go_at_call_of 40 (Value.int IntKind.i64 b.mx); (with_reducible refine (kmx _).mono ?_); rintro e w9 ⟨rfl, hw9⟩; rw [hw9]; clear hw9 w9))
                  refine wp_region_kept (by kernel_rfl) (by kernel_rfl) ?_
                  repeat (go_big_quiet_step ((go_at_call 41; exact kept_call ((gw _).mono fun r w' h => ⟨h.1, h.2.none⟩))))
                  refine wpQuiet_nil ?_
                  rintro _ ⟨v, rfl⟩
                  go_wp2_with fail
                  go_roundw
                  case rel => exact ⟨x + 1, by omega, by omega, by go_num, HNX.out, hT2.trans (Turned.ofBelow v.h) (by simp)⟩
                  case measure => simp [intOf]; omega
                | true =>
                  cases p2 with
                  | true =>
                    have HA : Hid (Ti.freeB m b = false) := HFO.out x y (by omega) (by omega) hhit
                    clear hhit
                    go_wp2_with (first | (go_at_call_of 40 (Value.int IntKind.i64 b.ly); (with_reducible refine (kly _).mono ?_); rintro e w9 ⟨rfl, hw9⟩; rw [hw9]; clear hw9 w9) | (go_at_call_of 40 (Value.int IntKind.i64 b.my); (with_reducible refine (kmy _).mono ?_); rintro e w9 ⟨rfl, hw9⟩; rw [hw9]; clear hw9 w9) | (go_at_call_of 40 (Value.int IntKind.i64 b.lx); (with_reducible refine (klx _).mono ?_); rintro e w9 ⟨rfl, hw9⟩; rw [hw9]; clear hw9 w9) | (go_at_call_of 40 (Value.int IntKind.i64 b.mx); (with_reducible refine (kmx _).mono ?_); rintro e w9 ⟨rfl, hw9⟩; rw [hw9]; clear hw9 w9))
                    refine wp_region_kept (by kernel_rfl) (by kernel_rfl) ?_
                    repeat (go_big_quiet_step (first | (go_at_call 41; exact kept_call ((gw _).mono fun r w' h => ⟨h.1, h.2.none⟩)) | (go_at_call 43; exact kept_call ((gt _).mono fun r w' h => ⟨h.1, h.2.none⟩)) | (go_at_call 42; exact kept_call (go _))))
                    refine wpQuiet_nil ?_
                    rintro _ ⟨v, rfl⟩
                    go_wp2_with fail
                    go_ret
                    exact ti_bool HA.out.symm (hTT.trans (hT2.trans (Turned.ofBelow v.h) (by simp)) (by simp))
                  | false =>
                    have HNX : Hid (∀ x' : Nat, xl ≤ x' → x' < x + 1 → hit m b x' y = false) := by
                      intro x' h0 h1
                      by_cases e : x' = x
                      · subst e; rw [hhit]; rfl
                      · exact HROW.out x' h0 (by omega)
                    clear hhit
                    go_wp2_with (first | (go_at_call_of 40 (Value.int IntKind.i64 b.ly); (with_reducible refine (kly _).mono ?_); rintro e w9 ⟨rfl, hw9⟩; rw [hw9]; clear hw9 w9) | (go_at_call_of 40 (Value.int IntKind.i64 b.my); (with_reducible refine (kmy _).mono ?_); rintro e w9 ⟨rfl, hw9⟩; rw [hw9]; clear hw9 w9) | (go_at_call_of 40 (Value.int IntKind.i64 b.lx); (with_reducible refine (klx _).mono ?_); rintro e w9 ⟨rfl, hw9⟩; rw [hw9]; clear hw9 w9) | (go_at_call_of 40 (Value.int IntKind.i64 b.mx); (with_reducible refine (kmx _).mono ?_); rintro e w9 ⟨rfl, hw9⟩; rw [hw9]; clear hw9 w9))
                    refine wp_region_kept (by kernel_rfl) (by kernel_rfl) ?_
                    repeat (go_big_quiet_step (first | (go_at_call 41; exact kept_call ((gw _).mono fun r w' h => ⟨h.1, h.2.none⟩)) | (go_at_call 43; exact kept_call ((gt _).mono fun r w' h => ⟨h.1, h.2.none⟩)) | (go_at_call 42; exact kept_call (go _))))
                    refine wpQuiet_nil ?_
                    rintro _ ⟨v, rfl⟩
                    go_wp2_with fail
                    go_roundw
                    case rel => exact ⟨x + 1, by omega, by omega, by go_num, HNX.out, hT2.trans (Turned.ofBelow v.h) (by simp)⟩
                    case measure => simp [intOf]; omega
              · have HNX : Hid (∀ x' y' : Nat, yl ≤ y' → y' < y + 1 → xl ≤ x' → x' ≤ xm → hit m b x' y' = false) := by
                  intro x' y' h0 h1 h2 h3
                  by_cases e : y' = y
                  · subst e; exact HROW.out x' h2 (by omega)
                  · exact HALL.out x' y' h0 (by omega) h2 h3
                go_wp2_with (first | (go_at_call_of 40 (Value.int IntKind.i64 b.ly); (with_reducible refine (kly _).mono ?_); rintro e w9 ⟨rfl, hw9⟩; rw [hw9]; clear hw9 w9) | (go_at_call_of 40 (Value.int IntKind.i64 b.my); (with_reducible refine (kmy _).mono ?_); rintro e w9 ⟨rfl, hw9⟩; rw [hw9]; clear hw9 w9) | (go_at_call_of 40 (Value.int IntKind.i64 b.lx); (with_reducible refine (klx _).mono ?_); rintro e w9 ⟨rfl, hw9⟩; rw [hw9]; clear hw9 w9) | (go_at_call_of 40 (Value.int IntKind.i64 b.mx); (with_reducible refine (kmx _).mono ?_); rintro e w9 ⟨rfl, hw9⟩; rw [hw9]; clear hw9 w9))
                go_roundw
                case rel => exact ⟨y + 1, by omega, by omega, by go_num, HNX.out, hT2⟩
                case measure => simp [intOf]; omega
          · have HA : Hid (Ti.freeB m b = true) := HEN.out fun x' y' h0 h1 h2 h3 => HALL.out x' y' h0 (by omega) h2 h3
            go_wp2_with (first | (go_at_call_of 40 (Value.int IntKind.i64 b.ly); (with_reducible refine (kly _).mono ?_); rintro e w9 ⟨rfl, hw9⟩; rw [hw9]; clear hw9 w9) | (go_at_call_of 40 (Value.int IntKind.i64 b.my); (with_reducible refine (kmy _).mono ?_); rintro e w9 ⟨rfl, hw9⟩; rw [hw9]; clear hw9 w9) | (go_at_call_of 40 (Value.int IntKind.i64 b.lx); (with_reducible refine (klx _).mono ?_); rintro e w9 ⟨rfl, hw9⟩; rw [hw9]; clear hw9 w9) | (go_at_call_of 40 (Value.int IntKind.i64 b.mx); (with_reducible refine (kmx _).mono ?_); rintro e w9 ⟨rfl, hw9⟩; rw [hw9]; clear hw9 w9))
            go_ret
            exact ti_bool HA.out.symm (hTT.trans hT1 (by simp))
    · have HA : Hid (Ti.freeB m b = false) := TiR.not_free (fun hf => c1 hf.1)
      rw [show Ti.formedB m = false from Ti.formedB_not c1] at kf
      clear c0 c1
      go_enter Try.func23, Try.ntmps23
      go_wp2_with fail
      rw [← hW0, ← hC, ← hB]
      clear hW0 hC hB
      go_wp2_with (first | (go_at_call 37; (with_reducible refine (kb _).mono ?_); rintro e u1 ⟨rfl, hb1⟩; have hT1 := Turned.ofBelow hb1; have s0 := ((hS.keep hT1 (by simp)).2 0 _ rfl).1; have q0 := ((hP.keep hT1 (by simp)).2 0 _ rfl).1; have s1 := ((hS.keep hT1 (by simp)).2 1 _ rfl).1; have q1 := ((hP.keep hT1 (by simp)).2 1 _ rfl).1; have s2 := ((hS.keep hT1 (by simp)).2 2 _ rfl).1; have q2 := ((hP.keep hT1 (by simp)).2 2 _ rfl).1; have s3 := ((hS.keep hT1 (by simp)).2 3 _ rfl).1; have q3 := ((hP.keep hT1 (by simp)).2 3 _ rfl).1; have hM := hM.calm hT1) | (go_at_call 38; (with_reducible refine (kf _ hM).mono ?_); rintro e u2 ⟨rfl, hT2⟩; have hT1 := hT1.trans hT2 (by simp); have s0 := ((hS.keep hT1 (by simp)).2 0 _ rfl).1; have q0 := ((hP.keep hT1 (by simp)).2 0 _ rfl).1; have s1 := ((hS.keep hT1 (by simp)).2 1 _ rfl).1; have q1 := ((hP.keep hT1 (by simp)).2 1 _ rfl).1; have s2 := ((hS.keep hT1 (by simp)).2 2 _ rfl).1; have q2 := ((hP.keep hT1 (by simp)).2 2 _ rfl).1; have s3 := ((hS.keep hT1 (by simp)).2 3 _ rfl).1; have q3 := ((hP.keep hT1 (by simp)).2 3 _ rfl).1; clear hb1))
      go_ret
      exact ti_bool HA.out.symm (hT.trans hT1 (by simp))
end TiW
end Go.Proofs.Ytbfffgnalopfbaa

/- Whether a map can be read, which tiles are walls, what is free: the reference's (TiR). -/
import Derived.Test.YtbfffgnalopfbaaTilText
import Derived.Test.YtbfffgnalopfbaaBoxRef
namespace Go.Proofs.Ytbfffgnalopfbaa
open Go.RowKit
set_option linter.unusedVariables false
set_option linter.unusedSimpArgs false

namespace Ti
/-- whether a box is free -/
abbrev decW (m : M) (b : Bx) : Decidable (Within m b) := by unfold Within; exact inferInstance
abbrev decO (x y : Nat) (b : Bx) : Decidable (Over x y b) := by unfold Over; exact inferInstance
def freeB (m : M) (b : Bx) : Bool := formedB m && @decide (Within m b) (decW m b) && (List.range m.W.toNat).all fun x => (List.range m.H.toNat).all fun y => !(wall m x y && @decide (Over x y b) (decO x y b))
theorem free_is (m : M) (b : Bx) : freeB m b = true ↔ Free m b := by
  unfold freeB
  rw [Bool.and_eq_true, Bool.and_eq_true, formedB_iff, @decide_eq_true_iff (Within m b) (decW m b), List.all_eq_true]
  constructor
  · rintro ⟨⟨h1, h2⟩, h3⟩
    refine ⟨h1, h2, fun x y hx hy hw ho => ?_⟩
    have h4 := List.all_eq_true.1 (h3 x (List.mem_range.2 hx)) y (List.mem_range.2 hy)
    rw [hw, @decide_eq_true (Over x y b) (decO x y b) ho] at h4
    cases h4
  · rintro ⟨h1, h2, h3⟩
    refine ⟨⟨h1, h2⟩, fun x hx => List.all_eq_true.2 fun y hy => ?_⟩
    cases hw : wall m x y with
    | false => rfl
    | true => rw [@decide_eq_false (Over x y b) (decO x y b) (h3 x y (List.mem_range.1 hx) (List.mem_range.1 hy) hw)]; rfl
theorem ansF_eq (m : M) : (ansF m == 0) = formedB m := by
  by_cases h : Formed m
  · rw [ansF_pos h, formedB_iff.2 h]; rfl
  · rw [ansF_neg h, formedB_not h]; rfl
end Ti
namespace TiR
set_option maxHeartbeats 1000000 in
theorem formed_any (m : Ti.M) (oa : Option Addr) (ca : Nat) (ob : Option Addr) (cb : Nat) (w : World) (h : MapAt m oa ob w) :
    Calls Try.prog 47 #[mapVal m oa ca ob cb] w fun e w' => e = .returned (.bool (Ti.formedB m)) ∧ Turned [] w w' := by
  have hT : Turned [] w (w.alloc (.cells #[.int .i64 m.W, .int .i64 m.H, .slice oa m.ws.length ca, .slice ob m.sp.length cb] 35)) := (Turned.refl [] w).alloc _
  have kt := text_any m oa ca ob cb _ (h.calm hT)
  have hF := Ti.ansF_eq m
  go_enter Try.func47, Try.ntmps47
  go_wp2_with (go_at_call 73; (with_reducible refine kt.mono ?_); rintro e u1 ⟨rfl, hT1⟩)
  go_ret
  exact ⟨rfl, hT.trans hT1 (by simp)⟩

theorem below_turned {w w' : World} (h : Below w.heap.size w w') : Turned [] w w' := Turned.ofBelow h
theorem tile_formed {x y : Nat} (hx : x < 32) (hy : y < 32) : Bx.formed ((x : Int) * 65536) ((y : Int) * 65536) ((x : Int) * 65536 + 65536) ((y : Int) * 65536 + 65536) = true := by
  unfold Bx.formed Vc.formedB Vc.inL
  simp
  omega
theorem within_formed {m : Ti.M} {b : Ti.Bx} (hD : Ti.Dims m) (h : Ti.Within m b) : Bx.formed b.lx b.ly b.mx b.my = true := by
  obtain ⟨h1, h2, h3, h4, _⟩ := hD
  obtain ⟨w1, w2, w3, w4, w5, w6⟩ := h
  unfold Bx.formed Vc.formedB Vc.inL
  simp
  omega
theorem over_iff {x y : Nat} {b : Ti.Bx} (hx : x < 32) (hy : y < 32) (hb : Bx.formed b.lx b.ly b.mx b.my = true) : Bx.overlap ((x : Int) * 65536) ((y : Int) * 65536) ((x : Int) * 65536 + 65536) ((y : Int) * 65536 + 65536) b.lx b.ly b.mx b.my = true ↔ Ti.Over x y b := by
  unfold Bx.overlap Ti.Over Bx.laps
  rw [tile_formed hx hy, hb]
  simp
  omega

/-- what the one long test of Free asks, one by one -/
theorem free_cases (m : Ti.M) (b : Ti.Bx) : Bx.formed b.lx b.ly b.mx b.my = false ∨ (Bx.formed b.lx b.ly b.mx b.my = true ∧ ¬ Ti.Formed m) ∨ (Bx.formed b.lx b.ly b.mx b.my = true ∧ Ti.Formed m ∧ b.lx < 0) ∨ (Bx.formed b.lx b.ly b.mx b.my = true ∧ Ti.Formed m ∧ ¬ b.lx < 0 ∧ b.ly < 0) ∨ (Bx.formed b.lx b.ly b.mx b.my = true ∧ Ti.Formed m ∧ ¬ b.lx < 0 ∧ ¬ b.ly < 0 ∧ m.W * 65536 < b.mx) ∨ (Bx.formed b.lx b.ly b.mx b.my = true ∧ Ti.Formed m ∧ ¬ b.lx < 0 ∧ ¬ b.ly < 0 ∧ ¬ m.W * 65536 < b.mx ∧ m.H * 65536 < b.my) ∨ (Bx.formed b.lx b.ly b.mx b.my = true ∧ Ti.Formed m ∧ ¬ b.lx < 0 ∧ ¬ b.ly < 0 ∧ ¬ m.W * 65536 < b.mx ∧ ¬ m.H * 65536 < b.my) := by
  cases h0 : Bx.formed b.lx b.ly b.mx b.my with
  | false => exact .inl rfl
  | true =>
    by_cases h1 : Ti.Formed m
    · by_cases h2 : b.lx < 0
      · exact .inr (.inr (.inl ⟨rfl, h1, h2⟩))
      · by_cases h3 : b.ly < 0
        · exact .inr (.inr (.inr (.inl ⟨rfl, h1, h2, h3⟩)))
        · by_cases h4 : m.W * 65536 < b.mx
          · exact .inr (.inr (.inr (.inr (.inl ⟨rfl, h1, h2, h3, h4⟩))))
          · by_cases h5 : m.H * 65536 < b.my
            · exact .inr (.inr (.inr (.inr (.inr (.inl ⟨rfl, h1, h2, h3, h4, h5⟩)))))
            · exact .inr (.inr (.inr (.inr (.inr (.inr ⟨rfl, h1, h2, h3, h4, h5⟩)))))
    · exact .inr (.inl ⟨rfl, h1⟩)
theorem not_free {m : Ti.M} {b : Ti.Bx} (h : ¬ Ti.Free m b) : Ti.freeB m b = false := by
  cases hf : Ti.freeB m b with
  | false => rfl
  | true => exact absurd ((Ti.free_is m b).1 hf) h
theorem is_free {m : Ti.M} {b : Ti.Bx} (h : Ti.Free m b) : Ti.freeB m b = true := (Ti.free_is m b).2 h

set_option maxRecDepth 20000 in
set_option maxHeartbeats 8000000 in
theorem free_any (m : Ti.M) (oa : Option Addr) (ca : Nat) (ob : Option Addr) (cb : Nat) (b : Ti.Bx) (w : World) (h : MapAt m oa ob w) :
    Calls Try.prog 25 #[mapVal m oa ca ob cb, .agg #[.int .i64 b.lx, .int .i64 b.ly, .int .i64 b.mx, .int .i64 b.my]] w fun e w' => e = .returned (.bool (Ti.freeB m b)) ∧ Turned [] w w' := by
  obtain ⟨nw, hnw⟩ : ∃ n, n = m.ws.length := ⟨_, rfl⟩
  obtain ⟨ns, hns⟩ : ∃ n, n = m.sp.length := ⟨_, rfl⟩
  have hlw := h.lw
  have hD0 : Ti.Formed m → 1 ≤ m.W ∧ m.W ≤ 32 ∧ 1 ≤ m.H ∧ m.H ≤ 32 := fun hf => ⟨hf.1.1, hf.1.2.1, hf.1.2.2.1, hf.1.2.2.2.1⟩
  obtain ⟨W0, hW0⟩ : ∃ W0, W0 = (w.alloc (.cells #[.int .i64 m.W, .int .i64 m.H, .slice oa nw ca, .slice ob ns cb] 35)).alloc (.cells #[.int .i64 b.lx, .int .i64 b.ly, .int .i64 b.mx, .int .i64 b.my] 63) := ⟨_, rfl⟩
  have hT : Turned [] w W0 := by rw [hW0]; exact ((Turned.refl [] w).alloc _).alloc _
  obtain ⟨B, hB⟩ : ∃ B, B = w.heap.size := ⟨_, rfl⟩
  obtain ⟨C, hC⟩ : ∃ C, C = w.heap.size + 1 := ⟨_, rfl⟩
  have hS : Struct B [.int .i64 m.W, .int .i64 m.H, .slice oa nw ca, .slice ob ns cb] W0 := by rw [hW0, hB]; exact (Struct.new w _ _).keep ((Turned.refl [] _).alloc _) (by simp)
  have hP : Struct C [.int .i64 b.lx, .int .i64 b.ly, .int .i64 b.mx, .int .i64 b.my] W0 := by
    have := Struct.new (w.alloc (.cells #[.int .i64 m.W, .int .i64 m.H, .slice oa nw ca, .slice ob ns cb] 35)) [.int .i64 b.lx, .int .i64 b.ly, .int .i64 b.mx, .int .i64 b.my] 63
    rw [show (w.alloc (.cells #[.int .i64 m.W, .int .i64 m.H, .slice oa nw ca, .slice ob ns cb] 35)).heap.size = w.heap.size + 1 by simp, ← hC] at this
    rw [hW0]; exact this
  have hM := h.calm hT
  have kb := fun (u : World) => BxR.formed_any b.lx b.ly b.mx b.my u
  have kf := fun (u : World) (k : MapAt m oa ob u) => formed_any m oa ca ob cb u k
  unfold mapVal at kf ⊢
  rw [← hnw, ← hns] at kf ⊢
  have HNW : Hid (nw = m.ws.length) := hnw
  rw [← hnw] at hlw
  have s0 := (hS.2 0 _ rfl).1
  have s1 := (hS.2 1 _ rfl).1
  have s2 := (hS.2 2 _ rfl).1
  have s3 := (hS.2 3 _ rfl).1
  have q0 := (hP.2 0 _ rfl).1
  have q1 := (hP.2 1 _ rfl).1
  have q2 := (hP.2 2 _ rfl).1
  have q3 := (hP.2 3 _ rfl).1
  have start : ∀ (r : Bool), Ti.freeB m b = r → True := fun _ _ => trivial
  clear start hnw hns
  rcases free_cases m b with c0 | ⟨c0, c1⟩ | ⟨c0, c1, c2⟩ | ⟨c0, c1, c2, c3⟩ | ⟨c0, c1, c2, c3, c4⟩ | ⟨c0, c1, c2, c3, c4, c5⟩ | ⟨c0, c1, c2, c3, c4, c5⟩
  · have HA : Hid (Ti.freeB m b = false) := not_free (fun hf => by have := within_formed hf.1.1 hf.2.1; rw [c0] at this; cases this)
    rw [c0] at kb
    clear hD0 c0
    go_enter Try.func25, Try.ntmps25
    go_wp2_with fail
    rw [← hW0, ← hC, ← hB]
    clear hW0 hC hB
    go_wp2_with (first | (go_at_call 46; (with_reducible refine (kb _).mono ?_); rintro e u1 ⟨rfl, hb1⟩; have hT1 := Turned.ofBelow hb1; have s0 := ((hS.keep hT1 (by simp)).2 0 _ rfl).1; have q0 := ((hP.keep hT1 (by simp)).2 0 _ rfl).1; have s1 := ((hS.keep hT1 (by simp)).2 1 _ rfl).1; have q1 := ((hP.keep hT1 (by simp)).2 1 _ rfl).1; have s2 := ((hS.keep hT1 (by simp)).2 2 _ rfl).1; have q2 := ((hP.keep hT1 (by simp)).2 2 _ rfl).1; have s3 := ((hS.keep hT1 (by simp)).2 3 _ rfl).1; have q3 := ((hP.keep hT1 (by simp)).2 3 _ rfl).1; have hM := hM.calm hT1) | (go_at_call 47; (with_reducible refine (kf _ hM).mono ?_); rintro e u2 ⟨rfl, hT2⟩; have hT1 := hT1.trans hT2 (by simp); have s0 := ((hS.keep hT1 (by simp)).2 0 _ rfl).1; have q0 := ((hP.keep hT1 (by simp)).2 0 _ rfl).1; have s1 := ((hS.keep hT1 (by simp)).2 1 _ rfl).1; have q1 := ((hP.keep hT1 (by simp)).2 1 _ rfl).1; have s2 := ((hS.keep hT1 (by simp)).2 2 _ rfl).1; have q2 := ((hP.keep hT1 (by simp)).2 2 _ rfl).1; have s3 := ((hS.keep hT1 (by simp)).2 3 _ rfl).1; have q3 := ((hP.keep hT1 (by simp)).2 3 _ rfl).1; clear hb1))
    go_ret
    exact ti_bool HA.out.symm (hT.trans hT1 (by simp))
  · have HA : Hid (Ti.freeB m b = false) := not_free (fun hf => c1 hf.1)
    rw [c0] at kb
    rw [show Ti.formedB m = false from Ti.formedB_not c1] at kf
    clear hD0 c0 c1
    go_enter Try.func25, Try.ntmps25
    go_wp2_with fail
    rw [← hW0, ← hC, ← hB]
    clear hW0 hC hB
    go_wp2_with (first | (go_at_call 46; (with_reducible refine (kb _).mono ?_); rintro e u1 ⟨rfl, hb1⟩; have hT1 := Turned.ofBelow hb1; have s0 := ((hS.keep hT1 (by simp)).2 0 _ rfl).1; have q0 := ((hP.keep hT1 (by simp)).2 0 _ rfl).1; have s1 := ((hS.keep hT1 (by simp)).2 1 _ rfl).1; have q1 := ((hP.keep hT1 (by simp)).2 1 _ rfl).1; have s2 := ((hS.keep hT1 (by simp)).2 2 _ rfl).1; have q2 := ((hP.keep hT1 (by simp)).2 2 _ rfl).1; have s3 := ((hS.keep hT1 (by simp)).2 3 _ rfl).1; have q3 := ((hP.keep hT1 (by simp)).2 3 _ rfl).1; have hM := hM.calm hT1) | (go_at_call 47; (with_reducible refine (kf _ hM).mono ?_); rintro e u2 ⟨rfl, hT2⟩; have hT1 := hT1.trans hT2 (by simp); have s0 := ((hS.keep hT1 (by simp)).2 0 _ rfl).1; have q0 := ((hP.keep hT1 (by simp)).2 0 _ rfl).1; have s1 := ((hS.keep hT1 (by simp)).2 1 _ rfl).1; have q1 := ((hP.keep hT1 (by simp)).2 1 _ rfl).1; have s2 := ((hS.keep hT1 (by simp)).2 2 _ rfl).1; have q2 := ((hP.keep hT1 (by simp)).2 2 _ rfl).1; have s3 := ((hS.keep hT1 (by simp)).2 3 _ rfl).1; have q3 := ((hP.keep hT1 (by simp)).2 3 _ rfl).1; clear hb1))
    go_ret
    exact ti_bool HA.out.symm (hT.trans hT1 (by simp))
  · have HA : Hid (Ti.freeB m b = false) := not_free (fun hf => by have := hf.2.1.2.2.1; omega)
    rw [c0] at kb
    rw [show Ti.formedB m = true from Ti.formedB_iff.2 c1] at kf
    have hd := hD0 c1
    obtain ⟨e1, e2, e3, e4⟩ := hd
    clear hD0 c0 c1
    go_enter Try.func25, Try.ntmps25
    go_wp2_with fail
    rw [← hW0, ← hC, ← hB]
    clear hW0 hC hB
    go_wp2_with (first | (go_at_call 46; (with_reducible refine (kb _).mono ?_); rintro e u1 ⟨rfl, hb1⟩; have hT1 := Turned.ofBelow hb1; have s0 := ((hS.keep hT1 (by simp)).2 0 _ rfl).1; have q0 := ((hP.keep hT1 (by simp)).2 0 _ rfl).1; have s1 := ((hS.keep hT1 (by simp)).2 1 _ rfl).1; have q1 := ((hP.keep hT1 (by simp)).2 1 _ rfl).1; have s2 := ((hS.keep hT1 (by simp)).2 2 _ rfl).1; have q2 := ((hP.keep hT1 (by simp)).2 2 _ rfl).1; have s3 := ((hS.keep hT1 (by simp)).2 3 _ rfl).1; have q3 := ((hP.keep hT1 (by simp)).2 3 _ rfl).1; have hM := hM.calm hT1) | (go_at_call 47; (with_reducible refine (kf _ hM).mono ?_); rintro e u2 ⟨rfl, hT2⟩; have hT1 := hT1.trans hT2 (by simp); have s0 := ((hS.keep hT1 (by simp)).2 0 _ rfl).1; have q0 := ((hP.keep hT1 (by simp)).2 0 _ rfl).1; have s1 := ((hS.keep hT1 (by simp)).2 1 _ rfl).1; have q1 := ((hP.keep hT1 (by simp)).2 1 _ rfl).1; have s2 := ((hS.keep hT1 (by simp)).2 2 _ rfl).1; have q2 := ((hP.keep hT1 (by simp)).2 2 _ rfl).1; have s3 := ((hS.keep hT1 (by simp)).2 3 _ rfl).1; have q3 := ((hP.keep hT1 (by simp)).2 3 _ rfl).1; clear hb1))
    go_ret
    exact ti_bool HA.out.symm (hT.trans hT1 (by simp))
  · have HA : Hid (Ti.freeB m b = false) := not_free (fun hf => by have := hf.2.1.2.2.2.1; omega)
    rw [c0] at kb
    rw [show Ti.formedB m = true from Ti.formedB_iff.2 c1] at kf
    have hd := hD0 c1
    obtain ⟨e1, e2, e3, e4⟩ := hd
    clear hD0 c0 c1
    go_enter Try.func25, Try.ntmps25
    go_wp2_with fail
    rw [← hW0, ← hC, ← hB]
    clear hW0 hC hB
    go_wp2_with (first | (go_at_call 46; (with_reducible refine (kb _).mono ?_); rintro e u1 ⟨rfl, hb1⟩; have hT1 := Turned.ofBelow hb1; have s0 := ((hS.keep hT1 (by simp)).2 0 _ rfl).1; have q0 := ((hP.keep hT1 (by simp)).2 0 _ rfl).1; have s1 := ((hS.keep hT1 (by simp)).2 1 _ rfl).1; have q1 := ((hP.keep hT1 (by simp)).2 1 _ rfl).1; have s2 := ((hS.keep hT1 (by simp)).2 2 _ rfl).1; have q2 := ((hP.keep hT1 (by simp)).2 2 _ rfl).1; have s3 := ((hS.keep hT1 (by simp)).2 3 _ rfl).1; have q3 := ((hP.keep hT1 (by simp)).2 3 _ rfl).1; have hM := hM.calm hT1) | (go_at_call 47; (with_reducible refine (kf _ hM).mono ?_); rintro e u2 ⟨rfl, hT2⟩; have hT1 := hT1.trans hT2 (by simp); have s0 := ((hS.keep hT1 (by simp)).2 0 _ rfl).1; have q0 := ((hP.keep hT1 (by simp)).2 0 _ rfl).1; have s1 := ((hS.keep hT1 (by simp)).2 1 _ rfl).1; have q1 := ((hP.keep hT1 (by simp)).2 1 _ rfl).1; have s2 := ((hS.keep hT1 (by simp)).2 2 _ rfl).1; have q2 := ((hP.keep hT1 (by simp)).2 2 _ rfl).1; have s3 := ((hS.keep hT1 (by simp)).2 3 _ rfl).1; have q3 := ((hP.keep hT1 (by simp)).2 3 _ rfl).1; clear hb1))
    go_ret
    exact ti_bool HA.out.symm (hT.trans hT1 (by simp))
  · have HA : Hid (Ti.freeB m b = false) := not_free (fun hf => by have := hf.2.1.2.2.2.2.1; omega)
    rw [c0] at kb
    rw [show Ti.formedB m = true from Ti.formedB_iff.2 c1] at kf
    have hd := hD0 c1
    obtain ⟨e1, e2, e3, e4⟩ := hd
    clear hD0 c0 c1
    go_enter Try.func25, Try.ntmps25
    go_wp2_with fail
    rw [← hW0, ← hC, ← hB]
    clear hW0 hC hB
    go_wp2_with (first | (go_at_call 46; (with_reducible refine (kb _).mono ?_); rintro e u1 ⟨rfl, hb1⟩; have hT1 := Turned.ofBelow hb1; have s0 := ((hS.keep hT1 (by simp)).2 0 _ rfl).1; have q0 := ((hP.keep hT1 (by simp)).2 0 _ rfl).1; have s1 := ((hS.keep hT1 (by simp)).2 1 _ rfl).1; have q1 := ((hP.keep hT1 (by simp)).2 1 _ rfl).1; have s2 := ((hS.keep hT1 (by simp)).2 2 _ rfl).1; have q2 := ((hP.keep hT1 (by simp)).2 2 _ rfl).1; have s3 := ((hS.keep hT1 (by simp)).2 3 _ rfl).1; have q3 := ((hP.keep hT1 (by simp)).2 3 _ rfl).1; have hM := hM.calm hT1) | (go_at_call 47; (with_reducible refine (kf _ hM).mono ?_); rintro e u2 ⟨rfl, hT2⟩; have hT1 := hT1.trans hT2 (by simp); have s0 := ((hS.keep hT1 (by simp)).2 0 _ rfl).1; have q0 := ((hP.keep hT1 (by simp)).2 0 _ rfl).1; have s1 := ((hS.keep hT1 (by simp)).2 1 _ rfl).1; have q1 := ((hP.keep hT1 (by simp)).2 1 _ rfl).1; have s2 := ((hS.keep hT1 (by simp)).2 2 _ rfl).1; have q2 := ((hP.keep hT1 (by simp)).2 2 _ rfl).1; have s3 := ((hS.keep hT1 (by simp)).2 3 _ rfl).1; have q3 := ((hP.keep hT1 (by simp)).2 3 _ rfl).1; clear hb1))
    go_ret
    exact ti_bool HA.out.symm (hT.trans hT1 (by simp))
  · have HA : Hid (Ti.freeB m b = false) := not_free (fun hf => by have := hf.2.1.2.2.2.2.2; omega)
    rw [c0] at kb
    rw [show Ti.formedB m = true from Ti.formedB_iff.2 c1] at kf
    have hd := hD0 c1
    obtain ⟨e1, e2, e3, e4⟩ := hd
    clear hD0 c0 c1
    go_enter Try.func25, Try.ntmps25
    go_wp2_with fail
    rw [← hW0, ← hC, ← hB]
    clear hW0 hC hB
    go_wp2_with (first | (go_at_call 46; (with_reducible refine (kb _).mono ?_); rintro e u1 ⟨rfl, hb1⟩; have hT1 := Turned.ofBelow hb1; have s0 := ((hS.keep hT1 (by simp)).2 0 _ rfl).1; have q0 := ((hP.keep hT1 (by simp)).2 0 _ rfl).1; have s1 := ((hS.keep hT1 (by simp)).2 1 _ rfl).1; have q1 := ((hP.keep hT1 (by simp)).2 1 _ rfl).1; have s2 := ((hS.keep hT1 (by simp)).2 2 _ rfl).1; have q2 := ((hP.keep hT1 (by simp)).2 2 _ rfl).1; have s3 := ((hS.keep hT1 (by simp)).2 3 _ rfl).1; have q3 := ((hP.keep hT1 (by simp)).2 3 _ rfl).1; have hM := hM.calm hT1) | (go_at_call 47; (with_reducible refine (kf _ hM).mono ?_); rintro e u2 ⟨rfl, hT2⟩; have hT1 := hT1.trans hT2 (by simp); have s0 := ((hS.keep hT1 (by simp)).2 0 _ rfl).1; have q0 := ((hP.keep hT1 (by simp)).2 0 _ rfl).1; have s1 := ((hS.keep hT1 (by simp)).2 1 _ rfl).1; have q1 := ((hP.keep hT1 (by simp)).2 1 _ rfl).1; have s2 := ((hS.keep hT1 (by simp)).2 2 _ rfl).1; have q2 := ((hP.keep hT1 (by simp)).2 2 _ rfl).1; have s3 := ((hS.keep hT1 (by simp)).2 3 _ rfl).1; have q3 := ((hP.keep hT1 (by simp)).2 3 _ rfl).1; clear hb1))
    go_ret
    exact ti_bool HA.out.symm (hT.trans hT1 (by simp))
  · rw [c0] at kb
    rw [show Ti.formedB m = true from Ti.formedB_iff.2 c1] at kf
    have HF : Hid (Ti.Formed m) := c1
    have HBF : Hid (Bx.formed b.lx b.ly b.mx b.my = true) := c0
    have HIN : Hid (Ti.Within m b) := by
      have hfo := c0
      unfold Bx.formed at hfo
      simp at hfo
      exact ⟨hfo.1.2, hfo.2, by omega, by omega, by omega, by omega⟩
    obtain ⟨e1, e2, e3, e4⟩ := hD0 c1
    obtain ⟨wn, hwn⟩ : ∃ n : Nat, m.W = (n : Int) := ⟨m.W.toNat, by omega⟩
    obtain ⟨hn, hhn⟩ : ∃ n : Nat, m.H = (n : Int) := ⟨m.H.toNat, by omega⟩
    have HWN : Hid (m.W.toNat = wn ∧ m.H.toNat = hn) := ⟨by omega, by omega⟩
    have HW : Hid (m.W = (wn : Int) ∧ m.H = (hn : Int)) := ⟨hwn, hhn⟩
    clear hD0 c0 c1
    rw [hwn, hhn] at hS kf ⊢
    rw [hwn] at s0 c4 e1 e2 hW0
    rw [hhn] at s1 c5 e3 e4 hW0
    clear hwn hhn
    go_enter Try.func25, Try.ntmps25
    go_wp2_with fail
    rw [← hW0, ← hC, ← hB]
    clear hW0 hC hB
    go_wp2_with (first | (go_at_call 46; (with_reducible refine (kb _).mono ?_); rintro e u1 ⟨rfl, hb1⟩; have hT1 := Turned.ofBelow hb1; have s0 := ((hS.keep hT1 (by simp)).2 0 _ rfl).1; have q0 := ((hP.keep hT1 (by simp)).2 0 _ rfl).1; have s1 := ((hS.keep hT1 (by simp)).2 1 _ rfl).1; have q1 := ((hP.keep hT1 (by simp)).2 1 _ rfl).1; have s2 := ((hS.keep hT1 (by simp)).2 2 _ rfl).1; have q2 := ((hP.keep hT1 (by simp)).2 2 _ rfl).1; have s3 := ((hS.keep hT1 (by simp)).2 3 _ rfl).1; have q3 := ((hP.keep hT1 (by simp)).2 3 _ rfl).1; have hM := hM.calm hT1) | (go_at_call 47; (with_reducible refine (kf _ hM).mono ?_); rintro e u2 ⟨rfl, hT2⟩; have hT1 := hT1.trans hT2 (by simp); have s0 := ((hS.keep hT1 (by simp)).2 0 _ rfl).1; have q0 := ((hP.keep hT1 (by simp)).2 0 _ rfl).1; have s1 := ((hS.keep hT1 (by simp)).2 1 _ rfl).1; have q1 := ((hP.keep hT1 (by simp)).2 1 _ rfl).1; have s2 := ((hS.keep hT1 (by simp)).2 2 _ rfl).1; have q2 := ((hP.keep hT1 (by simp)).2 2 _ rfl).1; have s3 := ((hS.keep hT1 (by simp)).2 3 _ rfl).1; have q3 := ((hP.keep hT1 (by simp)).2 3 _ rfl).1; clear hb1))
    obtain ⟨W1, hW1⟩ : ∃ W1, W1 = u2 := ⟨_, rfl⟩
    have hTW : Turned [] W0 W1 := by rw [hW1]; exact hT1
    have hS1 := hS.keep hTW (by simp)
    have hP1 := hP.keep hTW (by simp)
    have hM1 := (h.calm hT).calm hTW
    have hTT := hT.trans hTW (by simp)
    rw [← hW1]
    clear hW1 hT1 hT2 s0 s1 s2 s3 q0 q1 q2 q3 hM hTW hS hP hT kb kf
    go_loopw [5] (fun i wr => ∃ y : Nat, y ≤ hn ∧ i = .int .i64 (y : Int) ∧ (∀ x' y', y' < y → x' < wn → Ti.wall m x' y' = true → ¬ Ti.Over x' y' b) ∧ Turned [] W1 wr) (fun i _ => hn - (intOf i).toNat)
    case atStart => exact ⟨0, by omega, rfl, fun _ y' h1 _ _ => absurd h1 (by omega), Turned.refl _ _⟩
    case round =>
      obtain ⟨y, hy, rfl, hall, hT1⟩ := hrel
      have HALL : Hid (∀ x' y', y' < y → x' < wn → Ti.wall m x' y' = true → ¬ Ti.Over x' y' b) := hall
      clear hall
      have s1 := ((hS1.keep hT1 (by simp)).2 1 _ rfl).1
      by_cases hlt : (y : Int) < (hn : Int)
      · go_wp2_with fail
        go_loopw [6] (fun i wq => ∃ x : Nat, x ≤ wn ∧ i = .int .i64 (x : Int) ∧ (∀ x', x' < x → Ti.wall m x' y = true → ¬ Ti.Over x' y b) ∧ Turned [] W1 wq) (fun i _ => wn - (intOf i).toNat)
        case atStart => exact ⟨0, by omega, rfl, fun x' h1 _ => absurd h1 (by omega), hT1⟩
        case round =>
          clear hT1 s1
          obtain ⟨x, hx, rfl, hall, hT2⟩ := hrel
          have HROW : Hid (∀ x', x' < x → Ti.wall m x' y = true → ¬ Ti.Over x' y b) := hall
          clear hall
          have hS2 := hS1.keep hT2 (by simp)
          have hP2 := hP1.keep hT2 (by simp)
          have s0 := (hS2.2 0 _ rfl).1
          by_cases hlx : (x : Int) < (wn : Int)
          · obtain ⟨py, hpy⟩ : ∃ p, p = y * wn := ⟨_, rfl⟩
            have hp1 : (y : Int) * (wn : Int) = (py : Int) := by rw [hpy, Int.natCast_mul]
            have hwat := Ti.dims_ws HF.out.1 (x := x) (y := y) (by have := HWN.out; omega) (by have := HWN.out; omega)
            rw [HWN.out.1, ← hpy] at hwat
            have hpx : (py : Int) + (x : Int) < (nw : Int) := by have := hwat.1; have := HNW.out; omega
            have hnw : (nw : Int) ≤ 1100 := by omega
            have s0' := fun o => ((hS2.keep ((Turned.refl [] wr).alloc o) (by simp)).2 0 _ rfl).1
            have s2' := fun o => ((hS2.keep ((Turned.refl [] wr).alloc o) (by simp)).2 2 _ rfl).1
            have q0' := fun o => ((hP2.keep ((Turned.refl [] wr).alloc o) (by simp)).2 0 _ rfl).1
            have q1' := fun o => ((hP2.keep ((Turned.refl [] wr).alloc o) (by simp)).2 1 _ rfl).1
            have q2' := fun o => ((hP2.keep ((Turned.refl [] wr).alloc o) (by simp)).2 2 _ rfl).1
            have q3' := fun o => ((hP2.keep ((Turned.refl [] wr).alloc o) (by simp)).2 3 _ rfl).1
            obtain ⟨g, off, rfl, hg, c0⟩ := wall_at (hM1.ws.turned hT2 (by simp)) hwat.2
            have c0' := fun o => (((Turned.refl [] wr).alloc o).cell (p := ⟨g, off + (py + x), none⟩) hg (by simp)).trans c0
            have hoi := over_iff (x := x) (y := y) (b := b) (by omega) (by omega) HBF.out
            have ko := fun (u : World) => BxR.overlap_any ((x : Int) * 65536) ((y : Int) * 65536) ((x : Int) * 65536 + 65536) ((y : Int) * 65536 + 65536) b.lx b.ly b.mx b.my u
            clear hpy hwat
            cases hw : Ti.wall m x y with
            | false =>
              rw [hw] at c0'
              have HNX : Hid (∀ x', x' < x + 1 → Ti.wall m x' y = true → ¬ Ti.Over x' y b) := by
                intro x' h1 h2
                by_cases e : x' = x
                · subst e; rw [hw] at h2; cases h2
                · exact HROW.out x' (by omega) h2
              clear hw hoi ko
              go_wp2_with fail
              go_roundw
              case rel => exact ⟨x + 1, by omega, by go_num, HNX.out, hT2.alloc _⟩
              case measure => simp [intOf]; omega
            | true =>
              rw [hw] at c0'
              cases hov : Bx.overlap ((x : Int) * 65536) ((y : Int) * 65536) ((x : Int) * 65536 + 65536) ((y : Int) * 65536 + 65536) b.lx b.ly b.mx b.my with
              | true =>
                rw [hov] at ko
                have HA : Hid (Ti.freeB m b = false) := not_free (fun hf => hf.2.2 x y (by have := HWN.out; omega) (by have := HWN.out; omega) hw (hoi.1 hov))
                clear hw hoi hov
                go_wp2_with (go_at_call 48; (with_reducible refine (ko _).mono ?_); rintro e u3 ⟨rfl, hb3⟩)
                go_ret
                exact ti_bool HA.out.symm (hTT.trans ((hT2.alloc _).trans (Turned.ofBelow hb3) (by simp)) (by simp))
              | false =>
                rw [hov] at ko
                have HNX : Hid (∀ x', x' < x + 1 → Ti.wall m x' y = true → ¬ Ti.Over x' y b) := by
                  intro x' h1 h2
                  by_cases e : x' = x
                  · subst e; intro ho; rw [hoi.2 ho] at hov; cases hov
                  · exact HROW.out x' (by omega) h2
                clear hw hoi hov
                go_wp2_with (go_at_call 48; (with_reducible refine (ko _).mono ?_); rintro e u3 ⟨rfl, hb3⟩)
                go_roundw
                case rel => exact ⟨x + 1, by omega, by go_num, HNX.out, (hT2.alloc _).trans (Turned.ofBelow hb3) (by simp)⟩
                case measure => simp [intOf]; omega
          · have hxw : x = wn := by omega
            have HNY : Hid (∀ x' y', y' < y + 1 → x' < wn → Ti.wall m x' y' = true → ¬ Ti.Over x' y' b) := by
              intro x' y' h1 h2 h3
              by_cases e : y' = y
              · subst e; exact HROW.out x' (by omega) h3
              · exact HALL.out x' y' (by omega) h2 h3
            clear hxw
            go_wp2_with fail
            go_roundw
            case rel => exact ⟨y + 1, by omega, by go_num, HNY.out, hT2⟩
            case measure => simp [intOf]; omega
      · have hyh : y = hn := by omega
        have HA : Hid (Ti.freeB m b = true) := is_free ⟨HF.out, HIN.out, fun x' y' h1 h2 h3 => HALL.out x' y' (by have := HWN.out; omega) (by have := HWN.out; omega) h3⟩
        clear hyh
        go_wp2_with fail
        go_ret
        exact ti_bool HA.out.symm (hTT.trans hT1 (by simp))
end TiR
end Go.Proofs.Ytbfffgnalopfbaa

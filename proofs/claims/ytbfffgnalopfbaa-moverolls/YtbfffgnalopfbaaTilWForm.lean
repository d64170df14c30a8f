/- Where a place lies in a map, whether a map can be read, which tiles are walls: the program's (TiW). -/
import Derived.Test.YtbfffgnalopfbaaTilPlain5
import Derived.Test.YtbfffgnalopfbaaTilFree
namespace Go.Proofs.Ytbfffgnalopfbaa
open Go.RowKit
set_option linter.unusedVariables false
set_option linter.unusedSimpArgs false

namespace Ti
theorem of_small {x : Int} (h0 : 0 ≤ x) (h1 : x ≤ 1000) : Fx.ofI x = x * 65536 := by
  unfold Fx.ofI
  rw [Fx.hold_of (x := x) (by omega) (by omega), Fx.hold_of (by omega) (by omega)]
theorem floor_small {a : Int} (h0 : 0 ≤ a) (h1 : a ≤ 100000000) : Fx.floor a = a / 65536 := by
  unfold Fx.floor
  rw [Fx.hold_of (by omega) (by omega)]
theorem floor_in {a : Int} (h0 : 0 ≤ Fx.floor a) (h1 : Fx.floor a < 32) : Fx.floor a = a / 65536 := by
  unfold Fx.floor Fx.hold at h0 h1 ⊢
  split at h0
  · omega
  · split at h0
    · rename_i h2 h3
      rw [if_neg h2, if_pos h3] at h1
      omega
    · rename_i h2 h3
      rw [if_neg h2, if_neg h3]
theorem scan_none {m : M} (hD : Dims m) (h : scan m (-1) m.sp = none) : formedB m = false := by
  refine formedB_not ?_
  rw [← scan_formed hD]
  rintro ⟨z, e, _⟩
  rw [h] at e
  cases e
theorem scan_end {m : M} {z : Int} (hD : Dims m) (h : scan m (-1) m.sp = some z) : formedB m = (z != -1) := by
  rw [Bool.eq_iff_iff, formedB_iff, ← scan_formed hD, bne_iff_ne]
  constructor
  · rintro ⟨z', e, hn⟩
    rw [h] at e
    rw [Option.some.inj e]
    exact hn
  · intro hn
    exact ⟨z, h, hn⟩
end Ti

namespace TiW
set_option maxHeartbeats 400000 in
theorem side_any (n : Int) (w : World) :
    Calls Try.prog 63 #[.int .i64 n] w fun e w' => e = .returned (.bool (decide (1 ≤ n ∧ n ≤ 32))) ∧ w' = w := by
  by_cases h1 : 1 ≤ n
  · go_enter Try.func63, Try.ntmps63
    go_wp2
    go_ret
    exact ti_bool (by simp [h1]) rfl
  · go_enter Try.func63, Try.ntmps63
    go_wp2
    go_ret
    exact ti_bool (by simp; omega) rfl

set_option maxHeartbeats 2000000 in
theorem has_any (W H x y : Int) (oa : Option Addr) (nw ca : Nat) (ob : Option Addr) (ns cb : Nat) (w : World) :
    Calls Try.prog 67 #[.agg #[.int .i64 W, .int .i64 H, .slice oa nw ca, .slice ob ns cb], .int .i64 x, .int .i64 y] w fun e w' => e = .returned (.bool (decide (0 ≤ x ∧ x < W ∧ 0 ≤ y ∧ y < H))) ∧ Turned [] w w' := by
  go_enter Try.func67, Try.ntmps67
  go_wp2
  all_goals go_ret
  all_goals refine ti_bool ?_ (by exact (Turned.refl _ _).alloc _)
  all_goals refine Bool.eq_iff_iff.2 ?_
  all_goals (try simp only [decide_eq_true_iff, Bool.and_eq_true, Bool.false_eq_true, false_iff, true_iff])
  all_goals (try simp only [beq_iff_eq, beq_eq_false_iff_ne, ne_eq, Bool.not_eq_true', Bool.not_eq_false', Bool.and_eq_true, Bool.or_eq_true, decide_eq_true_iff, decide_eq_false_iff_not] at *)
  all_goals omega

set_option maxHeartbeats 1000000 in
theorem place_any (W H x y : Int) (h1 : 0 ≤ y * W) (h2 : y * W ≤ 2000) (h3 : 0 ≤ x) (h4 : x ≤ 2000) (oa : Option Addr) (nw ca : Nat) (ob : Option Addr) (ns cb : Nat) (w : World) :
    Calls Try.prog 68 #[.agg #[.int .i64 W, .int .i64 H, .slice oa nw ca, .slice ob ns cb], .int .i64 x, .int .i64 y] w fun e w' => e = .returned (.int .i64 (y * W + x)) ∧ Turned [] w w' := by
  go_enter Try.func68, Try.ntmps68
  go_wp2
  go_ret
  exact ⟨rfl, (Turned.refl _ _).alloc _⟩

set_option maxHeartbeats 1000000 in
theorem corner_any (x y : Int) (hx0 : 0 ≤ x) (hx : x ≤ 1000) (hy0 : 0 ≤ y) (hy : y ≤ 1000) (w : World) :
    Calls Try.prog 65 #[.int .i64 x, .int .i64 y] w fun e w' => e = .returned (.agg #[.int .i64 (x * 65536), .int .i64 (y * 65536)]) ∧ Turned [] w w' := by
  have k1 := fun u => FxW.of_any x u
  have k2 := fun u => FxW.of_any y u
  rw [Ti.of_small hx0 hx] at k1
  rw [Ti.of_small hy0 hy] at k2
  have HT : ∀ o, Turned [] w (w.alloc o) := fun o => (Turned.refl [] w).alloc o
  go_enter Try.func65, Try.ntmps65
  go_wp2_with (first | (go_at_call_of 31 (Value.int IntKind.i64 x); refine (k1 _).mono ?_; rintro e w' ⟨rfl, rfl⟩) | (go_at_call 31; refine (k2 _).mono ?_; rintro e w' ⟨rfl, rfl⟩))
  exact bodyPost_ret (v := .agg #[.int .i64 (x * 65536), .int .i64 (y * 65536)]) (by simp [results, Try.results65, go_sem]) rfl ⟨rfl, HT _⟩

set_option maxHeartbeats 1000000 in
theorem middle_any (x y : Int) (hx0 : 0 ≤ x) (hx : x ≤ 1000) (hy0 : 0 ≤ y) (hy : y ≤ 1000) (w : World) :
    Calls Try.prog 76 #[.int .i64 x, .int .i64 y] w fun e w' => e = .returned (.agg #[.int .i64 (x * 65536 + 32768), .int .i64 (y * 65536 + 32768)]) ∧ Turned [] w w' := by
  have k1 := fun u => corner_any x y hx0 hx hy0 hy u
  go_enter Try.func76, Try.ntmps76
  go_wp2_with (go_at_call 65; refine (k1 _).mono ?_; rintro e u1 ⟨rfl, hT1⟩; have hS := (Struct.new w [.int .i64 0, .int .i64 0] 28).keep hT1 (by simp); have z0 := (hS.2 0 _ rfl).1; have y0 := (hS.2 0 _ rfl).2; have z1 := (hS.2 1 _ rfl).1; have y1 := (hS.2 1 _ rfl).2; have hl := hS.1)
  obtain ⟨W9, hW9⟩ : ∃ W9, W9 = ((u1.setCell ⟨w.heap.size, 0, none⟩ (.int .i64 (x * 65536 + 32768))).setCell ⟨w.heap.size, 1, none⟩ (.int .i64 (y * 65536 + 32768))).alloc (.cells #[.int .i64 (x * 65536), .int .i64 (y * 65536)] 28) := ⟨_, rfl⟩
  have hS9 : Struct w.heap.size [.int .i64 (x * 65536 + 32768), .int .i64 (y * 65536 + 32768)] W9 := by
    rw [hW9]; exact ((hS.set (i := 0) (by simp) _).set (i := 1) (by simp) _).keep ((Turned.refl [] _).alloc _) (by simp)
  have hT9 : Turned [] w W9 := by
    rw [hW9]
    exact (((((Turned.refl [] w).alloc _).trans hT1 (by simp)).setCell (p := ⟨w.heap.size, 0, none⟩) (.inr (Nat.le_refl _)) _).setCell (p := ⟨w.heap.size, 1, none⟩) (.inr (Nat.le_refl _)) _).alloc _
  rw [← hW9]
  have g0 := (hS9.2 0 _ rfl).1
  have g1 := (hS9.2 1 _ rfl).1
  exact bodyPost_ret (v := .agg #[.int .i64 (x * 65536 + 32768), .int .i64 (y * 65536 + 32768)]) (by simp [results, Try.results76, go_sem, g0, g1]) rfl ⟨rfl, hT9⟩

set_option maxHeartbeats 4000000 in
theorem placeOf_any (m : Ti.M) (hW1 : 1 ≤ m.W) (hW2 : m.W ≤ 32) (hH1 : 1 ≤ m.H) (hH2 : m.H ≤ 32) (p : Int × Int) (oa : Option Addr) (nw ca : Nat) (ob : Option Addr) (ns cb : Nat) (w : World) :
    Calls Try.prog 78 #[.agg #[.int .i64 m.W, .int .i64 m.H, .slice oa nw ca, .slice ob ns cb], .agg #[.int .i64 p.1, .int .i64 p.2]] w fun e w' => e = .returned (.tuple #[.int .i64 (((Ti.spotOf m p).getD 0 : Nat) : Int), .bool (Ti.spotOf m p).isSome]) ∧ Turned [] w w' := by
  obtain ⟨fx, hfx⟩ : ∃ z, z = Fx.floor p.1 := ⟨_, rfl⟩
  obtain ⟨fy, hfy⟩ : ∃ z, z = Fx.floor p.2 := ⟨_, rfl⟩
  have k1 := fun u => FxW.floor_any p.1 u
  have k2 := fun u => FxW.floor_any p.2 u
  rw [← hfx] at k1
  rw [← hfy] at k2
  have kh := fun u => has_any m.W m.H fx fy oa nw ca ob ns cb u
  have hne := tv_neq
  have key : (decide (0 ≤ fx ∧ fx < m.W ∧ 0 ≤ fy ∧ fy < m.H) = false ∧ Ti.spotOf m p = none) ∨ (decide (0 ≤ fx ∧ fx < m.W ∧ 0 ≤ fy ∧ fy < m.H) = true ∧ (!((p.1 == fx * 65536 + 32768) && (p.2 == fy * 65536 + 32768))) = true ∧ Ti.spotOf m p = none) ∨ (decide (0 ≤ fx ∧ fx < m.W ∧ 0 ≤ fy ∧ fy < m.H) = true ∧ (!((p.1 == fx * 65536 + 32768) && (p.2 == fy * 65536 + 32768))) = false ∧ ∃ i : Nat, Ti.spotOf m p = some i ∧ (i : Int) = fy * m.W + fx) := by
    by_cases hin : 0 ≤ fx ∧ fx < m.W ∧ 0 ≤ fy ∧ fy < m.H
    · have e1 : fx = p.1 / 65536 := by rw [hfx]; exact Ti.floor_in (by omega) (by omega)
      have e2 : fy = p.2 / 65536 := by rw [hfy]; exact Ti.floor_in (by omega) (by omega)
      by_cases hp : p.1 = fx * 65536 + 32768 ∧ p.2 = fy * 65536 + 32768
      · refine .inr (.inr ⟨by simpa using hin, by simp [hp.1, hp.2], fy.toNat * m.W.toNat + fx.toNat, ?_, ?_⟩)
        · unfold Ti.spotOf
          rw [← e1, ← e2, if_pos]
          refine ⟨hin.1, hin.2.1, hin.2.2.1, hin.2.2.2, ?_⟩
          obtain ⟨a, b⟩ := p
          simp only at hp
          unfold Ti.mid
          rw [hp.1, hp.2, Int.toNat_of_nonneg hin.1, Int.toNat_of_nonneg hin.2.2.1]
        · rw [Int.natCast_add, Int.natCast_mul, Int.toNat_of_nonneg hin.1, Int.toNat_of_nonneg hin.2.2.1, Int.toNat_of_nonneg (by omega)]
      · refine .inr (.inl ⟨by simpa using hin, ?_, ?_⟩)
        · rw [Bool.not_eq_true', Bool.eq_false_iff]
          intro h
          simp at h
          exact hp h
        · unfold Ti.spotOf
          rw [← e1, ← e2, if_neg]
          rintro ⟨_, _, _, _, h⟩
          apply hp
          rw [h]
          unfold Ti.mid
          exact ⟨by show ((fx.toNat : Int) * 65536 + 32768) = _; rw [Int.toNat_of_nonneg hin.1], by show ((fy.toNat : Int) * 65536 + 32768) = _; rw [Int.toNat_of_nonneg hin.2.2.1]⟩
    · refine .inl ⟨by simpa using hin, ?_⟩
      unfold Ti.spotOf
      rw [if_neg]
      rintro ⟨q1, q2, q3, q4, _⟩
      apply hin
      rw [hfx, hfy, Ti.floor_small (by omega) (by omega), Ti.floor_small (by omega) (by omega)]
      exact ⟨q1, q2, q3, q4⟩
  obtain ⟨W0, hW0⟩ : ∃ W0, W0 = (w.alloc (.cells #[.int .i64 m.W, .int .i64 m.H, .slice oa nw ca, .slice ob ns cb] 25)).alloc (.cells #[.int .i64 p.1, .int .i64 p.2] 28) := ⟨_, rfl⟩
  obtain ⟨B, hB⟩ : ∃ B, B = w.heap.size := ⟨_, rfl⟩
  obtain ⟨C, hC⟩ : ∃ C, C = w.heap.size + 1 := ⟨_, rfl⟩
  have hT : Turned [] w W0 := by rw [hW0]; exact ((Turned.refl [] w).alloc _).alloc _
  have hS : Struct B [.int .i64 m.W, .int .i64 m.H, .slice oa nw ca, .slice ob ns cb] W0 := by rw [hW0, hB]; exact (Struct.new w [.int .i64 m.W, .int .i64 m.H, .slice oa nw ca, .slice ob ns cb] _).keep ((Turned.refl [] _).alloc _) (by simp)
  have hP : Struct C [.int .i64 p.1, .int .i64 p.2] W0 := by
    have := Struct.new (w.alloc (.cells #[.int .i64 m.W, .int .i64 m.H, .slice oa nw ca, .slice ob ns cb] 25)) [.int .i64 p.1, .int .i64 p.2] 28
    rw [show (w.alloc (.cells #[.int .i64 m.W, .int .i64 m.H, .slice oa nw ca, .slice ob ns cb] 25)).heap.size = w.heap.size + 1 by simp, ← hC] at this
    rw [hW0]; exact this
  have d0 := KeptW.at hS.1 (hS.2 0 _ rfl).1
  have d1 := KeptW.at hS.1 (hS.2 1 _ rfl).1
  have d2 := KeptW.at hS.1 (hS.2 2 _ rfl).1
  have d3 := KeptW.at hS.1 (hS.2 3 _ rfl).1
  have c0 := KeptW.at hP.1 (hP.2 0 _ rfl).1
  have c1 := KeptW.at hP.1 (hP.2 1 _ rfl).1
  have ne : Nonempty (KeptW W0) := KeptW.one W0
  clear hfx hfy
  rcases key with ⟨e1, e2⟩ | ⟨e1, e3, e2⟩ | ⟨e1, e3, i, e2, e4⟩
  · rw [e1] at kh
    rw [e2]
    have km : True := trivial
    clear e1 e2
    go_enter Try.func78, Try.ntmps78
    go_wp2_with fail
    rw [← hW0, ← hC, ← hB]
    clear hW0 hB hC
    refine wp_region_kept (by kernel_rfl) (by kernel_rfl) ?_
    repeat (go_big_quiet_step (first | (go_at_call_of 40 (Value.int IntKind.i64 p.1); exact kept_same (k1 _)) | (go_at_call 40; exact kept_same (k2 _))))
    refine wpQuiet_nil ?_
    rintro _ ⟨x1, rfl⟩
    go_wp2_with fail
    have hB1 := x1.h
    generalize x1.u = W1 at hB1 ⊢
    have hT1 := Turned.ofBelow hB1
    have hS1 := hS.keep hT1 (by simp)
    have hP1 := hP.keep hT1 (by simp)
    clear d0 d1 d2 d3 c0 c1 ne hS hP hB1
    have d0 := KeptW.at hS1.1 (hS1.2 0 _ rfl).1
    have d1 := KeptW.at hS1.1 (hS1.2 1 _ rfl).1
    have d2 := KeptW.at hS1.1 (hS1.2 2 _ rfl).1
    have d3 := KeptW.at hS1.1 (hS1.2 3 _ rfl).1
    have c0 := KeptW.at hP1.1 (hP1.2 0 _ rfl).1
    have c1 := KeptW.at hP1.1 (hP1.2 1 _ rfl).1
    have ne : Nonempty (KeptW W1) := KeptW.one W1
    refine wp_region_kept (by kernel_rfl) (by kernel_rfl) ?_
    repeat (go_big_quiet_step (first | (go_at_call 67; exact kept_call ((kh _).mono fun r w' h => ⟨h.1, h.2.none⟩))))
    refine wpQuiet_nil ?_
    rintro _ ⟨x2, rfl⟩
    go_wp2_with fail
    go_ret2
    exact ⟨rfl, hT.trans (hT1.trans (Turned.ofBelow x2.h) (by simp)) (by simp)⟩
  · rw [e1] at kh
    have hin : 0 ≤ fx ∧ fx < m.W ∧ 0 ≤ fy ∧ fy < m.H := by simpa using e1
    have km := fun u => middle_any fx fy (by omega) (by omega) (by omega) (by omega) u
    rw [e2]
    clear e1 e2 hin
    go_enter Try.func78, Try.ntmps78
    go_wp2_with fail
    rw [← hW0, ← hC, ← hB]
    clear hW0 hB hC
    refine wp_region_kept (by kernel_rfl) (by kernel_rfl) ?_
    repeat (go_big_quiet_step (first | (go_at_call_of 40 (Value.int IntKind.i64 p.1); exact kept_same (k1 _)) | (go_at_call 40; exact kept_same (k2 _))))
    refine wpQuiet_nil ?_
    rintro _ ⟨x1, rfl⟩
    go_wp2_with fail
    have hB1 := x1.h
    generalize x1.u = W1 at hB1 ⊢
    have hT1 := Turned.ofBelow hB1
    have hS1 := hS.keep hT1 (by simp)
    have hP1 := hP.keep hT1 (by simp)
    clear d0 d1 d2 d3 c0 c1 ne hS hP hB1
    have d0 := KeptW.at hS1.1 (hS1.2 0 _ rfl).1
    have d1 := KeptW.at hS1.1 (hS1.2 1 _ rfl).1
    have d2 := KeptW.at hS1.1 (hS1.2 2 _ rfl).1
    have d3 := KeptW.at hS1.1 (hS1.2 3 _ rfl).1
    have c0 := KeptW.at hP1.1 (hP1.2 0 _ rfl).1
    have c1 := KeptW.at hP1.1 (hP1.2 1 _ rfl).1
    have ne : Nonempty (KeptW W1) := KeptW.one W1
    refine wp_region_kept (by kernel_rfl) (by kernel_rfl) ?_
    repeat (go_big_quiet_step (first | (go_at_call 67; exact kept_call ((kh _).mono fun r w' h => ⟨h.1, h.2.none⟩)) | (go_at_call 76; exact kept_call ((km _).mono fun r w' h => ⟨h.1, h.2.none⟩))))
    refine wpQuiet_nil ?_
    rintro _ ⟨x2, rfl⟩
    go_wp2_with fail
    go_ret2
    exact ⟨rfl, hT.trans (hT1.trans (Turned.ofBelow x2.h) (by simp)) (by simp)⟩
  · rw [e1] at kh
    have hin : 0 ≤ fx ∧ fx < m.W ∧ 0 ≤ fy ∧ fy < m.H := by simpa using e1
    have km := fun u => middle_any fx fy (by omega) (by omega) (by omega) (by omega) u
    have b1 : 0 ≤ fy * m.W := Int.mul_nonneg (by omega) (by omega)
    have b2 : fy * m.W ≤ 32 * 32 := Int.mul_le_mul (by omega) (by omega) (by omega) (by omega)
    have kp := fun u => place_any m.W m.H fx fy b1 (by omega) (by omega) (by omega) oa nw ca ob ns cb u
    rw [e2]
    rw [show (((some i).getD 0 : Nat) : Int) = fy * m.W + fx from e4]
    clear e1 e2 e4 b1 b2
    go_enter Try.func78, Try.ntmps78
    go_wp2_with fail
    rw [← hW0, ← hC, ← hB]
    clear hW0 hB hC
    refine wp_region_kept (by kernel_rfl) (by kernel_rfl) ?_
    repeat (go_big_quiet_step (first | (go_at_call_of 40 (Value.int IntKind.i64 p.1); exact kept_same (k1 _)) | (go_at_call 40; exact kept_same (k2 _))))
    refine wpQuiet_nil ?_
    rintro _ ⟨x1, rfl⟩
    go_wp2_with fail
    have hB1 := x1.h
    generalize x1.u = W1 at hB1 ⊢
    have hT1 := Turned.ofBelow hB1
    have hS1 := hS.keep hT1 (by simp)
    have hP1 := hP.keep hT1 (by simp)
    clear d0 d1 d2 d3 c0 c1 ne hS hP hB1
    have d0 := KeptW.at hS1.1 (hS1.2 0 _ rfl).1
    have d1 := KeptW.at hS1.1 (hS1.2 1 _ rfl).1
    have d2 := KeptW.at hS1.1 (hS1.2 2 _ rfl).1
    have d3 := KeptW.at hS1.1 (hS1.2 3 _ rfl).1
    have c0 := KeptW.at hP1.1 (hP1.2 0 _ rfl).1
    have c1 := KeptW.at hP1.1 (hP1.2 1 _ rfl).1
    have ne : Nonempty (KeptW W1) := KeptW.one W1
    refine wp_region_kept (by kernel_rfl) (by kernel_rfl) ?_
    repeat (go_big_quiet_step (first | (go_at_call 67; exact kept_call ((kh _).mono fun r w' h => ⟨h.1, h.2.none⟩)) | (go_at_call 76; exact kept_call ((km _).mono fun r w' h => ⟨h.1, h.2.none⟩))))
    refine wpQuiet_nil ?_
    rintro _ ⟨x2, rfl⟩
    have l0 := d0 x2
    have l1 := d1 x2
    have l2 := d2 x2
    have l3 := d3 x2
    have hT2 := hT.trans (hT1.trans (Turned.ofBelow x2.h) (by simp)) (by simp)
    go_wp2_with (go_at_call 68; refine (kp _).mono ?_; rintro e u3 ⟨rfl, hT3⟩)
    go_ret2
    exact ⟨rfl, hT2.trans hT3 (by simp)⟩

set_option maxHeartbeats 4000000 in
theorem spawns_any (m : Ti.M) (oa : Option Addr) (ca : Nat) (ob : Option Addr) (cb : Nat) (w : World) (h : MapAt m oa ob w) (hD : Ti.Dims m) :
    Calls Try.prog 64 #[mapVal m oa ca ob cb] w fun e w' => e = .returned (.bool (Ti.formedB m)) ∧ Turned [] w w' := by
  obtain ⟨hW1, hW2, hH1, hH2, hWH⟩ := hD
  obtain ⟨nw, hnw⟩ : ∃ n, n = m.ws.length := ⟨_, rfl⟩
  obtain ⟨ns, hns⟩ : ∃ n, n = m.sp.length := ⟨_, rfl⟩
  have kp := fun (p : Int × Int) (u : World) => placeOf_any m hW1 hW2 hH1 hH2 p oa nw ca ob ns cb u
  have hlw := h.lw
  have hls := h.ls
  obtain ⟨W0, hW0⟩ : ∃ W0, W0 = w.alloc (.cells #[.int .i64 m.W, .int .i64 m.H, .slice oa nw ca, .slice ob ns cb] 25) := ⟨_, rfl⟩
  obtain ⟨B, hB⟩ : ∃ B, B = w.heap.size := ⟨_, rfl⟩
  have hT : Turned [] w W0 := by rw [hW0]; exact (Turned.refl [] w).alloc _
  have hS : Struct B [.int .i64 m.W, .int .i64 m.H, .slice oa nw ca, .slice ob ns cb] W0 := by rw [hW0, hB]; exact Struct.new w [.int .i64 m.W, .int .i64 m.H, .slice oa nw ca, .slice ob ns cb] _
  unfold mapVal
  rw [← hnw] at hlw
  rw [← hns] at hls
  rw [← hnw, ← hns]
  have HNW : Hid (nw = m.ws.length) := hnw
  have HNS : Hid (ns = m.sp.length) := hns
  have HD : Hid (Ti.Dims m) := ⟨hW1, hW2, hH1, hH2, hWH⟩
  have s3 := (hS.2 3 _ rfl).1
  clear hnw hns hWH
  go_enter Try.func64, Try.ntmps64
  go_wp2_with fail
  rw [← hW0, ← hB]
  clear hW0 hB
  go_loopw [3, 11] (fun l i wr => ∃ (k : Nat) (last : Int), k ≤ ns ∧ l = .int .i64 last ∧ i = .int .i64 (k : Int) ∧ -1 ≤ last ∧ last ≤ 1100 ∧ Ti.scan m (-1) m.sp = Ti.scan m last (m.sp.drop k) ∧ Turned [] W0 wr) (fun _ i _ => ns - (intOf i).toNat)
  case atStart => exact ⟨0, -1, by omega, rfl, rfl, by omega, by omega, rfl, Turned.refl _ _⟩
  case round =>
    obtain ⟨k, last, hk, rfl, rfl, hl1, hl2, hsc, hT2⟩ := hrel
    have hS2 := hS.keep hT2 (by simp)
    have HSC : Hid (Ti.scan m (-1) m.sp = Ti.scan m last (m.sp.drop k)) := hsc
    clear hsc
    by_cases hlt : (k : Int) < (ns : Int)
    · obtain ⟨p, hp⟩ : ∃ p, m.sp[k]? = some p := ⟨_, List.getElem?_eq_getElem (by have := HNS.out; omega)⟩
      have HDR : Hid (m.sp.drop k = p :: m.sp.drop (k + 1)) := by
        have hkl := (List.getElem?_eq_some_iff.1 hp)
        obtain ⟨hkl, e⟩ := hkl
        show _ = _
        rw [List.drop_eq_getElem_cons hkl, e]
      obtain ⟨g, off, rfl, hg, q0, q1⟩ := place_at ((h.sp.turned hT (by simp)).turned hT2 (by simp)) hp
      have kq := kp p
      clear kp hp
      cases hs : Ti.spotOf m p with
      | none =>
        have HM : Hid (Ti.scan m (-1) m.sp = none) := by
          show _ = _
          rw [HSC.out, HDR.out]; unfold Ti.scan; rw [hs]
        rw [hs] at kq
        clear hs
        have d0 := fun o => ((hS2.keep ((Turned.refl [] wr).alloc o) (by simp)).2 0 _ rfl).1
        have d1 := fun o => ((hS2.keep ((Turned.refl [] wr).alloc o) (by simp)).2 1 _ rfl).1
        have d2 := fun o => ((hS2.keep ((Turned.refl [] wr).alloc o) (by simp)).2 2 _ rfl).1
        have d3 := fun o => ((hS2.keep ((Turned.refl [] wr).alloc o) (by simp)).2 3 _ rfl).1
        go_wp2_with (go_at_call 78; (with_reducible refine (kq _).mono ?_); rintro e u1 ⟨rfl, hT3⟩)
        go_ret
        exact ti_bool (Ti.scan_none HD.out HM.out).symm (hT.trans ((hT2.alloc _).trans hT3 (by simp)) (by simp))
      | some i =>
        obtain ⟨x, y, hx, hy, he, hi⟩ := Ti.spot_some hs
        have hwat := Ti.dims_ws HD.out hx hy
        rw [← hi] at hwat
        have hin : (i : Int) < (nw : Int) := by have := hwat.1; have := HNW.out; omega
        obtain ⟨g', off', rfl, hg', q5⟩ := wall_at ((h.ws.turned hT (by simp)).turned hT2 (by simp)) hwat.2
        rw [hs] at kq
        have hgd : m.ws.getD i false = Ti.wall m x y := by rw [List.getD_eq_getElem?_getD, hwat.2]; rfl
        have d0 := fun o => ((hS2.keep ((Turned.refl [] wr).alloc o) (by simp)).2 0 _ rfl).1
        have d1 := fun o => ((hS2.keep ((Turned.refl [] wr).alloc o) (by simp)).2 1 _ rfl).1
        have d2 := fun o => ((hS2.keep ((Turned.refl [] wr).alloc o) (by simp)).2 2 _ rfl).1
        have d3 := fun o => ((hS2.keep ((Turned.refl [] wr).alloc o) (by simp)).2 3 _ rfl).1
        by_cases hil : (i : Int) ≤ last
        · have HM : Hid (Ti.scan m (-1) m.sp = none) := by
            show _ = _
            rw [HSC.out, HDR.out]; unfold Ti.scan; rw [hs]; simp only; rw [if_neg]; rintro ⟨h1, _⟩; omega
          clear hs hgd hwat he hi hx hy q5
          go_wp2_with (go_at_call 78; (with_reducible refine (kq _).mono ?_); rintro e u1 ⟨rfl, hT3⟩)
          go_ret
          exact ti_bool (Ti.scan_none HD.out HM.out).symm (hT.trans ((hT2.alloc _).trans hT3 (by simp)) (by simp))
        · cases hwl : Ti.wall m x y with
          | true =>
            have HM : Hid (Ti.scan m (-1) m.sp = none) := by
              show _ = _
              rw [HSC.out, HDR.out]; unfold Ti.scan; rw [hs]; simp only; rw [if_neg]; rintro ⟨_, h1⟩; rw [hgd, hwl] at h1; cases h1
            rw [hwl] at q5
            clear hs hgd hwat he hi hx hy hwl
            go_wp2_with (go_at_call 78; (with_reducible refine (kq _).mono ?_); rintro e u1 ⟨rfl, hT3⟩; have hT4 := (((Turned.refl [] wr).alloc _).trans hT3 (by simp)); have r1 := (hT4.cell (p := ⟨g', off' + i, none⟩) hg' (by simp)).trans q5; have d2' := ((hS2.keep hT4 (by simp)).2 2 _ rfl).1)
            go_ret
            exact ti_bool (Ti.scan_none HD.out HM.out).symm (hT.trans ((hT2.alloc _).trans hT3 (by simp)) (by simp))
          | false =>
            have HM : Hid (Ti.scan m (-1) m.sp = Ti.scan m (i : Int) (m.sp.drop (k + 1))) := by
              show _ = _
              rw [HSC.out, HDR.out]
              conv => lhs; unfold Ti.scan
              rw [hs]; simp only; rw [if_pos ⟨by omega, by rw [hgd, hwl]⟩]
            rw [hwl] at q5
            clear hs hgd hwat he hi hx hy hwl
            go_wp2_with (go_at_call 78; (with_reducible refine (kq _).mono ?_); rintro e u1 ⟨rfl, hT3⟩; have hT4 := (((Turned.refl [] wr).alloc _).trans hT3 (by simp)); have r1 := (hT4.cell (p := ⟨g', off' + i, none⟩) hg' (by simp)).trans q5; have d2' := ((hS2.keep hT4 (by simp)).2 2 _ rfl).1)
            go_roundw
            case rel => exact ⟨k + 1, (i : Int), by omega, rfl, by go_num, by omega, by omega, HM.out, hT2.trans hT4 (by simp)⟩
            case measure => simp [intOf]; omega
    · have HM : Hid (Ti.scan m (-1) m.sp = some last) := by
        show _ = _
        rw [HSC.out, List.drop_eq_nil_of_le (by have := HNS.out; omega)]
        rfl
      clear kp
      go_wp2_with fail
      go_ret
      exact ti_bool (Ti.scan_end HD.out HM.out).symm (hT.trans hT2 (by simp))

set_option maxHeartbeats 4000000 in
theorem formed_any (m : Ti.M) (oa : Option Addr) (ca : Nat) (ob : Option Addr) (cb : Nat) (w : World) (h : MapAt m oa ob w) :
    Calls Try.prog 38 #[mapVal m oa ca ob cb] w fun e w' => e = .returned (.bool (Ti.formedB m)) ∧ Turned [] w w' := by
  have hT : Turned [] w (w.alloc (.cells #[.int .i64 m.W, .int .i64 m.H, .slice oa m.ws.length ca, .slice ob m.sp.length cb] 25)) := (Turned.refl [] w).alloc _
  have hlw := h.lw
  have k1 := fun u => side_any m.W u
  have k2 := fun u => side_any m.H u
  have NF : ¬ Ti.Dims m → Ti.formedB m = false := fun hn => Ti.formedB_not fun hf => hn hf.1
  by_cases c1 : 1 ≤ m.W ∧ m.W ≤ 32
  · rw [show decide (1 ≤ m.W ∧ m.W ≤ 32) = true by simpa using c1] at k1
    by_cases c2 : 1 ≤ m.H ∧ m.H ≤ 32
    · rw [show decide (1 ≤ m.H ∧ m.H ≤ 32) = true by simpa using c2] at k2
      have b1 : 0 ≤ m.W * m.H := Int.mul_nonneg (by omega) (by omega)
      have b2 : m.W * m.H ≤ 32 * 32 := Int.mul_le_mul (by omega) (by omega) (by omega) (by omega)
      by_cases c3 : (m.ws.length : Int) = m.W * m.H
      · have kS := spawns_any m oa ca ob cb _ (h.calm hT) ⟨c1.1, c1.2, c2.1, c2.2, c3⟩
        have e3 : ((m.ws.length : Int) == m.W * m.H) = true := by rw [beq_iff_eq]; exact c3
        clear NF c3
        generalize Ti.formedB m = q at kS ⊢
        unfold mapVal at kS ⊢
        go_enter Try.func38, Try.ntmps38
        go_wp2_with (first | (go_at_call_of 63 (Value.int IntKind.i64 m.W); refine (k1 _).mono ?_; rintro e w' ⟨rfl, rfl⟩) | (go_at_call 63; refine (k2 _).mono ?_; rintro e w' ⟨rfl, rfl⟩) | (go_at_call 64; (with_reducible refine kS.mono ?_); rintro e u1 ⟨rfl, hT1⟩))
        go_ret
        exact ti_bool rfl (hT.trans hT1 (by simp))
      · have HF : Hid (Ti.formedB m = false) := NF fun hd => c3 hd.2.2.2.2
        have e3 : ((m.ws.length : Int) == m.W * m.H) = false := by rw [beq_eq_false_iff_ne]; exact c3
        clear NF c3
        go_enter Try.func38, Try.ntmps38
        go_wp2_with (first | (go_at_call_of 63 (Value.int IntKind.i64 m.W); refine (k1 _).mono ?_; rintro e w' ⟨rfl, rfl⟩) | (go_at_call 63; refine (k2 _).mono ?_; rintro e w' ⟨rfl, rfl⟩))
        go_ret
        exact ti_bool HF.out.symm hT
    · rw [show decide (1 ≤ m.H ∧ m.H ≤ 32) = false by simpa using c2] at k2
      have HF : Hid (Ti.formedB m = false) := NF fun hd => c2 ⟨hd.2.2.1, hd.2.2.2.1⟩
      clear NF
      go_enter Try.func38, Try.ntmps38
      go_wp2_with (first | (go_at_call_of 63 (Value.int IntKind.i64 m.W); refine (k1 _).mono ?_; rintro e w' ⟨rfl, rfl⟩) | (go_at_call 63; refine (k2 _).mono ?_; rintro e w' ⟨rfl, rfl⟩))
      go_ret
      exact ti_bool HF.out.symm hT
  · rw [show decide (1 ≤ m.W ∧ m.W ≤ 32) = false by simpa using c1] at k1
    have HF : Hid (Ti.formedB m = false) := NF fun hd => c1 ⟨hd.1, hd.2.1⟩
    clear NF
    go_enter Try.func38, Try.ntmps38
    go_wp2_with (go_at_call 63; refine (k1 _).mono ?_; rintro e w' ⟨rfl, rfl⟩)
    go_ret
    exact ti_bool HF.out.symm hT

/-- whether there is a wall, of a map that can be read -/
def inWall (m : Ti.M) (x y : Int) : Bool := decide (¬ (0 ≤ x ∧ x < m.W ∧ 0 ≤ y ∧ y < m.H)) || Ti.wall m x.toNat y.toNat
set_option maxHeartbeats 4000000 in
theorem wall1_any (m : Ti.M) (oa : Option Addr) (ca : Nat) (ob : Option Addr) (cb : Nat) (x y : Int) (w : World) (h : MapAt m oa ob w) (hD : Ti.Dims m) :
    Calls Try.prog 41 #[mapVal m oa ca ob cb, .int .i64 x, .int .i64 y] w fun e w' => e = .returned (.bool (inWall m x y)) ∧ Turned [] w w' := by
  obtain ⟨hW1, hW2, hH1, hH2, hWH⟩ := hD
  have HD : Hid (Ti.Dims m) := ⟨hW1, hW2, hH1, hH2, hWH⟩
  obtain ⟨nw, hnw⟩ : ∃ n, n = m.ws.length := ⟨_, rfl⟩
  obtain ⟨ns, hns⟩ : ∃ n, n = m.sp.length := ⟨_, rfl⟩
  have kh := fun u => has_any m.W m.H x y oa nw ca ob ns cb u
  have hlw := h.lw
  obtain ⟨W0, hW0⟩ : ∃ W0, W0 = w.alloc (.cells #[.int .i64 m.W, .int .i64 m.H, .slice oa nw ca, .slice ob ns cb] 25) := ⟨_, rfl⟩
  obtain ⟨B, hB⟩ : ∃ B, B = w.heap.size := ⟨_, rfl⟩
  have hT : Turned [] w W0 := by rw [hW0]; exact (Turned.refl [] w).alloc _
  have hS : Struct B [.int .i64 m.W, .int .i64 m.H, .slice oa nw ca, .slice ob ns cb] W0 := by rw [hW0, hB]; exact Struct.new w [.int .i64 m.W, .int .i64 m.H, .slice oa nw ca, .slice ob ns cb] _
  unfold mapVal
  rw [← hnw, ← hns]
  rw [← hnw] at hlw
  have HNW : Hid (nw = m.ws.length) := hnw
  have d0 := KeptW.at hS.1 (hS.2 0 _ rfl).1
  have d1 := KeptW.at hS.1 (hS.2 1 _ rfl).1
  have d2 := KeptW.at hS.1 (hS.2 2 _ rfl).1
  have d3 := KeptW.at hS.1 (hS.2 3 _ rfl).1
  have ne : Nonempty (KeptW W0) := KeptW.one W0
  clear hnw hns hWH
  by_cases hin : 0 ≤ x ∧ x < m.W ∧ 0 ≤ y ∧ y < m.H
  · rw [show decide (0 ≤ x ∧ x < m.W ∧ 0 ≤ y ∧ y < m.H) = true by simpa using hin] at kh
    have HA : Hid (inWall m x y = Ti.wall m x.toNat y.toNat) := by
      show _ = _
      unfold inWall
      rw [decide_eq_false (by simpa using hin), Bool.false_or]
    have hwat := Ti.dims_ws HD.out (x := x.toNat) (y := y.toNat) (by omega) (by omega)
    have b1 : 0 ≤ y * m.W := Int.mul_nonneg (by omega) (by omega)
    have b2 : y * m.W ≤ 32 * 32 := Int.mul_le_mul (by omega) (by omega) (by omega) (by omega)
    have kp := fun u => place_any m.W m.H x y b1 (by omega) (by omega) (by omega) oa nw ca ob ns cb u
    obtain ⟨i, hi⟩ : ∃ i, i = y.toNat * m.W.toNat + x.toNat := ⟨_, rfl⟩
    have hii : y * m.W + x = (i : Int) := by rw [hi, Int.natCast_add, Int.natCast_mul, Int.toNat_of_nonneg hin.1, Int.toNat_of_nonneg hin.2.2.1, Int.toNat_of_nonneg (by omega)]
    rw [← hi] at hwat
    rw [hii] at kp
    have hil : (i : Int) < (nw : Int) := by have := hwat.1; have := HNW.out; omega
    obtain ⟨g', off', rfl, hg', q5⟩ := wall_at (h.ws.turned hT (by simp)) hwat.2
    have dw := KeptW.at hg' q5
    generalize Ti.wall m x.toNat y.toNat = q at *
    clear hi hii hwat b1 b2
    go_enter Try.func41, Try.ntmps41
    go_wp2_with fail
    rw [← hW0, ← hB]
    clear hW0 hB
    refine wp_region_kept (by kernel_rfl) (by kernel_rfl) ?_
    repeat (go_big_quiet_step (first | (go_at_call 67; exact kept_call ((kh _).mono fun r w' h => ⟨h.1, h.2.none⟩)) | (go_at_call 68; exact kept_call ((kp _).mono fun r w' h => ⟨h.1, h.2.none⟩))))
    refine wpQuiet_nil ?_
    rintro _ ⟨x2, rfl⟩
    go_wp2_with fail
    go_ret
    exact ti_bool HA.out.symm (hT.trans (Turned.ofBelow x2.h) (by simp))
  · rw [show decide (0 ≤ x ∧ x < m.W ∧ 0 ≤ y ∧ y < m.H) = false by simpa using hin] at kh
    have HA : Hid (inWall m x y = true) := by
      show _ = _
      unfold inWall
      rw [decide_eq_true hin, Bool.true_or]
    go_enter Try.func41, Try.ntmps41
    go_wp2_with fail
    rw [← hW0, ← hB]
    clear hW0 hB
    refine wp_region_kept (by kernel_rfl) (by kernel_rfl) ?_
    repeat (go_big_quiet_step (first | (go_at_call 67; exact kept_call ((kh _).mono fun r w' h => ⟨h.1, h.2.none⟩))))
    refine wpQuiet_nil ?_
    rintro _ ⟨x2, rfl⟩
    go_wp2_with fail
    go_ret
    exact ti_bool HA.out.symm (hT.trans (Turned.ofBelow x2.h) (by simp))
theorem wall_in {m : Ti.M} (hF : Ti.Formed m) (x y : Int) : Ti.wallB m x y = inWall m x y := by
  rw [Bool.eq_iff_iff, Ti.wallB_iff]
  unfold inWall Ti.WallAt
  rw [Bool.or_eq_true, decide_eq_true_eq]
  constructor
  · rintro (h | h | h | h | h | h)
    · exact absurd hF h
    · exact .inl (by omega)
    · exact .inl (by omega)
    · exact .inl (by omega)
    · exact .inl (by omega)
    · exact .inr h
  · rintro (h | h)
    · omega
    · exact .inr (.inr (.inr (.inr (.inr h))))

end TiW
end Go.Proofs.Ytbfffgnalopfbaa
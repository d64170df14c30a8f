/- Joined: TilWForm, TilWFree, MvWStep, TilDec, TilWTake, TilWTake2, TilWTake3, TilWRead, MvLaw. -/
import Derived.Test.YtgabgkgokmeaeaaJ4
import Derived.Lib.OthersKept
import Derived.Laws.RangeAny
import Derived.Laws.StructEq
/- Where a place lies in a map, whether a map can be read, which tiles are walls: the program's (TiW). -/
namespace Go.Proofs.Ytgabgkgokmeaeaa
open Go.RowKit
set_option linter.unusedVariables false
set_option linter.unusedSimpArgs false

namespace Ti
theorem of_small {x : Int} (h0 : 0 ≤ x) (h1 : x ≤ 1000) : Fx.ofI x = x * 65536 := by
  unfold Fx.ofI
  rw [Fx.hold_of (x := x) (by omega) (by omega), Fx.hold_of (by omega) (by omega)]
theorem floor_small {a : Int} (h0 : 0 ≤ a) (h1 : a ≤ 100000000) : Fx.floor a = a / 65536 := by
  unfold Fx.floor
  rw [Fx.hold_of (by omega) (by omega)]
theorem floor_in {a : Int} (h0 : 0 ≤ Fx.floor a) (h1 : Fx.floor a < 32) : Fx.floor a = a / 65536 := by
  unfold Fx.floor Fx.hold at h0 h1 ⊢
  split at h0
  · omega
  · split at h0
    · rename_i h2 h3
      rw [if_neg h2, if_pos h3] at h1
      omega
    · rename_i h2 h3
      rw [if_neg h2, if_neg h3]
theorem scan_none {m : M} (hD : Dims m) (h : scan m (-1) m.sp = none) : formedB m = false := by
  refine formedB_not ?_
  rw [← scan_formed hD]
  rintro ⟨z, e, _⟩
  rw [h] at e
  cases e
theorem scan_end {m : M} {z : Int} (hD : Dims m) (h : scan m (-1) m.sp = some z) : formedB m = (z != -1) := by
  rw [Bool.eq_iff_iff, formedB_iff, ← scan_formed hD, bne_iff_ne]
  constructor
  · rintro ⟨z', e, hn⟩
    rw [h] at e
    rw [Option.some.inj e]
    exact hn
  · intro hn
    exact ⟨z, h, hn⟩
end Ti

namespace TiW
set_option maxHeartbeats 400000 in
theorem side_any (n : Int) (w : World) :
    Calls Try.prog 23 #[.int .i64 n] w fun e w' => e = .returned (.bool (decide (1 ≤ n ∧ n ≤ 32))) ∧ w' = w := by
  by_cases h1 : 1 ≤ n
  · go_enter Try.func23, Try.ntmps23
    go_wp2
    go_ret
    exact ti_bool (by simp [h1]) rfl
  · go_enter Try.func23, Try.ntmps23
    go_wp2
    go_ret
    exact ti_bool (by simp; omega) rfl

set_option maxHeartbeats 2000000 in
theorem has_any (W H x y : Int) (oa : Option Addr) (nw ca : Nat) (ob : Option Addr) (ns cb : Nat) (w : World) :
    Calls Try.prog 61 #[.agg #[.int .i64 W, .int .i64 H, .slice oa nw ca, .slice ob ns cb], .int .i64 x, .int .i64 y] w fun e w' => e = .returned (.bool (decide (0 ≤ x ∧ x < W ∧ 0 ≤ y ∧ y < H))) ∧ Turned [] w w' := by
  go_enter Try.func61, Try.ntmps61
  go_wp2
  all_goals go_ret
  all_goals refine ti_bool ?_ (by exact (Turned.refl _ _).alloc _)
  all_goals refine Bool.eq_iff_iff.2 ?_
  all_goals (try simp only [decide_eq_true_iff, Bool.and_eq_true, Bool.false_eq_true, false_iff, true_iff])
  all_goals (try simp only [beq_iff_eq, beq_eq_false_iff_ne, ne_eq, Bool.not_eq_true', Bool.not_eq_false', Bool.and_eq_true, Bool.or_eq_true, decide_eq_true_iff, decide_eq_false_iff_not] at *)
  all_goals omega

set_option maxHeartbeats 1000000 in
theorem place_any (W H x y : Int) (h1 : 0 ≤ y * W) (h2 : y * W ≤ 2000) (h3 : 0 ≤ x) (h4 : x ≤ 2000) (oa : Option Addr) (nw ca : Nat) (ob : Option Addr) (ns cb : Nat) (w : World) :
    Calls Try.prog 62 #[.agg #[.int .i64 W, .int .i64 H, .slice oa nw ca, .slice ob ns cb], .int .i64 x, .int .i64 y] w fun e w' => e = .returned (.int .i64 (y * W + x)) ∧ Turned [] w w' := by
  go_enter Try.func62, Try.ntmps62
  go_wp2
  go_ret
  exact ⟨rfl, (Turned.refl _ _).alloc _⟩

set_option maxHeartbeats 1000000 in
theorem corner_any (x y : Int) (hx0 : 0 ≤ x) (hx : x ≤ 1000) (hy0 : 0 ≤ y) (hy : y ≤ 1000) (w : World) :
    Calls Try.prog 78 #[.int .i64 x, .int .i64 y] w fun e w' => e = .returned (.agg #[.int .i64 (x * 65536), .int .i64 (y * 65536)]) ∧ Turned [] w w' := by
  have k1 := fun u => FxW.of_any x u
  have k2 := fun u => FxW.of_any y u
  rw [Ti.of_small hx0 hx] at k1
  rw [Ti.of_small hy0 hy] at k2
  have HT : ∀ o, Turned [] w (w.alloc o) := fun o => (Turned.refl [] w).alloc o
  go_enter Try.func78, Try.ntmps78
  go_wp2_with (first | (go_at_call_of 67 (Value.int IntKind.i64 x); refine (k1 _).mono ?_; rintro e w' ⟨rfl, rfl⟩) | (go_at_call 67; refine (k2 _).mono ?_; rintro e w' ⟨rfl, rfl⟩))
  exact bodyPost_ret (v := .agg #[.int .i64 (x * 65536), .int .i64 (y * 65536)]) (by simp [results, Try.results78, go_sem]) rfl ⟨rfl, HT _⟩

set_option maxHeartbeats 1000000 in
theorem middle_any (x y : Int) (hx0 : 0 ≤ x) (hx : x ≤ 1000) (hy0 : 0 ≤ y) (hy : y ≤ 1000) (w : World) :
    Calls Try.prog 59 #[.int .i64 x, .int .i64 y] w fun e w' => e = .returned (.agg #[.int .i64 (x * 65536 + 32768), .int .i64 (y * 65536 + 32768)]) ∧ Turned [] w w' := by
  have k1 := fun u => corner_any x y hx0 hx hy0 hy u
  go_enter Try.func59, Try.ntmps59
  go_wp2_with (go_at_call 78; refine (k1 _).mono ?_; rintro e u1 ⟨rfl, hT1⟩; have hS := (Struct.new w [.int .i64 0, .int .i64 0] 47).keep hT1 (by simp); have z0 := (hS.2 0 _ rfl).1; have y0 := (hS.2 0 _ rfl).2; have z1 := (hS.2 1 _ rfl).1; have y1 := (hS.2 1 _ rfl).2; have hl := hS.1)
  obtain ⟨W9, hW9⟩ : ∃ W9, W9 = ((u1.setCell ⟨w.heap.size, 0, none⟩ (.int .i64 (x * 65536 + 32768))).setCell ⟨w.heap.size, 1, none⟩ (.int .i64 (y * 65536 + 32768))).alloc (.cells #[.int .i64 (x * 65536), .int .i64 (y * 65536)] 47) := ⟨_, rfl⟩
  have hS9 : Struct w.heap.size [.int .i64 (x * 65536 + 32768), .int .i64 (y * 65536 + 32768)] W9 := by
    rw [hW9]; exact ((hS.set (i := 0) (by simp) _).set (i := 1) (by simp) _).keep ((Turned.refl [] _).alloc _) (by simp)
  have hT9 : Turned [] w W9 := by
    rw [hW9]
    exact (((((Turned.refl [] w).alloc _).trans hT1 (by simp)).setCell (p := ⟨w.heap.size, 0, none⟩) (.inr (Nat.le_refl _)) _).setCell (p := ⟨w.heap.size, 1, none⟩) (.inr (Nat.le_refl _)) _).alloc _
  rw [← hW9]
  have g0 := (hS9.2 0 _ rfl).1
  have g1 := (hS9.2 1 _ rfl).1
  exact bodyPost_ret (v := .agg #[.int .i64 (x * 65536 + 32768), .int .i64 (y * 65536 + 32768)]) (by simp [results, Try.results59, go_sem, g0, g1]) rfl ⟨rfl, hT9⟩

set_option maxHeartbeats 4000000 in
theorem placeOf_any (m : Ti.M) (hW1 : 1 ≤ m.W) (hW2 : m.W ≤ 32) (hH1 : 1 ≤ m.H) (hH2 : m.H ≤ 32) (p : Int × Int) (oa : Option Addr) (nw ca : Nat) (ob : Option Addr) (ns cb : Nat) (w : World) :
    Calls Try.prog 45 #[.agg #[.int .i64 m.W, .int .i64 m.H, .slice oa nw ca, .slice ob ns cb], .agg #[.int .i64 p.1, .int .i64 p.2]] w fun e w' => e = .returned (.tuple #[.int .i64 (((Ti.spotOf m p).getD 0 : Nat) : Int), .bool (Ti.spotOf m p).isSome]) ∧ Turned [] w w' := by
  obtain ⟨fx, hfx⟩ : ∃ z, z = Fx.floor p.1 := ⟨_, rfl⟩
  obtain ⟨fy, hfy⟩ : ∃ z, z = Fx.floor p.2 := ⟨_, rfl⟩
  have k1 := fun u => FxW.floor_any p.1 u
  have k2 := fun u => FxW.floor_any p.2 u
  rw [← hfx] at k1
  rw [← hfy] at k2
  have kh := fun u => has_any m.W m.H fx fy oa nw ca ob ns cb u
  have hne := tv_neq
  have key : (decide (0 ≤ fx ∧ fx < m.W ∧ 0 ≤ fy ∧ fy < m.H) = false ∧ Ti.spotOf m p = none) ∨ (decide (0 ≤ fx ∧ fx < m.W ∧ 0 ≤ fy ∧ fy < m.H) = true ∧ (!((p.1 == fx * 65536 + 32768) && (p.2 == fy * 65536 + 32768))) = true ∧ Ti.spotOf m p = none) ∨ (decide (0 ≤ fx ∧ fx < m.W ∧ 0 ≤ fy ∧ fy < m.H) = true ∧ (!((p.1 == fx * 65536 + 32768) && (p.2 == fy * 65536 + 32768))) = false ∧ ∃ i : Nat, Ti.spotOf m p = some i ∧ (i : Int) = fy * m.W + fx) := by
    by_cases hin : 0 ≤ fx ∧ fx < m.W ∧ 0 ≤ fy ∧ fy < m.H
    · have e1 : fx = p.1 / 65536 := by rw [hfx]; exact Ti.floor_in (by omega) (by omega)
      have e2 : fy = p.2 / 65536 := by rw [hfy]; exact Ti.floor_in (by omega) (by omega)
      by_cases hp : p.1 = fx * 65536 + 32768 ∧ p.2 = fy * 65536 + 32768
      · refine .inr (.inr ⟨by simpa using hin, by simp [hp.1, hp.2], fy.toNat * m.W.toNat + fx.toNat, ?_, ?_⟩)
        · unfold Ti.spotOf
          rw [← e1, ← e2, if_pos]
          refine ⟨hin.1, hin.2.1, hin.2.2.1, hin.2.2.2, ?_⟩
          obtain ⟨a, b⟩ := p
          simp only at hp
          unfold Ti.mid
          rw [hp.1, hp.2, Int.toNat_of_nonneg hin.1, Int.toNat_of_nonneg hin.2.2.1]
        · rw [Int.natCast_add, Int.natCast_mul, Int.toNat_of_nonneg hin.1, Int.toNat_of_nonneg hin.2.2.1, Int.toNat_of_nonneg (by omega)]
      · refine .inr (.inl ⟨by simpa using hin, ?_, ?_⟩)
        · rw [Bool.not_eq_true', Bool.eq_false_iff]
          intro h
          simp at h
          exact hp h
        · unfold Ti.spotOf
          rw [← e1, ← e2, if_neg]
          rintro ⟨_, _, _, _, h⟩
          apply hp
          rw [h]
          unfold Ti.mid
          exact ⟨by show ((fx.toNat : Int) * 65536 + 32768) = _; rw [Int.toNat_of_nonneg hin.1], by show ((fy.toNat : Int) * 65536 + 32768) = _; rw [Int.toNat_of_nonneg hin.2.2.1]⟩
    · refine .inl ⟨by simpa using hin, ?_⟩
      unfold Ti.spotOf
      rw [if_neg]
      rintro ⟨q1, q2, q3, q4, _⟩
      apply hin
      rw [hfx, hfy, Ti.floor_small (by omega) (by omega), Ti.floor_small (by omega) (by omega)]
      exact ⟨q1, q2, q3, q4⟩
  obtain ⟨W0, hW0⟩ : ∃ W0, W0 = (w.alloc (.cells #[.int .i64 m.W, .int .i64 m.H, .slice oa nw ca, .slice ob ns cb] 25)).alloc (.cells #[.int .i64 p.1, .int .i64 p.2] 47) := ⟨_, rfl⟩
  obtain ⟨B, hB⟩ : ∃ B, B = w.heap.size := ⟨_, rfl⟩
  obtain ⟨C, hC⟩ : ∃ C, C = w.heap.size + 1 := ⟨_, rfl⟩
  have hT : Turned [] w W0 := by rw [hW0]; exact ((Turned.refl [] w).alloc _).alloc _
  have hS : Struct B [.int .i64 m.W, .int .i64 m.H, .slice oa nw ca, .slice ob ns cb] W0 := by rw [hW0, hB]; exact (Struct.new w [.int .i64 m.W, .int .i64 m.H, .slice oa nw ca, .slice ob ns cb] _).keep ((Turned.refl [] _).alloc _) (by simp)
  have hP : Struct C [.int .i64 p.1, .int .i64 p.2] W0 := by
    have := Struct.new (w.alloc (.cells #[.int .i64 m.W, .int .i64 m.H, .slice oa nw ca, .slice ob ns cb] 25)) [.int .i64 p.1, .int .i64 p.2] 47
    rw [show (w.alloc (.cells #[.int .i64 m.W, .int .i64 m.H, .slice oa nw ca, .slice ob ns cb] 25)).heap.size = w.heap.size + 1 by simp, ← hC] at this
    rw [hW0]; exact this
  have d0 := KeptW.at hS.1 (hS.2 0 _ rfl).1
  have d1 := KeptW.at hS.1 (hS.2 1 _ rfl).1
  have d2 := KeptW.at hS.1 (hS.2 2 _ rfl).1
  have d3 := KeptW.at hS.1 (hS.2 3 _ rfl).1
  have c0 := KeptW.at hP.1 (hP.2 0 _ rfl).1
  have c1 := KeptW.at hP.1 (hP.2 1 _ rfl).1
  have ne : Nonempty (KeptW W0) := KeptW.one W0
  clear hfx hfy
  rcases key with ⟨e1, e2⟩ | ⟨e1, e3, e2⟩ | ⟨e1, e3, i, e2, e4⟩
  · rw [e1] at kh
    rw [e2]
    have km : True := trivial
    clear e1 e2
    go_enter Try.func45, Try.ntmps45
    go_wp2_with fail
    rw [← hW0, ← hC, ← hB]
    clear hW0 hB hC
    refine wp_region_kept (by kernel_rfl) (by kernel_rfl) ?_
    repeat (go_big_quiet_step (first | (go_at_call_of 60 (Value.int IntKind.i64 p.1); exact kept_same (k1 _)) | (go_at_call 60; exact kept_same (k2 _))))
    refine wpQuiet_nil ?_
    rintro _ ⟨x1, rfl⟩
    go_wp2_with fail
    have hB1 := x1.h
    generalize x1.u = W1 at hB1 ⊢
    have hT1 := Turned.ofBelow hB1
    have hS1 := hS.keep hT1 (by simp)
    have hP1 := hP.keep hT1 (by simp)
    clear d0 d1 d2 d3 c0 c1 ne hS hP hB1
    have d0 := KeptW.at hS1.1 (hS1.2 0 _ rfl).1
    have d1 := KeptW.at hS1.1 (hS1.2 1 _ rfl).1
    have d2 := KeptW.at hS1.1 (hS1.2 2 _ rfl).1
    have d3 := KeptW.at hS1.1 (hS1.2 3 _ rfl).1
    have c0 := KeptW.at hP1.1 (hP1.2 0 _ rfl).1
    have c1 := KeptW.at hP1.1 (hP1.2 1 _ rfl).1
    have ne : Nonempty (KeptW W1) := KeptW.one W1
    refine wp_region_kept (by kernel_rfl) (by kernel_rfl) ?_
    repeat (go_big_quiet_step (first | (go_at_call 61; exact kept_call ((kh _).mono fun r w' h => ⟨h.1, h.2.none⟩))))
    refine wpQuiet_nil ?_
    rintro _ ⟨x2, rfl⟩
    go_wp2_with fail
    go_ret2
    exact ⟨rfl, hT.trans (hT1.trans (Turned.ofBelow x2.h) (by simp)) (by simp)⟩
  · rw [e1] at kh
    have hin : 0 ≤ fx ∧ fx < m.W ∧ 0 ≤ fy ∧ fy < m.H := by simpa using e1
    have km := fun u => middle_any fx fy (by omega) (by omega) (by omega) (by omega) u
    rw [e2]
    clear e1 e2 hin
    go_enter Try.func45, Try.ntmps45
    go_wp2_with fail
    rw [← hW0, ← hC, ← hB]
    clear hW0 hB hC
    refine wp_region_kept (by kernel_rfl) (by kernel_rfl) ?_
    repeat (go_big_quiet_step (first | (go_at_call_of 60 (Value.int IntKind.i64 p.1); exact kept_same (k1 _)) | (go_at_call 60; exact kept_same (k2 _))))
    refine wpQuiet_nil ?_
    rintro _ ⟨x1, rfl⟩
    go_wp2_with fail
    have hB1 := x1.h
    generalize x1.u = W1 at hB1 ⊢
    have hT1 := Turned.ofBelow hB1
    have hS1 := hS.keep hT1 (by simp)
    have hP1 := hP.keep hT1 (by simp)
    clear d0 d1 d2 d3 c0 c1 ne hS hP hB1
    have d0 := KeptW.at hS1.1 (hS1.2 0 _ rfl).1
    have d1 := KeptW.at hS1.1 (hS1.2 1 _ rfl).1
    have d2 := KeptW.at hS1.1 (hS1.2 2 _ rfl).1
    have d3 := KeptW.at hS1.1 (hS1.2 3 _ rfl).1
    have c0 := KeptW.at hP1.1 (hP1.2 0 _ rfl).1
    have c1 := KeptW.at hP1.1 (hP1.2 1 _ rfl).1
    have ne : Nonempty (KeptW W1) := KeptW.one W1
    refine wp_region_kept (by kernel_rfl) (by kernel_rfl) ?_
    repeat (go_big_quiet_step (first | (go_at_call 61; exact kept_call ((kh _).mono fun r w' h => ⟨h.1, h.2.none⟩)) | (go_at_call 59; exact kept_call ((km _).mono fun r w' h => ⟨h.1, h.2.none⟩))))
    refine wpQuiet_nil ?_
    rintro _ ⟨x2, rfl⟩
    go_wp2_with fail
    go_ret2
    exact ⟨rfl, hT.trans (hT1.trans (Turned.ofBelow x2.h) (by simp)) (by simp)⟩
  · rw [e1] at kh
    have hin : 0 ≤ fx ∧ fx < m.W ∧ 0 ≤ fy ∧ fy < m.H := by simpa using e1
    have km := fun u => middle_any fx fy (by omega) (by omega) (by omega) (by omega) u
    have b1 : 0 ≤ fy * m.W := Int.mul_nonneg (by omega) (by omega)
    have b2 : fy * m.W ≤ 32 * 32 := Int.mul_le_mul (by omega) (by omega) (by omega) (by omega)
    have kp := fun u => place_any m.W m.H fx fy b1 (by omega) (by omega) (by omega) oa nw ca ob ns cb u
    rw [e2]
    rw [show (((some i).getD 0 : Nat) : Int) = fy * m.W + fx from e4]
    clear e1 e2 e4 b1 b2
    go_enter Try.func45, Try.ntmps45
    go_wp2_with fail
    rw [← hW0, ← hC, ← hB]
    clear hW0 hB hC
    refine wp_region_kept (by kernel_rfl) (by kernel_rfl) ?_
    repeat (go_big_quiet_step (first | (go_at_call_of 60 (Value.int IntKind.i64 p.1); exact kept_same (k1 _)) | (go_at_call 60; exact kept_same (k2 _))))
    refine wpQuiet_nil ?_
    rintro _ ⟨x1, rfl⟩
    go_wp2_with fail
    have hB1 := x1.h
    generalize x1.u = W1 at hB1 ⊢
    have hT1 := Turned.ofBelow hB1
    have hS1 := hS.keep hT1 (by simp)
    have hP1 := hP.keep hT1 (by simp)
    clear d0 d1 d2 d3 c0 c1 ne hS hP hB1
    have d0 := KeptW.at hS1.1 (hS1.2 0 _ rfl).1
    have d1 := KeptW.at hS1.1 (hS1.2 1 _ rfl).1
    have d2 := KeptW.at hS1.1 (hS1.2 2 _ rfl).1
    have d3 := KeptW.at hS1.1 (hS1.2 3 _ rfl).1
    have c0 := KeptW.at hP1.1 (hP1.2 0 _ rfl).1
    have c1 := KeptW.at hP1.1 (hP1.2 1 _ rfl).1
    have ne : Nonempty (KeptW W1) := KeptW.one W1
    refine wp_region_kept (by kernel_rfl) (by kernel_rfl) ?_
    repeat (go_big_quiet_step (first | (go_at_call 61; exact kept_call ((kh _).mono fun r w' h => ⟨h.1, h.2.none⟩)) | (go_at_call 59; exact kept_call ((km _).mono fun r w' h => ⟨h.1, h.2.none⟩))))
    refine wpQuiet_nil ?_
    rintro _ ⟨x2, rfl⟩
    have l0 := d0 x2
    have l1 := d1 x2
    have l2 := d2 x2
    have l3 := d3 x2
    have hT2 := hT.trans (hT1.trans (Turned.ofBelow x2.h) (by simp)) (by simp)
    go_wp2_with (go_at_call 62; refine (kp _).mono ?_; rintro e u3 ⟨rfl, hT3⟩)
    go_ret2
    exact ⟨rfl, hT2.trans hT3 (by simp)⟩

set_option maxHeartbeats 4000000 in
theorem spawns_any (m : Ti.M) (oa : Option Addr) (ca : Nat) (ob : Option Addr) (cb : Nat) (w : World) (h : MapAt m oa ob w) (hD : Ti.Dims m) :
    Calls Try.prog 24 #[mapVal m oa ca ob cb] w fun e w' => e = .returned (.bool (Ti.formedB m)) ∧ Turned [] w w' := by
  obtain ⟨hW1, hW2, hH1, hH2, hWH⟩ := hD
  obtain ⟨nw, hnw⟩ : ∃ n, n = m.ws.length := ⟨_, rfl⟩
  obtain ⟨ns, hns⟩ : ∃ n, n = m.sp.length := ⟨_, rfl⟩
  have kp := fun (p : Int × Int) (u : World) => placeOf_any m hW1 hW2 hH1 hH2 p oa nw ca ob ns cb u
  have hlw := h.lw
  have hls := h.ls
  obtain ⟨W0, hW0⟩ : ∃ W0, W0 = w.alloc (.cells #[.int .i64 m.W, .int .i64 m.H, .slice oa nw ca, .slice ob ns cb] 25) := ⟨_, rfl⟩
  obtain ⟨B, hB⟩ : ∃ B, B = w.heap.size := ⟨_, rfl⟩
  have hT : Turned [] w W0 := by rw [hW0]; exact (Turned.refl [] w).alloc _
  have hS : Struct B [.int .i64 m.W, .int .i64 m.H, .slice oa nw ca, .slice ob ns cb] W0 := by rw [hW0, hB]; exact Struct.new w [.int .i64 m.W, .int .i64 m.H, .slice oa nw ca, .slice ob ns cb] _
  unfold mapVal
  rw [← hnw] at hlw
  rw [← hns] at hls
  rw [← hnw, ← hns]
  have HNW : Hid (nw = m.ws.length) := hnw
  have HNS : Hid (ns = m.sp.length) := hns
  have HD : Hid (Ti.Dims m) := ⟨hW1, hW2, hH1, hH2, hWH⟩
  have s3 := (hS.2 3 _ rfl).1
  clear hnw hns hWH
  go_enter Try.func24, Try.ntmps24
  go_wp2_with fail
  rw [← hW0, ← hB]
  clear hW0 hB
  go_loopw [3, 11] (fun l i wr => ∃ (k : Nat) (last : Int), k ≤ ns ∧ l = .int .i64 last ∧ i = .int .i64 (k : Int) ∧ -1 ≤ last ∧ last ≤ 1100 ∧ Ti.scan m (-1) m.sp = Ti.scan m last (m.sp.drop k) ∧ Turned [] W0 wr) (fun _ i _ => ns - (intOf i).toNat)
  case atStart => exact ⟨0, -1, by omega, rfl, rfl, by omega, by omega, rfl, Turned.refl _ _⟩
  case round =>
    obtain ⟨k, last, hk, rfl, rfl, hl1, hl2, hsc, hT2⟩ := hrel
    have hS2 := hS.keep hT2 (by simp)
    have HSC : Hid (Ti.scan m (-1) m.sp = Ti.scan m last (m.sp.drop k)) := hsc
    clear hsc
    by_cases hlt : (k : Int) < (ns : Int)
    · obtain ⟨p, hp⟩ : ∃ p, m.sp[k]? = some p := ⟨_, List.getElem?_eq_getElem (by have := HNS.out; omega)⟩
      have HDR : Hid (m.sp.drop k = p :: m.sp.drop (k + 1)) := by
        have hkl := (List.getElem?_eq_some_iff.1 hp)
        obtain ⟨hkl, e⟩ := hkl
        show _ = _
        rw [List.drop_eq_getElem_cons hkl, e]
      obtain ⟨g, off, rfl, hg, q0, q1⟩ := place_at ((h.sp.turned hT (by simp)).turned hT2 (by simp)) hp
      have kq := kp p
      clear kp hp
      cases hs : Ti.spotOf m p with
      | none =>
        have HM : Hid (Ti.scan m (-1) m.sp = none) := by
          show _ = _
          rw [HSC.out, HDR.out]; unfold Ti.scan; rw [hs]
        rw [hs] at kq
        clear hs
        have d0 := fun o => ((hS2.keep ((Turned.refl [] wr).alloc o) (by simp)).2 0 _ rfl).1
        have d1 := fun o => ((hS2.keep ((Turned.refl [] wr).alloc o) (by simp)).2 1 _ rfl).1
        have d2 := fun o => ((hS2.keep ((Turned.refl [] wr).alloc o) (by simp)).2 2 _ rfl).1
        have d3 := fun o => ((hS2.keep ((Turned.refl [] wr).alloc o) (by simp)).2 3 _ rfl).1
        go_wp2_with (go_at_call 45; (with_reducible refine (kq _).mono ?_); rintro e u1 ⟨rfl, hT3⟩)
        go_ret
        exact ti_bool (Ti.scan_none HD.out HM.out).symm (hT.trans ((hT2.alloc _).trans hT3 (by simp)) (by simp))
      | some i =>
        obtain ⟨x, y, hx, hy, he, hi⟩ := Ti.spot_some hs
        have hwat := Ti.dims_ws HD.out hx hy
        rw [← hi] at hwat
        have hin : (i : Int) < (nw : Int) := by have := hwat.1; have := HNW.out; omega
        obtain ⟨g', off', rfl, hg', q5⟩ := wall_at ((h.ws.turned hT (by simp)).turned hT2 (by simp)) hwat.2
        rw [hs] at kq
        have hgd : m.ws.getD i false = Ti.wall m x y := by rw [List.getD_eq_getElem?_getD, hwat.2]; rfl
        have d0 := fun o => ((hS2.keep ((Turned.refl [] wr).alloc o) (by simp)).2 0 _ rfl).1
        have d1 := fun o => ((hS2.keep ((Turned.refl [] wr).alloc o) (by simp)).2 1 _ rfl).1
        have d2 := fun o => ((hS2.keep ((Turned.refl [] wr).alloc o) (by simp)).2 2 _ rfl).1
        have d3 := fun o => ((hS2.keep ((Turned.refl [] wr).alloc o) (by simp)).2 3 _ rfl).1
        by_cases hil : (i : Int) ≤ last
        · have HM : Hid (Ti.scan m (-1) m.sp = none) := by
            show _ = _
            rw [HSC.out, HDR.out]; unfold Ti.scan; rw [hs]; simp only; rw [if_neg]; rintro ⟨h1, _⟩; omega
          clear hs hgd hwat he hi hx hy q5
          go_wp2_with (go_at_call 45; (with_reducible refine (kq _).mono ?_); rintro e u1 ⟨rfl, hT3⟩)
          go_ret
          exact ti_bool (Ti.scan_none HD.out HM.out).symm (hT.trans ((hT2.alloc _).trans hT3 (by simp)) (by simp))
        · cases hwl : Ti.wall m x y with
          | true =>
            have HM : Hid (Ti.scan m (-1) m.sp = none) := by
              show _ = _
              rw [HSC.out, HDR.out]; unfold Ti.scan; rw [hs]; simp only; rw [if_neg]; rintro ⟨_, h1⟩; rw [hgd, hwl] at h1; cases h1
            rw [hwl] at q5
            clear hs hgd hwat he hi hx hy hwl
            go_wp2_with (go_at_call 45; (with_reducible refine (kq _).mono ?_); rintro e u1 ⟨rfl, hT3⟩; have hT4 := (((Turned.refl [] wr).alloc _).trans hT3 (by simp)); have r1 := (hT4.cell (p := ⟨g', off' + i, none⟩) hg' (by simp)).trans q5; have d2' := ((hS2.keep hT4 (by simp)).2 2 _ rfl).1)
            go_ret
            exact ti_bool (Ti.scan_none HD.out HM.out).symm (hT.trans ((hT2.alloc _).trans hT3 (by simp)) (by simp))
          | false =>
            have HM : Hid (Ti.scan m (-1) m.sp = Ti.scan m (i : Int) (m.sp.drop (k + 1))) := by
              show _ = _
              rw [HSC.out, HDR.out]
              conv => lhs; unfold Ti.scan
              rw [hs]; simp only; rw [if_pos ⟨by omega, by rw [hgd, hwl]⟩]
            rw [hwl] at q5
            clear hs hgd hwat he hi hx hy hwl
            go_wp2_with (go_at_call 45; (with_reducible refine (kq _).mono ?_); rintro e u1 ⟨rfl, hT3⟩; have hT4 := (((Turned.refl [] wr).alloc _).trans hT3 (by simp)); have r1 := (hT4.cell (p := ⟨g', off' + i, none⟩) hg' (by simp)).trans q5; have d2' := ((hS2.keep hT4 (by simp)).2 2 _ rfl).1)
            go_roundw
            case rel => exact ⟨k + 1, (i : Int), by omega, rfl, by go_num, by omega, by omega, HM.out, hT2.trans hT4 (by simp)⟩
            case measure => simp [intOf]; omega
    · have HM : Hid (Ti.scan m (-1) m.sp = some last) := by
        show _ = _
        rw [HSC.out, List.drop_eq_nil_of_le (by have := HNS.out; omega)]
        rfl
      clear kp
      go_wp2_with fail
      go_ret
      exact ti_bool (Ti.scan_end HD.out HM.out).symm (hT.trans hT2 (by simp))

set_option maxHeartbeats 4000000 in
theorem formed_any (m : Ti.M) (oa : Option Addr) (ca : Nat) (ob : Option Addr) (cb : Nat) (w : World) (h : MapAt m oa ob w) :
    Calls Try.prog 11 #[mapVal m oa ca ob cb] w fun e w' => e = .returned (.bool (Ti.formedB m)) ∧ Turned [] w w' := by
  have hT : Turned [] w (w.alloc (.cells #[.int .i64 m.W, .int .i64 m.H, .slice oa m.ws.length ca, .slice ob m.sp.length cb] 25)) := (Turned.refl [] w).alloc _
  have hlw := h.lw
  have k1 := fun u => side_any m.W u
  have k2 := fun u => side_any m.H u
  have NF : ¬ Ti.Dims m → Ti.formedB m = false := fun hn => Ti.formedB_not fun hf => hn hf.1
  by_cases c1 : 1 ≤ m.W ∧ m.W ≤ 32
  · rw [show decide (1 ≤ m.W ∧ m.W ≤ 32) = true by simpa using c1] at k1
    by_cases c2 : 1 ≤ m.H ∧ m.H ≤ 32
    · rw [show decide (1 ≤ m.H ∧ m.H ≤ 32) = true by simpa using c2] at k2
      have b1 : 0 ≤ m.W * m.H := Int.mul_nonneg (by omega) (by omega)
      have b2 : m.W * m.H ≤ 32 * 32 := Int.mul_le_mul (by omega) (by omega) (by omega) (by omega)
      by_cases c3 : (m.ws.length : Int) = m.W * m.H
      · have kS := spawns_any m oa ca ob cb _ (h.calm hT) ⟨c1.1, c1.2, c2.1, c2.2, c3⟩
        have e3 : ((m.ws.length : Int) == m.W * m.H) = true := by rw [beq_iff_eq]; exact c3
        clear NF c3
        generalize Ti.formedB m = q at kS ⊢
        unfold mapVal at kS ⊢
        go_enter Try.func11, Try.ntmps11
        go_wp2_with (first | (go_at_call_of 23 (Value.int IntKind.i64 m.W); refine (k1 _).mono ?_; rintro e w' ⟨rfl, rfl⟩) | (go_at_call 23; refine (k2 _).mono ?_; rintro e w' ⟨rfl, rfl⟩) | (go_at_call 24; (with_reducible refine kS.mono ?_); rintro e u1 ⟨rfl, hT1⟩))
        go_ret
        exact ti_bool rfl (hT.trans hT1 (by simp))
      · have HF : Hid (Ti.formedB m = false) := NF fun hd => c3 hd.2.2.2.2
        have e3 : ((m.ws.length : Int) == m.W * m.H) = false := by rw [beq_eq_false_iff_ne]; exact c3
        clear NF c3
        go_enter Try.func11, Try.ntmps11
        go_wp2_with (first | (go_at_call_of 23 (Value.int IntKind.i64 m.W); refine (k1 _).mono ?_; rintro e w' ⟨rfl, rfl⟩) | (go_at_call 23; refine (k2 _).mono ?_; rintro e w' ⟨rfl, rfl⟩))
        go_ret
        exact ti_bool HF.out.symm hT
    · rw [show decide (1 ≤ m.H ∧ m.H ≤ 32) = false by simpa using c2] at k2
      have HF : Hid (Ti.formedB m = false) := NF fun hd => c2 ⟨hd.2.2.1, hd.2.2.2.1⟩
      clear NF
      go_enter Try.func11, Try.ntmps11
      go_wp2_with (first | (go_at_call_of 23 (Value.int IntKind.i64 m.W); refine (k1 _).mono ?_; rintro e w' ⟨rfl, rfl⟩) | (go_at_call 23; refine (k2 _).mono ?_; rintro e w' ⟨rfl, rfl⟩))
      go_ret
      exact ti_bool HF.out.symm hT
  · rw [show decide (1 ≤ m.W ∧ m.W ≤ 32) = false by simpa using c1] at k1
    have HF : Hid (Ti.formedB m = false) := NF fun hd => c1 ⟨hd.1, hd.2.1⟩
    clear NF
    go_enter Try.func11, Try.ntmps11
    go_wp2_with (go_at_call 23; refine (k1 _).mono ?_; rintro e w' ⟨rfl, rfl⟩)
    go_ret
    exact ti_bool HF.out.symm hT

/-- whether there is a wall, of a map that can be read -/
def inWall (m : Ti.M) (x y : Int) : Bool := decide (¬ (0 ≤ x ∧ x < m.W ∧ 0 ≤ y ∧ y < m.H)) || Ti.wall m x.toNat y.toNat
set_option maxHeartbeats 4000000 in
theorem wall1_any (m : Ti.M) (oa : Option Addr) (ca : Nat) (ob : Option Addr) (cb : Nat) (x y : Int) (w : World) (h : MapAt m oa ob w) (hD : Ti.Dims m) :
    Calls Try.prog 100 #[mapVal m oa ca ob cb, .int .i64 x, .int .i64 y] w fun e w' => e = .returned (.bool (inWall m x y)) ∧ Turned [] w w' := by
  obtain ⟨hW1, hW2, hH1, hH2, hWH⟩ := hD
  have HD : Hid (Ti.Dims m) := ⟨hW1, hW2, hH1, hH2, hWH⟩
  obtain ⟨nw, hnw⟩ : ∃ n, n = m.ws.length := ⟨_, rfl⟩
  obtain ⟨ns, hns⟩ : ∃ n, n = m.sp.length := ⟨_, rfl⟩
  have kh := fun u => has_any m.W m.H x y oa nw ca ob ns cb u
  have hlw := h.lw
  obtain ⟨W0, hW0⟩ : ∃ W0, W0 = w.alloc (.cells #[.int .i64 m.W, .int .i64 m.H, .slice oa nw ca, .slice ob ns cb] 25) := ⟨_, rfl⟩
  obtain ⟨B, hB⟩ : ∃ B, B = w.heap.size := ⟨_, rfl⟩
  have hT : Turned [] w W0 := by rw [hW0]; exact (Turned.refl [] w).alloc _
  have hS : Struct B [.int .i64 m.W, .int .i64 m.H, .slice oa nw ca, .slice ob ns cb] W0 := by rw [hW0, hB]; exact Struct.new w [.int .i64 m.W, .int .i64 m.H, .slice oa nw ca, .slice ob ns cb] _
  unfold mapVal
  rw [← hnw, ← hns]
  rw [← hnw] at hlw
  have HNW : Hid (nw = m.ws.length) := hnw
  have d0 := KeptW.at hS.1 (hS.2 0 _ rfl).1
  have d1 := KeptW.at hS.1 (hS.2 1 _ rfl).1
  have d2 := KeptW.at hS.1 (hS.2 2 _ rfl).1
  have d3 := KeptW.at hS.1 (hS.2 3 _ rfl).1
  have ne : Nonempty (KeptW W0) := KeptW.one W0
  clear hnw hns hWH
  by_cases hin : 0 ≤ x ∧ x < m.W ∧ 0 ≤ y ∧ y < m.H
  · rw [show decide (0 ≤ x ∧ x < m.W ∧ 0 ≤ y ∧ y < m.H) = true by simpa using hin] at kh
    have HA : Hid (inWall m x y = Ti.wall m x.toNat y.toNat) := by
      show _ = _
      unfold inWall
      rw [decide_eq_false (by simpa using hin), Bool.false_or]
    have hwat := Ti.dims_ws HD.out (x := x.toNat) (y := y.toNat) (by omega) (by omega)
    have b1 : 0 ≤ y * m.W := Int.mul_nonneg (by omega) (by omega)
    have b2 : y * m.W ≤ 32 * 32 := Int.mul_le_mul (by omega) (by omega) (by omega) (by omega)
    have kp := fun u => place_any m.W m.H x y b1 (by omega) (by omega) (by omega) oa nw ca ob ns cb u
    obtain ⟨i, hi⟩ : ∃ i, i = y.toNat * m.W.toNat + x.toNat := ⟨_, rfl⟩
    have hii : y * m.W + x = (i : Int) := by rw [hi, Int.natCast_add, Int.natCast_mul, Int.toNat_of_nonneg hin.1, Int.toNat_of_nonneg hin.2.2.1, Int.toNat_of_nonneg (by omega)]
    rw [← hi] at hwat
    rw [hii] at kp
    have hil : (i : Int) < (nw : Int) := by have := hwat.1; have := HNW.out; omega
    obtain ⟨g', off', rfl, hg', q5⟩ := wall_at (h.ws.turned hT (by simp)) hwat.2
    have dw := KeptW.at hg' q5
    generalize Ti.wall m x.toNat y.toNat = q at *
    clear hi hii hwat b1 b2
    go_enter Try.func100, Try.ntmps100
    go_wp2_with fail
    rw [← hW0, ← hB]
    clear hW0 hB
    refine wp_region_kept (by kernel_rfl) (by kernel_rfl) ?_
    repeat (go_big_quiet_step (first | (go_at_call 61; exact kept_call ((kh _).mono fun r w' h => ⟨h.1, h.2.none⟩)) | (go_at_call 62; exact kept_call ((kp _).mono fun r w' h => ⟨h.1, h.2.none⟩))))
    refine wpQuiet_nil ?_
    rintro _ ⟨x2, rfl⟩
    go_wp2_with fail
    go_ret
    exact ti_bool HA.out.symm (hT.trans (Turned.ofBelow x2.h) (by simp))
  · rw [show decide (0 ≤ x ∧ x < m.W ∧ 0 ≤ y ∧ y < m.H) = false by simpa using hin] at kh
    have HA : Hid (inWall m x y = true) := by
      show _ = _
      unfold inWall
      rw [decide_eq_true hin, Bool.true_or]
    go_enter Try.func100, Try.ntmps100
    go_wp2_with fail
    rw [← hW0, ← hB]
    clear hW0 hB
    refine wp_region_kept (by kernel_rfl) (by kernel_rfl) ?_
    repeat (go_big_quiet_step (first | (go_at_call 61; exact kept_call ((kh _).mono fun r w' h => ⟨h.1, h.2.none⟩))))
    refine wpQuiet_nil ?_
    rintro _ ⟨x2, rfl⟩
    go_wp2_with fail
    go_ret
    exact ti_bool HA.out.symm (hT.trans (Turned.ofBelow x2.h) (by simp))
theorem wall_in {m : Ti.M} (hF : Ti.Formed m) (x y : Int) : Ti.wallB m x y = inWall m x y := by
  rw [Bool.eq_iff_iff, Ti.wallB_iff]
  unfold inWall Ti.WallAt
  rw [Bool.or_eq_true, decide_eq_true_eq]
  constructor
  · rintro (h | h | h | h | h | h)
    · exact absurd hF h
    · exact .inl (by omega)
    · exact .inl (by omega)
    · exact .inl (by omega)
    · exact .inl (by omega)
    · exact .inr h
  · rintro (h | h)
    · omega
    · exact .inr (.inr (.inr (.inr (.inr h))))

end TiW
end Go.Proofs.Ytgabgkgokmeaeaa

/- Whether a box is free: the program's (TiW). -/
namespace Go.Proofs.Ytgabgkgokmeaeaa
open Go.RowKit
set_option linter.unusedVariables false
set_option linter.unusedSimpArgs false

namespace TiW
/-- whether a tile that is a wall overlaps a box -/
def hit (m : Ti.M) (b : Ti.Bx) (x y : Nat) : Bool := inWall m x y && Bx.overlap b.lx b.ly b.mx b.my ((x : Int) * 65536) ((y : Int) * 65536) (((x : Int) + 1) * 65536) (((y : Int) + 1) * 65536)
theorem hit_iff {m : Ti.M} {b : Ti.Bx} (hF : Ti.Formed m) (hW : Ti.Within m b) {x y : Nat} (hx : x ≤ 32) (hy : y ≤ 32) : hit m b x y = true ↔ x < m.W.toNat ∧ y < m.H.toNat ∧ Ti.wall m x y = true ∧ Ti.Over x y b := by
  have hbf := TiR.within_formed hF.1 hW
  have htf : Bx.formed ((x : Int) * 65536) ((y : Int) * 65536) (((x : Int) + 1) * 65536) (((y : Int) + 1) * 65536) = true := by
    unfold Bx.formed Vc.formedB Vc.inL
    simp
    omega
  obtain ⟨w1, w2, w3, w4, w5, w6⟩ := hW
  obtain ⟨d1, d2, d3, d4, _⟩ := hF.1
  unfold hit Bx.overlap Bx.laps inWall Ti.Over
  rw [hbf, htf, Int.toNat_natCast, Int.toNat_natCast]
  simp only [Bool.and_eq_true, Bool.or_eq_true, decide_eq_true_eq, Bool.true_and]
  constructor
  · rintro ⟨h1, ⟨h2, h3⟩, h4, h5⟩
    have a1 : x < m.W.toNat := by omega
    have a2 : y < m.H.toNat := by omega
    refine ⟨a1, a2, ?_, h3, by omega, h5, by omega⟩
    rcases h1 with h | h
    · omega
    · exact h
  · rintro ⟨a1, a2, h1, h2, h3, h4, h5⟩
    exact ⟨.inr h1, ⟨by omega, h2⟩, by omega, h4⟩
theorem free_of {m : Ti.M} {b : Ti.Bx} (hF : Ti.Formed m) (hW : Ti.Within m b) (h : ∀ x y : Nat, b.lx / 65536 ≤ (x : Int) → (x : Int) ≤ b.mx / 65536 → b.ly / 65536 ≤ (y : Int) → (y : Int) ≤ b.my / 65536 → hit m b x y = false) : Ti.Free m b := by
  refine ⟨hF, hW, ?_⟩
  intro x y hx hy hw ho
  have hD := hF.1
  have := h x y (by obtain ⟨h1, h2, h3, h4⟩ := ho; omega) (by obtain ⟨h1, h2, h3, h4⟩ := ho; omega) (by obtain ⟨h1, h2, h3, h4⟩ := ho; omega) (by obtain ⟨h1, h2, h3, h4⟩ := ho; omega)
  rw [(hit_iff hF hW (by have := hD.2.1; omega) (by have := hD.2.2.2.1; omega)).2 ⟨hx, hy, hw, ho⟩] at this
  cases this
theorem free_not {m : Ti.M} {b : Ti.Bx} {x y : Nat} (hF : Ti.Formed m) (hW : Ti.Within m b) (hx : x ≤ 32) (hy : y ≤ 32) (h : hit m b x y = true) : ¬ Ti.Free m b := by
  intro hf
  obtain ⟨h1, h2, h3, h4⟩ := (hit_iff hF hW hx hy).1 h
  exact hf.2.2 x y h1 h2 h3 h4

set_option maxHeartbeats 1000000 in
theorem tile_any (x y : Int) (hx0 : 0 ≤ x) (hx : x ≤ 900) (hy0 : 0 ≤ y) (hy : y ≤ 900) (w : World) :
    Calls Try.prog 101 #[.int .i64 x, .int .i64 y] w fun e w' => e = .returned (.agg #[.int .i64 (x * 65536), .int .i64 (y * 65536), .int .i64 ((x + 1) * 65536), .int .i64 ((y + 1) * 65536)]) ∧ Turned [] w w' := by
  have k1 := fun u => corner_any x y hx0 (by omega) hy0 (by omega) u
  have k2 := fun u => corner_any (x + 1) (y + 1) (by omega) (by omega) (by omega) (by omega) u
  go_enter Try.func101, Try.ntmps101
  go_wp2_with (first | (go_at_call_of 78 (Value.int IntKind.i64 x); refine (k1 _).mono ?_; rintro e u1 ⟨rfl, hT1⟩) | (go_at_call 78; refine (k2 _).mono ?_; rintro e u2 ⟨rfl, hT2⟩; have hS := (Struct.new w [.int .i64 0, .int .i64 0, .int .i64 0, .int .i64 0] 98).keep (hT1.trans hT2 (by simp)) (by simp); have z0 := (hS.2 0 _ rfl).1; have y0 := (hS.2 0 _ rfl).2; have z1 := (hS.2 1 _ rfl).1; have y1 := (hS.2 1 _ rfl).2; have z2 := (hS.2 2 _ rfl).1; have y2 := (hS.2 2 _ rfl).2; have z3 := (hS.2 3 _ rfl).1; have y3 := (hS.2 3 _ rfl).2; have hl := hS.1))
  obtain ⟨W9, hW9⟩ : ∃ W9, W9 = TiR.put4 u2 w.heap.size (.int .i64 (x * 65536)) (.int .i64 (y * 65536)) (.int .i64 ((x + 1) * 65536)) (.int .i64 ((y + 1) * 65536)) := ⟨_, rfl⟩
  have hS9 := TiR.set4 rfl hS (.int .i64 (x * 65536)) (.int .i64 (y * 65536)) (.int .i64 ((x + 1) * 65536)) (.int .i64 ((y + 1) * 65536))
  rw [← hW9] at hS9
  have hT9 : Turned [] w W9 := by rw [hW9]; exact TiR.turned4 (((Turned.refl [] w).alloc _).trans (hT1.trans hT2 (by simp)) (by simp)) (.inr (Nat.le_refl _)) _ _ _ _
  unfold TiR.put4 at hW9
  rw [← hW9]
  have g0 := (hS9.2 0 _ rfl).1
  have g1 := (hS9.2 1 _ rfl).1
  have g2 := (hS9.2 2 _ rfl).1
  have g3 := (hS9.2 3 _ rfl).1
  exact bodyPost_ret (v := .agg #[.int .i64 (x * 65536), .int .i64 (y * 65536), .int .i64 ((x + 1) * 65536), .int .i64 ((y + 1) * 65536)]) (by simp [results, Try.results101, go_sem, g0, g1, g2, g3]) rfl ⟨rfl, hT9⟩

def holdsB (m : Ti.M) (b : Ti.Bx) : Bool := Bx.inB b.lx b.ly 0 0 (m.W * 65536) (m.H * 65536) && Bx.inB b.mx b.my 0 0 (m.W * 65536) (m.H * 65536)
set_option maxHeartbeats 2000000 in
theorem holds_any (m : Ti.M) (hW1 : 1 ≤ m.W) (hW2 : m.W ≤ 32) (hH1 : 1 ≤ m.H) (hH2 : m.H ≤ 32) (b : Ti.Bx) (oa : Option Addr) (nw ca : Nat) (ob : Option Addr) (ns cb : Nat) (w : World) :
    Calls Try.prog 99 #[.agg #[.int .i64 m.W, .int .i64 m.H, .slice oa nw ca, .slice ob ns cb], .agg #[.int .i64 b.lx, .int .i64 b.ly, .int .i64 b.mx, .int .i64 b.my]] w fun e w' => e = .returned (.bool (holdsB m b)) ∧ Turned [] w w' := by
  have kc := fun u => corner_any m.W m.H (by omega) (by omega) (by omega) (by omega) u
  have k1 := fun u => BxW.in_any b.lx b.ly 0 0 (m.W * 65536) (m.H * 65536) u
  have k2 := fun u => BxW.in_any b.mx b.my 0 0 (m.W * 65536) (m.H * 65536) u
  unfold holdsB
  obtain ⟨W0, hW0⟩ : ∃ W0, W0 = (w.alloc (.cells #[.int .i64 m.W, .int .i64 m.H, .slice oa nw ca, .slice ob ns cb] 25)).alloc (.cells #[.int .i64 b.lx, .int .i64 b.ly, .int .i64 b.mx, .int .i64 b.my] 98) := ⟨_, rfl⟩
  obtain ⟨B, hB⟩ : ∃ B, B = w.heap.size := ⟨_, rfl⟩
  obtain ⟨C, hC⟩ : ∃ C, C = w.heap.size + 1 := ⟨_, rfl⟩
  have hT : Turned [] w W0 := by rw [hW0]; exact ((Turned.refl [] w).alloc _).alloc _
  have hS : Struct B [.int .i64 m.W, .int .i64 m.H, .slice oa nw ca, .slice ob ns cb] W0 := by rw [hW0, hB]; exact (Struct.new w [.int .i64 m.W, .int .i64 m.H, .slice oa nw ca, .slice ob ns cb] _).keep ((Turned.refl [] _).alloc _) (by simp)
  have hP : Struct C [.int .i64 b.lx, .int .i64 b.ly, .int .i64 b.mx, .int .i64 b.my] W0 := by
    have := Struct.new (w.alloc (.cells #[.int .i64 m.W, .int .i64 m.H, .slice oa nw ca, .slice ob ns cb] 25)) [.int .i64 b.lx, .int .i64 b.ly, .int .i64 b.mx, .int .i64 b.my] 98
    rw [show (w.alloc (.cells #[.int .i64 m.W, .int .i64 m.H, .slice oa nw ca, .slice ob ns cb] 25)).heap.size = w.heap.size + 1 by simp, ← hC] at this
    rw [hW0]; exact this
  have s0 := (hS.2 0 _ rfl).1
  have s1 := (hS.2 1 _ rfl).1
  cases h1 : Bx.inB b.lx b.ly 0 0 (m.W * 65536) (m.H * 65536) with
  | false =>
    rw [h1] at k1
    go_enter Try.func99, Try.ntmps99
    go_wp2_with fail
    rw [← hW0, ← hC, ← hB]
    clear hW0 hC hB
    go_wp2_with (first | (go_at_call 78; refine (kc _).mono ?_; rintro e u1 ⟨rfl, hT1⟩; have p0 := fun o => (((hP.keep hT1 (by simp)).keep ((Turned.refl [] u1).alloc o) (by simp)).2 0 _ rfl).1; have p1 := fun o => (((hP.keep hT1 (by simp)).keep ((Turned.refl [] u1).alloc o) (by simp)).2 1 _ rfl).1) | (go_at_call 103; refine (k1 _).mono ?_; rintro e u2 ⟨rfl, hb2⟩))
    go_ret
    exact ti_bool rfl (hT.trans ((hT1.alloc _).trans (Turned.ofBelow hb2) (by simp)) (by simp))
  | true =>
    rw [h1] at k1
    go_enter Try.func99, Try.ntmps99
    go_wp2_with fail
    rw [← hW0, ← hC, ← hB]
    clear hW0 hC hB
    go_wp2_with (first | (go_at_call 78; refine (kc _).mono ?_; rintro e u1 ⟨rfl, hT1⟩; have p0 := fun o => (((hP.keep hT1 (by simp)).keep ((Turned.refl [] u1).alloc o) (by simp)).2 0 _ rfl).1; have p1 := fun o => (((hP.keep hT1 (by simp)).keep ((Turned.refl [] u1).alloc o) (by simp)).2 1 _ rfl).1) | (go_at_call_of 103 (Value.agg #[Value.int IntKind.i64 b.lx, Value.int IntKind.i64 b.ly]); refine (k1 _).mono ?_; rintro e u2 ⟨rfl, hb2⟩; have hT2 := (((Turned.refl [] u1).alloc _).trans (Turned.ofBelow hb2) (by simp)); have hA2 := (Struct.new u1 [.int .i64 0, .int .i64 0, .int .i64 (m.W * 65536), .int .i64 (m.H * 65536)] 98).keep (Turned.ofBelow hb2) (by simp); have a0 := (hA2.2 0 _ rfl).1; have a1 := (hA2.2 1 _ rfl).1; have a2 := (hA2.2 2 _ rfl).1; have a3 := (hA2.2 3 _ rfl).1; have p2 := (((hP.keep hT1 (by simp)).keep hT2 (by simp)).2 2 _ rfl).1; have p3 := (((hP.keep hT1 (by simp)).keep hT2 (by simp)).2 3 _ rfl).1) | (go_at_call 103; refine (k2 _).mono ?_; rintro e u3 ⟨rfl, hb3⟩))
    go_ret
    exact ti_bool rfl (hT.trans (hT1.trans (hT2.trans (Turned.ofBelow hb3) (by simp)) (by simp)) (by simp))
theorem holds_iff {m : Ti.M} {b : Ti.Bx} (hD : Ti.Dims m) (hb : Bx.formed b.lx b.ly b.mx b.my = true) : holdsB m b = true ↔ Ti.Within m b := by
  obtain ⟨d1, d2, d3, d4, _⟩ := hD
  have hf : Bx.formed 0 0 (m.W * 65536) (m.H * 65536) = true := by
    unfold Bx.formed Vc.formedB Vc.inL
    simp
    omega
  unfold Bx.formed at hb
  simp at hb
  unfold holdsB Bx.inB Bx.has Ti.Within
  rw [hf]
  simp
  omega
theorem floor_nat {a : Int} (h0 : 0 ≤ a) (h1 : a ≤ 2097152) (u : World) : Calls Try.prog 60 #[.int .i64 a] u fun e w' => e = .returned (.int .i64 (((a / 65536).toNat : Nat) : Int)) ∧ w' = u := by
  have := FxW.floor_any a u
  rw [Ti.floor_small h0 (by omega)] at this
  rw [Int.toNat_of_nonneg (by omega)]
  exact this

set_option maxRecDepth 20000 in
set_option maxHeartbeats 8000000 in
theorem free_any (m : Ti.M) (oa : Option Addr) (ca : Nat) (ob : Option Addr) (cb : Nat) (b : Ti.Bx) (w : World) (h : MapAt m oa ob w) :
    Calls Try.prog 96 #[mapVal m oa ca ob cb, .agg #[.int .i64 b.lx, .int .i64 b.ly, .int .i64 b.mx, .int .i64 b.my]] w fun e w' => e = .returned (.bool (Ti.freeB m b)) ∧ Turned [] w w' := by
  obtain ⟨W0, hW0⟩ : ∃ W0, W0 = (w.alloc (.cells #[.int .i64 m.W, .int .i64 m.H, .slice oa m.ws.length ca, .slice ob m.sp.length cb] 25)).alloc (.cells #[.int .i64 b.lx, .int .i64 b.ly, .int .i64 b.mx, .int .i64 b.my] 98) := ⟨_, rfl⟩
  have hT : Turned [] w W0 := by rw [hW0]; exact ((Turned.refl [] w).alloc _).alloc _
  obtain ⟨B, hB⟩ : ∃ B, B = w.heap.size := ⟨_, rfl⟩
  obtain ⟨C, hC⟩ : ∃ C, C = w.heap.size + 1 := ⟨_, rfl⟩
  have hS : Struct B [.int .i64 m.W, .int .i64 m.H, .slice oa m.ws.length ca, .slice ob m.sp.length cb] W0 := by rw [hW0, hB]; exact (Struct.new w [.int .i64 m.W, .int .i64 m.H, .slice oa m.ws.length ca, .slice ob m.sp.length cb] _).keep ((Turned.refl [] _).alloc _) (by simp)
  have hP : Struct C [.int .i64 b.lx, .int .i64 b.ly, .int .i64 b.mx, .int .i64 b.my] W0 := by
    have := Struct.new (w.alloc (.cells #[.int .i64 m.W, .int .i64 m.H, .slice oa m.ws.length ca, .slice ob m.sp.length cb] 25)) [.int .i64 b.lx, .int .i64 b.ly, .int .i64 b.mx, .int .i64 b.my] 98
    rw [show (w.alloc (.cells #[.int .i64 m.W, .int .i64 m.H, .slice oa m.ws.length ca, .slice ob m.sp.length cb] 25)).heap.size = w.heap.size + 1 by simp, ← hC] at this
    rw [hW0]; exact this
  have hM := h.calm hT
  have kb := fun (u : World) => BxW.formed_any b.lx b.ly b.mx b.my u
  have kf := fun (u : World) (k : MapAt m oa ob u) => formed_any m oa ca ob cb u k
  have s0 := (hS.2 0 _ rfl).1
  have s1 := (hS.2 1 _ rfl).1
  have s2 := (hS.2 2 _ rfl).1
  have s3 := (hS.2 3 _ rfl).1
  have q0 := (hP.2 0 _ rfl).1
  have q1 := (hP.2 1 _ rfl).1
  have q2 := (hP.2 2 _ rfl).1
  have q3 := (hP.2 3 _ rfl).1
  unfold mapVal at kf ⊢
  cases c0 : Bx.formed b.lx b.ly b.mx b.my with
  | false =>
    have HA : Hid (Ti.freeB m b = false) := TiR.not_free (fun hf => by have := TiR.within_formed hf.1.1 hf.2.1; rw [c0] at this; cases this)
    rw [c0] at kb
    clear c0
    go_enter Try.func96, Try.ntmps96
    go_wp2_with fail
    rw [← hW0, ← hC, ← hB]
    clear hW0 hC hB
    go_wp2_with (go_at_call 71; (with_reducible refine (kb _).mono ?_); rintro e u1 ⟨rfl, hb1⟩; have hT1 := Turned.ofBelow hb1; have s0 := ((hS.keep hT1 (by simp)).2 0 _ rfl).1; have q0 := ((hP.keep hT1 (by simp)).2 0 _ rfl).1; have s1 := ((hS.keep hT1 (by simp)).2 1 _ rfl).1; have q1 := ((hP.keep hT1 (by simp)).2 1 _ rfl).1; have s2 := ((hS.keep hT1 (by simp)).2 2 _ rfl).1; have q2 := ((hP.keep hT1 (by simp)).2 2 _ rfl).1; have s3 := ((hS.keep hT1 (by simp)).2 3 _ rfl).1; have q3 := ((hP.keep hT1 (by simp)).2 3 _ rfl).1; have hM := hM.calm hT1)
    go_ret
    exact ti_bool HA.out.symm (hT.trans hT1 (by simp))
  | true =>
    rw [c0] at kb
    by_cases c1 : Ti.Formed m
    · rw [show Ti.formedB m = true from Ti.formedB_iff.2 c1] at kf
      have kh := fun (u : World) => holds_any m c1.1.1 c1.1.2.1 c1.1.2.2.1 c1.1.2.2.2.1 b oa m.ws.length ca ob m.sp.length cb u
      have hio := holds_iff c1.1 c0
      cases c2 : holdsB m b with
      | false =>
        have HA : Hid (Ti.freeB m b = false) := TiR.not_free (fun hf => by rw [hio.2 hf.2.1] at c2; cases c2)
        rw [c2] at kh
        clear c0 c1 c2 hio
        go_enter Try.func96, Try.ntmps96
        go_wp2_with fail
        rw [← hW0, ← hC, ← hB]
        clear hW0 hC hB
        go_wp2_with (first | (go_at_call 71; (with_reducible refine (kb _).mono ?_); rintro e u1 ⟨rfl, hb1⟩; have hT1 := Turned.ofBelow hb1; have s0 := ((hS.keep hT1 (by simp)).2 0 _ rfl).1; have q0 := ((hP.keep hT1 (by simp)).2 0 _ rfl).1; have s1 := ((hS.keep hT1 (by simp)).2 1 _ rfl).1; have q1 := ((hP.keep hT1 (by simp)).2 1 _ rfl).1; have s2 := ((hS.keep hT1 (by simp)).2 2 _ rfl).1; have q2 := ((hP.keep hT1 (by simp)).2 2 _ rfl).1; have s3 := ((hS.keep hT1 (by simp)).2 3 _ rfl).1; have q3 := ((hP.keep hT1 (by simp)).2 3 _ rfl).1; have hM := hM.calm hT1) | (go_at_call 11; (with_reducible refine (kf _ hM).mono ?_); rintro e u2 ⟨rfl, hT2⟩; have hT1 := hT1.trans hT2 (by simp); have s0 := ((hS.keep hT1 (by simp)).2 0 _ rfl).1; have q0 := ((hP.keep hT1 (by simp)).2 0 _ rfl).1; have s1 := ((hS.keep hT1 (by simp)).2 1 _ rfl).1; have q1 := ((hP.keep hT1 (by simp)).2 1 _ rfl).1; have s2 := ((hS.keep hT1 (by simp)).2 2 _ rfl).1; have q2 := ((hP.keep hT1 (by simp)).2 2 _ rfl).1; have s3 := ((hS.keep hT1 (by simp)).2 3 _ rfl).1; have q3 := ((hP.keep hT1 (by simp)).2 3 _ rfl).1; clear hb1) | (go_at_call 99; (with_reducible refine (kh _).mono ?_); rintro e u3 ⟨rfl, hT3⟩; have hT1 := hT1.trans hT3 (by simp); have s0 := ((hS.keep hT1 (by simp)).2 0 _ rfl).1; have q0 := ((hP.keep hT1 (by simp)).2 0 _ rfl).1; have s1 := ((hS.keep hT1 (by simp)).2 1 _ rfl).1; have q1 := ((hP.keep hT1 (by simp)).2 1 _ rfl).1; have s2 := ((hS.keep hT1 (by simp)).2 2 _ rfl).1; have q2 := ((hP.keep hT1 (by simp)).2 2 _ rfl).1; have s3 := ((hS.keep hT1 (by simp)).2 3 _ rfl).1; have q3 := ((hP.keep hT1 (by simp)).2 3 _ rfl).1; skip))
        go_ret
        exact ti_bool HA.out.symm (hT.trans hT1 (by simp))
      | true =>
        rw [c2] at kh
        have hwi := hio.1 c2
        have HF : Hid (Ti.Formed m) := c1
        have HWI : Hid (Ti.Within m b) := hwi
        have HFO : Hid (∀ x y : Nat, x ≤ 32 → y ≤ 32 → hit m b x y = true → Ti.freeB m b = false) := fun x y hx hy hh => TiR.not_free (free_not c1 hwi hx hy hh)
        obtain ⟨d1, d2, d3, d4, _⟩ := c1.1
        obtain ⟨w1, w2, w3, w4, w5, w6⟩ := hwi
        have kly := fun (u : World) => floor_nat (a := b.ly) (by omega) (by omega) u
        have kmy := fun (u : World) => floor_nat (a := b.my) (by omega) (by omega) u
        have klx := fun (u : World) => floor_nat (a := b.lx) (by omega) (by omega) u
        have kmx := fun (u : World) => floor_nat (a := b.mx) (by omega) (by omega) u
        have kw := fun (x y : Nat) (u : World) (k : MapAt m oa ob u) => wall1_any m oa ca ob cb (x : Int) (y : Int) u k c1.1
        have ko := fun (x y : Nat) (u : World) => BxW.overlap_any b.lx b.ly b.mx b.my ((x : Int) * 65536) ((y : Int) * 65536) (((x : Int) + 1) * 65536) (((y : Int) + 1) * 65536) u
        obtain ⟨yl, hyl⟩ : ∃ n, n = (b.ly / 65536).toNat := ⟨_, rfl⟩
        obtain ⟨ym, hym⟩ : ∃ n, n = (b.my / 65536).toNat := ⟨_, rfl⟩
        obtain ⟨xl, hxl⟩ : ∃ n, n = (b.lx / 65536).toNat := ⟨_, rfl⟩
        obtain ⟨xm, hxm⟩ : ∃ n, n = (b.mx / 65536).toNat := ⟨_, rfl⟩
        rw [← hyl] at kly
        rw [← hym] at kmy
        rw [← hxl] at klx
        rw [← hxm] at kmx
        have HXY : Hid (yl = (b.ly / 65536).toNat ∧ ym = (b.my / 65536).toNat ∧ xl = (b.lx / 65536).toNat ∧ xm = (b.mx / 65536).toNat) := ⟨hyl, hym, hxl, hxm⟩
        have b1 : yl ≤ ym := by omega
        have b2 : ym ≤ 32 := by omega
        have b3 : xl ≤ xm := by omega
        have b4 : xm ≤ 32 := by omega
        have HEN : Hid ((∀ x' y' : Nat, yl ≤ y' → y' ≤ ym → xl ≤ x' → x' ≤ xm → hit m b x' y' = false) → Ti.freeB m b = true) := by
          intro hall
          refine TiR.is_free (free_of c1 HWI.out ?_)
          intro x y e1 e2 e3 e4
          exact hall x y (by omega) (by omega) (by omega) (by omega)
        unfold mapVal at kw
        clear c0 c1 c2 hio hyl hym hxl hxm w1 w2 w3 w4 w5 w6 d1 d2 d3 d4
        go_enter Try.func96, Try.ntmps96
        go_wp2_with fail
        rw [← hW0, ← hC, ← hB]
        clear hW0 hC hB
        go_wp2_with (first | (go_at_call 71; (with_reducible refine (kb _).mono ?_); rintro e u1 ⟨rfl, hb1⟩; have hT1 := Turned.ofBelow hb1; have s0 := ((hS.keep hT1 (by simp)).2 0 _ rfl).1; have q0 := ((hP.keep hT1 (by simp)).2 0 _ rfl).1; have s1 := ((hS.keep hT1 (by simp)).2 1 _ rfl).1; have q1 := ((hP.keep hT1 (by simp)).2 1 _ rfl).1; have s2 := ((hS.keep hT1 (by simp)).2 2 _ rfl).1; have q2 := ((hP.keep hT1 (by simp)).2 2 _ rfl).1; have s3 := ((hS.keep hT1 (by simp)).2 3 _ rfl).1; have q3 := ((hP.keep hT1 (by simp)).2 3 _ rfl).1; have hM := hM.calm hT1) | (go_at_call 11; (with_reducible refine (kf _ hM).mono ?_); rintro e u2 ⟨rfl, hT2⟩; have hT1 := hT1.trans hT2 (by simp); have s0 := ((hS.keep hT1 (by simp)).2 0 _ rfl).1; have q0 := ((hP.keep hT1 (by simp)).2 0 _ rfl).1; have s1 := ((hS.keep hT1 (by simp)).2 1 _ rfl).1; have q1 := ((hP.keep hT1 (by simp)).2 1 _ rfl).1; have s2 := ((hS.keep hT1 (by simp)).2 2 _ rfl).1; have q2 := ((hP.keep hT1 (by simp)).2 2 _ rfl).1; have s3 := ((hS.keep hT1 (by simp)).2 3 _ rfl).1; have q3 := ((hP.keep hT1 (by simp)).2 3 _ rfl).1; clear hb1) | (go_at_call 99; (with_reducible refine (kh _).mono ?_); rintro e u3 ⟨rfl, hT3⟩; have hT1 := hT1.trans hT3 (by simp); have s0 := ((hS.keep hT1 (by simp)).2 0 _ rfl).1; have q0 := ((hP.keep hT1 (by simp)).2 0 _ rfl).1; have s1 := ((hS.keep hT1 (by simp)).2 1 _ rfl).1; have q1 := ((hP.keep hT1 (by simp)).2 1 _ rfl).1; have s2 := ((hS.keep hT1 (by simp)).2 2 _ rfl).1; have q2 := ((hP.keep hT1 (by simp)).2 2 _ rfl).1; have s3 := ((hS.keep hT1 (by simp)).2 3 _ rfl).1; have q3 := ((hP.keep hT1 (by simp)).2 3 _ rfl).1; skip) | (first | (go_at_call_of 60 (Value.int IntKind.i64 b.ly); (with_reducible refine (kly _).mono ?_); rintro e w9 ⟨rfl, hw9⟩; rw [hw9]; clear hw9 w9) | (go_at_call_of 60 (Value.int IntKind.i64 b.my); (with_reducible refine (kmy _).mono ?_); rintro e w9 ⟨rfl, hw9⟩; rw [hw9]; clear hw9 w9) | (go_at_call_of 60 (Value.int IntKind.i64 b.lx); (with_reducible refine (klx _).mono ?_); rintro e w9 ⟨rfl, hw9⟩; rw [hw9]; clear hw9 w9) | (go_at_call_of 60 (Value.int IntKind.i64 b.mx); (with_reducible refine (kmx _).mono ?_); rintro e w9 ⟨rfl, hw9⟩; rw [hw9]; clear hw9 w9)))
        obtain ⟨W1, hW1⟩ : ∃ W1, W1 = u3 := ⟨_, rfl⟩
        have hTW : Turned [] W0 W1 := by rw [hW1]; exact hT1
        have hS1 := hS.keep hTW (by simp)
        have hP1 := hP.keep hTW (by simp)
        have hM1 := (h.calm hT).calm hTW
        have hTT := hT.trans hTW (by simp)
        rw [← hW1]
        clear hW1 hT1 hT2 hT3 s0 s1 s2 s3 q0 q1 q2 q3 hM hTW hS hP hT kb kf kh
        go_loopw [5] (fun i wr => ∃ y : Nat, yl ≤ y ∧ y ≤ ym + 1 ∧ i = .int .i64 (y : Int) ∧ (∀ x' y' : Nat, yl ≤ y' → y' < y → xl ≤ x' → x' ≤ xm → hit m b x' y' = false) ∧ Turned [] W1 wr) (fun i _ => ym + 1 - (intOf i).toNat)
        case atStart => exact ⟨yl, by omega, by omega, rfl, fun _ y' h0 h1 _ _ => absurd h1 (by omega), Turned.refl _ _⟩
        case round =>
          obtain ⟨y, hy0, hy, rfl, hall, hT1⟩ := hrel
          have HALL : Hid (∀ x' y' : Nat, yl ≤ y' → y' < y → xl ≤ x' → x' ≤ xm → hit m b x' y' = false) := hall
          clear hall
          have q1 := ((hP1.keep hT1 (by simp)).2 1 _ rfl).1
          have q3 := ((hP1.keep hT1 (by simp)).2 3 _ rfl).1
          have q0 := ((hP1.keep hT1 (by simp)).2 0 _ rfl).1
          by_cases hlt : (y : Int) ≤ (ym : Int)
          · go_wp2_with (first | (go_at_call_of 60 (Value.int IntKind.i64 b.ly); (with_reducible refine (kly _).mono ?_); rintro e w9 ⟨rfl, hw9⟩; rw [hw9]; clear hw9 w9) | (go_at_call_of 60 (Value.int IntKind.i64 b.my); (with_reducible refine (kmy _).mono ?_); rintro e w9 ⟨rfl, hw9⟩; rw [hw9]; clear hw9 w9) | (go_at_call_of 60 (Value.int IntKind.i64 b.lx); (with_reducible refine (klx _).mono ?_); rintro e w9 ⟨rfl, hw9⟩; rw [hw9]; clear hw9 w9) | (go_at_call_of 60 (Value.int IntKind.i64 b.mx); (with_reducible refine (kmx _).mono ?_); rintro e w9 ⟨rfl, hw9⟩; rw [hw9]; clear hw9 w9))
            go_loopw [6] (fun i wq => ∃ x : Nat, xl ≤ x ∧ x ≤ xm + 1 ∧ i = .int .i64 (x : Int) ∧ (∀ x' : Nat, xl ≤ x' → x' < x → hit m b x' y = false) ∧ Turned [] W1 wq) (fun i _ => xm + 1 - (intOf i).toNat)
            case atStart => exact ⟨xl, by omega, by omega, rfl, fun x' h0 h1 => absurd h1 (by omega), hT1⟩
            case round =>
              clear hT1 q0 q1 q3
              obtain ⟨x, hx0, hx, rfl, hall, hT2⟩ := hrel
              have HROW : Hid (∀ x' : Nat, xl ≤ x' → x' < x → hit m b x' y = false) := hall
              clear hall
              have hS2 := hS1.keep hT2 (by simp)
              have hP2 := hP1.keep hT2 (by simp)
              have q2 := (hP2.2 2 _ rfl).1
              by_cases hlx : (x : Int) ≤ (xm : Int)
              · have s0 := KeptW.at hS2.1 (hS2.2 0 _ rfl).1
                have s1 := KeptW.at hS2.1 (hS2.2 1 _ rfl).1
                have s2 := KeptW.at hS2.1 (hS2.2 2 _ rfl).1
                have s3 := KeptW.at hS2.1 (hS2.2 3 _ rfl).1
                have t0 := KeptW.at hP2.1 (hP2.2 0 _ rfl).1
                have t1 := KeptW.at hP2.1 (hP2.2 1 _ rfl).1
                have t2 := KeptW.at hP2.1 (hP2.2 2 _ rfl).1
                have t3 := KeptW.at hP2.1 (hP2.2 3 _ rfl).1
                have ne : Nonempty (KeptW wr) := KeptW.one wr
                have gw := fun (v : KeptW wr) => kw x y v.u ((hM1.calm hT2).calm (Turned.ofBelow v.h))
                have gt := fun (v : KeptW wr) => tile_any (x : Int) (y : Int) (by omega) (by omega) (by omega) (by omega) v.u
                have go := fun (v : KeptW wr) => ko x y v.u
                have hhit : hit m b x y = (inWall m x y && Bx.overlap b.lx b.ly b.mx b.my ((x : Int) * 65536) ((y : Int) * 65536) (((x : Int) + 1) * 65536) (((y : Int) + 1) * 65536)) := rfl
                generalize inWall m x y = p1 at gw hhit
                generalize Bx.overlap b.lx b.ly b.mx b.my ((x : Int) * 65536) ((y : Int) * 65536) (((x : Int) + 1) * 65536) (((y : Int) + 1) * 65536) = p2 at go hhit
                cases p1 with
                | false =>
                  have HNX : Hid (∀ x' : Nat, xl ≤ x' → x' < x + 1 → hit m b x' y = false) := by
                    intro x' h0 h1
                    by_cases e : x' = x
                    · subst e; rw [hhit]; rfl
                    · exact HROW.out x' h0 (by omega)
                  clear hhit
                  go_wp2_with (first | (go_at_call_of 60 (Value.int IntKind.i64 b.ly); (with_reducible refine (kly _).mono ?_); rintro e w9 ⟨rfl, hw9⟩; rw [hw9]; clear hw9 w9) | (go_at_call_of 60 (Value.int IntKind.i64 b.my); (with_reducible refine (kmy _).mono ?_); rintro e w9 ⟨rfl, hw9⟩; rw [hw9]; clear hw9 w9) | (go_at_call_of 60 (Value.int IntKind.i64 b.lx); (with_reducible refine (klx _).mono ?_); rintro e w9 ⟨rfl, hw9⟩; rw [hw9]; clear hw9 w9) | (go_at_call_of 60 (Value.int IntKind.i64 b.mx); (with_reducible refine (kmx _).mono ?_); rintro e w9 ⟨rfl, hw9⟩; rw [hw9]; clear hw9 w9))
                  refine wp_region_kept (by kernel_rfl) (by kernel_rfl) ?_
                  repeat (go_big_quiet_step ((go_at_call 100; exact kept_call ((gw _).mono fun r w' h => ⟨h.1, h.2.none⟩))))
                  refine wpQuiet_nil ?_
                  rintro _ ⟨v, rfl⟩
                  go_wp2_with fail
                  go_roundw
                  case rel => exact ⟨x + 1, by omega, by omega, by go_num, HNX.out, hT2.trans (Turned.ofBelow v.h) (by simp)⟩
                  case measure => simp [intOf]; omega
                | true =>
                  cases p2 with
                  | true =>
                    have HA : Hid (Ti.freeB m b = false) := HFO.out x y (by omega) (by omega) hhit
                    clear hhit
                    go_wp2_with (first | (go_at_call_of 60 (Value.int IntKind.i64 b.ly); (with_reducible refine (kly _).mono ?_); rintro e w9 ⟨rfl, hw9⟩; rw [hw9]; clear hw9 w9) | (go_at_call_of 60 (Value.int IntKind.i64 b.my); (with_reducible refine (kmy _).mono ?_); rintro e w9 ⟨rfl, hw9⟩; rw [hw9]; clear hw9 w9) | (go_at_call_of 60 (Value.int IntKind.i64 b.lx); (with_reducible refine (klx _).mono ?_); rintro e w9 ⟨rfl, hw9⟩; rw [hw9]; clear hw9 w9) | (go_at_call_of 60 (Value.int IntKind.i64 b.mx); (with_reducible refine (kmx _).mono ?_); rintro e w9 ⟨rfl, hw9⟩; rw [hw9]; clear hw9 w9))
                    refine wp_region_kept (by kernel_rfl) (by kernel_rfl) ?_
                    repeat (go_big_quiet_step (first | (go_at_call 100; exact kept_call ((gw _).mono fun r w' h => ⟨h.1, h.2.none⟩)) | (go_at_call 101; exact kept_call ((gt _).mono fun r w' h => ⟨h.1, h.2.none⟩)) | (go_at_call 54; exact kept_call (go _))))
                    refine wpQuiet_nil ?_
                    rintro _ ⟨v, rfl⟩
                    go_wp2_with fail
                    go_ret
                    exact ti_bool HA.out.symm (hTT.trans (hT2.trans (Turned.ofBelow v.h) (by simp)) (by simp))
                  | false =>
                    have HNX : Hid (∀ x' : Nat, xl ≤ x' → x' < x + 1 → hit m b x' y = false) := by
                      intro x' h0 h1
                      by_cases e : x' = x
                      · subst e; rw [hhit]; rfl
                      · exact HROW.out x' h0 (by omega)
                    clear hhit
                    go_wp2_with (first | (go_at_call_of 60 (Value.int IntKind.i64 b.ly); (with_reducible refine (kly _).mono ?_); rintro e w9 ⟨rfl, hw9⟩; rw [hw9]; clear hw9 w9) | (go_at_call_of 60 (Value.int IntKind.i64 b.my); (with_reducible refine (kmy _).mono ?_); rintro e w9 ⟨rfl, hw9⟩; rw [hw9]; clear hw9 w9) | (go_at_call_of 60 (Value.int IntKind.i64 b.lx); (with_reducible refine (klx _).mono ?_); rintro e w9 ⟨rfl, hw9⟩; rw [hw9]; clear hw9 w9) | (go_at_call_of 60 (Value.int IntKind.i64 b.mx); (with_reducible refine (kmx _).mono ?_); rintro e w9 ⟨rfl, hw9⟩; rw [hw9]; clear hw9 w9))
                    refine wp_region_kept (by kernel_rfl) (by kernel_rfl) ?_
                    repeat (go_big_quiet_step (first | (go_at_call 100; exact kept_call ((gw _).mono fun r w' h => ⟨h.1, h.2.none⟩)) | (go_at_call 101; exact kept_call ((gt _).mono fun r w' h => ⟨h.1, h.2.none⟩)) | (go_at_call 54; exact kept_call (go _))))
                    refine wpQuiet_nil ?_
                    rintro _ ⟨v, rfl⟩
                    go_wp2_with fail
                    go_roundw
                    case rel => exact ⟨x + 1, by omega, by omega, by go_num, HNX.out, hT2.trans (Turned.ofBelow v.h) (by simp)⟩
                    case measure => simp [intOf]; omega
              · have HNX : Hid (∀ x' y' : Nat, yl ≤ y' → y' < y + 1 → xl ≤ x' → x' ≤ xm → hit m b x' y' = false) := by
                  intro x' y' h0 h1 h2 h3
                  by_cases e : y' = y
                  · subst e; exact HROW.out x' h2 (by omega)
                  · exact HALL.out x' y' h0 (by omega) h2 h3
                go_wp2_with (first | (go_at_call_of 60 (Value.int IntKind.i64 b.ly); (with_reducible refine (kly _).mono ?_); rintro e w9 ⟨rfl, hw9⟩; rw [hw9]; clear hw9 w9) | (go_at_call_of 60 (Value.int IntKind.i64 b.my); (with_reducible refine (kmy _).mono ?_); rintro e w9 ⟨rfl, hw9⟩; rw [hw9]; clear hw9 w9) | (go_at_call_of 60 (Value.int IntKind.i64 b.lx); (with_reducible refine (klx _).mono ?_); rintro e w9 ⟨rfl, hw9⟩; rw [hw9]; clear hw9 w9) | (go_at_call_of 60 (Value.int IntKind.i64 b.mx); (with_reducible refine (kmx _).mono ?_); rintro e w9 ⟨rfl, hw9⟩; rw [hw9]; clear hw9 w9))
                go_roundw
                case rel => exact ⟨y + 1, by omega, by omega, by go_num, HNX.out, hT2⟩
                case measure => simp [intOf]; omega
          · have HA : Hid (Ti.freeB m b = true) := HEN.out fun x' y' h0 h1 h2 h3 => HALL.out x' y' h0 (by omega) h2 h3
            go_wp2_with (first | (go_at_call_of 60 (Value.int IntKind.i64 b.ly); (with_reducible refine (kly _).mono ?_); rintro e w9 ⟨rfl, hw9⟩; rw [hw9]; clear hw9 w9) | (go_at_call_of 60 (Value.int IntKind.i64 b.my); (with_reducible refine (kmy _).mono ?_); rintro e w9 ⟨rfl, hw9⟩; rw [hw9]; clear hw9 w9) | (go_at_call_of 60 (Value.int IntKind.i64 b.lx); (with_reducible refine (klx _).mono ?_); rintro e w9 ⟨rfl, hw9⟩; rw [hw9]; clear hw9 w9) | (go_at_call_of 60 (Value.int IntKind.i64 b.mx); (with_reducible refine (kmx _).mono ?_); rintro e w9 ⟨rfl, hw9⟩; rw [hw9]; clear hw9 w9))
            go_ret
            exact ti_bool HA.out.symm (hTT.trans hT1 (by simp))
    · have HA : Hid (Ti.freeB m b = false) := TiR.not_free (fun hf => c1 hf.1)
      rw [show Ti.formedB m = false from Ti.formedB_not c1] at kf
      clear c0 c1
      go_enter Try.func96, Try.ntmps96
      go_wp2_with fail
      rw [← hW0, ← hC, ← hB]
      clear hW0 hC hB
      go_wp2_with (first | (go_at_call 71; (with_reducible refine (kb _).mono ?_); rintro e u1 ⟨rfl, hb1⟩; have hT1 := Turned.ofBelow hb1; have s0 := ((hS.keep hT1 (by simp)).2 0 _ rfl).1; have q0 := ((hP.keep hT1 (by simp)).2 0 _ rfl).1; have s1 := ((hS.keep hT1 (by simp)).2 1 _ rfl).1; have q1 := ((hP.keep hT1 (by simp)).2 1 _ rfl).1; have s2 := ((hS.keep hT1 (by simp)).2 2 _ rfl).1; have q2 := ((hP.keep hT1 (by simp)).2 2 _ rfl).1; have s3 := ((hS.keep hT1 (by simp)).2 3 _ rfl).1; have q3 := ((hP.keep hT1 (by simp)).2 3 _ rfl).1; have hM := hM.calm hT1) | (go_at_call 11; (with_reducible refine (kf _ hM).mono ?_); rintro e u2 ⟨rfl, hT2⟩; have hT1 := hT1.trans hT2 (by simp); have s0 := ((hS.keep hT1 (by simp)).2 0 _ rfl).1; have q0 := ((hP.keep hT1 (by simp)).2 0 _ rfl).1; have s1 := ((hS.keep hT1 (by simp)).2 1 _ rfl).1; have q1 := ((hP.keep hT1 (by simp)).2 1 _ rfl).1; have s2 := ((hS.keep hT1 (by simp)).2 2 _ rfl).1; have q2 := ((hP.keep hT1 (by simp)).2 2 _ rfl).1; have s3 := ((hS.keep hT1 (by simp)).2 3 _ rfl).1; have q3 := ((hP.keep hT1 (by simp)).2 3 _ rfl).1; clear hb1))
      go_ret
      exact ti_bool HA.out.symm (hT.trans hT1 (by simp))
end TiW
end Go.Proofs.Ytgabgkgokmeaeaa


/- How one moves: the program's Stands, the closures that name a place, a half of a step, a whole one (MvW). -/
namespace Go.Proofs.Ytgabgkgokmeaeaa
open Go.RowKit
set_option linter.unusedVariables false
set_option linter.unusedSimpArgs false

namespace MvW
set_option maxHeartbeats 1000000 in
theorem stands_any (m : Ti.M) (oa : Option Addr) (ca : Nat) (ob : Option Addr) (cb : Nat) (x y : Int) (w : World) (h : MapAt m oa ob w) :
    Calls Try.prog 90 #[mapVal m oa ca ob cb, .agg #[.int .i64 x, .int .i64 y]] w fun e w' => e = .returned (.bool (Mv.stands m x y)) ∧ Turned [] w w' := by
  have ka := fun u => BxW.around_any x y 24576 u
  have kf : ∀ u, MapAt m oa ob u → Calls Try.prog 96 #[mapVal m oa ca ob cb, .agg #[.int .i64 (Fx.sub x 24576), .int .i64 (Fx.sub y 24576), .int .i64 (Fx.add x 24576), .int .i64 (Fx.add y 24576)]] u fun e w' => e = .returned (.bool (Mv.stands m x y)) ∧ Turned [] u w' :=
    fun u hu => TiW.free_any m oa ca ob cb (Mv.boxAt x y) u hu
  obtain ⟨nw, hnw⟩ : ∃ n, n = m.ws.length := ⟨_, rfl⟩
  obtain ⟨ns, hns⟩ : ∃ n, n = m.sp.length := ⟨_, rfl⟩
  unfold mapVal at kf ⊢
  rw [← hnw, ← hns] at kf ⊢
  obtain ⟨W0, hW0⟩ : ∃ W0, W0 = (w.alloc (.cells #[.int .i64 m.W, .int .i64 m.H, .slice oa nw ca, .slice ob ns cb] 25)).alloc (.cells #[.int .i64 x, .int .i64 y] 47) := ⟨_, rfl⟩
  obtain ⟨B, hB⟩ : ∃ B, B = w.heap.size := ⟨_, rfl⟩
  obtain ⟨C, hC⟩ : ∃ C, C = w.heap.size + 1 := ⟨_, rfl⟩
  have hT : Turned [] w W0 := by rw [hW0]; exact ((Turned.refl [] w).alloc _).alloc _
  have hS : Struct B [.int .i64 m.W, .int .i64 m.H, .slice oa nw ca, .slice ob ns cb] W0 := by rw [hW0, hB]; exact (Struct.new w [.int .i64 m.W, .int .i64 m.H, .slice oa nw ca, .slice ob ns cb] _).keep ((Turned.refl [] _).alloc _) (by simp)
  have hP : Struct C [.int .i64 x, .int .i64 y] W0 := by
    have h0 := Struct.new (w.alloc (.cells #[.int .i64 m.W, .int .i64 m.H, .slice oa nw ca, .slice ob ns cb] 25)) [.int .i64 x, .int .i64 y] 47
    rw [show (w.alloc (.cells #[.int .i64 m.W, .int .i64 m.H, .slice oa nw ca, .slice ob ns cb] 25)).heap.size = w.heap.size + 1 by simp, ← hC] at h0
    rw [hW0]; exact h0
  have d0 := KeptW.at hS.1 (hS.2 0 _ rfl).1
  have d1 := KeptW.at hS.1 (hS.2 1 _ rfl).1
  have d2 := KeptW.at hS.1 (hS.2 2 _ rfl).1
  have d3 := KeptW.at hS.1 (hS.2 3 _ rfl).1
  have c0 := KeptW.at hP.1 (hP.2 0 _ rfl).1
  have c1 := KeptW.at hP.1 (hP.2 1 _ rfl).1
  have ne : Nonempty (KeptW W0) := KeptW.one W0
  have hM := h.calm hT
  have g1 := fun (v : KeptW W0) => kept_call (ka v.u)
  have g2 := fun (v : KeptW W0) => kept_call ((kf v.u (hM.calm (Turned.ofBelow v.h))).mono fun r w' h => ⟨h.1, h.2.none⟩)
  clear hnw hns ka kf
  go_enter Try.func90, Try.ntmps90
  go_wp2_with fail
  rw [← hW0, ← hC, ← hB]
  clear hW0 hC hB
  refine wp_region_kept (by kernel_rfl) (by kernel_rfl) ?_
  repeat (go_big_quiet_step (first | (go_at_call 75; with_reducible exact g1 _) | (go_at_call 96; with_reducible exact g2 _)))
  refine wpQuiet_nil ?_
  rintro _ ⟨v, rfl⟩
  go_wp2_with fail
  go_ret
  exact ⟨rfl, hT.trans (Turned.ofBelow v.h) (by simp)⟩

/-- the place that has another x -/
theorem atX_any (x ax ay : Int) (B : Nat) (w : World) (h : Struct B [.int .i64 ax, .int .i64 ay] w) :
    Calls Try.prog 69 #[.int .i64 x, .pointer (some ⟨B, 0, none⟩)] w fun e w' => e = .returned (.agg #[.int .i64 x, .int .i64 ay]) ∧ Turned [] w w' := by
  have hP := fun o => h.keep ((Turned.refl [] w).alloc o) (by simp)
  have p0 := fun o => ((hP o).2 0 _ rfl).1
  have p1 := fun o => ((hP o).2 1 _ rfl).1
  clear hP
  go_enter Try.func69, Try.ntmps69
  go_wp2_with fail
  exact bodyPost_ret (v := .agg #[.int .i64 x, .int .i64 ay]) (by simp [results, Try.results69, go_sem]) rfl ⟨rfl, (Turned.refl [] w).alloc _⟩

/-- the place that has another y -/
theorem atY_any (y ax ay : Int) (B : Nat) (w : World) (h : Struct B [.int .i64 ax, .int .i64 ay] w) :
    Calls Try.prog 70 #[.int .i64 y, .pointer (some ⟨B, 0, none⟩)] w fun e w' => e = .returned (.agg #[.int .i64 ax, .int .i64 y]) ∧ Turned [] w w' := by
  have hP := fun o => h.keep ((Turned.refl [] w).alloc o) (by simp)
  have p0 := fun o => ((hP o).2 0 _ rfl).1
  have p1 := fun o => ((hP o).2 1 _ rfl).1
  clear hP
  go_enter Try.func70, Try.ntmps70
  go_wp2_with fail
  exact bodyPost_ret (v := .agg #[.int .i64 ax, .int .i64 y]) (by simp [results, Try.results70, go_sem]) rfl ⟨rfl, (Turned.refl [] w).alloc _⟩

set_option maxHeartbeats 1000000 in
/-- a half of a step, in X -/
theorem alongX_any (m : Ti.M) (oa : Option Addr) (ca : Nat) (ob : Option Addr) (cb : Nat) (n d px py : Int) (B : Nat) (w : World) (h : MapAt m oa ob w)
    (hf : ∀ u, Turned [] w u → Calls Try.prog 69 #[.int .i64 (Fx.add n d), .pointer (some ⟨B, 0, none⟩)] u fun e w' => e = .returned (.agg #[.int .i64 px, .int .i64 py]) ∧ Turned [] u w') :
    Calls Try.prog 68 #[mapVal m oa ca ob cb, .int .i64 n, .int .i64 d, .func (.func 69) #[] #[.pointer (some ⟨B, 0, none⟩)]] w fun e w' => e = .returned (.tuple #[.int .i64 (if Mv.stands m px py = true then Fx.add n d else n), .bool (Mv.stands m px py)]) ∧ Turned [] w w' := by
  have ks := fun (u : World) (hu : MapAt m oa ob u) => stands_any m oa ca ob cb px py u hu
  obtain ⟨s, hs⟩ : ∃ s, s = Mv.stands m px py := ⟨_, rfl⟩
  have ka := fun u => FxW.add_any n d u
  obtain ⟨nd, hnd⟩ : ∃ s, s = Fx.add n d := ⟨_, rfl⟩
  rw [← hnd] at ka hf ⊢
  rw [← hs] at ks ⊢
  obtain ⟨nw, hnw⟩ : ∃ n, n = m.ws.length := ⟨_, rfl⟩
  obtain ⟨ns, hns⟩ : ∃ n, n = m.sp.length := ⟨_, rfl⟩
  unfold mapVal at ks ⊢
  rw [← hnw, ← hns] at ks ⊢
  obtain ⟨W0, hW0⟩ : ∃ W0, W0 = w.alloc (.cells #[.int .i64 m.W, .int .i64 m.H, .slice oa nw ca, .slice ob ns cb] 25) := ⟨_, rfl⟩
  obtain ⟨C, hC⟩ : ∃ C, C = w.heap.size := ⟨_, rfl⟩
  have hT : Turned [] w W0 := by rw [hW0]; exact (Turned.refl [] w).alloc _
  have hS : Struct C [.int .i64 m.W, .int .i64 m.H, .slice oa nw ca, .slice ob ns cb] W0 := by rw [hW0, hC]; exact Struct.new w [.int .i64 m.W, .int .i64 m.H, .slice oa nw ca, .slice ob ns cb] _
  have d0 := KeptW.at hS.1 (hS.2 0 _ rfl).1
  have d1 := KeptW.at hS.1 (hS.2 1 _ rfl).1
  have d2 := KeptW.at hS.1 (hS.2 2 _ rfl).1
  have d3 := KeptW.at hS.1 (hS.2 3 _ rfl).1
  have ne : Nonempty (KeptW W0) := KeptW.one W0
  have hM := h.calm hT
  have g1 := fun (v : KeptW W0) => kept_call ((hf v.u (hT.trans (Turned.ofBelow v.h) (by simp))).mono fun r w' h => ⟨h.1, h.2.none⟩)
  have g2 := fun (v : KeptW W0) => kept_call ((ks v.u (hM.calm (Turned.ofBelow v.h))).mono fun r w' h => ⟨h.1, h.2.none⟩)
  clear hnw hns ks hf hs hnd
  cases s with
  | false =>
    go_enter Try.func68, Try.ntmps68
    go_wp2_with (go_at_call 89; (with_reducible refine (ka _).mono ?_); rintro r w9 ⟨rfl, hw9⟩; rw [hw9]; clear hw9 w9)
    rw [← hW0, ← hC]
    clear hW0 hC
    refine wp_region_kept (by kernel_rfl) (by kernel_rfl) ?_
    repeat (go_big_quiet_step (first | (go_at_call 69; with_reducible exact g1 _) | (go_at_call 90; with_reducible exact g2 _)))
    refine wpQuiet_nil ?_
    rintro _ ⟨v, rfl⟩
    go_wp2_with fail
    exact bodyPost_ret (v := .tuple #[.int .i64 n, .bool false]) (by simp [results, Try.results68, go_sem]) rfl ⟨rfl, hT.trans (Turned.ofBelow v.h) (by simp)⟩
  | true =>
    go_enter Try.func68, Try.ntmps68
    go_wp2_with (go_at_call 89; (with_reducible refine (ka _).mono ?_); rintro r w9 ⟨rfl, hw9⟩; rw [hw9]; clear hw9 w9)
    rw [← hW0, ← hC]
    clear hW0 hC
    refine wp_region_kept (by kernel_rfl) (by kernel_rfl) ?_
    repeat (go_big_quiet_step (first | (go_at_call 69; with_reducible exact g1 _) | (go_at_call 90; with_reducible exact g2 _)))
    refine wpQuiet_nil ?_
    rintro _ ⟨v, rfl⟩
    go_wp2_with fail
    exact bodyPost_ret (v := .tuple #[.int .i64 nd, .bool true]) (by simp [results, Try.results68, go_sem]) rfl ⟨rfl, hT.trans (Turned.ofBelow v.h) (by simp)⟩

set_option maxHeartbeats 1000000 in
/-- a half of a step, in Y -/
theorem alongY_any (m : Ti.M) (oa : Option Addr) (ca : Nat) (ob : Option Addr) (cb : Nat) (n d px py : Int) (B : Nat) (w : World) (h : MapAt m oa ob w)
    (hf : ∀ u, Turned [] w u → Calls Try.prog 70 #[.int .i64 (Fx.add n d), .pointer (some ⟨B, 0, none⟩)] u fun e w' => e = .returned (.agg #[.int .i64 px, .int .i64 py]) ∧ Turned [] u w') :
    Calls Try.prog 68 #[mapVal m oa ca ob cb, .int .i64 n, .int .i64 d, .func (.func 70) #[] #[.pointer (some ⟨B, 0, none⟩)]] w fun e w' => e = .returned (.tuple #[.int .i64 (if Mv.stands m px py = true then Fx.add n d else n), .bool (Mv.stands m px py)]) ∧ Turned [] w w' := by
  have ks := fun (u : World) (hu : MapAt m oa ob u) => stands_any m oa ca ob cb px py u hu
  obtain ⟨s, hs⟩ : ∃ s, s = Mv.stands m px py := ⟨_, rfl⟩
  have ka := fun u => FxW.add_any n d u
  obtain ⟨nd, hnd⟩ : ∃ s, s = Fx.add n d := ⟨_, rfl⟩
  rw [← hnd] at ka hf ⊢
  rw [← hs] at ks ⊢
  obtain ⟨nw, hnw⟩ : ∃ n, n = m.ws.length := ⟨_, rfl⟩
  obtain ⟨ns, hns⟩ : ∃ n, n = m.sp.length := ⟨_, rfl⟩
  unfold mapVal at ks ⊢
  rw [← hnw, ← hns] at ks ⊢
  obtain ⟨W0, hW0⟩ : ∃ W0, W0 = w.alloc (.cells #[.int .i64 m.W, .int .i64 m.H, .slice oa nw ca, .slice ob ns cb] 25) := ⟨_, rfl⟩
  obtain ⟨C, hC⟩ : ∃ C, C = w.heap.size := ⟨_, rfl⟩
  have hT : Turned [] w W0 := by rw [hW0]; exact (Turned.refl [] w).alloc _
  have hS : Struct C [.int .i64 m.W, .int .i64 m.H, .slice oa nw ca, .slice ob ns cb] W0 := by rw [hW0, hC]; exact Struct.new w [.int .i64 m.W, .int .i64 m.H, .slice oa nw ca, .slice ob ns cb] _
  have d0 := KeptW.at hS.1 (hS.2 0 _ rfl).1
  have d1 := KeptW.at hS.1 (hS.2 1 _ rfl).1
  have d2 := KeptW.at hS.1 (hS.2 2 _ rfl).1
  have d3 := KeptW.at hS.1 (hS.2 3 _ rfl).1
  have ne : Nonempty (KeptW W0) := KeptW.one W0
  have hM := h.calm hT
  have g1 := fun (v : KeptW W0) => kept_call ((hf v.u (hT.trans (Turned.ofBelow v.h) (by simp))).mono fun r w' h => ⟨h.1, h.2.none⟩)
  have g2 := fun (v : KeptW W0) => kept_call ((ks v.u (hM.calm (Turned.ofBelow v.h))).mono fun r w' h => ⟨h.1, h.2.none⟩)
  clear hnw hns ks hf hs hnd
  cases s with
  | false =>
    go_enter Try.func68, Try.ntmps68
    go_wp2_with (go_at_call 89; (with_reducible refine (ka _).mono ?_); rintro r w9 ⟨rfl, hw9⟩; rw [hw9]; clear hw9 w9)
    rw [← hW0, ← hC]
    clear hW0 hC
    refine wp_region_kept (by kernel_rfl) (by kernel_rfl) ?_
    repeat (go_big_quiet_step (first | (go_at_call 70; with_reducible exact g1 _) | (go_at_call 90; with_reducible exact g2 _)))
    refine wpQuiet_nil ?_
    rintro _ ⟨v, rfl⟩
    go_wp2_with fail
    exact bodyPost_ret (v := .tuple #[.int .i64 n, .bool false]) (by simp [results, Try.results68, go_sem]) rfl ⟨rfl, hT.trans (Turned.ofBelow v.h) (by simp)⟩
  | true =>
    go_enter Try.func68, Try.ntmps68
    go_wp2_with (go_at_call 89; (with_reducible refine (ka _).mono ?_); rintro r w9 ⟨rfl, hw9⟩; rw [hw9]; clear hw9 w9)
    rw [← hW0, ← hC]
    clear hW0 hC
    refine wp_region_kept (by kernel_rfl) (by kernel_rfl) ?_
    repeat (go_big_quiet_step (first | (go_at_call 70; with_reducible exact g1 _) | (go_at_call 90; with_reducible exact g2 _)))
    refine wpQuiet_nil ?_
    rintro _ ⟨v, rfl⟩
    go_wp2_with fail
    exact bodyPost_ret (v := .tuple #[.int .i64 nd, .bool true]) (by simp [results, Try.results68, go_sem]) rfl ⟨rfl, hT.trans (Turned.ofBelow v.h) (by simp)⟩
end MvW
end Go.Proofs.Ytgabgkgokmeaeaa


/- A string gone through rune by rune: which rune stands where a map's sign stands; a text that is being read, in memory. -/
namespace Go.Proofs.Ytgabgkgokmeaeaa
open Go.RowKit
set_option linter.unusedVariables false
set_option linter.unusedSimpArgs false

namespace Ti
/-- the rune of a sign -/
def rune : Nat → Int
  | 1 => 9608
  | 2 => 183
  | 3 => 9678
  | 4 => 10
  | _ => 0
theorem get_from (s : ByteArray) (a k : Nat) : s.get! (a + k) = (from_ s a).getD k 0 := by
  unfold from_
  rw [List.getD_eq_getElem?_getD, List.getElem?_drop, Array.getElem?_toList]
  show s.data[a + k]! = _
  rw [getElem!_def]
  cases s.data[a + k]? <;> rfl
theorem size_from (s : ByteArray) (a k : Nat) : a + k < s.size ↔ k < (from_ s a).length := by rw [from_len]; omega
/-- the rune where a sign stands -/
theorem dec_sign {s : ByteArray} {a k : Nat} (hk : sg (from_ s a) = k) (h0 : k ≠ 0) : Utf8.decode s a = ((rune k).toNat, (bs k).length) := by
  have hb := bs_sg (l := from_ s a) (by rw [hk]; exact h0)
  rw [hk] at hb
  have hle : k ≤ 4 := by rw [← hk]; exact sg_le _
  have g0 := get_from s a 0
  have g1 := get_from s a 1
  have g2 := get_from s a 2
  have g3 := get_from s a 3
  have z1 := size_from s a 1
  have z2 := size_from s a 2
  generalize (from_ s a).drop (bs k).length = t at hb
  have hkk : k = 1 ∨ k = 2 ∨ k = 3 ∨ k = 4 := by omega
  rcases hkk with rfl | rfl | rfl | rfl
  · rw [show bs 1 = [226, 150, 136] from rfl] at hb
    rw [hb] at g0 g1 g2 g3 z1 z2
    simp at g0 g1 g2 z1 z2
    simp [Utf8.decode, g0, g1, g2, z1, z2, Utf8.valid, rune, bs]
  · rw [show bs 2 = [194, 183] from rfl] at hb
    rw [hb] at g0 g1 g2 g3 z1 z2
    simp at g0 g1 z1
    simp [Utf8.decode, g0, g1, z1, Utf8.valid, rune, bs]
  · rw [show bs 3 = [226, 151, 142] from rfl] at hb
    rw [hb] at g0 g1 g2 g3 z1 z2
    simp at g0 g1 g2 z1 z2
    simp [Utf8.decode, g0, g1, g2, z1, z2, Utf8.valid, rune, bs]
  · rw [show bs 4 = [10] from rfl] at hb
    rw [hb] at g0
    simp at g0
    simp [Utf8.decode, g0, rune, bs]
theorem u8_is {b : UInt8} {n : Nat} (hn : n < 256) (h : b.toNat = n) : b = UInt8.ofNat n := by
  rw [← h]; simp
/-- where none stands there is another rune -/
theorem dec_none {s : ByteArray} {a : Nat} (ha : a < s.size) (hk : sg (from_ s a) = 0) : (Utf8.decode s a).1 ≠ 9608 ∧ (Utf8.decode s a).1 ≠ 183 ∧ (Utf8.decode s a).1 ≠ 9678 ∧ (Utf8.decode s a).1 ≠ 10 := by
  have g0 := get_from s a 0
  have g1 := get_from s a 1
  have g2 := get_from s a 2
  have z0 := size_from s a 0
  have z1 := size_from s a 1
  have z2 := size_from s a 2
  have hb : ∀ k, (s.get! (a + k)).toNat < 256 := fun k => (s.get! (a + k)).toNat_lt
  have h0 := hb 0
  have h1 := hb 1
  have h2 := hb 2
  have h3 := hb 3
  have n1 : ¬ ((s.get! (a + 0)).toNat = 226 ∧ (s.get! (a + 1)).toNat = 150 ∧ (s.get! (a + 2)).toNat = 136 ∧ a + 2 < s.size) := by
    rintro ⟨e0, e1, e2, e3⟩
    rw [g0] at e0
    rw [g1] at e1
    rw [g2] at e2
    rw [z2] at e3
    revert hk e0 e1 e2 e3
    generalize from_ s a = l
    intro hk e0 e1 e2 e3
    match l, e3 with
    | x :: y :: z :: t, _ =>
      simp at e0 e1 e2
      have x0 : x = 226 := u8_is (by decide) e0
      have y0 : y = 150 := u8_is (by decide) e1
      have w0 : z = 136 := u8_is (by decide) e2
      subst x0 y0 w0
      simp [sg] at hk
  have n3 : ¬ ((s.get! (a + 0)).toNat = 226 ∧ (s.get! (a + 1)).toNat = 151 ∧ (s.get! (a + 2)).toNat = 142 ∧ a + 2 < s.size) := by
    rintro ⟨e0, e1, e2, e3⟩
    rw [g0] at e0
    rw [g1] at e1
    rw [g2] at e2
    rw [z2] at e3
    revert hk e0 e1 e2 e3
    generalize from_ s a = l
    intro hk e0 e1 e2 e3
    match l, e3 with
    | x :: y :: z :: t, _ =>
      simp at e0 e1 e2
      have x0 : x = 226 := u8_is (by decide) e0
      have y0 : y = 151 := u8_is (by decide) e1
      have w0 : z = 142 := u8_is (by decide) e2
      subst x0 y0 w0
      simp [sg] at hk
  have n2 : ¬ ((s.get! (a + 0)).toNat = 194 ∧ (s.get! (a + 1)).toNat = 183 ∧ a + 1 < s.size) := by
    rintro ⟨e0, e1, e3⟩
    rw [g0] at e0
    rw [g1] at e1
    rw [z1] at e3
    revert hk e0 e1 e3
    generalize from_ s a = l
    intro hk e0 e1 e3
    match l, e3 with
    | x :: y :: t, _ =>
      simp at e0 e1
      have x0 : x = 194 := u8_is (by decide) e0
      have y0 : y = 183 := u8_is (by decide) e1
      subst x0 y0
      simp [sg] at hk
  have n4 : ¬ ((s.get! (a + 0)).toNat = 10) := by
    intro e0
    rw [g0] at e0
    have e3 : 0 < (from_ s a).length := by rw [← z0]; omega
    revert hk e0 e3
    generalize from_ s a = l
    intro hk e0 e3
    match l, e3 with
    | x :: t, _ =>
      simp at e0
      have x0 : x = 10 := u8_is (by decide) e0
      subst x0
      simp [sg] at hk
  clear g0 g1 g2 z0 z1 z2 hb hk
  simp only [Utf8.decode]
  obtain ⟨b0, e0⟩ : ∃ b, b = (s.get! (a + 0)).toNat := ⟨_, rfl⟩
  obtain ⟨b1, e1⟩ : ∃ b, b = (s.get! (a + 1)).toNat := ⟨_, rfl⟩
  obtain ⟨b2, e2⟩ : ∃ b, b = (s.get! (a + 2)).toNat := ⟨_, rfl⟩
  obtain ⟨b3, e3⟩ : ∃ b, b = (s.get! (a + 3)).toNat := ⟨_, rfl⟩
  simp only [← e0, ← e1, ← e2, ← e3] at n1 n2 n3 n4 h0 h1 h2 h3 ⊢
  clear e0 e1 e2 e3
  by_cases c1 : b0 < 128
  · rw [if_pos c1]; exact ⟨by show b0 ≠ _; omega, by show b0 ≠ _; omega, by show b0 ≠ _; omega, by show b0 ≠ _; omega⟩
  rw [if_neg c1]
  by_cases c2 : b0 / 32 = 6 ∧ a + 1 < s.size ∧ b1 / 64 = 2
  · rw [if_pos (by simp [c2])]
    split
    · exact ⟨by show b0 % 32 * 64 + b1 % 64 ≠ _; omega, by show b0 % 32 * 64 + b1 % 64 ≠ _; omega, by show b0 % 32 * 64 + b1 % 64 ≠ _; omega, by show b0 % 32 * 64 + b1 % 64 ≠ _; omega⟩
    · exact ⟨by decide, by decide, by decide, by decide⟩
  rw [if_neg (by simpa using c2)]
  by_cases c3 : b0 / 16 = 14 ∧ (a + 1 < s.size ∧ b1 / 64 = 2) ∧ a + 2 < s.size ∧ b2 / 64 = 2
  · rw [if_pos (by simp [c3])]
    split
    · rename_i hv
      simp only [Bool.and_eq_true, decide_eq_true_eq] at hv
      have hv1 := hv.1
      clear hv
      exact ⟨by show b0 % 16 * 4096 + b1 % 64 * 64 + b2 % 64 ≠ _; omega, by show b0 % 16 * 4096 + b1 % 64 * 64 + b2 % 64 ≠ _; omega, by show b0 % 16 * 4096 + b1 % 64 * 64 + b2 % 64 ≠ _; omega, by show b0 % 16 * 4096 + b1 % 64 * 64 + b2 % 64 ≠ _; omega⟩
    · exact ⟨by decide, by decide, by decide, by decide⟩
  rw [if_neg (by simpa [and_assoc] using c3)]
  split
  · split
    · rename_i hv
      simp only [Bool.and_eq_true, decide_eq_true_eq] at hv
      have hv1 := hv.1
      clear hv
      refine ⟨?_, ?_, ?_, ?_⟩ <;> (intro he; have he' : b0 % 8 * 262144 + b1 % 64 * 4096 + b2 % 64 * 64 + b3 % 64 = _ := he; omega)
    · exact ⟨by decide, by decide, by decide, by decide⟩
  · exact ⟨by decide, by decide, by decide, by decide⟩
/-- every rune may be -/
theorem dec_bd (s : ByteArray) (a : Nat) : (0 : Int) ≤ ((Utf8.decode s a).1 : Int) ∧ ((Utf8.decode s a).1 : Int) ≤ 2147483647 := ⟨by omega, by have := decode_le s a; omega⟩
end Ti

namespace TiW
/-- a text that is being read: the block B of what was read, its rows; I holds the string's iterator -/
structure RP (B I : Nat) (o : Obj) (w : World) (st : Ti.S) (va vb : Value) (wr : World) : Prop where
  own : Struct B [.int .i64 (st.W : Int), .int .i64 (st.H : Int), va, vb, .int .i64 (st.x : Int)] wr
  it : wr.heap[I]? = some o
  ws : OwnL 4 1 tbEnc va st.ws wr
  sp : OwnL 47 2 tvEnc vb st.sp wr
  bw : B < w.heap.size
  iw : I < w.heap.size
  ne : I ≠ B
  na : ∀ k ∈ blk va, w.heap.size ≤ k
  nb : ∀ k ∈ blk vb, w.heap.size ≤ k
  dis : ∀ k ∈ blk va, k ∉ blk vb
  turned : Turned [B, I] w wr
section
variable {B I : Nat} {o : Obj} {w wr : World} {st : Ti.S} {va vb : Value}
theorem turned_iter {w : World} {I : Nat} {s : ByteArray} {p : Nat} : Turned [I] w (w.iterAt I s p) :=
  ⟨rfl, rfl, rfl, by rw [Lib.iterAt_size]; exact Nat.le_refl _, fun k _ hk => Lib.iterAt_other w I k s p (by simpa using hk)⟩
theorem RP.lt (h : RP B I o w st va vb wr) : w.heap.size ≤ wr.heap.size := h.turned.size
theorem RP.keep {u : World} (h : RP B I o w st va vb wr) (ht : Turned [] wr u) : RP B I o w st va vb u :=
  ⟨h.own.keep ht (by simp), (ht.block I (Nat.lt_of_lt_of_le h.iw h.lt) (by simp)).trans h.it, h.ws.keep ht (by simp), h.sp.keep ht (by simp), h.bw, h.iw, h.ne, h.na, h.nb, h.dis, h.turned.trans ht (by simp)⟩
/-- the iterator goes on -/
theorem RP.iter {s : ByteArray} {p q : Nat} (h : RP B I (.stringIter s p) w st va vb wr) : RP B I (.stringIter s q) w st va vb (wr.iterAt I s q) := by
  have ht : Turned [I] wr (wr.iterAt I s q) := turned_iter
  have hb := h.bw
  have hi := h.iw
  refine ⟨h.own.keep ht (by simpa using h.ne.symm), Lib.iterAt_heap wr I s p q h.it, h.ws.keep ht ?_, h.sp.keep ht ?_, h.bw, h.iw, h.ne, h.na, h.nb, h.dis, h.turned.trans ht (by simp)⟩
  · intro k hk; have := h.na k hk; simp; omega
  · intro k hk; have := h.nb k hk; simp; omega
/-- a cell of the block is written -/
theorem RP.cellB (h : RP B I o w st va vb wr) {i : Nat} (u : Value) : Turned [B] wr (wr.setCell ⟨B, i, none⟩ u) := (Turned.refl [B] wr).setCell (p := ⟨B, i, none⟩) (.inl (by simp)) _
theorem RP.putB {x W H : Nat} {u : World} (h : RP B I o w st va vb wr) (ht : Turned [B] wr u) (hs : Struct B [.int .i64 (W : Int), .int .i64 (H : Int), va, vb, .int .i64 (x : Int)] u) : RP B I o w ⟨x, W, H, st.ws, st.sp⟩ va vb u := by
  have hb := h.bw
  have hi := h.iw
  refine ⟨hs, (ht.block I (Nat.lt_of_lt_of_le h.iw h.lt) (by simpa using h.ne)).trans h.it, h.ws.keep ht ?_, h.sp.keep ht ?_, h.bw, h.iw, h.ne, h.na, h.nb, h.dis, h.turned.trans ht (by simp)⟩
  · intro k hk; have := h.na k hk; simp; omega
  · intro k hk; have := h.nb k hk; simp; omega
/-- a line has ended -/
theorem RP.line (h : RP B I o w st va vb wr) : RP B I o w (Ti.next 4 st) va vb (((wr.setCell ⟨B, 0, none⟩ (.int .i64 (st.x : Int))).setCell ⟨B, 4, none⟩ (.int .i64 0)).setCell ⟨B, 1, none⟩ (.int .i64 ((st.H : Int) + 1))) :=
  h.putB (((h.cellB _).setCell (p := ⟨B, 4, none⟩) (.inl (by simp)) _).setCell (p := ⟨B, 1, none⟩) (.inl (by simp)) _) (((h.own.set (i := 0) (by simp) _).set (i := 4) (by simp) _).set (i := 1) (by simp) _)
/-- one column further -/
theorem RP.col (h : RP B I o w st va vb wr) : RP B I o w ⟨st.x + 1, st.W, st.H, st.ws, st.sp⟩ va vb (wr.setCell ⟨B, 4, none⟩ (.int .i64 ((st.x : Int) + 1))) :=
  h.putB (h.cellB _) (h.own.set (i := 4) (by simp) _)
/-- behind an append of a wall, ahead of the store -/
theorem RP.mid {oo : Obj} {w1 : World} (h : RP B I o w st va vb wr) (ht : Turned (blk va) (wr.alloc oo) w1) : Struct B [.int .i64 (st.W : Int), .int .i64 (st.H : Int), va, vb, .int .i64 (st.x : Int)] w1 ∧ w1.heap[I]? = some o ∧ OwnL 47 2 tvEnc vb st.sp w1 ∧ Turned [B, I] w w1 := by
  have ha := (Turned.refl [] wr).alloc oo
  have hb := h.bw
  have hi := h.iw
  refine ⟨(h.own.keep ha (by simp)).keep ht (fun hk => by have := h.na B hk; omega), ?_, (h.sp.keep ha (by simp)).keep ht (fun k hk hm => h.dis k hm hk), ?_⟩
  · rw [ht.block I (by have := ha.size; have := h.lt; omega) (fun hk => by have := h.na I hk; omega), ha.block I (by have := h.lt; omega) (by simp)]
    exact h.it
  · exact (h.turned.trans ha (by simp)).trans ht (fun k hk hl => by have := h.na k hk; omega)
theorem RP.push {oo : Obj} {w1 : World} {b : Bool} {v' : Value} (h : RP B I o w st va vb wr) (ho1 : OwnL 4 1 tbEnc v' (st.ws ++ [b]) w1) (ht : Turned (blk va) (wr.alloc oo) w1) (hb : blk v' = blk va ∨ blk v' = [(wr.alloc oo).heap.size]) : RP B I o w ⟨st.x, st.W, st.H, st.ws ++ [b], st.sp⟩ v' vb (w1.setCell ⟨B, 2, none⟩ v') := by
  obtain ⟨m2, m1, m3, m4⟩ := h.mid ht
  have hB := h.bw
  have hI := h.iw
  have hs : (wr.alloc oo).heap.size = wr.heap.size + 1 := by simp
  have hna : ∀ k ∈ blk v', w.heap.size ≤ k := by
    intro k hk
    rcases hb with e | e
    · rw [e] at hk; exact h.na k hk
    · rw [e, hs] at hk; simp at hk; subst hk
      have := h.lt
      omega
  have hdis : ∀ k ∈ blk v', k ∉ blk vb := by
    intro k hk hm
    rcases hb with e | e
    · rw [e] at hk; exact h.dis k hk hm
    · rw [e, hs] at hk; simp at hk; subst hk
      have := h.sp.lt _ hm; omega
  have hT : Turned [B] w1 (w1.setCell ⟨B, 2, none⟩ v') := (Turned.refl [B] w1).setCell (p := ⟨B, 2, none⟩) (.inl (by simp)) _
  refine ⟨m2.set (i := 2) (by simp) _, (hT.block I (by have := m4.size; omega) (by simpa using h.ne)).trans m1, ho1.keep hT ?_, m3.keep hT ?_, h.bw, h.iw, h.ne, hna, h.nb, hdis, m4.trans hT (by simp)⟩
  · intro k hk; have := hna k hk; simp; omega
  · intro k hk; have := h.nb k hk; simp; omega
/-- behind an append of a place, ahead of the store -/
theorem RP.mid2 {oo : Obj} {w1 : World} (h : RP B I o w st va vb wr) (ht : Turned (blk vb) (wr.alloc oo) w1) : Struct B [.int .i64 (st.W : Int), .int .i64 (st.H : Int), va, vb, .int .i64 (st.x : Int)] w1 ∧ w1.heap[I]? = some o ∧ OwnL 4 1 tbEnc va st.ws w1 ∧ Turned [B, I] w w1 := by
  have ha := (Turned.refl [] wr).alloc oo
  have hb := h.bw
  have hi := h.iw
  refine ⟨(h.own.keep ha (by simp)).keep ht (fun hk => by have := h.nb B hk; omega), ?_, (h.ws.keep ha (by simp)).keep ht (fun k hk hm => h.dis k hk hm), ?_⟩
  · rw [ht.block I (by have := ha.size; have := h.lt; omega) (fun hk => by have := h.nb I hk; omega), ha.block I (by have := h.lt; omega) (by simp)]
    exact h.it
  · exact (h.turned.trans ha (by simp)).trans ht (fun k hk hl => by have := h.nb k hk; omega)
theorem RP.push2 {oo : Obj} {w1 : World} {b : Int × Int} {v' : Value} (h : RP B I o w st va vb wr) (ho1 : OwnL 47 2 tvEnc v' (st.sp ++ [b]) w1) (ht : Turned (blk vb) (wr.alloc oo) w1) (hb : blk v' = blk vb ∨ blk v' = [(wr.alloc oo).heap.size]) : RP B I o w ⟨st.x, st.W, st.H, st.ws, st.sp ++ [b]⟩ va v' (w1.setCell ⟨B, 3, none⟩ v') := by
  obtain ⟨m2, m1, m3, m4⟩ := h.mid2 ht
  have hB := h.bw
  have hI := h.iw
  have hs : (wr.alloc oo).heap.size = wr.heap.size + 1 := by simp
  have hnb : ∀ k ∈ blk v', w.heap.size ≤ k := by
    intro k hk
    rcases hb with e | e
    · rw [e] at hk; exact h.nb k hk
    · rw [e, hs] at hk; simp at hk; subst hk
      have := h.lt
      omega
  have hdis : ∀ k ∈ blk va, k ∉ blk v' := by
    intro k hk hm
    rcases hb with e | e
    · rw [e] at hm; exact h.dis k hk hm
    · rw [e, hs] at hm; simp at hm; subst hm
      have := h.ws.lt _ hk; omega
  have hT : Turned [B] w1 (w1.setCell ⟨B, 3, none⟩ v') := (Turned.refl [B] w1).setCell (p := ⟨B, 3, none⟩) (.inl (by simp)) _
  refine ⟨m2.set (i := 3) (by simp) _, (hT.block I (by have := m4.size; omega) (by simpa using h.ne)).trans m1, m3.keep hT ?_, ho1.keep hT ?_, h.bw, h.iw, h.ne, h.na, hnb, hdis, m4.trans hT (by simp)⟩
  · intro k hk; have := h.na k hk; simp; omega
  · intro k hk; have := hnb k hk; simp; omega
end
end TiW
end Go.Proofs.Ytgabgkgokmeaeaa


/- One more sign is taken: the program's (TiW). -/
namespace Go.Proofs.Ytgabgkgokmeaeaa
open Go.RowKit
set_option linter.unusedVariables false
set_option linter.unusedSimpArgs false

namespace TiW
variable {B I : Nat} {o : Obj} {w0 w : World} {st : Ti.S} {va vb : Value}
/-- how many signs the line may have -/
def most (st : Ti.S) : Nat := if st.H = 0 then 32 else st.W
set_option maxHeartbeats 400000 in
theorem most_any (h : RP B I o w0 st va vb w) :
    Calls Try.prog 43 #[.pointer (some ⟨B, 0, none⟩)] w fun e w' => e = .returned (.int .i64 ((most st : Nat) : Int)) ∧ w' = w := by
  have d0 := (h.own.2 0 _ rfl).1
  have d1 := (h.own.2 1 _ rfl).1
  by_cases hH : st.H = 0
  · have HM : Hid (most st = 32) := by show _ = _; unfold most; rw [if_pos hH]
    have i1 : ((st.H : Int) == 0) = true := by rw [beq_iff_eq]; omega
    clear hH
    go_enter Try.func43, Try.ntmps43
    go_wp2
    go_ret
    rw [HM.out]
    exact ⟨rfl, rfl⟩
  · have HM : Hid (most st = st.W) := by show _ = _; unfold most; rw [if_neg hH]
    have i1 : ((st.H : Int) == 0) = false := by rw [beq_eq_false_iff_ne]; omega
    clear hH
    go_enter Try.func43, Try.ntmps43
    go_wp2
    go_ret
    rw [HM.out]
    exact ⟨rfl, rfl⟩

set_option maxHeartbeats 2000000 in
theorem line_bad (h : RP B I o w0 st va vb w) (hxw : 0 < st.H → st.x ≤ st.W) (hb : Ti.bad 4 st) :
    Calls Try.prog 42 #[.pointer (some ⟨B, 0, none⟩)] w fun e w' => e = .returned (.bool false) ∧ Turned [] w w' := by
  have hl := h.own.1
  have d0 := KeptW.at hl (h.own.2 0 _ rfl).1
  have d1 := KeptW.at hl (h.own.2 1 _ rfl).1
  have d4 := KeptW.at hl (h.own.2 4 _ rfl).1
  have ne : Nonempty (KeptW w) := KeptW.one w
  unfold Ti.bad at hb
  rw [if_pos rfl] at hb
  by_cases hx : st.x = 0
  · have i1 : ((st.x : Int) == 0) = true := by rw [beq_iff_eq]; omega
    clear hb hx hxw
    go_enter Try.func42, Try.ntmps42
    go_wp2_with fail
    refine wp_region_kept (by kernel_rfl) (by kernel_rfl) ?_
    repeat (go_big_quiet_step (fail))
    refine wpQuiet_nil ?_
    rintro _ ⟨v, rfl⟩
    go_wp2_with fail
    go_ret
    exact ⟨rfl, Turned.ofBelow v.h⟩
  · have i1 : ((st.x : Int) == 0) = false := by rw [beq_eq_false_iff_ne]; omega
    have hH : 0 < st.H ∧ st.x ≠ st.W := by
      rcases hb with h | h
      · exact absurd h hx
      · exact h
    have i2 : decide (0 < st.H) = true := by simp; omega
    have i3 : decide (st.x < st.W) = true := by have := hxw hH.1; simp; omega
    clear hb hx hxw hH
    go_enter Try.func42, Try.ntmps42
    go_wp2_with fail
    refine wp_region_kept (by kernel_rfl) (by kernel_rfl) ?_
    repeat (go_big_quiet_step (fail))
    refine wpQuiet_nil ?_
    rintro _ ⟨v, rfl⟩
    go_wp2_with fail
    go_ret
    exact ⟨rfl, Turned.ofBelow v.h⟩

set_option maxHeartbeats 4000000 in
theorem line_any (h : RP B I o w0 st va vb w) (hH32 : st.H ≤ 32) (hb : ¬ Ti.bad 4 st) :
    Calls Try.prog 42 #[.pointer (some ⟨B, 0, none⟩)] w fun e w' => e = .returned (.bool true) ∧ RP B I o w0 (Ti.next 4 st) va vb w' := by
  have hl := h.own.1
  have d0 := KeptW.at hl (h.own.2 0 _ rfl).1
  have d1 := KeptW.at hl (h.own.2 1 _ rfl).1
  have d4 := KeptW.at hl (h.own.2 4 _ rfl).1
  have ne : Nonempty (KeptW w) := KeptW.one w
  unfold Ti.bad at hb
  rw [if_pos rfl] at hb
  have hx : st.x ≠ 0 := fun e => hb (.inl e)
  have i1 : ((st.x : Int) == 0) = false := by rw [beq_eq_false_iff_ne]; omega
  by_cases hH : st.H = 0
  · have i2 : decide (0 < st.H) = false := by simp; omega
    clear hb hx hH
    go_enter Try.func42, Try.ntmps42
    go_wp2_with fail
    refine wp_region_kept (by kernel_rfl) (by kernel_rfl) ?_
    repeat (go_big_quiet_step (fail))
    refine wpQuiet_nil ?_
    rintro _ ⟨v, rfl⟩
    have hr := h.keep (Turned.ofBelow v.h)
    clear d0 d1 d4 ne h
    have d0 := (hr.own.2 0 _ rfl).1
    have f0 := (hr.own.2 0 _ rfl).2
    have d1 := (hr.own.2 1 _ rfl).1
    have f1 := (hr.own.2 1 _ rfl).2
    have d4 := (hr.own.2 4 _ rfl).1
    have f4 := (hr.own.2 4 _ rfl).2
    go_wp2_with fail
    go_ret
    exact ⟨rfl, hr.line⟩
  · have i2 : decide (0 < st.H) = true := by simp; omega
    have hw : st.x = st.W := by
      by_cases e : st.x = st.W
      · exact e
      · exact absurd (.inr ⟨by omega, e⟩) hb
    have i3 : decide (st.x < st.W) = false := by simp; omega
    clear hb hx hH hw
    go_enter Try.func42, Try.ntmps42
    go_wp2_with fail
    refine wp_region_kept (by kernel_rfl) (by kernel_rfl) ?_
    repeat (go_big_quiet_step (fail))
    refine wpQuiet_nil ?_
    rintro _ ⟨v, rfl⟩
    have hr := h.keep (Turned.ofBelow v.h)
    clear d0 d1 d4 ne h
    have d0 := (hr.own.2 0 _ rfl).1
    have f0 := (hr.own.2 0 _ rfl).2
    have d1 := (hr.own.2 1 _ rfl).1
    have f1 := (hr.own.2 1 _ rfl).2
    have d4 := (hr.own.2 4 _ rfl).1
    have f4 := (hr.own.2 4 _ rfl).2
    go_wp2_with fail
    go_ret
    exact ⟨rfl, hr.line⟩
end TiW
end Go.Proofs.Ytgabgkgokmeaeaa


/- A tile's sign is taken: the program's (TiW). -/
namespace Go.Proofs.Ytgabgkgokmeaeaa
open Go.RowKit
set_option linter.unusedVariables false
set_option linter.unusedSimpArgs false

namespace TiW
variable {B I : Nat} {o : Obj} {w0 w : World} {st : Ti.S} {va vb : Value}
set_option maxRecDepth 20000 in
set_option maxHeartbeats 1000000 in
theorem tile_no (r : Int) (h1 : r ≠ 9608) (h2 : r ≠ 183) (h3 : r ≠ 9678) (B : Nat) (w : World) :
    Calls Try.prog 44 #[.pointer (some ⟨B, 0, none⟩), .int .i32 r] w fun e w' => e = .returned (.bool false) ∧ w' = w := by
  have i1 : (r == 9608) = false := by rw [beq_eq_false_iff_ne]; exact h1
  have i2 : (r == 183) = false := by rw [beq_eq_false_iff_ne]; exact h2
  have i3 : (r == 9678) = false := by rw [beq_eq_false_iff_ne]; exact h3
  go_enter Try.func44, Try.ntmps44
  go_wp2
  go_ret
  exact ⟨rfl, rfl⟩

set_option maxRecDepth 20000 in
set_option maxHeartbeats 4000000 in
theorem tile_one (h : RP B I o w0 st va vb w) (hx : st.x < 32) (hws : st.ws.length ≤ 1000000) :
    Calls Try.prog 44 #[.pointer (some ⟨B, 0, none⟩), .int .i32 9608] w fun e w' => e = .returned (.bool true) ∧ ∃ va' vb', RP B I o w0 (Ti.next 1 st) va' vb' w' := by
  obtain ⟨oa, ca, rfl, hca, hcm⟩ := h.ws.form
  have b1 : st.ws.length + 1 ≤ maxLen := by unfold maxLen; omega
  have b2 : (st.ws.length + 1) * 1 ≤ 140737488355328 := by omega
  have d2 := (h.own.2 2 _ rfl).1
  go_enter Try.func44, Try.ntmps44
  go_wp2_with (at_builtin; refine wp_push (v := .slice oa st.ws.length ca) elem_tb rfl _ _ rfl rfl (h.ws.keep ((Turned.refl [] w).alloc _) (by simp)) w.heap.size 0 1 1 [true] rfl rfl tbEnc_len tbEnc_one (one_cell rfl w _) b1 b2 ?_; intro v' w1 ho1 ht1 hb1; have hL := h.push ho1 ht1 hb1; obtain ⟨g, cap, hv, _⟩ := ho1.cell tbEnc_len (i := st.ws.length) (a := true) (by simp); rw [show (st.ws ++ [true]).length = st.ws.length + 1 by simp] at hv; subst hv; obtain ⟨m1, m2, m3, m4⟩ := h.mid ht1; have e2 := (m1.2 2 _ rfl).1; have g2 := (m1.2 2 _ rfl).2; have e4 := (m1.2 4 _ rfl).1; have g4 := (m1.2 4 _ rfl).2)
  go_ret
  exact ⟨rfl, _, _, hL.col⟩

set_option maxRecDepth 20000 in
set_option maxHeartbeats 4000000 in
theorem tile_two (h : RP B I o w0 st va vb w) (hx : st.x < 32) (hws : st.ws.length ≤ 1000000) :
    Calls Try.prog 44 #[.pointer (some ⟨B, 0, none⟩), .int .i32 183] w fun e w' => e = .returned (.bool true) ∧ ∃ va' vb', RP B I o w0 (Ti.next 2 st) va' vb' w' := by
  obtain ⟨oa, ca, rfl, hca, hcm⟩ := h.ws.form
  have b1 : st.ws.length + 1 ≤ maxLen := by unfold maxLen; omega
  have b2 : (st.ws.length + 1) * 1 ≤ 140737488355328 := by omega
  have d2 := (h.own.2 2 _ rfl).1
  go_enter Try.func44, Try.ntmps44
  go_wp2_with (at_builtin; refine wp_push (v := .slice oa st.ws.length ca) elem_tb rfl _ _ rfl rfl (h.ws.keep ((Turned.refl [] w).alloc _) (by simp)) w.heap.size 0 1 1 [false] rfl rfl tbEnc_len tbEnc_one (one_cell rfl w _) b1 b2 ?_; intro v' w1 ho1 ht1 hb1; have hL := h.push ho1 ht1 hb1; obtain ⟨g, cap, hv, _⟩ := ho1.cell tbEnc_len (i := st.ws.length) (a := false) (by simp); rw [show (st.ws ++ [false]).length = st.ws.length + 1 by simp] at hv; subst hv; obtain ⟨m1, m2, m3, m4⟩ := h.mid ht1; have e2 := (m1.2 2 _ rfl).1; have g2 := (m1.2 2 _ rfl).2; have e4 := (m1.2 4 _ rfl).1; have g4 := (m1.2 4 _ rfl).2)
  go_ret
  exact ⟨rfl, _, _, hL.col⟩

set_option maxRecDepth 20000 in
set_option maxHeartbeats 8000000 in
theorem tile_three (h : RP B I o w0 st va vb w) (hx : st.x < 32) (hH : st.H < 32) (hws : st.ws.length ≤ 1000000) (hsp : st.sp.length ≤ 1000000) :
    Calls Try.prog 44 #[.pointer (some ⟨B, 0, none⟩), .int .i32 9678] w fun e w' => e = .returned (.bool true) ∧ ∃ va' vb', RP B I o w0 (Ti.next 3 st) va' vb' w' := by
  obtain ⟨oa, ca, rfl, hca, hcm⟩ := h.ws.form
  obtain ⟨ob, cb, rfl, hcb, hcm2⟩ := h.sp.form
  have b1 : st.ws.length + 1 ≤ maxLen := by unfold maxLen; omega
  have b2 : (st.ws.length + 1) * 1 ≤ 140737488355328 := by omega
  have b3 : st.sp.length + 1 ≤ maxLen := by unfold maxLen; omega
  have b4 : (st.sp.length + 1) * 16 ≤ 140737488355328 := by omega
  have kmid := fun (u : World) => middle_any (st.x : Int) (st.H : Int) (by omega) (by omega) (by omega) (by omega) u
  have d0 := (h.own.2 0 _ rfl).1
  have d1 := (h.own.2 1 _ rfl).1
  have d3 := (h.own.2 3 _ rfl).1
  have d4 := (h.own.2 4 _ rfl).1
  go_enter Try.func44, Try.ntmps44
  go_wp2_with fail
  have hrs := h
  have HT5 : Turned [] w w.drew := (Turned.refl [] w).drew
  go_region_law (first | (refine step_push (v := .slice ob st.sp.length cb) elem_tv rfl _ _ rfl rfl (hrs.sp.keep ((Turned.refl [] u5).alloc _) (by simp)) u5.heap.size 0 1 1 [Ti.mid st.x st.H] rfl rfl tvEnc_len tvEnc_one (TiR.two_cells u5 _) b3 b4 ?_; intro v2 w2 ho2 ht2 hb2; have hL2 := hrs.push2 ho2 ht2 hb2; obtain ⟨g2, cap2, hv2, _⟩ := ho2.cell tvEnc_len (i := st.sp.length) (a := Ti.mid st.x st.H) (by simp); rw [show (st.sp ++ [Ti.mid st.x st.H]).length = st.sp.length + 1 by simp] at hv2; subst hv2; obtain ⟨q1, q2, q3, q4⟩ := hrs.mid2 ht2; have e3 := (q1.2 3 _ rfl).1; have g3 := (q1.2 3 _ rfl).2) | (rw [if_pos (by rfl)]; go_simp; go_at_call 59; (with_reducible refine (kmid _).mono ?_); rintro e5 u5 ⟨rfl, HT6⟩; have hrs := hrs.keep (HT5.trans HT6 (by simp)); have d0' := (hrs.own.2 0 _ rfl).1; have d1' := (hrs.own.2 1 _ rfl).1; have d3 := (hrs.own.2 3 _ rfl).1; have d3' := fun o => ((hrs.own.keep ((Turned.refl [] u5).alloc o) (by simp)).2 3 _ rfl).1; have d4' := (hrs.own.2 4 _ rfl).1))
  all_goals
    obtain ⟨W2, hW2⟩ : ∃ W2, W2 = w2.setCell ⟨B, 3, none⟩ (.slice (some ⟨g2, 0, none⟩) (st.sp.length + 1) cap2) := ⟨_, rfl⟩
    rw [← hW2] at hL2 ⊢
    clear hW2 ho2 ht2 hb2 q1 q2 q3 q4 e3 g3 hrs h
    have c2 := (hL2.own.2 2 _ rfl).1
    go_wp2_with (at_builtin; refine wp_push (v := .slice oa st.ws.length ca) elem_tb rfl _ _ rfl rfl (hL2.ws.keep ((Turned.refl [] W2).alloc _) (by simp)) W2.heap.size 0 1 1 [false] rfl rfl tbEnc_len tbEnc_one (one_cell rfl W2 _) b1 b2 ?_; intro v' w1 ho1 ht1 hb1; have hL := hL2.push ho1 ht1 hb1; obtain ⟨g, cap, hv, _⟩ := ho1.cell tbEnc_len (i := st.ws.length) (a := false) (by simp); rw [show (st.ws ++ [false]).length = st.ws.length + 1 by simp] at hv; subst hv; obtain ⟨m1, m2, m3, m4⟩ := hL2.mid ht1; have e2 := (m1.2 2 _ rfl).1; have g2 := (m1.2 2 _ rfl).2; have e4 := (m1.2 4 _ rfl).1; have g4 := (m1.2 4 _ rfl).2)
    go_ret
    exact ⟨rfl, _, _, hL.col⟩
end TiW
end Go.Proofs.Ytgabgkgokmeaeaa


/- One more sign is taken, or not; whether a text may end: the program's (TiW). -/
namespace Go.Proofs.Ytgabgkgokmeaeaa
open Go.RowKit
set_option linter.unusedVariables false
set_option linter.unusedSimpArgs false

namespace TiW
variable {B I : Nat} {o : Obj} {w0 w : World} {st : Ti.S} {va vb : Value}
/-- the rune that stands where a sign stands, or none -/
def Stands (k : Nat) (r : Int) : Prop := (1 ≤ k ∧ k ≤ 4 ∧ r = Ti.rune k) ∨ (k = 0 ∧ r ≠ 9608 ∧ r ≠ 183 ∧ r ≠ 9678 ∧ r ≠ 10)
theorem stands_line {k : Nat} {r : Int} (h : Stands k r) (hk : k ≠ 4) : (r == 10) = false := by
  rw [beq_eq_false_iff_ne]
  rcases h with ⟨h1, h2, h3⟩ | ⟨h1, h2, h3, h4, h5⟩
  · have : k = 1 ∨ k = 2 ∨ k = 3 := by omega
    rcases this with rfl | rfl | rfl <;> (rw [h3]; decide)
  · exact h5

set_option maxHeartbeats 4000000 in
theorem take_bad (h : RP B I o w0 st va vb w) {a k : Nat} {r : Int} (hi : Ti.Inv a st) (hxw : 0 < st.H → st.x ≤ st.W) (hr : Stands k r) (hb : Ti.bad k st) :
    Calls Try.prog 21 #[.pointer (some ⟨B, 0, none⟩), .int .i32 r] w fun e w' => e = .returned (.bool false) ∧ Turned [] w w' := by
  have hl := h.own.1
  have d1 := (h.own.2 1 _ rfl).1
  by_cases hH : st.H = 32
  · have i1 : ((st.H : Int) == 32) = true := by rw [beq_iff_eq]; omega
    clear hH hb
    go_enter Try.func21, Try.ntmps21
    go_wp2
    go_ret
    exact ⟨rfl, Turned.refl _ _⟩
  · have hH32 := hi.h
    have i1 : ((st.H : Int) == 32) = false := by rw [beq_eq_false_iff_ne]; omega
    by_cases hk : k = 4
    · subst hk
      have hr10 : r = 10 := by
        rcases hr with ⟨_, _, h3⟩ | ⟨h1, _⟩
        · exact h3
        · omega
      have kl := line_bad h hxw hb
      subst hr10
      clear hb hr hH hi hxw
      go_enter Try.func21, Try.ntmps21
      go_wp2_with (go_at_call 42; (with_reducible refine kl.mono ?_); rintro e u ⟨rfl, hT⟩)
      go_ret
      exact ⟨rfl, hT⟩
    · have i2 := stands_line hr hk
      have km := fun (v : KeptW w) => kept_same (most_any (h.keep (Turned.ofBelow v.h)))
      have d4 := KeptW.at hl (h.own.2 4 _ rfl).1
      have ne : Nonempty (KeptW w) := KeptW.one w
      unfold Ti.bad at hb
      rw [if_neg hk] at hb
      by_cases hm : st.x < most st
      · have i3 : decide (st.x < most st) = true := by simpa using hm
        have hk0 : k = 0 := by
          rcases hb with h1 | h1 | h1 | ⟨h1, h2⟩
          · exact h1
          · omega
          · exfalso; unfold most at hm; split at hm
            · omega
            · have := hi.w; omega
          · exfalso; unfold most at hm; rw [if_neg (by omega)] at hm; omega
        have hn : r ≠ 9608 ∧ r ≠ 183 ∧ r ≠ 9678 := by
          rcases hr with ⟨h1, _⟩ | ⟨_, h2, h3, h4, _⟩
          · omega
          · exact ⟨h2, h3, h4⟩
        have kt := fun (v : KeptW w) => kept_same (tile_no r hn.1 hn.2.1 hn.2.2 B v.u)
        clear hb hr hH hi hxw hm hk0 hn h
        go_enter Try.func21, Try.ntmps21
        go_wp2_with fail
        refine wp_region_kept (by kernel_rfl) (by kernel_rfl) ?_
        repeat (go_big_quiet_step (first | (go_at_call 43; with_reducible exact km _) | (go_at_call 44; with_reducible exact kt _)))
        refine wpQuiet_nil ?_
        rintro _ ⟨v, rfl⟩
        go_wp2_with fail
        go_ret
        exact ⟨rfl, Turned.ofBelow v.h⟩
      · have i3 : decide (st.x < most st) = false := by simpa using hm
        clear hb hr hH hi hxw hm h
        go_enter Try.func21, Try.ntmps21
        go_wp2_with fail
        refine wp_region_kept (by kernel_rfl) (by kernel_rfl) ?_
        repeat (go_big_quiet_step (first | (go_at_call 43; with_reducible exact km _)))
        refine wpQuiet_nil ?_
        rintro _ ⟨v, rfl⟩
        go_wp2_with fail
        go_ret
        exact ⟨rfl, Turned.ofBelow v.h⟩

/-- what takeTile does of a sign that fits -/
theorem fits_any (h : RP B I o w0 st va vb w) {a k : Nat} (hi : Ti.Inv a st) (ha : a ≤ 1000000) (hb : ¬ Ti.bad k st) (h1 : 1 ≤ k) (h3 : k ≤ 3) :
    Calls Try.prog 44 #[.pointer (some ⟨B, 0, none⟩), .int .i32 (Ti.rune k)] w fun e w' => e = .returned (.bool true) ∧ ∃ va' vb', RP B I o w0 (Ti.next k st) va' vb' w' := by
  have hws := hi.ws
  have hsp := hi.sp
  unfold Ti.bad at hb
  rw [if_neg (by omega)] at hb
  have hx : st.x < 32 := by
    by_cases e : st.x < 32
    · exact e
    · exact absurd (.inr (.inr (.inl (by omega)))) hb
  have hH : st.H < 32 := by
    by_cases e : st.H < 32
    · exact e
    · exact absurd (.inr (.inl (by omega))) hb
  have hk : k = 1 ∨ k = 2 ∨ k = 3 := by omega
  rcases hk with rfl | rfl | rfl
  · exact tile_one h hx (by omega)
  · exact tile_two h hx (by omega)
  · exact tile_three h hx hH (by omega) (by omega)

set_option maxHeartbeats 4000000 in
theorem take_any (h : RP B I o w0 st va vb w) {a k : Nat} {r : Int} (hi : Ti.Inv a st) (ha : a ≤ 1000000) (hr : Stands k r) (hb : ¬ Ti.bad k st) :
    Calls Try.prog 21 #[.pointer (some ⟨B, 0, none⟩), .int .i32 r] w fun e w' => e = .returned (.bool true) ∧ ∃ va' vb', RP B I o w0 (Ti.next k st) va' vb' w' := by
  have hl := h.own.1
  have d1 := (h.own.2 1 _ rfl).1
  have hk0 : k ≠ 0 := by
    intro e
    apply hb
    unfold Ti.bad
    rw [if_neg (by omega)]
    exact .inl e
  have hk4 : 1 ≤ k ∧ k ≤ 4 ∧ r = Ti.rune k := by
    rcases hr with h1 | ⟨h1, _⟩
    · exact h1
    · exact absurd h1 hk0
  by_cases hk : k = 4
  · subst hk
    have hr10 : r = 10 := hk4.2.2
    have hH : st.H < 32 := by
      refine hi.hx ?_
      by_cases e : st.x = 0
      · exact absurd (by unfold Ti.bad; rw [if_pos rfl]; exact .inl e) hb
      · omega
    have i1 : ((st.H : Int) == 32) = false := by rw [beq_eq_false_iff_ne]; omega
    have kl := line_any h (by omega) hb
    subst hr10
    clear hb hr hH hi hk4 hk0
    go_enter Try.func21, Try.ntmps21
    go_wp2_with (go_at_call 42; (with_reducible refine kl.mono ?_); rintro e u ⟨rfl, hT⟩)
    go_ret
    exact ⟨rfl, _, _, hT⟩
  · have i2 := stands_line hr hk
    have hb' := hb
    unfold Ti.bad at hb'
    rw [if_neg hk] at hb'
    have hH : st.H < 32 := by
      by_cases e : st.H < 32
      · exact e
      · exact absurd (.inr (.inl (by omega))) hb'
    have hm : st.x < most st := by
      unfold most
      split
      · by_cases e : st.x < 32
        · exact e
        · exact absurd (.inr (.inr (.inl (by omega)))) hb'
      · by_cases e : st.x < st.W
        · exact e
        · exact absurd (.inr (.inr (.inr ⟨by omega, by omega⟩))) hb'
    have i1 : ((st.H : Int) == 32) = false := by rw [beq_eq_false_iff_ne]; omega
    have i3 : decide (st.x < most st) = true := by simpa using hm
    have hrd := h.keep ((Turned.refl [] w).drew)
    have km := most_any hrd
    have kt := fits_any hrd hi ha hb hk4.1 (by omega)
    have d4 := (hrd.own.2 4 _ rfl).1
    obtain ⟨_, _, hrr⟩ := hk4
    rw [← hrr] at kt
    clear hb hb' hr hH hi hm hk0 hrr
    go_enter Try.func21, Try.ntmps21
    go_wp2_with fail
    go_region_with (first | (go_at_call 43; (with_reducible refine km.mono ?_); rintro e u ⟨rfl, rfl⟩) | (go_at_call 44; (with_reducible refine kt.mono ?_); rintro e u ⟨rfl, va', vb', hR⟩))
    all_goals
      go_wp2_with fail
      go_ret
      exact ⟨rfl, _, _, hR⟩

set_option maxHeartbeats 1000000 in
theorem whole_any (h : RP B I o w0 st va vb w) :
    Calls Try.prog 22 #[.pointer (some ⟨B, 0, none⟩)] w fun e w' => e = .returned (.bool (!decide (0 < st.x ∨ st.sp = []))) ∧ Turned [] w w' := by
  obtain ⟨ob, cb, rfl, hcb, hcm2⟩ := h.sp.form
  have d4 := (h.own.2 4 _ rfl).1
  have d3 := (h.own.2 3 _ rfl).1
  obtain ⟨n, hn⟩ : ∃ n, n = st.sp.length := ⟨_, rfl⟩
  rw [← hn] at d3
  by_cases hx : st.x = 0
  · have i1 : ((st.x : Int) == 0) = true := by rw [beq_iff_eq]; omega
    by_cases hs : st.sp = []
    · have HA : Hid ((!decide (0 < st.x ∨ st.sp = [])) = false) := by show _ = _; simp [hs]
      have i2 : decide (0 < n) = false := by rw [hn, hs]; rfl
      clear hx hs hn
      go_enter Try.func22, Try.ntmps22
      go_wp2_with fail
      go_ret
      exact ti_bool HA.out.symm (Turned.refl _ _)
    · have HA : Hid ((!decide (0 < st.x ∨ st.sp = [])) = true) := by show _ = _; simp [hs, hx]
      have i2 : decide (0 < n) = true := by rw [hn, decide_eq_true_eq]; exact List.length_pos_iff.2 hs
      clear hx hs hn
      go_enter Try.func22, Try.ntmps22
      go_wp2_with fail
      go_ret
      exact ti_bool HA.out.symm (Turned.refl _ _)
  · have i1 : ((st.x : Int) == 0) = false := by rw [beq_eq_false_iff_ne]; omega
    have HA : Hid ((!decide (0 < st.x ∨ st.sp = [])) = false) := by show _ = _; simp; omega
    clear hx hn
    go_enter Try.func22, Try.ntmps22
    go_wp2_with fail
    go_ret
    exact ti_bool HA.out.symm (Turned.refl _ _)
end TiW
end Go.Proofs.Ytgabgkgokmeaeaa


/- A text is read as a map: the program's Read (TiW). -/
namespace Go.Proofs.Ytgabgkgokmeaeaa
open Go.RowKit
set_option linter.unusedVariables false
set_option linter.unusedSimpArgs false

namespace TiW
/-- behind some signs -/
structure AtP (B I : Nat) (s : ByteArray) (w : World) (a : Nat) (st : Ti.S) (va vb : Value) (wr : World) : Prop where
  le : a ≤ s.size
  run : Ti.run (from_ s a).length (from_ s a) a st = Ti.read s.data.toList
  inv : Ti.Inv a st
  xw : 0 < st.H → st.x ≤ st.W
  rp : RP B I (.stringIter s a) w st va vb wr
theorem AtP.bad {B I a : Nat} {s : ByteArray} {w wr : World} {st : Ti.S} {va vb : Value} (h : AtP B I s w a st va vb wr) (ha : a < s.size) (hb : Ti.bad (Ti.sg (from_ s a)) st) : Ti.read s.data.toList = (none, a) := by
  rw [← h.run]
  exact Ti.run_bad (by intro e; have := from_len s a; rw [e] at this; simp at this; omega) (Nat.le_refl _) hb
theorem AtP.next {B I a : Nat} {s : ByteArray} {w wr u : World} {st : Ti.S} {va vb va' vb' : Value} (h : AtP B I s w a st va vb wr) (ha : a < s.size) (hb : ¬ Ti.bad (Ti.sg (from_ s a)) st) (hr : RP B I (.stringIter s (a + (Ti.bs (Ti.sg (from_ s a))).length)) w (Ti.next (Ti.sg (from_ s a)) st) va' vb' u) : AtP B I s w (a + (Ti.bs (Ti.sg (from_ s a))).length) (Ti.next (Ti.sg (from_ s a)) st) va' vb' u := by
  have hne : from_ s a ≠ [] := by intro e; have := from_len s a; rw [e] at this; simp at this; omega
  have h0 : Ti.sg (from_ s a) ≠ 0 := by intro e; apply hb; unfold Ti.bad; rw [e, if_neg (by decide)]; exact .inl rfl
  have hp := Ti.bs_pos (k := Ti.sg (from_ s a)) (by omega) (Ti.sg_le _)
  have hl := Ti.len_sg (from_ s a)
  rw [from_len] at hl
  refine ⟨by omega, ?_, h.inv.next hb hp, ?_, hr⟩
  · rw [← h.run, Ti.run_step hne (Nat.le_refl _) hb, Ti.from_next]
    exact (Ti.run_any (by rw [from_len, from_len]; omega)).symm
  · unfold Ti.next
    split
    · intro _; exact Nat.zero_le _
    · rename_i hk
      intro hH
      have hH' : 0 < st.H := hH
      show st.x + 1 ≤ st.W
      unfold Ti.bad at hb
      rw [if_neg hk] at hb
      by_cases e : st.x < st.W
      · omega
      · exact absurd (.inr (.inr (.inr ⟨hH', by omega⟩))) hb
theorem AtP.fin {B I : Nat} {s : ByteArray} {w wr : World} {st : Ti.S} {va vb : Value} {a : Nat} (h : AtP B I s w a st va vb wr) (ha : ¬ a < s.size) : Ti.read s.data.toList = Ti.fin s.size st := by
  have : a = s.size := by have := h.le; omega
  rw [← h.run]
  have e : from_ s a = [] := List.length_eq_zero_iff.1 (by rw [from_len]; omega)
  rw [e, this]
  rfl

theorem few_of {m : Ti.M} (h : Ti.Dims m) : m.ws.length ≤ 1024 := by
  obtain ⟨h1, h2, h3, h4, h5⟩ := h
  have b2 : m.W * m.H ≤ 32 * 32 := Int.mul_le_mul (by omega) (by omega) (by omega) (by omega)
  omega

set_option maxRecDepth 20000 in
set_option maxHeartbeats 8000000 in
theorem read_any (s : ByteArray) (hs : (s.size : Int) ≤ 1000000) (w : World) :
    Calls Try.prog 10 #[.string s] w fun e w' => TiR.Answers s.data.toList w e w' := by
  go_enter Try.func10, Try.ntmps10
  go_wp2_with fail
  obtain ⟨W0, hW0⟩ : ∃ W0, W0 = ((w.alloc (.cells TiR.zeroCells.toArray 25)).alloc (.cells #[.int .i64 0, .int .i64 0, .slice none 0 0, .slice none 0 0, .int .i64 0] 63)).iter s 0 := ⟨_, rfl⟩
  obtain ⟨A, hA⟩ : ∃ A, A = w.heap.size := ⟨_, rfl⟩
  obtain ⟨B, hB⟩ : ∃ B, B = w.heap.size + 1 := ⟨_, rfl⟩
  obtain ⟨I, hI⟩ : ∃ I, I = w.heap.size + 1 + 1 := ⟨_, rfl⟩
  have hsz : W0.heap.size = w.heap.size + 3 := by rw [hW0]; simp [World.iter]
  have hT0 : Turned [] w W0 := by rw [hW0]; exact (((Turned.refl [] w).alloc _).alloc _).alloc _
  have hSA : Struct A TiR.zeroCells W0 := by rw [hW0, hA]; exact ((Struct.new w TiR.zeroCells _).keep ((Turned.refl [] _).alloc _) (by simp)).keep ((Turned.refl [] _).alloc _) (by simp)
  have hSB : Struct B [.int .i64 0, .int .i64 0, .slice none 0 0, .slice none 0 0, .int .i64 0] W0 := by
    have := Struct.new (w.alloc (.cells TiR.zeroCells.toArray 25)) [.int .i64 0, .int .i64 0, .slice none 0 0, .slice none 0 0, .int .i64 0] 63
    rw [show (w.alloc (.cells TiR.zeroCells.toArray 25)).heap.size = w.heap.size + 1 by simp, ← hB] at this
    rw [hW0]; exact this.keep ((Turned.refl [] _).alloc _) (by simp)
  have hIT : W0.heap[I]? = some (.stringIter s 0) := by
    have := World.iter_heap ((w.alloc (.cells TiR.zeroCells.toArray 25)).alloc (.cells #[.int .i64 0, .int .i64 0, .slice none 0 0, .slice none 0 0, .int .i64 0] 63)) s 0
    rw [show ((w.alloc (.cells TiR.zeroCells.toArray 25)).alloc (.cells #[.int .i64 0, .int .i64 0, .slice none 0 0, .slice none 0 0, .int .i64 0] 63)).heap.size = w.heap.size + 1 + 1 by simp, ← hI] at this
    rw [hW0]; exact this
  have hAt : AtP B I s W0 0 Ti.s0 (.slice none 0 0) (.slice none 0 0) W0 :=
    ⟨by omega, rfl, Ti.inv0, by simp [Ti.s0], hSB, hIT, OwnL.nil _ _ _ _, OwnL.nil _ _ _ _, by omega, by omega, by omega, by simp [blk, Value.ownBlock], by simp [blk, Value.ownBlock], by simp [blk, Value.ownBlock], Turned.refl _ _⟩
  have hAw : w.heap.size ≤ A := by omega
  have hAB : A ≠ B := by omega
  have hAI : A ≠ I := by omega
  have hA0 : A < W0.heap.size := by omega
  have hB0 : w.heap.size ≤ B := by omega
  have hI0 : w.heap.size ≤ I := by omega
  have hw0 : w.heap.size ≤ W0.heap.size := by omega
  unfold TiR.zeroCells at hW0
  rw [← hW0, ← hI, ← hB, ← hA]
  clear hW0 hA hB hI hSB hIT hsz
  go_loopw [6, 7] (fun p r wr => ∃ (a : Nat) (st : Ti.S) (va vb : Value), AtP B I s W0 a st va vb wr) (fun _ _ wr => s.size - wr.iterPos I)
  case atStart => exact ⟨0, Ti.s0, _, _, hAt⟩
  case round =>
    clear hAt
    obtain ⟨a, st, va, vb, hAt⟩ := hrel
    have hrp := hAt.rp
    have hTW : Turned [] w wr := hT0.trans hrp.turned (by intro k hk hl; simp at hk; omega)
    have hSA1 := hSA.keep hrp.turned (by simp; omega)
    have hit := hrp.it
    by_cases hlt : a < s.size
    · have hnx : ∀ ty, (Instr.next (.pointer (some ⟨I, 0, none⟩)) true ty).run Try.prog wr = _ := fun ty => Lib.run_next_any_at wr I s a ty hit hlt
      obtain ⟨k, hkk⟩ : ∃ k, k = Ti.sg (from_ s a) := ⟨_, rfl⟩
      obtain ⟨r, hr⟩ : ∃ r : Nat, r = (Utf8.decode s a).1 := ⟨_, rfl⟩
      obtain ⟨n, hn⟩ : ∃ n, n = (Utf8.decode s a).2 := ⟨_, rfl⟩
      have hst : Stands k (r : Int) ∧ (k ≠ 0 → n = (Ti.bs k).length) := by
        by_cases h0 : k = 0
        · have h1 := Ti.dec_none hlt (by rw [← hkk]; exact h0)
          rw [← hr] at h1
          exact ⟨.inr ⟨h0, by omega, by omega, by omega, by omega⟩, fun h => absurd h0 h⟩
        · have h1 := Ti.dec_sign hkk.symm h0
          have hk4 : k ≤ 4 := by rw [hkk]; exact Ti.sg_le _
          rw [h1] at hr hn
          refine ⟨.inl ⟨by omega, hk4, ?_⟩, fun _ => hn⟩
          have hc : k = 1 ∨ k = 2 ∨ k = 3 ∨ k = 4 := by omega
          rcases hc with e | e | e | e <;> (rw [hr, e]; rfl)
      have hrn := Ti.dec_bd s a
      have hit2 := Lib.iterAt_heap wr I s a (a + n) hit
      have hrp2 : RP B I (.stringIter s (a + n)) W0 st va vb (wr.iterAt I s (a + n)) := hrp.iter
      rw [← hr, ← hn] at hnx
      rw [← hr] at hrn
      obtain ⟨U, hU⟩ : ∃ U, U = wr.iterAt I s (a + n) := ⟨_, rfl⟩
      rw [← hU] at hrp2 hnx
      have hrU := hrp2.turned
      by_cases hb : Ti.bad k st
      · have HNO : Hid (Ti.read s.data.toList = (none, a)) := hAt.bad hlt (by rw [← hkk]; exact hb)
        have kt := take_bad hrp2 hAt.inv hAt.xw hst.1 hb
        clear hb hst hkk hr hn hU hrp hrp2 hAt hit hit2 hTW hSA1
        go_wp2_with (go_at_call 21; (with_reducible refine kt.mono ?_); rintro e u1 ⟨rfl, hT⟩; have hTB := hrU.trans hT (by simp); have hSu := hSA.keep hTB (by simp; omega); have hTu := hT0.trans hTB (by intro k hk hl; simp at hk; omega); have z0 := (hSu.2 0 _ rfl).1; have y0 := (hSu.2 0 _ rfl).2; have z1 := (hSu.2 1 _ rfl).1; have y1 := (hSu.2 1 _ rfl).2; have z2 := (hSu.2 2 _ rfl).1; have y2 := (hSu.2 2 _ rfl).2; have z3 := (hSu.2 3 _ rfl).1; have y3 := (hSu.2 3 _ rfl).2)
        obtain ⟨W9, hW9⟩ : ∃ W9, W9 = TiR.put4 u1 A (.int .i64 0) (.int .i64 0) (.slice none 0 0) (.slice none 0 0) := ⟨_, rfl⟩
        have hS9 := TiR.set4 rfl hSu (.int .i64 0) (.int .i64 0) (.slice none 0 0) (.slice none 0 0)
        rw [← hW9] at hS9
        have hT9 : Turned [] w W9 := by rw [hW9]; exact TiR.turned4 hTu (.inr hAw) _ _ _ _
        unfold TiR.put4 at hW9
        rw [← hW9]
        have g0 := (hS9.2 0 _ rfl).1
        have g1 := (hS9.2 1 _ rfl).1
        have g2 := (hS9.2 2 _ rfl).1
        have g3 := (hS9.2 3 _ rfl).1
        exact bodyPost_ret (v := .tuple #[.agg #[.int .i64 0, .int .i64 0, .slice none 0 0, .slice none 0 0], .int .i64 (a : Int), .int .i64 2]) (by simp [results, Try.results10, go_sem, g0, g1, g2, g3]) rfl (TiR.no_answer HNO.out hT9)
      · have hk0 : k ≠ 0 := by intro e; apply hb; unfold Ti.bad; rw [e, if_neg (by decide)]; exact .inl rfl
        have hn1 := hst.2 hk0
        have hpos := Ti.bs_pos (k := k) (by omega) (by rw [hkk]; exact Ti.sg_le _)
        have kt := take_any hrp2 hAt.inv (by omega) hst.1 hb
        have HNXT : Hid (∀ (va' vb' : Value) (u : World), RP B I (.stringIter s (a + n)) W0 (Ti.next k st) va' vb' u → AtP B I s W0 (a + n) (Ti.next k st) va' vb' u) := by
          rw [hn1, hkk]
          exact fun va' vb' u hq => hAt.next hlt (by rw [← hkk]; exact hb) hq
        have HPOS : Hid (0 < n) := by show 0 < n; omega
        have HM : Hid (s.size - (a + n) < s.size - a) := by show s.size - (a + n) < s.size - a; omega
        have HP0 : Hid (wr.iterPos I = a) := iterPos_of hit
        clear hb hst hkk hr hn hU hrp hrp2 hAt hit hit2 hTW hSA1 hn1 hpos
        go_wp2_with (go_at_call 21; (with_reducible refine kt.mono ?_); rintro e u1 ⟨rfl, va', vb', hR⟩)
        go_roundw
        case rel => exact ⟨a + n, Ti.next k st, va', vb', HNXT.out _ _ _ hR⟩
        case measure =>
          rw [iterPos_of hR.it, HP0.out]
          exact HM.out
    · have hnx : ∀ ty, (Instr.next (.pointer (some ⟨I, 0, none⟩)) true ty).run Try.prog wr = _ := fun ty => Lib.run_next_end_at wr I s a ty hit hlt
      have hfin := hAt.fin hlt
      have kw := whole_any hrp
      have hrU := hrp.turned
      by_cases hno : 0 < st.x ∨ st.sp = []
      · have HNO : Hid (Ti.read s.data.toList = (none, s.size)) := by show _ = _; rw [hfin]; unfold Ti.fin; rw [if_pos hno]
        rw [show (!decide (0 < st.x ∨ st.sp = [])) = false by simp only [hno, decide_true, Bool.not_true]] at kw
        clear hno hfin hAt hit hTW hSA1 hrp
        go_wp2_with (go_at_call 22; (with_reducible refine kw.mono ?_); rintro e u1 ⟨rfl, hT⟩; have hTB := hrU.trans hT (by simp); have hSu := hSA.keep hTB (by simp; omega); have hTu := hT0.trans hTB (by intro k hk hl; simp at hk; omega); have z0 := (hSu.2 0 _ rfl).1; have y0 := (hSu.2 0 _ rfl).2; have z1 := (hSu.2 1 _ rfl).1; have y1 := (hSu.2 1 _ rfl).2; have z2 := (hSu.2 2 _ rfl).1; have y2 := (hSu.2 2 _ rfl).2; have z3 := (hSu.2 3 _ rfl).1; have y3 := (hSu.2 3 _ rfl).2)
        obtain ⟨W9, hW9⟩ : ∃ W9, W9 = TiR.put4 u1 A (.int .i64 0) (.int .i64 0) (.slice none 0 0) (.slice none 0 0) := ⟨_, rfl⟩
        have hS9 := TiR.set4 rfl hSu (.int .i64 0) (.int .i64 0) (.slice none 0 0) (.slice none 0 0)
        rw [← hW9] at hS9
        have hT9 : Turned [] w W9 := by rw [hW9]; exact TiR.turned4 hTu (.inr hAw) _ _ _ _
        unfold TiR.put4 at hW9
        rw [← hW9]
        have g0 := (hS9.2 0 _ rfl).1
        have g1 := (hS9.2 1 _ rfl).1
        have g2 := (hS9.2 2 _ rfl).1
        have g3 := (hS9.2 3 _ rfl).1
        exact bodyPost_ret (v := .tuple #[.agg #[.int .i64 0, .int .i64 0, .slice none 0 0, .slice none 0 0], .int .i64 (s.size : Int), .int .i64 2]) (by simp [results, Try.results10, go_sem, g0, g1, g2, g3]) rfl (TiR.no_answer HNO.out hT9)
      · have HRD : Hid (Ti.read s.data.toList = (some st, 0)) := by show _ = _; rw [hfin]; unfold Ti.fin; rw [if_neg hno]
        rw [show (!decide (0 < st.x ∨ st.sp = [])) = true by simp only [hno, decide_false, Bool.not_false]] at kw
        have isp := hAt.inv.sp
        obtain ⟨oa, ca, rfl, hca, hcm⟩ := hAt.rp.ws.form
        obtain ⟨ob, cb, rfl, hcb, hcm2⟩ := hAt.rp.sp.form
        clear hno hfin hAt hit hTW hSA1
        go_wp2_with (go_at_call 22; (with_reducible refine kw.mono ?_); rintro e u1 ⟨rfl, hT⟩; have hTB := hrU.trans hT (by simp); have hSu := hSA.keep hTB (by simp; omega); have hTu := hT0.trans hTB (by intro k hk hl; simp at hk; omega); have z0 := (hSu.2 0 _ rfl).1; have y0 := (hSu.2 0 _ rfl).2; have z1 := (hSu.2 1 _ rfl).1; have y1 := (hSu.2 1 _ rfl).2; have z2 := (hSu.2 2 _ rfl).1; have y2 := (hSu.2 2 _ rfl).2; have z3 := (hSu.2 3 _ rfl).1; have y3 := (hSu.2 3 _ rfl).2; have hrp := hrp.keep hT; have d0 := (hrp.own.2 0 _ rfl).1; have d1 := (hrp.own.2 1 _ rfl).1; have d2 := (hrp.own.2 2 _ rfl).1; have d3 := (hrp.own.2 3 _ rfl).1)
        obtain ⟨W9, hW9⟩ : ∃ W9, W9 = TiR.put4 u1 A (.int .i64 (st.W : Int)) (.int .i64 (st.H : Int)) (.slice oa st.ws.length ca) (.slice ob st.sp.length cb) := ⟨_, rfl⟩
        have hS9 := TiR.set4 rfl hSu (.int .i64 (st.W : Int)) (.int .i64 (st.H : Int)) (.slice oa st.ws.length ca) (.slice ob st.sp.length cb)
        rw [← hW9] at hS9
        have hTA : Turned [A] u1 W9 := by rw [hW9]; exact TiR.turned4 (Turned.refl _ _) (.inl (by simp)) _ _ _ _
        have hT9 : Turned [] w W9 := by rw [hW9]; exact TiR.turned4 hTu (.inr hAw) _ _ _ _
        unfold TiR.put4 at hW9
        rw [← hW9]
        have g0 := (hS9.2 0 _ rfl).1
        have g1 := (hS9.2 1 _ rfl).1
        have g2 := (hS9.2 2 _ rfl).1
        have g3 := (hS9.2 3 _ rfl).1
        have hAns : TiR.Answers s.data.toList w (.returned (.tuple #[.agg #[.int .i64 (st.W : Int), .int .i64 (st.H : Int), .slice oa st.ws.length ca, .slice ob st.sp.length cb], .int .i64 0, .int .i64 0])) W9 := by
          unfold TiR.Answers
          have hF := Ti.read_formed HRD.out
          rw [HRD.out]
          obtain ⟨hd1, hd2, hd3, hd4, hd5⟩ := hF.1.1
          have hlw : st.ws.length ≤ 1024 := few_of hF.1.1
          have row1 := (hrp.ws.keep hTA (fun k hk => by have := hrp.na k hk; simp; omega)).rowOf tbEnc_len
          have row2 := (hrp.sp.keep hTA (fun k hk => by have := hrp.nb k hk; simp; omega)).rowOf tvEnc_len
          obtain ⟨oa', ca', ea, _, _, ra, _⟩ := row1
          obtain ⟨ob', cb', eb, _, _, rb, _⟩ := row2
          have ea' : oa = oa' := (Value.slice.inj ea).1
          have eb' : ob = ob' := (Value.slice.inj eb).1
          subst ea' eb'
          refine ⟨oa, ca, ob, cb, rfl, ⟨ra, rb, by show st.ws.length ≤ 1100; omega, by show st.sp.length ≤ 1100; omega, ⟨by show (-9223372036854775808 : Int) ≤ (st.W : Int); omega, by have e : (st.W : Int) ≤ 32 := hd2; show (st.W : Int) < 9223372036854775808; omega⟩, ⟨by show (-9223372036854775808 : Int) ≤ (st.H : Int); omega, by have e : (st.H : Int) ≤ 32 := hd4; show (st.H : Int) < 9223372036854775808; omega⟩⟩, ?_, ?_, hT9⟩
          · intro a ha
            have := hrp.na a.block (by rw [ha]; simp [blk, Value.ownBlock])
            omega
          · intro a ha
            have := hrp.nb a.block (by rw [ha]; simp [blk, Value.ownBlock])
            omega
        exact bodyPost_ret (v := .tuple #[.agg #[.int .i64 (st.W : Int), .int .i64 (st.H : Int), .slice oa st.ws.length ca, .slice ob st.sp.length cb], .int .i64 0, .int .i64 0]) (by simp [results, Try.results10, go_sem, g0, g1, g2, g3]) rfl hAns
end TiW
end Go.Proofs.Ytgabgkgokmeaeaa


/- What the laws of layer 12 lean on: what the program's functions answer (MvW.Contracts), that it is awake; entities that came in. -/
namespace Go.Proofs.Ytgabgkgokmeaeaa
open Go.RowKit
set_option linter.unusedVariables false
set_option linter.unusedSimpArgs false

theorem en_leaf {k : IntKind} {v : Value} (h : (Leaf.int k).ok v) : ∃ z, v = .int k z ∧ (Lit.int k z).wf = true := h
theorem enEnc_of (cs : List Value) (h : AllOk [.int .i64, .int .i64, .int .i64, .int .i64, .int .i64, .int .i64, .int .i64, .int .i64] cs) : ∃ a, cs = enEnc a := by
  have hl := h.length
  obtain ⟨c0, c1, c2, c3, c4, c5, c6, c7, rfl⟩ : ∃ c0 c1 c2 c3 c4 c5 c6 c7, cs = [c0, c1, c2, c3, c4, c5, c6, c7] := by
    match cs, hl with
    | [a, b, c, d, e, f, g, h], _ => exact ⟨a, b, c, d, e, f, g, h, rfl⟩
  obtain ⟨x0, e0, _⟩ := en_leaf h.1
  obtain ⟨x1, e1, _⟩ := en_leaf h.2.1
  obtain ⟨x2, e2, _⟩ := en_leaf h.2.2.1
  obtain ⟨x3, e3, _⟩ := en_leaf h.2.2.2.1
  obtain ⟨x4, e4, _⟩ := en_leaf h.2.2.2.2.1
  obtain ⟨x5, e5, _⟩ := en_leaf h.2.2.2.2.2.1
  obtain ⟨x6, e6, _⟩ := en_leaf h.2.2.2.2.2.2.1
  obtain ⟨x7, e7, _⟩ := en_leaf h.2.2.2.2.2.2.2.1
  rw [e0, e1, e2, e3, e4, e5, e6, e7]
  exact ⟨⟨x0, x1, x2, x3, x4, x5, x6, x7⟩, rfl⟩
theorem en_ok {k : IntKind} {z : Int} (h : (Leaf.int k).ok (.int k z)) : (Lit.int k z).wf = true := by
  obtain ⟨y, hy, hw⟩ := h
  rw [(Value.int.inj hy).2]
  exact hw
theorem i64_nn {a : Int} (h : (Lit.int .i64 a).wf = true) : En.I64 a := by
  simp [Lit.wf, IntKind.min, IntKind.max, IntKind.bits, IntKind.signed] at h; unfold En.I64; omega
theorem i8_in {a : Int} (h : (Lit.int .i8 a).wf = true) : -128 ≤ a ∧ a ≤ 127 := by
  simp [Lit.wf, IntKind.min, IntKind.max, IntKind.bits, IntKind.signed] at h; omega
theorem u8_in {a : Int} (h : (Lit.int .u8 a).wf = true) : 0 ≤ a ∧ a < 256 := by
  simp [Lit.wf, IntKind.min, IntKind.max, IntKind.bits, IntKind.signed] at h; omega
theorem en_wf {e : En.E} (h : AllOk [.int .i64, .int .i64, .int .i64, .int .i64, .int .i64, .int .i64, .int .i64, .int .i64] (enEnc e)) : e.wf :=
  ⟨i64_nn (en_ok h.1), i64_nn (en_ok h.2.1), i64_nn (en_ok h.2.2.1), i64_nn (en_ok h.2.2.2.1), i64_nn (en_ok h.2.2.2.2.1), i64_nn (en_ok h.2.2.2.2.2.1), i64_nn (en_ok h.2.2.2.2.2.2.1), i64_nn (en_ok h.2.2.2.2.2.2.2.1)⟩
theorem mv_same (e : En.E) (w : World) : (binOp .eql 49 (.agg #[.int .i64 e.id, .int .i64 e.kind, .int .i64 e.ax, .int .i64 e.ay, .int .i64 e.vx, .int .i64 e.vy, .int .i64 e.h, .int .i64 e.t]) (.agg #[.int .i64 e.id, .int .i64 e.kind, .int .i64 e.ax, .int .i64 e.ay, .int .i64 e.vx, .int .i64 e.vy, .int .i64 e.h, .int .i64 e.t])).run Try.prog w = .ok (.bool true) w := by
  rw [run_eql_struct, run_equalIn_agg (d := 9999) (ht := by kernel_rfl) (hp := by kernel_rfl)]
  simp [go_sem]
theorem mv_diff (a b c d e f g h : Int) (w : World) : (binOp .neq 49 (.agg #[.int .i64 a, .int .i64 b, .int .i64 c, .int .i64 d, .int .i64 e, .int .i64 f, .int .i64 g, .int .i64 h]) (.agg #[.int .i64 a, .int .i64 b, .int .i64 c, .int .i64 d, .int .i64 e, .int .i64 f, .int .i64 g, .int .i64 h])).run Try.prog w = .ok (.bool false) w := by
  rw [run_neq_struct, run_equalIn_agg (d := 9999) (ht := by kernel_rfl) (hp := by kernel_rfl)]
  simp [go_sem]
namespace Mv
/-- how great a number is -/
def size (x : Int) : Int := if x = -9223372036854775808 then x else if x < -x then -x else x
end Mv
namespace MvW
/-- what the program's functions of layer 12 answer -/
structure Contracts : Prop where
  stands : ∀ (m : Ti.M) (oa : Option Addr) (ca : Nat) (ob : Option Addr) (cb : Nat) (x y : Int) (w : World), MapAt m oa ob w →
    Calls Try.prog 90 #[mapVal m oa ca ob cb, .agg #[.int .i64 x, .int .i64 y]] w fun e w' => e = .returned (.bool (Mv.stands m x y)) ∧ Turned [] w w'
  walk : ∀ (m : Ti.M) (oa : Option Addr) (ca : Nat) (ob : Option Addr) (cb : Nat) (e : En.E) (mx my : Int), e.wf → (-128 ≤ mx ∧ mx ≤ 127) → (-128 ≤ my ∧ my ≤ 127) → ∀ (w : World), MapAt m oa ob w →
    Calls Try.prog 38 #[mapVal m oa ca ob cb, enVal e, .int .i8 mx, .int .i8 my] w fun r w' => r = .returned (enVal (Mv.walk m e mx my)) ∧ Turned [] w w'
  roll : ∀ (m : Ti.M) (oa : Option Addr) (ca : Nat) (ob : Option Addr) (cb : Nat) (e : En.E), e.wf → ∀ (w : World), MapAt m oa ob w →
    Calls Try.prog 39 #[mapVal m oa ca ob cb, enVal e] w fun r w' => r = .returned (enVal (Mv.roll m e)) ∧ Turned [] w w'
end MvW

namespace MvL

end MvL
end Go.Proofs.Ytgabgkgokmeaeaa

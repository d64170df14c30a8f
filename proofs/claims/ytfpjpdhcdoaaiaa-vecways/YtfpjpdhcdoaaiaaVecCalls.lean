/- What each function of layer 2 answers, as a call: the program's (VcW) and the document's own (VcR). Nothing that lay in memory before turns. -/
import Derived.Test.YtfpjpdhcdoaaiaaVecWalks
import Derived.WalkSmall
import Derived.StillTactics
import Derived.Laws.Pointers
import Derived.Laws.StructEq
import Derived.Deep.RegionHeld3
import Derived.Deep.QuietTactic
import Derived.BigQuiet
import Derived.Below
namespace Go.Proofs.Ytfpjpdhcdoaaiaa
open Go.RowKit
set_option linter.unusedVariables false

theorem below_three (w : World) (o1 o2 o3 : Obj) : Below w.heap.size w (((w.alloc o1).alloc o2).alloc o3).drew :=
  ((((Below.refl _ _).alloc (Nat.le_refl _) _).alloc (by simp) _).alloc (by simp; omega) _).drew
theorem below_two (w : World) (o1 o2 : Obj) : Below w.heap.size w ((w.alloc o1).alloc o2).drew :=
  (((Below.refl _ _).alloc (Nat.le_refl _) _).alloc (by simp) _).drew
theorem below_one (w : World) (o1 : Obj) : Below w.heap.size w (w.alloc o1) := (Below.refl _ _).alloc (Nat.le_refl _) _
theorem ret_bool {a b : Bool} {p : Prop} (h : a = b) (hp : p) : Ending.returned (.bool a) = .returned (.bool b) ∧ p := by rw [h]; exact ⟨rfl, hp⟩
theorem ret_intp {k : IntKind} {a b : Int} {p : Prop} (h : a = b) (hp : p) : Ending.returned (.int k a) = .returned (.int k b) ∧ p := by rw [h]; exact ⟨rfl, hp⟩

/-- two places are compared number by number -/
theorem vec_eql (ax ay bx b_y : Int) (w : World) : (binOp .eql 24 (.agg #[.int .i64 ax, .int .i64 ay]) (.agg #[.int .i64 bx, .int .i64 b_y])).run Try.prog w = .ok (.bool ((ax == bx) && (ay == b_y))) w := by
  rw [run_eql_struct, run_equalIn_agg (d := 9999) (ht := by kernel_rfl) (hp := by kernel_rfl)]
  simp [go_sem]
  by_cases h : ax = bx <;> by_cases h' : ay = b_y <;> simp [h, h']

namespace VcW

set_option maxHeartbeats 1000000 in
theorem add_any (ax ay bx b_y : Int) (w : World) :
    Calls Try.prog 10 #[.agg #[.int .i64 ax, .int .i64 ay], .agg #[.int .i64 bx, .int .i64 b_y]] w fun e w' => e = .returned (.agg #[.int .i64 (Fx.add ax bx), .int .i64 (Fx.add ay b_y)]) ∧ Below w.heap.size w w' := by
  go_enter Try.func10, Try.ntmps10
  go_wp2_with fail
  go_region_held3 (fun w' => w'.cell? ⟨w.heap.size, 0, none⟩ = some (.int .i64 ax) ∧ w'.cell? ⟨w.heap.size, 1, none⟩ = some (.int .i64 ay) ∧ w'.cell? ⟨w.heap.size + 1, 0, none⟩ = some (.int .i64 bx) ∧ w'.cell? ⟨w.heap.size + 1, 1, none⟩ = some (.int .i64 b_y)) (simp [go_sem, World.cell?_alloc_past])
    ((go_at_call 25; refine (FxW.add_any _ _ _).mono ?_; rintro e w' ⟨rfl, rfl⟩))
  go_wp2_with fail
  exact bodyPost_ret (v := .agg #[.int .i64 (Fx.add ax bx), .int .i64 (Fx.add ay b_y)]) (by simp [results, Try.results10, go_sem]) rfl ⟨rfl, below_three _ _ _ _⟩

set_option maxHeartbeats 1000000 in
theorem sub_any (ax ay bx b_y : Int) (w : World) :
    Calls Try.prog 12 #[.agg #[.int .i64 ax, .int .i64 ay], .agg #[.int .i64 bx, .int .i64 b_y]] w fun e w' => e = .returned (.agg #[.int .i64 (Fx.sub ax bx), .int .i64 (Fx.sub ay b_y)]) ∧ Below w.heap.size w w' := by
  go_enter Try.func12, Try.ntmps12
  go_wp2_with fail
  go_region_held3 (fun w' => w'.cell? ⟨w.heap.size, 0, none⟩ = some (.int .i64 ax) ∧ w'.cell? ⟨w.heap.size, 1, none⟩ = some (.int .i64 ay) ∧ w'.cell? ⟨w.heap.size + 1, 0, none⟩ = some (.int .i64 bx) ∧ w'.cell? ⟨w.heap.size + 1, 1, none⟩ = some (.int .i64 b_y)) (simp [go_sem, World.cell?_alloc_past])
    ((go_at_call 27; refine (FxW.sub_any _ _ _).mono ?_; rintro e w' ⟨rfl, rfl⟩))
  go_wp2_with fail
  exact bodyPost_ret (v := .agg #[.int .i64 (Fx.sub ax bx), .int .i64 (Fx.sub ay b_y)]) (by simp [results, Try.results12, go_sem]) rfl ⟨rfl, below_three _ _ _ _⟩

set_option maxHeartbeats 1000000 in
theorem scale_any (ax ay k : Int) (w : World) :
    Calls Try.prog 14 #[.agg #[.int .i64 ax, .int .i64 ay], .int .i64 k] w fun e w' => e = .returned (.agg #[.int .i64 (Fx.mul ax k), .int .i64 (Fx.mul ay k)]) ∧ Below w.heap.size w w' := by
  go_enter Try.func14, Try.ntmps14
  go_wp2_with fail
  go_region_held3 (fun w' => w'.cell? ⟨w.heap.size, 0, none⟩ = some (.int .i64 ax) ∧ w'.cell? ⟨w.heap.size, 1, none⟩ = some (.int .i64 ay)) (simp [go_sem, World.cell?_alloc_past])
    ((go_at_call 29; refine (FxW.mul_any _ _ _).mono ?_; rintro e w' ⟨rfl, rfl⟩))
  go_wp2_with fail
  exact bodyPost_ret (v := .agg #[.int .i64 (Fx.mul ax k), .int .i64 (Fx.mul ay k)]) (by simp [results, Try.results14, go_sem]) rfl ⟨rfl, below_two _ _ _⟩

set_option maxHeartbeats 1000000 in
theorem betw_any (ax ay bx b_y p : Int) (hp0 : 0 ≤ p) (hp1 : p ≤ 255) (w : World) :
    Calls Try.prog 20 #[.agg #[.int .i64 ax, .int .i64 ay], .agg #[.int .i64 bx, .int .i64 b_y], .int .u8 p] w fun e w' => e = .returned (.agg #[.int .i64 (Fx.betw ax bx p), .int .i64 (Fx.betw ay b_y p)]) ∧ Below w.heap.size w w' := by
  go_enter Try.func20, Try.ntmps20
  go_wp2_with fail
  go_region_held3 (fun w' => w'.cell? ⟨w.heap.size, 0, none⟩ = some (.int .i64 ax) ∧ w'.cell? ⟨w.heap.size, 1, none⟩ = some (.int .i64 ay) ∧ w'.cell? ⟨w.heap.size + 1, 0, none⟩ = some (.int .i64 bx) ∧ w'.cell? ⟨w.heap.size + 1, 1, none⟩ = some (.int .i64 b_y)) (simp [go_sem, World.cell?_alloc_past])
    ((go_at_call 35; refine (FxW.betw_any _ _ _ hp0 hp1 _).mono ?_; rintro e w' ⟨rfl, rfl⟩))
  go_wp2_with fail
  exact bodyPost_ret (v := .agg #[.int .i64 (Fx.betw ax bx p), .int .i64 (Fx.betw ay b_y p)]) (by simp [results, Try.results20, go_sem]) rfl ⟨rfl, below_three _ _ _ _⟩

set_option maxHeartbeats 1000000 in
theorem dot_any (ax ay bx b_y : Int) (w : World) :
    Calls Try.prog 16 #[.agg #[.int .i64 ax, .int .i64 ay], .agg #[.int .i64 bx, .int .i64 b_y]] w fun e w' => e = .returned (.int .i64 (Vc.dot ax ay bx b_y)) ∧ Below w.heap.size w w' := by
  unfold Vc.dot
  go_enter Try.func16, Try.ntmps16
  go_wp2_with fail
  go_quiet ((first | (go_at_call 29; exact Calls.quiet_of_same (FxW.mul_any _ _ _)) | (go_at_call 25; exact Calls.quiet_of_same (FxW.add_any _ _ _))))
  go_wp2_with fail
  go_ret
  exact ⟨rfl, below_drewN (((Below.refl _ _).alloc (Nat.le_refl _) _).alloc (by simp) _) _⟩

set_option maxHeartbeats 1000000 in
theorem len_any (ax ay : Int) (w : World) :
    Calls Try.prog 18 #[.agg #[.int .i64 ax, .int .i64 ay]] w fun e w' => e = .returned (.int .i64 (Vc.len ax ay)) ∧ Below w.heap.size w w' := by
  unfold Vc.len
  have b1 := Vc.sq_lo ax
  have b2 := Vc.sq_hi ax
  have b3 := Vc.sq_lo ay
  have b4 := Vc.sq_hi ay
  go_enter Try.func18, Try.ntmps18
  go_wp2_with fail
  go_quiet ((first | (go_at_call 33; exact Calls.quiet_of_same (square_any _ _)) | (go_at_call 32; exact Calls.quiet_of_same (rootdown_any _ (by omega) (by omega) _)) | (go_at_call 31; exact Calls.quiet_of_same (FxW.hold_any _ _))))
  go_wp2_with fail
  go_ret
  exact ⟨rfl, below_drewN ((Below.refl _ _).alloc (Nat.le_refl _) _) _⟩

set_option maxHeartbeats 1000000 in
theorem formed_any (ax ay : Int) (w : World) :
    Calls Try.prog 22 #[.agg #[.int .i64 ax, .int .i64 ay]] w fun e w' => e = .returned (.bool (Vc.formedB ax ay)) ∧ Below w.heap.size w w' := by
  have he := vec_eql
  go_enter Try.func22, Try.ntmps22
  go_wp2_with fail
  go_region_held3 (fun w' => w'.cell? ⟨w.heap.size, 0, none⟩ = some (.int .i64 ax) ∧ w'.cell? ⟨w.heap.size, 1, none⟩ = some (.int .i64 ay)) (simp [go_sem, World.cell?_alloc_past])
    ((go_at_call 37; refine (within_any _ _).mono ?_; rintro e w' ⟨rfl, rfl⟩))
  all_goals rename_i hH
  all_goals clear hH
  all_goals go_wp2
  all_goals go_ret
  all_goals exact ret_bool (by rw [Vc.within_eq, Vc.within_eq]; rfl) (below_two _ _ _)
end VcW

namespace VcR

set_option maxHeartbeats 1000000 in
theorem add_any (ax ay bx b_y : Int) (w : World) :
    Calls Try.prog 11 #[.agg #[.int .i64 ax, .int .i64 ay], .agg #[.int .i64 bx, .int .i64 b_y]] w fun e w' => e = .returned (.agg #[.int .i64 (Fx.add ax bx), .int .i64 (Fx.add ay b_y)]) ∧ Below w.heap.size w w' := by
  go_enter Try.func11, Try.ntmps11
  go_wp2_with fail
  go_region_held3 (fun w' => w'.cell? ⟨w.heap.size, 0, none⟩ = some (.int .i64 ax) ∧ w'.cell? ⟨w.heap.size, 1, none⟩ = some (.int .i64 ay) ∧ w'.cell? ⟨w.heap.size + 1, 0, none⟩ = some (.int .i64 bx) ∧ w'.cell? ⟨w.heap.size + 1, 1, none⟩ = some (.int .i64 b_y)) (simp [go_sem, World.cell?_alloc_past])
    ((go_at_call 26; refine (FxR.add_any _ _ _).mono ?_; rintro e w' ⟨rfl, rfl⟩))
  go_wp2_with fail
  exact bodyPost_ret (v := .agg #[.int .i64 (Fx.add ax bx), .int .i64 (Fx.add ay b_y)]) (by simp [results, Try.results11, go_sem]) rfl ⟨rfl, below_three _ _ _ _⟩

set_option maxHeartbeats 1000000 in
theorem sub_any (ax ay bx b_y : Int) (w : World) :
    Calls Try.prog 13 #[.agg #[.int .i64 ax, .int .i64 ay], .agg #[.int .i64 bx, .int .i64 b_y]] w fun e w' => e = .returned (.agg #[.int .i64 (Fx.sub ax bx), .int .i64 (Fx.sub ay b_y)]) ∧ Below w.heap.size w w' := by
  go_enter Try.func13, Try.ntmps13
  go_wp2_with fail
  go_region_held3 (fun w' => w'.cell? ⟨w.heap.size, 0, none⟩ = some (.int .i64 ax) ∧ w'.cell? ⟨w.heap.size, 1, none⟩ = some (.int .i64 ay) ∧ w'.cell? ⟨w.heap.size + 1, 0, none⟩ = some (.int .i64 bx) ∧ w'.cell? ⟨w.heap.size + 1, 1, none⟩ = some (.int .i64 b_y)) (simp [go_sem, World.cell?_alloc_past])
    ((go_at_call 28; refine (FxR.sub_any _ _ _).mono ?_; rintro e w' ⟨rfl, rfl⟩))
  go_wp2_with fail
  exact bodyPost_ret (v := .agg #[.int .i64 (Fx.sub ax bx), .int .i64 (Fx.sub ay b_y)]) (by simp [results, Try.results13, go_sem]) rfl ⟨rfl, below_three _ _ _ _⟩

set_option maxHeartbeats 1000000 in
theorem scale_any (ax ay k : Int) (w : World) :
    Calls Try.prog 15 #[.agg #[.int .i64 ax, .int .i64 ay], .int .i64 k] w fun e w' => e = .returned (.agg #[.int .i64 (Fx.mul ax k), .int .i64 (Fx.mul ay k)]) ∧ Below w.heap.size w w' := by
  go_enter Try.func15, Try.ntmps15
  go_wp2_with fail
  go_region_held3 (fun w' => w'.cell? ⟨w.heap.size, 0, none⟩ = some (.int .i64 ax) ∧ w'.cell? ⟨w.heap.size, 1, none⟩ = some (.int .i64 ay)) (simp [go_sem, World.cell?_alloc_past])
    ((go_at_call 30; refine (FxR.mul_any _ _ _).mono ?_; rintro e w' ⟨rfl, rfl⟩))
  go_wp2_with fail
  exact bodyPost_ret (v := .agg #[.int .i64 (Fx.mul ax k), .int .i64 (Fx.mul ay k)]) (by simp [results, Try.results15, go_sem]) rfl ⟨rfl, below_two _ _ _⟩

set_option maxHeartbeats 1000000 in
theorem betw_any (ax ay bx b_y p : Int) (hp0 : 0 ≤ p) (hp1 : p ≤ 255) (w : World) :
    Calls Try.prog 21 #[.agg #[.int .i64 ax, .int .i64 ay], .agg #[.int .i64 bx, .int .i64 b_y], .int .u8 p] w fun e w' => e = .returned (.agg #[.int .i64 (Fx.betw ax bx p), .int .i64 (Fx.betw ay b_y p)]) ∧ Below w.heap.size w w' := by
  go_enter Try.func21, Try.ntmps21
  go_wp2_with fail
  go_region_held3 (fun w' => w'.cell? ⟨w.heap.size, 0, none⟩ = some (.int .i64 ax) ∧ w'.cell? ⟨w.heap.size, 1, none⟩ = some (.int .i64 ay) ∧ w'.cell? ⟨w.heap.size + 1, 0, none⟩ = some (.int .i64 bx) ∧ w'.cell? ⟨w.heap.size + 1, 1, none⟩ = some (.int .i64 b_y)) (simp [go_sem, World.cell?_alloc_past])
    ((go_at_call 36; refine (FxR.betw_any _ _ _ hp0 hp1 _).mono ?_; rintro e w' ⟨rfl, rfl⟩))
  go_wp2_with fail
  exact bodyPost_ret (v := .agg #[.int .i64 (Fx.betw ax bx p), .int .i64 (Fx.betw ay b_y p)]) (by simp [results, Try.results21, go_sem]) rfl ⟨rfl, below_three _ _ _ _⟩

set_option maxHeartbeats 1000000 in
theorem dot_any (ax ay bx b_y : Int) (w : World) :
    Calls Try.prog 17 #[.agg #[.int .i64 ax, .int .i64 ay], .agg #[.int .i64 bx, .int .i64 b_y]] w fun e w' => e = .returned (.int .i64 (Vc.dot ax ay bx b_y)) ∧ Below w.heap.size w w' := by
  unfold Vc.dot
  go_enter Try.func17, Try.ntmps17
  go_wp2_with fail
  go_quiet ((first | (go_at_call 30; exact Calls.quiet_of_same (FxR.mul_any _ _ _)) | (go_at_call 26; exact Calls.quiet_of_same (FxR.add_any _ _ _))))
  go_wp2_with fail
  go_ret
  exact ⟨rfl, below_drewN (((Below.refl _ _).alloc (Nat.le_refl _) _).alloc (by simp) _) _⟩

set_option maxHeartbeats 1000000 in
theorem len_any (ax ay : Int) (w : World) :
    Calls Try.prog 19 #[.agg #[.int .i64 ax, .int .i64 ay]] w fun e w' => e = .returned (.int .i64 (Vc.len ax ay)) ∧ Below w.heap.size w w' := by
  have b1 := Vc.sq_lo ax
  have b2 := Vc.sq_hi ax
  have b3 := Vc.sq_lo ay
  have b4 := Vc.sq_hi ay
  have b5 := Fx.hold_lo ax
  have b6 := Fx.hold_hi ax
  have b7 := Fx.hold_lo ay
  have b8 := Fx.hold_hi ay
  unfold Vc.len
  unfold Vc.sq at *
  go_enter Try.func19, Try.ntmps19
  go_wp2_with fail
  go_quiet ((go_at_call 34; exact Calls.quiet_of_same (FxR.hold_any _ _)))
  go_wp2
  go_loop [6, 7] (fun l h => ∃ L H : Int, l = .int .u64 L ∧ h = .int .u64 H ∧ 0 ≤ L ∧ L < H ∧ H ≤ 4294967295 ∧ L * L ≤ Fx.hold ax * Fx.hold ax + Fx.hold ay * Fx.hold ay ∧ Fx.hold ax * Fx.hold ax + Fx.hold ay * Fx.hold ay < H * H) (fun l h => (intOf h - intOf l).toNat)
  case atStart => exact ⟨0, 4294967295, rfl, rfl, by omega, by omega, by omega, by omega, by omega⟩
  case round =>
    obtain ⟨L, H, rfl, rfl, h1, h2, h3, h4, h5⟩ := hrel
    by_cases hlt : L + 1 < H
    · have s0 : 0 ≤ ((L + H) / 2) * ((L + H) / 2) := Int.mul_nonneg (by omega) (by omega)
      have s1 := Fx.sq_mono (x := (L + H) / 2) (y := 4294967295) (by omega) (by omega)
      by_cases hc : ((L + H) / 2) * ((L + H) / 2) ≤ Fx.hold ax * Fx.hold ax + Fx.hold ay * Fx.hold ay
      · go_wp2
        go_round
        case rel => exact ⟨(L + H) / 2, H, rfl, rfl, by omega, by omega, by omega, hc, h5⟩
        case measure => simp [intOf]; omega
      · go_wp2
        go_round
        case rel => exact ⟨L, (L + H) / 2, rfl, rfl, by omega, by omega, by omega, h4, by omega⟩
        case measure => simp [intOf]; omega
    · have hH : H = L + 1 := by omega
      subst hH
      go_wp2_with (go_at_call 34; refine (FxR.hold_any _ _).mono ?_; rintro e w' ⟨rfl, rfl⟩)
      go_ret
      exact ret_intp (by rw [Vc.root_eq (by omega) h1 h4 h5]) (below_drewN ((Below.refl _ _).alloc (Nat.le_refl _) _) _)

set_option maxHeartbeats 1000000 in
theorem formed_any (ax ay : Int) (w : World) :
    Calls Try.prog 23 #[.agg #[.int .i64 ax, .int .i64 ay]] w fun e w' => e = .returned (.bool (Vc.formedB ax ay)) ∧ Below w.heap.size w w' := by
  by_cases h1 : -134217728 ≤ ax
  · by_cases h2 : ax ≤ 134217728
    · by_cases h3 : -134217728 ≤ ay
      · by_cases h4 : ay ≤ 134217728
        · have e : Vc.formedB ax ay = true := Vc.formedB_iff.2 ⟨⟨h1, h2⟩, h3, h4⟩
          rw [e]; clear e
          go_enter Try.func23, Try.ntmps23
          go_wp2
          go_ret
          exact ⟨rfl, below_one _ _⟩
        · have e : Vc.formedB ax ay = false := by rw [Bool.eq_false_iff]; intro c; rw [Vc.formedB_iff] at c; omega
          rw [e]; clear e
          go_enter Try.func23, Try.ntmps23
          go_wp2
          go_ret
          exact ⟨rfl, below_one _ _⟩
      · have e : Vc.formedB ax ay = false := by rw [Bool.eq_false_iff]; intro c; rw [Vc.formedB_iff] at c; omega
        rw [e]; clear e
        go_enter Try.func23, Try.ntmps23
        go_wp2
        go_ret
        exact ⟨rfl, below_one _ _⟩
    · have e : Vc.formedB ax ay = false := by rw [Bool.eq_false_iff]; intro c; rw [Vc.formedB_iff] at c; omega
      rw [e]; clear e
      go_enter Try.func23, Try.ntmps23
      go_wp2
      go_ret
      exact ⟨rfl, below_one _ _⟩
  · have e : Vc.formedB ax ay = false := by rw [Bool.eq_false_iff]; intro c; rw [Vc.formedB_iff] at c; omega
    rw [e]; clear e
    go_enter Try.func23, Try.ntmps23
    go_wp2
    go_ret
    exact ⟨rfl, below_one _ _⟩
end VcR
end Go.Proofs.Ytfpjpdhcdoaaiaa

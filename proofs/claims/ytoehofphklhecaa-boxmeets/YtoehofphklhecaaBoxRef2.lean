/- What the reference's Meet answers, as a call, and both Arounds. Nothing that lay in memory before turns. -/
import Derived.Test.YtoehofphklhecaaBoxRef
import Derived.Test.YtoehofphklhecaaBoxPlain3
namespace Go.Proofs.Ytoehofphklhecaa
open Go.RowKit
set_option linter.unusedVariables false

namespace BxR

set_option maxHeartbeats 8000000 in
theorem meet_any (fx fy tx ty lx ly mx my : Int) (w : World) :
    Calls Try.prog 23 #[.agg #[.int .i64 fx, .int .i64 fy], .agg #[.int .i64 tx, .int .i64 ty], .agg #[.int .i64 lx, .int .i64 ly, .int .i64 mx, .int .i64 my]] w fun e w' => e = .returned (.tuple #[.agg #[.int .i64 (Bx.meetN fx fy tx ty lx ly mx my), .int .i64 (Bx.meetD fx fy tx ty lx ly mx my)], .bool (Bx.meetOk fx fy tx ty lx ly mx my)]) ∧ Below w.heap.size w w' := by
  cases hm : Bx.may fx fy tx ty lx ly mx my with
  | false =>
    have hm' := hm
    unfold Bx.may at hm'
    simp only [Bx.meetN, Bx.meetD, Bx.meetOk, hm, Bool.false_eq_true, if_false, Bool.false_and]
    rcases and3 (Vc.formedB fx fy) (Vc.formedB tx ty) (Bx.formed lx ly mx my) with h1 | ⟨h1, h2⟩ | ⟨h1, h2, h3⟩ | ⟨h1, h2, h3⟩
    all_goals first | (exfalso; simp [h1, h2, h3] at hm'; done) | skip
    all_goals
      clear hm hm'
      go_enter Try.func23, Try.ntmps23
      go_wp2_with (first | (go_at_call 24; refine (VcR.formed_any _ _ _).mono ?_; rintro e w' ⟨rfl, hb⟩; have hK : Keep w [(w.heap.size, [.int .i64 fx, .int .i64 fy]), (w.heap.size + 1, [.int .i64 tx, .int .i64 ty]), (w.heap.size + 2, [.int .i64 lx, .int .i64 ly, .int .i64 mx, .int .i64 my]), (w.heap.size + 3, [.int .i64 0, .int .i64 0])] w' := Keep.on (by first | assumption | exact ⟨by simp [Lie, LieAt, go_sem, World.cell?_alloc_past, World.frozen?_alloc_past], by simp; omega, ((((Below.refl _ _).alloc (Nat.le_refl _) _).alloc (by simp) _).alloc (by simp; omega) _).alloc (by simp; omega) _⟩) hb; have hS := hK; simp only [Keep, Lie, LieAt, Nat.reduceAdd] at hS) | (go_at_call 12; refine (formed_any _ _ _ _ _).mono ?_; rintro e w' ⟨rfl, hb⟩; have hK : Keep w [(w.heap.size, [.int .i64 fx, .int .i64 fy]), (w.heap.size + 1, [.int .i64 tx, .int .i64 ty]), (w.heap.size + 2, [.int .i64 lx, .int .i64 ly, .int .i64 mx, .int .i64 my]), (w.heap.size + 3, [.int .i64 0, .int .i64 0])] w' := Keep.on (by first | assumption | exact ⟨by simp [Lie, LieAt, go_sem, World.cell?_alloc_past, World.frozen?_alloc_past], by simp; omega, ((((Below.refl _ _).alloc (Nat.le_refl _) _).alloc (by simp) _).alloc (by simp; omega) _).alloc (by simp; omega) _⟩) hb; have hS := hK; simp only [Keep, Lie, LieAt, Nat.reduceAdd] at hS))
      refine bodyPost_ret (by simp [results, Try.results23, go_sem, *]) rfl (And.intro rfl ?_)
      repeat (first | exact hK.2.2 | refine Below.drew ?_ | refine Below.alloc ?_ (by simp <;> omega) _ | refine Below.setCell ?_ (by simp <;> omega) _)
  | true =>
    obtain ⟨⟨⟨a1, a2⟩, a3, a4⟩, ⟨⟨a5, a6⟩, a7, a8⟩, hf⟩ := Bx.may_iff.1 hm
    have h1 : Vc.formedB fx fy = true := Vc.formedB_iff.2 (by omega)
    have h2 : Vc.formedB tx ty = true := Vc.formedB_iff.2 (by omega)
    obtain ⟨⟨⟨b1, b2⟩, b3, b4⟩, ⟨⟨b5, b6⟩, b7, b8⟩, b9, b10⟩ := Bx.formed_iff.1 hf
    have CX := comes_any fx tx lx mx (by omega) (by omega) (by omega) (by omega)
    have CY := comes_any fy ty ly my (by omega) (by omega) (by omega) (by omega)
    have fX := Bx.comes_fits (f := fx) (t := tx) b9 (by omega) (by omega)
    have fY := Bx.comes_fits (f := fy) (t := ty) b10 (by omega) (by omega)
    have IX := inside_any fx fy tx ty lx ly mx my _ _ hm fX.1 fX.2
    have IY := inside_any fx fy tx ty lx ly mx my _ _ hm fY.1 fY.2
    obtain ⟨r1, r2, r3, r4⟩ := Bx.meet_ref hm
    unfold Bx.rOkX at r2 r3 r4
    unfold Bx.rOkY at r3 r4
    clear a1 a2 a3 a4 a5 a6 a7 a8 b1 b2 b3 b4 b5 b6 b7 b8 b9 b10 fX fY hm
    generalize hN : Bx.meetN fx fy tx ty lx ly mx my = N at *
    generalize hD : Bx.meetD fx fy tx ty lx ly mx my = D at *
    generalize hO : Bx.meetOk fx fy tx ty lx ly mx my = O at *
    clear hN hD hO
    generalize Bx.comes fx tx lx mx = cx at *
    generalize Bx.comes fy ty ly my = cy at *
    obtain ⟨xo, xn, xd⟩ := cx
    obtain ⟨yo, yn, yd⟩ := cy
    dsimp only at CX CY IX IY r2 r3 r4
    generalize (Bx.atB lx mx fx tx xn xd && Bx.atB ly my fy ty xn xd) = ix at *
    generalize (Bx.atB lx mx fx tx yn yd && Bx.atB ly my fy ty yn yd) = iy at *
    cases hi : Bx.inB fx fy lx ly mx my with
    | true =>
      obtain ⟨rfl, rfl, rfl⟩ := r1 hi
      clear r1 r2 r3 r4 CX CY IX IY
      go_enter Try.func23, Try.ntmps23
      go_wp2_with (first | (go_at_call 24; refine (VcR.formed_any _ _ _).mono ?_; rintro e w' ⟨rfl, hb⟩; have hK : Keep w [(w.heap.size, [.int .i64 fx, .int .i64 fy]), (w.heap.size + 1, [.int .i64 tx, .int .i64 ty]), (w.heap.size + 2, [.int .i64 lx, .int .i64 ly, .int .i64 mx, .int .i64 my]), (w.heap.size + 3, [.int .i64 0, .int .i64 0])] w' := Keep.on (by first | assumption | exact ⟨by simp [Lie, LieAt, go_sem, World.cell?_alloc_past, World.frozen?_alloc_past], by simp; omega, ((((Below.refl _ _).alloc (Nat.le_refl _) _).alloc (by simp) _).alloc (by simp; omega) _).alloc (by simp; omega) _⟩) hb; have hS := hK; simp only [Keep, Lie, LieAt, Nat.reduceAdd] at hS) | (go_at_call 12; refine (formed_any _ _ _ _ _).mono ?_; rintro e w' ⟨rfl, hb⟩; have hK : Keep w [(w.heap.size, [.int .i64 fx, .int .i64 fy]), (w.heap.size + 1, [.int .i64 tx, .int .i64 ty]), (w.heap.size + 2, [.int .i64 lx, .int .i64 ly, .int .i64 mx, .int .i64 my]), (w.heap.size + 3, [.int .i64 0, .int .i64 0])] w' := Keep.on (by first | assumption | exact ⟨by simp [Lie, LieAt, go_sem, World.cell?_alloc_past, World.frozen?_alloc_past], by simp; omega, ((((Below.refl _ _).alloc (Nat.le_refl _) _).alloc (by simp) _).alloc (by simp; omega) _).alloc (by simp; omega) _⟩) hb; have hS := hK; simp only [Keep, Lie, LieAt, Nat.reduceAdd] at hS) | (go_at_call 15; refine (in_any _ _ _ _ _ _ _).mono ?_; rintro e w' ⟨rfl, hb⟩; have hK : Keep w [(w.heap.size, [.int .i64 fx, .int .i64 fy]), (w.heap.size + 1, [.int .i64 tx, .int .i64 ty]), (w.heap.size + 2, [.int .i64 lx, .int .i64 ly, .int .i64 mx, .int .i64 my]), (w.heap.size + 3, [.int .i64 0, .int .i64 0])] w' := Keep.on (by first | assumption | exact ⟨by simp [Lie, LieAt, go_sem, World.cell?_alloc_past, World.frozen?_alloc_past], by simp; omega, ((((Below.refl _ _).alloc (Nat.le_refl _) _).alloc (by simp) _).alloc (by simp; omega) _).alloc (by simp; omega) _⟩) hb; have hS := hK; simp only [Keep, Lie, LieAt, Nat.reduceAdd] at hS))
      refine bodyPost_ret (by simp [results, Try.results23, go_sem, *]) rfl (And.intro rfl ?_)
      repeat (first | exact hK.2.2 | refine Below.drew ?_ | refine Below.alloc ?_ (by simp <;> omega) _ | refine Below.setCell ?_ (by simp <;> omega) _)
    | false =>
      have r2 := r2 hi
      have r3 := r3 hi
      have r4 := r4 hi
      cases xo
      all_goals cases ix
      all_goals cases yo
      all_goals cases iy
      all_goals simp only [Bool.and_self, Bool.and_false, Bool.and_true, Bool.false_eq_true, forall_const, false_imp_iff, reduceCtorEq] at r2 r3 r4
      all_goals first | obtain ⟨rfl, rfl, rfl⟩ := r2 | obtain ⟨rfl, rfl, rfl⟩ := r3 | obtain ⟨rfl, rfl, rfl⟩ := r4
      all_goals
        clear r1 r2 r3 r4
        go_enter Try.func23, Try.ntmps23
        go_wp2_with (first | (go_at_call 24; refine (VcR.formed_any _ _ _).mono ?_; rintro e w' ⟨rfl, hb⟩; have hK : Keep w [(w.heap.size, [.int .i64 fx, .int .i64 fy]), (w.heap.size + 1, [.int .i64 tx, .int .i64 ty]), (w.heap.size + 2, [.int .i64 lx, .int .i64 ly, .int .i64 mx, .int .i64 my]), (w.heap.size + 3, [.int .i64 0, .int .i64 0])] w' := Keep.on (by first | assumption | exact ⟨by simp [Lie, LieAt, go_sem, World.cell?_alloc_past, World.frozen?_alloc_past], by simp; omega, ((((Below.refl _ _).alloc (Nat.le_refl _) _).alloc (by simp) _).alloc (by simp; omega) _).alloc (by simp; omega) _⟩) hb; have hS := hK; simp only [Keep, Lie, LieAt, Nat.reduceAdd] at hS) | (go_at_call 12; refine (formed_any _ _ _ _ _).mono ?_; rintro e w' ⟨rfl, hb⟩; have hK : Keep w [(w.heap.size, [.int .i64 fx, .int .i64 fy]), (w.heap.size + 1, [.int .i64 tx, .int .i64 ty]), (w.heap.size + 2, [.int .i64 lx, .int .i64 ly, .int .i64 mx, .int .i64 my]), (w.heap.size + 3, [.int .i64 0, .int .i64 0])] w' := Keep.on (by first | assumption | exact ⟨by simp [Lie, LieAt, go_sem, World.cell?_alloc_past, World.frozen?_alloc_past], by simp; omega, ((((Below.refl _ _).alloc (Nat.le_refl _) _).alloc (by simp) _).alloc (by simp; omega) _).alloc (by simp; omega) _⟩) hb; have hS := hK; simp only [Keep, Lie, LieAt, Nat.reduceAdd] at hS) | (go_at_call 15; refine (in_any _ _ _ _ _ _ _).mono ?_; rintro e w' ⟨rfl, hb⟩; have hK : Keep w [(w.heap.size, [.int .i64 fx, .int .i64 fy]), (w.heap.size + 1, [.int .i64 tx, .int .i64 ty]), (w.heap.size + 2, [.int .i64 lx, .int .i64 ly, .int .i64 mx, .int .i64 my]), (w.heap.size + 3, [.int .i64 0, .int .i64 0])] w' := Keep.on (by first | assumption | exact ⟨by simp [Lie, LieAt, go_sem, World.cell?_alloc_past, World.frozen?_alloc_past], by simp; omega, ((((Below.refl _ _).alloc (Nat.le_refl _) _).alloc (by simp) _).alloc (by simp; omega) _).alloc (by simp; omega) _⟩) hb; have hS := hK; simp only [Keep, Lie, LieAt, Nat.reduceAdd] at hS) | (go_at_call_of 40 (Value.int IntKind.i64 fx); refine (CX _).mono ?_; rintro e w' ⟨rfl, hb⟩; (first | with_reducible have hK := Keep.on (Keep.name2 hK) hb | with_reducible have hK := Keep.on hK hb); have hS := hK; simp only [Keep, Lie, LieAt, Nat.reduceAdd] at hS) | (go_at_call_of 40 (Value.int IntKind.i64 fy); refine (CY _).mono ?_; rintro e w' ⟨rfl, hb⟩; (first | with_reducible have hK := Keep.on (Keep.name2 hK) hb | with_reducible have hK := Keep.on hK hb); have hS := hK; simp only [Keep, Lie, LieAt, Nat.reduceAdd] at hS) | (go_at_call 41; with_reducible refine (IX _).mono ?_; rintro e w' ⟨rfl, hb⟩; (first | with_reducible have hK := Keep.on (Keep.name2 hK) hb | with_reducible have hK := Keep.on hK hb); have hS := hK; simp only [Keep, Lie, LieAt, Nat.reduceAdd] at hS) | (go_at_call 41; with_reducible refine (IY _).mono ?_; rintro e w' ⟨rfl, hb⟩; (first | with_reducible have hK := Keep.on (Keep.name2 hK) hb | with_reducible have hK := Keep.on hK hb); have hS := hK; simp only [Keep, Lie, LieAt, Nat.reduceAdd] at hS))
        refine bodyPost_ret (by simp [results, Try.results23, go_sem, *]) rfl (And.intro rfl ?_)
        repeat (first | exact hK.2.2 | refine Below.drew ?_ | refine Below.alloc ?_ (by simp <;> omega) _ | refine Below.setCell ?_ (by simp <;> omega) _)
end BxR

end Go.Proofs.Ytoehofphklhecaa

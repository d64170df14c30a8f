/- What the functions of the reference of layer 3 answer, as a call (BxR), and Around's contract of the program. Nothing that lay in memory before turns. -/
import Derived.Test.YtoehofphklhecaaBoxCalls
import Derived.Test.YtoehofphklhecaaBoxPlain2
namespace Go.Proofs.Ytoehofphklhecaa
open Go.RowKit
set_option linter.unusedVariables false

namespace BxR

set_option maxHeartbeats 4000000 in
theorem formed_any (lx ly mx my : Int) (w : World) :
    Calls Try.prog 12 #[.agg #[.int .i64 lx, .int .i64 ly, .int .i64 mx, .int .i64 my]] w fun e w' => e = .returned (.bool (Bx.formed lx ly mx my)) ∧ Below w.heap.size w w' := by
  unfold Bx.formed
  cases h1 : Vc.formedB lx ly
  all_goals cases h2 : Vc.formedB mx my
  all_goals by_cases h3 : lx ≤ mx
  all_goals by_cases h4 : ly ≤ my
  all_goals
    go_enter Try.func12, Try.ntmps12
    go_wp2_with (go_at_call 24; refine (VcR.formed_any _ _ _).mono ?_; rintro e w' ⟨rfl, hb⟩; have hK : Keep w [(w.heap.size, [.int .i64 lx, .int .i64 ly, .int .i64 mx, .int .i64 my])] w' := Keep.on (by first | assumption | exact ⟨by simp [Lie, LieAt, go_sem], by simp, (Below.refl _ _).alloc (Nat.le_refl _) _⟩) hb; have hS := hK; simp only [Keep, Lie, LieAt, Nat.reduceAdd] at hS)
    go_ret
    exact bool_eq (by simp [*]) hK.2.2

set_option maxHeartbeats 8000000 in
theorem in_any (px py lx ly mx my : Int) (w : World) :
    Calls Try.prog 15 #[.agg #[.int .i64 px, .int .i64 py], .agg #[.int .i64 lx, .int .i64 ly, .int .i64 mx, .int .i64 my]] w fun e w' => e = .returned (.bool (Bx.inB px py lx ly mx my)) ∧ Below w.heap.size w w' := by
  rw [← Bx.inR_eq]
  unfold Bx.inR
  rcases and6 (Vc.formedB px py) (Bx.formed lx ly mx my) (decide (lx ≤ px)) (decide (px ≤ mx)) (decide (ly ≤ py)) (decide (py ≤ my)) with h1 | ⟨h1, h2⟩ | ⟨h1, h2, h3⟩ | ⟨h1, h2, h3, h4⟩ | ⟨h1, h2, h3, h4, h5⟩ | ⟨h1, h2, h3, h4, h5, h6⟩ | ⟨h1, h2, h3, h4, h5, h6⟩
  all_goals
    first | simp only [decide_eq_true_eq, decide_eq_false_iff_not, Int.not_le] at h3 | skip
    first | simp only [decide_eq_true_eq, decide_eq_false_iff_not, Int.not_le] at h4 | skip
    first | simp only [decide_eq_true_eq, decide_eq_false_iff_not, Int.not_le] at h5 | skip
    first | simp only [decide_eq_true_eq, decide_eq_false_iff_not, Int.not_le] at h6 | skip
    go_enter Try.func15, Try.ntmps15
    go_wp2_with (first | (go_at_call 24; refine (VcR.formed_any _ _ _).mono ?_; rintro e w' ⟨rfl, hb⟩; have hK : Keep w [(w.heap.size, [.int .i64 px, .int .i64 py]), (w.heap.size + 1, [.int .i64 lx, .int .i64 ly, .int .i64 mx, .int .i64 my])] w' := Keep.on (by first | assumption | exact ⟨by simp [Lie, LieAt, go_sem, World.cell?_alloc_past, World.frozen?_alloc_past], by simp; omega, ((Below.refl _ _).alloc (Nat.le_refl _) _).alloc (by simp) _⟩) hb; have hS := hK; simp only [Keep, Lie, LieAt, Nat.reduceAdd] at hS) | (go_at_call 12; refine (formed_any _ _ _ _ _).mono ?_; rintro e w' ⟨rfl, hb⟩; have hK : Keep w [(w.heap.size, [.int .i64 px, .int .i64 py]), (w.heap.size + 1, [.int .i64 lx, .int .i64 ly, .int .i64 mx, .int .i64 my])] w' := Keep.on (by first | assumption | exact ⟨by simp [Lie, LieAt, go_sem, World.cell?_alloc_past, World.frozen?_alloc_past], by simp; omega, ((Below.refl _ _).alloc (Nat.le_refl _) _).alloc (by simp) _⟩) hb; have hS := hK; simp only [Keep, Lie, LieAt, Nat.reduceAdd] at hS))
    go_ret
    exact bool_eq (by first | (simp [*]; done) | (simp [*]; omega)) hK.2.2

set_option maxHeartbeats 8000000 in
theorem overlap_any (lx ly mx my lx' ly' mx' my' : Int) (w : World) :
    Calls Try.prog 17 #[.agg #[.int .i64 lx, .int .i64 ly, .int .i64 mx, .int .i64 my], .agg #[.int .i64 lx', .int .i64 ly', .int .i64 mx', .int .i64 my']] w fun e w' => e = .returned (.bool (Bx.overlap lx ly mx my lx' ly' mx' my')) ∧ Below w.heap.size w w' := by
  rw [← Bx.overlapR_eq]
  unfold Bx.overlapR
  rcases and6 (Bx.formed lx ly mx my) (Bx.formed lx' ly' mx' my') (decide (lx' < mx)) (decide (lx < mx')) (decide (ly' < my)) (decide (ly < my')) with h1 | ⟨h1, h2⟩ | ⟨h1, h2, h3⟩ | ⟨h1, h2, h3, h4⟩ | ⟨h1, h2, h3, h4, h5⟩ | ⟨h1, h2, h3, h4, h5, h6⟩ | ⟨h1, h2, h3, h4, h5, h6⟩
  all_goals
    first | simp only [decide_eq_true_eq, decide_eq_false_iff_not, Int.not_lt] at h3 | skip
    first | simp only [decide_eq_true_eq, decide_eq_false_iff_not, Int.not_lt] at h4 | skip
    first | simp only [decide_eq_true_eq, decide_eq_false_iff_not, Int.not_lt] at h5 | skip
    first | simp only [decide_eq_true_eq, decide_eq_false_iff_not, Int.not_lt] at h6 | skip
    go_enter Try.func17, Try.ntmps17
    go_wp2_with (first | (go_at_call 12; refine (formed_any _ _ _ _ _).mono ?_; rintro e w' ⟨rfl, hb⟩; have hK : Keep w [(w.heap.size, [.int .i64 lx, .int .i64 ly, .int .i64 mx, .int .i64 my]), (w.heap.size + 1, [.int .i64 lx', .int .i64 ly', .int .i64 mx', .int .i64 my'])] w' := Keep.on (by first | assumption | exact ⟨by simp [Lie, LieAt, go_sem, World.cell?_alloc_past, World.frozen?_alloc_past], by simp; omega, ((Below.refl _ _).alloc (Nat.le_refl _) _).alloc (by simp) _⟩) hb; have hS := hK; simp only [Keep, Lie, LieAt, Nat.reduceAdd] at hS))
    go_ret
    exact bool_eq (by first | (simp [*]; done) | (simp [*]; omega)) hK.2.2

set_option maxHeartbeats 4000000 in
theorem right_any (n d : Int) (w : World) :
    Calls Try.prog 33 #[.agg #[.int .i64 n, .int .i64 d]] w fun e w' => e = .returned (.bool (Bx.right n d)) ∧ Below w.heap.size w w' := by
  unfold Bx.right
  by_cases h1 : 1 ≤ d
  all_goals by_cases h2 : d ≤ 1073741824
  all_goals by_cases h3 : 0 ≤ n
  all_goals by_cases h4 : n ≤ 1073741824
  all_goals first | (exfalso; omega) | skip
  all_goals
    go_enter Try.func33, Try.ntmps33
    go_wp2
    go_ret
    exact bool_eq (by simp [*]) (below_one _ _)

set_option maxHeartbeats 4000000 in
theorem ahead_any (n d n' d' : Int) (w : World) :
    Calls Try.prog 19 #[.agg #[.int .i64 n, .int .i64 d], .agg #[.int .i64 n', .int .i64 d']] w fun e w' => e = .returned (.bool (Bx.ahead n d n' d')) ∧ Below w.heap.size w w' := by
  unfold Bx.ahead
  cases h1 : Bx.right n d
  all_goals cases h2 : Bx.right n' d'
  all_goals by_cases h3 : n * d' < n' * d
  all_goals
    have b1 : Bx.right n d = true → Bx.right n' d' = true → (0 ≤ n * d' ∧ n * d' ≤ 1152921504606846976) ∧ (0 ≤ n' * d ∧ n' * d ≤ 1152921504606846976) := by
      intro a b; obtain ⟨a1, a2, a3, a4⟩ := Bx.right_iff.1 a; obtain ⟨b1, b2, b3, b4⟩ := Bx.right_iff.1 b
      exact ⟨Bx.mul_fit a3 a4 (by omega) b2, Bx.mul_fit b3 b4 (by omega) a2⟩
    simp only [h1, h2, forall_const, Bool.false_eq_true, false_imp_iff, implies_true] at b1
    go_enter Try.func19, Try.ntmps19
    go_wp2_with (go_at_call 33; refine (right_any _ _ _).mono ?_; rintro e w' ⟨rfl, hb⟩; have hK : Keep w [(w.heap.size, [.int .i64 n, .int .i64 d]), (w.heap.size + 1, [.int .i64 n', .int .i64 d'])] w' := Keep.on (by first | assumption | exact ⟨by simp [Lie, LieAt, go_sem, World.cell?_alloc_past, World.frozen?_alloc_past], by simp; omega, ((Below.refl _ _).alloc (Nat.le_refl _) _).alloc (by simp) _⟩) hb; have hS := hK; simp only [Keep, Lie, LieAt, Nat.reduceAdd] at hS)
    go_ret
    exact bool_eq (by simp [*]) hK.2.2

set_option maxHeartbeats 4000000 in
theorem at_any (f t l m n d : Int) (hl : -134217728 ≤ l ∧ l ≤ 134217728) (hm : -134217728 ≤ m ∧ m ≤ 134217728) (hf : -134217728 ≤ f ∧ f ≤ 134217728) (ht : -134217728 ≤ t ∧ t ≤ 134217728) (hn : 0 ≤ n ∧ n ≤ 1073741824) (hd : 0 ≤ d ∧ d ≤ 1073741824) (w : World) :
    Calls Try.prog 47 #[.int .i64 f, .int .i64 t, .int .i64 l, .int .i64 m, .agg #[.int .i64 n, .int .i64 d]] w fun e w' => e = .returned (.bool (Bx.atB l m f t n d)) ∧ Below w.heap.size w w' := by
  unfold Bx.atB
  have p1 := Bx.mul_bd (a := f) (b := d) (by omega) (by omega) hd.1 hd.2
  have p2 := Bx.mul_bd (a := t - f) (b := n) (by omega) (by omega) hn.1 hn.2
  have p3 := Bx.mul_bd (a := l) (b := d) (by omega) (by omega) hd.1 hd.2
  have p4 := Bx.mul_bd (a := m) (b := d) (by omega) (by omega) hd.1 hd.2
  by_cases h1 : l * d ≤ f * d + (t - f) * n
  all_goals by_cases h2 : f * d + (t - f) * n ≤ m * d
  all_goals
    go_enter Try.func47, Try.ntmps47
    go_wp2
    go_ret
    exact bool_eq (by simp [*]) (below_one _ _)

set_option maxHeartbeats 4000000 in
theorem inside_any (fx fy tx ty lx ly mx my n d : Int) (hm : Bx.may fx fy tx ty lx ly mx my = true) (hn : 0 ≤ n ∧ n ≤ 1073741824) (hd : 0 ≤ d ∧ d ≤ 1073741824) (w : World) :
    Calls Try.prog 41 #[.agg #[.int .i64 fx, .int .i64 fy], .agg #[.int .i64 tx, .int .i64 ty], .agg #[.int .i64 lx, .int .i64 ly, .int .i64 mx, .int .i64 my], .agg #[.int .i64 n, .int .i64 d]] w fun e w' => e = .returned (.bool (Bx.atB lx mx fx tx n d && Bx.atB ly my fy ty n d)) ∧ Below w.heap.size w w' := by
  obtain ⟨⟨⟨a1, a2⟩, a3, a4⟩, ⟨⟨a5, a6⟩, a7, a8⟩, hf⟩ := Bx.may_iff.1 hm
  obtain ⟨⟨⟨b1, b2⟩, b3, b4⟩, ⟨⟨b5, b6⟩, b7, b8⟩, b9, b10⟩ := Bx.formed_iff.1 hf
  have AX := at_any fx tx lx mx n d (by omega) (by omega) (by omega) (by omega) hn hd
  have AY := at_any fy ty ly my n d (by omega) (by omega) (by omega) (by omega) hn hd
  clear a1 a2 a3 a4 a5 a6 a7 a8 b1 b2 b3 b4 b5 b6 b7 b8 b9 b10 hm hf hn hd
  generalize Bx.atB lx mx fx tx n d = p at *
  generalize Bx.atB ly my fy ty n d = q at *
  cases p
  all_goals cases q
  all_goals
    go_enter Try.func41, Try.ntmps41
    go_wp2_with (first | (go_at_call_of 47 (Value.int IntKind.i64 fx); refine (AX _).mono ?_; rintro e w' ⟨rfl, hb⟩; have hK : Keep w [(w.heap.size, [.int .i64 fx, .int .i64 fy]), (w.heap.size + 1, [.int .i64 tx, .int .i64 ty]), (w.heap.size + 2, [.int .i64 lx, .int .i64 ly, .int .i64 mx, .int .i64 my]), (w.heap.size + 3, [.int .i64 n, .int .i64 d])] w' := Keep.on (by first | assumption | exact ⟨by simp [Lie, LieAt, go_sem, World.cell?_alloc_past, World.frozen?_alloc_past], by simp; omega, ((((Below.refl _ _).alloc (Nat.le_refl _) _).alloc (by simp) _).alloc (by simp; omega) _).alloc (by simp; omega) _⟩) hb; have hS := hK; simp only [Keep, Lie, LieAt, Nat.reduceAdd] at hS) | (go_at_call_of 47 (Value.int IntKind.i64 fy); refine (AY _).mono ?_; rintro e w' ⟨rfl, hb⟩; have hK : Keep w [(w.heap.size, [.int .i64 fx, .int .i64 fy]), (w.heap.size + 1, [.int .i64 tx, .int .i64 ty]), (w.heap.size + 2, [.int .i64 lx, .int .i64 ly, .int .i64 mx, .int .i64 my]), (w.heap.size + 3, [.int .i64 n, .int .i64 d])] w' := Keep.on (by first | assumption | exact ⟨by simp [Lie, LieAt, go_sem, World.cell?_alloc_past, World.frozen?_alloc_past], by simp; omega, ((((Below.refl _ _).alloc (Nat.le_refl _) _).alloc (by simp) _).alloc (by simp; omega) _).alloc (by simp; omega) _⟩) hb; have hS := hK; simp only [Keep, Lie, LieAt, Nat.reduceAdd] at hS))
    go_ret
    exact bool_eq (by simp) hK.2.2

set_option maxHeartbeats 4000000 in
theorem comes_any (f t l m : Int) (hl : -134217728 ≤ l ∧ l ≤ 134217728) (hm : -134217728 ≤ m ∧ m ≤ 134217728) (hf : -134217728 ≤ f ∧ f ≤ 134217728) (ht : -134217728 ≤ t ∧ t ≤ 134217728) (w : World) :
    Calls Try.prog 40 #[.int .i64 f, .int .i64 t, .int .i64 l, .int .i64 m] w fun e w' => e = .returned (.tuple #[.agg #[.int .i64 (Bx.comes f t l m).n, .int .i64 (Bx.comes f t l m).d], .bool (Bx.comes f t l m).ok]) ∧ Below w.heap.size w w' := by
  unfold Bx.comes
  by_cases h1 : f < l
  all_goals by_cases h2 : l ≤ t
  all_goals by_cases h3 : m < f
  all_goals by_cases h4 : t ≤ m
  all_goals first | (exfalso; omega) | skip
  all_goals
      simp only [h1, h2, h3, h4, and_self, false_and, and_false, if_true, if_false]
      go_enter Try.func40, Try.ntmps40
      go_wp2
      refine bodyPost_ret (by simp [results, Try.results40, go_sem]) rfl (And.intro rfl ?_)
      repeat (first | exact Below.refl _ _ | refine Below.drew ?_ | refine Below.alloc ?_ (by simp <;> omega) _ | refine Below.setCell ?_ (by simp) _)

end BxR
end Go.Proofs.Ytoehofphklhecaa

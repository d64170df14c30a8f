/- What follows of what is met first: for ways to and fro, for points that lie in the box at once, and for halves of ways. -/
import Derived.Test.YtoehofphklhecaaBoxPlain3
namespace Go.Proofs.Ytoehofphklhecaa
set_option linter.unusedVariables false
namespace Bx

theorem meet_cases (fx fy tx ty lx ly mx my : Int) :
    (may fx fy tx ty lx ly mx my = true ∧ meetOk fx fy tx ty lx ly mx my = true ∧
      (1 ≤ meetD fx fy tx ty lx ly mx my ∧ meetD fx fy tx ty lx ly mx my ≤ 1073741824 ∧ 0 ≤ meetN fx fy tx ty lx ly mx my ∧ meetN fx fy tx ty lx ly mx my ≤ meetD fx fy tx ty lx ly mx my) ∧
      at1 lx mx fx tx (meetN fx fy tx ty lx ly mx my) (meetD fx fy tx ty lx ly mx my) ∧ at1 ly my fy ty (meetN fx fy tx ty lx ly mx my) (meetD fx fy tx ty lx ly mx my) ∧
      ∀ n d : Int, 1 ≤ d → 0 ≤ n → n ≤ d → at1 lx mx fx tx n d → at1 ly my fy ty n d → meetN fx fy tx ty lx ly mx my * d ≤ n * meetD fx fy tx ty lx ly mx my) ∨
    (meetOk fx fy tx ty lx ly mx my = false ∧ meetN fx fy tx ty lx ly mx my = 0 ∧ meetD fx fy tx ty lx ly mx my = 0 ∧
      (may fx fy tx ty lx ly mx my = true → ∀ n d : Int, 1 ≤ d → 0 ≤ n → n ≤ d → at1 lx mx fx tx n d → at1 ly my fy ty n d → False)) := by
  cases hm : may fx fy tx ty lx ly mx my with
  | false =>
    right
    simp only [meetOk, meetN, meetD, hm, Bool.false_and, Bool.false_eq_true, if_false, false_imp_iff, and_self]
  | true =>
    obtain ⟨⟨⟨a1, a2⟩, a3, a4⟩, ⟨⟨a5, a6⟩, a7, a8⟩, hf⟩ := may_iff.1 hm
    have eN : meetN fx fy tx ty lx ly mx my = metN (st lx mx fx tx) (st ly my fy ty) := by unfold meetN; rw [if_pos hm]
    have eD : meetD fx fy tx ty lx ly mx my = metD (st lx mx fx tx) (st ly my fy ty) := by unfold meetD; rw [if_pos hm]
    have eO : meetOk fx fy tx ty lx ly mx my = metOk (st lx mx fx tx) (st ly my fy ty) := by unfold meetOk; rw [hm]; rfl
    rw [eN, eD, eO]
    rcases met_all (l := lx) (m := mx) (f := fx) (t := tx) (l' := ly) (m' := my) (f' := fy) (t' := ty) (by omega) (by omega) (by omega) (by omega) with A | A
    · exact Or.inl ⟨rfl, A⟩
    · exact Or.inr ⟨A.1, A.2.1, A.2.2.1, fun _ => A.2.2.2⟩

theorem may_turn (fx fy tx ty lx ly mx my : Int) : may fx fy tx ty lx ly mx my = may tx ty fx fy lx ly mx my := by
  unfold may; rw [Bool.and_comm (Vc.formedB fx fy)]
theorem at1_back {l m f t n d : Int} (h : at1 l m f t n d) : at1 l m t f (d - n) d := by
  unfold at1 at h ⊢; obtain ⟨a, b⟩ := h; constructor <;> grind
theorem back_one {fx fy tx ty lx ly mx my : Int} (h : meetOk fx fy tx ty lx ly mx my = true) : meetOk tx ty fx fy lx ly mx my = true := by
  rcases meet_cases fx fy tx ty lx ly mx my with ⟨hm, _, ⟨d1, d2, d3, d4⟩, x1, y1, _⟩ | A
  · rcases meet_cases tx ty fx fy lx ly mx my with B | B
    · exact B.2.1
    · exact (B.2.2.2 (by rw [← may_turn]; exact hm) _ _ d1 (by omega) (by omega) (at1_back x1) (at1_back y1)).elim
  · rw [A.1] at h; cases h
theorem back_eq (fx fy tx ty lx ly mx my : Int) : meetOk fx fy tx ty lx ly mx my = meetOk tx ty fx fy lx ly mx my := by
  rw [Bool.eq_iff_iff]; exact ⟨back_one, back_one⟩

theorem at_zero {l m f t : Int} (h1 : l ≤ f) (h2 : f ≤ m) : at1 l m f t 0 1 := by unfold at1; constructor <;> omega
theorem at_one {l m f t : Int} (h1 : l ≤ t) (h2 : t ≤ m) : at1 l m f t 1 1 := by unfold at1; constructor <;> omega
theorem zero_at {l m f t d : Int} (hd : 1 ≤ d) (h : at1 l m f t 0 d) : l ≤ f ∧ f ≤ m := by
  unfold at1 at h; rw [Int.mul_zero, Int.add_zero] at h
  exact ⟨Int.le_of_mul_le_mul_right h.1 (by omega), Int.le_of_mul_le_mul_right h.2 (by omega)⟩

theorem first_no {fx fy tx ty lx ly mx my : Int} (h : meetOk fx fy tx ty lx ly mx my = false) (hf : Vc.formedB fx fy = true) (ht : Vc.formedB tx ty = true) : inB fx fy lx ly mx my = false ∧ inB tx ty lx ly mx my = false := by
  rcases meet_cases fx fy tx ty lx ly mx my with A | A
  · rw [A.2.1] at h; cases h
  · cases hb : formed lx ly mx my with
    | false => simp only [inB, hb, Bool.false_and, and_self]
    | true =>
      have hm : may fx fy tx ty lx ly mx my = true := by unfold may; rw [hf, ht, hb]; rfl
      have N := A.2.2.2 hm
      constructor
      · rw [Bool.eq_false_iff]; intro c; obtain ⟨_, ⟨c1, c2⟩, c3, c4⟩ := inB_iff.1 c
        exact N 0 1 (by omega) (by omega) (by omega) (at_zero c1 c2) (at_zero c3 c4)
      · rw [Bool.eq_false_iff]; intro c; obtain ⟨_, ⟨c1, c2⟩, c3, c4⟩ := inB_iff.1 c
        exact N 1 1 (by omega) (by omega) (by omega) (at_one c1 c2) (at_one c3 c4)

theorem first_in {fx fy tx ty lx ly mx my : Int} (h : meetOk fx fy tx ty lx ly mx my = true) : inB fx fy lx ly mx my = (meetN fx fy tx ty lx ly mx my == 0) := by
  rcases meet_cases fx fy tx ty lx ly mx my with ⟨hm, _, ⟨d1, d2, d3, d4⟩, x1, y1, L⟩ | A
  · have hf := (may_iff.1 hm).2.2
    rw [Bool.eq_iff_iff, beq_iff_eq]
    constructor
    · intro c; obtain ⟨_, ⟨c1, c2⟩, c3, c4⟩ := inB_iff.1 c
      have := L 0 1 (by omega) (by omega) (by omega) (at_zero c1 c2) (at_zero c3 c4)
      omega
    · intro e
      rw [e] at x1 y1
      obtain ⟨c1, c2⟩ := zero_at d1 x1
      obtain ⟨c3, c4⟩ := zero_at d1 y1
      exact inB_iff.2 ⟨hf, ⟨c1, c2⟩, c3, c4⟩
  · rw [A.1] at h; cases h

/-! ### halves of ways -/
theorem at_left {l m f v n d : Int} : at1 l m f (f + v + v) n d ↔ at1 l m f (f + v) (2 * n) d := by
  unfold at1; constructor <;> (rintro ⟨a, b⟩; constructor <;> grind)
theorem at_left' {l m f v n d : Int} : at1 l m f (f + v) n d ↔ at1 l m f (f + v + v) n (2 * d) := by
  unfold at1; constructor <;> (rintro ⟨a, b⟩; constructor <;> grind)
theorem at_right {l m f v n d : Int} : at1 l m f (f + v + v) n d ↔ at1 l m (f + v) (f + v + v) (2 * n - d) d := by
  unfold at1; constructor <;> (rintro ⟨a, b⟩; constructor <;> grind)
theorem at_right' {l m f v n d : Int} : at1 l m (f + v) (f + v + v) n d ↔ at1 l m f (f + v + v) (n + d) (2 * d) := by
  unfold at1; constructor <;> (rintro ⟨a, b⟩; constructor <;> grind)

theorem shorter_ok {fx fy vx vy lx ly mx my : Int} (hf : Vc.formedB fx fy = true) (hh : Vc.formedB (fx + vx) (fy + vy) = true) (ht : Vc.formedB (fx + vx + vx) (fy + vy + vy) = true) :
    meetOk fx fy (fx + vx + vx) (fy + vy + vy) lx ly mx my = (meetOk fx fy (fx + vx) (fy + vy) lx ly mx my || meetOk (fx + vx) (fy + vy) (fx + vx + vx) (fy + vy + vy) lx ly mx my) := by
  cases hb : formed lx ly mx my with
  | false => simp only [meetOk, may, hb, Bool.and_false, Bool.false_and, Bool.or_self]
  | true =>
    have m0 : may fx fy (fx + vx + vx) (fy + vy + vy) lx ly mx my = true := by unfold may; rw [hf, ht, hb]; rfl
    have m1 : may fx fy (fx + vx) (fy + vy) lx ly mx my = true := by unfold may; rw [hf, hh, hb]; rfl
    have m2 : may (fx + vx) (fy + vy) (fx + vx + vx) (fy + vy + vy) lx ly mx my = true := by unfold may; rw [hh, ht, hb]; rfl
    rw [Bool.eq_iff_iff, Bool.or_eq_true]
    have W := meet_cases fx fy (fx + vx + vx) (fy + vy + vy) lx ly mx my
    have F := meet_cases fx fy (fx + vx) (fy + vy) lx ly mx my
    have S := meet_cases (fx + vx) (fy + vy) (fx + vx + vx) (fy + vy + vy) lx ly mx my
    constructor
    · intro h
      rcases W with ⟨_, _, ⟨d1, d2, d3, d4⟩, x1, y1, _⟩ | W
      · by_cases g : 2 * meetN fx fy (fx + vx + vx) (fy + vy + vy) lx ly mx my ≤ meetD fx fy (fx + vx + vx) (fy + vy + vy) lx ly mx my
        · left
          rcases F with F | F
          · exact F.2.1
          · exact (F.2.2.2 m1 _ _ d1 (by omega) g (at_left.1 x1) (at_left.1 y1)).elim
        · right
          rcases S with S | S
          · exact S.2.1
          · exact (S.2.2.2 m2 _ _ d1 (by omega) (by omega) (at_right.1 x1) (at_right.1 y1)).elim
      · rw [W.1] at h; cases h
    · intro h
      rcases W with W | W
      · exact W.2.1
      · exfalso
        rcases h with h | h
        · rcases F with ⟨_, _, ⟨d1, d2, d3, d4⟩, x1, y1, _⟩ | F
          · exact W.2.2.2 m0 _ _ (by omega) d3 (by omega) (at_left'.1 x1) (at_left'.1 y1)
          · rw [F.1] at h; cases h
        · rcases S with ⟨_, _, ⟨d1, d2, d3, d4⟩, x1, y1, _⟩ | S
          · exact W.2.2.2 m0 _ _ (by omega) (by omega) (by omega) (at_right'.1 x1) (at_right'.1 y1)
          · rw [S.1] at h; cases h

theorem shorter_time {fx fy vx vy lx ly mx my : Int} (h0 : meetOk fx fy (fx + vx + vx) (fy + vy + vy) lx ly mx my = true) (h1 : meetOk fx fy (fx + vx) (fy + vy) lx ly mx my = true) :
    meetN fx fy (fx + vx + vx) (fy + vy + vy) lx ly mx my * (2 * meetD fx fy (fx + vx) (fy + vy) lx ly mx my) = meetN fx fy (fx + vx) (fy + vy) lx ly mx my * meetD fx fy (fx + vx + vx) (fy + vy + vy) lx ly mx my := by
  rcases meet_cases fx fy (fx + vx + vx) (fy + vy + vy) lx ly mx my with ⟨_, _, ⟨d1, d2, d3, d4⟩, x1, y1, L⟩ | W
  · rcases meet_cases fx fy (fx + vx) (fy + vy) lx ly mx my with ⟨_, _, ⟨e1, e2, e3, e4⟩, x2, y2, L'⟩ | F
    · have a := L _ _ (by omega) e3 (by omega) (at_left'.1 x2) (at_left'.1 y2)
      have b : 2 * meetN fx fy (fx + vx + vx) (fy + vy + vy) lx ly mx my ≤ meetD fx fy (fx + vx + vx) (fy + vy + vy) lx ly mx my := by
        -- s ≤ t / 2 ≤ 1 / 2
        have c : meetN fx fy (fx + vx) (fy + vy) lx ly mx my * meetD fx fy (fx + vx + vx) (fy + vy + vy) lx ly mx my ≤ meetD fx fy (fx + vx) (fy + vy) lx ly mx my * meetD fx fy (fx + vx + vx) (fy + vy + vy) lx ly mx my := Int.mul_le_mul_of_nonneg_right e4 (by omega)
        refine Int.le_of_mul_le_mul_right (a := meetD fx fy (fx + vx) (fy + vy) lx ly mx my) ?_ (by omega)
        grind
      have d := L' _ _ d1 (by omega) b (at_left.1 x1) (at_left.1 y1)
      refine Int.le_antisymm a (Int.le_trans d (Int.le_of_eq ?_))
      rw [Int.mul_comm 2 (meetN fx fy (fx + vx + vx) (fy + vy + vy) lx ly mx my), Int.mul_assoc]
    · rw [F.1] at h1; cases h1
  · rw [W.1] at h0; cases h0

theorem ahead_same {n d n' d' : Int} (h : n * d' = n' * d) : ahead n d n' d' = false ∧ ahead n' d' n d = false := by
  unfold ahead; rw [h]; simp
end Bx
end Go.Proofs.Ytoehofphklhecaa

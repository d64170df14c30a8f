/- The plain functions of layer 3 (boxes, and what a way meets) and what follows of them; no Go in sight. -/
import Derived.Test.YtbfffgnalopfbaaVecPlain
namespace Go.Proofs.Ytbfffgnalopfbaa
set_option linter.unusedVariables false
namespace Bx

def has (l m n : Int) : Bool := decide (l ≤ n) && decide (n ≤ m)
def laps (l m l' m' : Int) : Bool := decide (l < m') && decide (l' < m)
def formed (lx ly mx my : Int) : Bool := Vc.formedB lx ly && Vc.formedB mx my && decide (lx ≤ mx) && decide (ly ≤ my)
def inB (px py lx ly mx my : Int) : Bool := formed lx ly mx my && has lx mx px && has ly my py
def overlap (lx ly mx my lx' ly' mx' my' : Int) : Bool := formed lx ly mx my && formed lx' ly' mx' my' && laps lx mx lx' mx' && laps ly my ly' my'
/-- may it be a time? -/
def right (n d : Int) : Bool := decide (1 ≤ d) && decide (d ≤ 1073741824) && decide (0 ≤ n) && decide (n ≤ 1073741824)
def ahead (n d n' d' : Int) : Bool := right n d && right n' d' && decide (n * d' < n' * d)

/-- a stay: from its first time to its last one -/
structure St where
  ok : Bool
  fn : Int
  fd : Int
  ln : Int
  ld : Int
/-- the stay of a way that leads up -/
def up (l m f t : Int) : St :=
  if m < f ∨ t < l then ⟨false, 0, 0, 0, 0⟩
  else ⟨true, if f < l then l - f else 0, if f < l then t - f else 1, if m < t then m - f else 1, if m < t then t - f else 1⟩
def st (l m f t : Int) : St := if t < f then up (-m) (-l) (-f) (-t) else up l m f t

/-- the later one of both times, the first if they are the same -/
def laterN (n d n' d' : Int) : Int := if ahead n d n' d' then n' else n
def laterD (n d n' d' : Int) : Int := if ahead n d n' d' then d' else d
/-- when both are there -/
def metOk (x y : St) : Bool :=
  x.ok && y.ok && !(ahead x.ln x.ld (laterN x.fn x.fd y.fn y.fd) (laterD x.fn x.fd y.fn y.fd)) && !(ahead y.ln y.ld (laterN x.fn x.fd y.fn y.fd) (laterD x.fn x.fd y.fn y.fd))
def metN (x y : St) : Int := if metOk x y then laterN x.fn x.fd y.fn y.fd else 0
def metD (x y : St) : Int := if metOk x y then laterD x.fn x.fd y.fn y.fd else 0
def may (fx fy tx ty lx ly mx my : Int) : Bool := Vc.formedB fx fy && Vc.formedB tx ty && formed lx ly mx my
def meetOk (fx fy tx ty lx ly mx my : Int) : Bool := may fx fy tx ty lx ly mx my && metOk (st lx mx fx tx) (st ly my fy ty)
def meetN (fx fy tx ty lx ly mx my : Int) : Int := if may fx fy tx ty lx ly mx my then metN (st lx mx fx tx) (st ly my fy ty) else 0
def meetD (fx fy tx ty lx ly mx my : Int) : Int := if may fx fy tx ty lx ly mx my then metD (st lx mx fx tx) (st ly my fy ty) else 0

/-! ### what the words say -/
theorem formed_iff {lx ly mx my : Int} : formed lx ly mx my = true ↔ ((-134217728 ≤ lx ∧ lx ≤ 134217728) ∧ (-134217728 ≤ ly ∧ ly ≤ 134217728)) ∧ ((-134217728 ≤ mx ∧ mx ≤ 134217728) ∧ (-134217728 ≤ my ∧ my ≤ 134217728)) ∧ lx ≤ mx ∧ ly ≤ my := by
  simp only [formed, Bool.and_eq_true, Vc.formedB_iff, decide_eq_true_eq]; omega
theorem may_iff {fx fy tx ty lx ly mx my : Int} : may fx fy tx ty lx ly mx my = true ↔ ((-134217728 ≤ fx ∧ fx ≤ 134217728) ∧ (-134217728 ≤ fy ∧ fy ≤ 134217728)) ∧ ((-134217728 ≤ tx ∧ tx ≤ 134217728) ∧ (-134217728 ≤ ty ∧ ty ≤ 134217728)) ∧ formed lx ly mx my = true := by
  simp only [may, Bool.and_eq_true, Vc.formedB_iff, and_assoc]
theorem right_iff {n d : Int} : right n d = true ↔ 1 ≤ d ∧ d ≤ 1073741824 ∧ 0 ≤ n ∧ n ≤ 1073741824 := by
  simp only [right, Bool.and_eq_true, decide_eq_true_eq]; omega
theorem has_iff {l m n : Int} : has l m n = true ↔ l ≤ n ∧ n ≤ m := by simp [has]
theorem inB_iff {px py lx ly mx my : Int} : inB px py lx ly mx my = true ↔ formed lx ly mx my = true ∧ (lx ≤ px ∧ px ≤ mx) ∧ (ly ≤ py ∧ py ≤ my) := by
  simp only [inB, Bool.and_eq_true, has_iff, and_assoc]
theorem ahead_of {n d n' d' : Int} (h : right n d = true) (h' : right n' d' = true) : ahead n d n' d' = decide (n * d' < n' * d) := by
  simp [ahead, h, h']
/-- products of times fit -/
theorem mul_fit {a b : Int} (h1 : 0 ≤ a) (h2 : a ≤ 1073741824) (h3 : 0 ≤ b) (h4 : b ≤ 1073741824) : 0 ≤ a * b ∧ a * b ≤ 1152921504606846976 :=
  ⟨Int.mul_nonneg h1 h3, Int.mul_le_mul h2 h4 h3 (by omega)⟩

/-! ### fractions -/
theorem frac_trans {n1 d1 n2 d2 n3 d3 : Int} (p1 : 0 < d1) (p2 : 0 < d2) (p3 : 0 < d3) (h : n1 * d2 ≤ n2 * d1) (h' : n2 * d3 ≤ n3 * d2) : n1 * d3 ≤ n3 * d1 := by
  have a := Int.mul_le_mul_of_nonneg_right h (Int.le_of_lt p3)
  have b := Int.mul_le_mul_of_nonneg_right h' (Int.le_of_lt p1)
  refine Int.le_of_mul_le_mul_right ?_ p2
  grind

/-! ### a stay -/
/-- is a number on its way within two others, at the time n / d? -/
def at1 (l m f t n d : Int) : Prop := l * d ≤ f * d + (t - f) * n ∧ f * d + (t - f) * n ≤ m * d

theorem up_iff {l m f t n d : Int} (hft : f ≤ t) (hd : 1 ≤ d) (h0 : 0 ≤ n) (h1 : n ≤ d) :
    at1 l m f t n d ↔ (up l m f t).ok = true ∧ (up l m f t).fn * d ≤ n * (up l m f t).fd ∧ n * (up l m f t).ld ≤ (up l m f t).ln * d := by
  have p1 : 0 ≤ (t - f) * n := Int.mul_nonneg (by omega) h0
  have p2 : 0 ≤ (t - f) * (d - n) := Int.mul_nonneg (by omega) (by omega)
  unfold at1 up
  constructor
  · rintro ⟨a, b⟩
    have c1 : f ≤ m := by
      refine Int.le_of_mul_le_mul_right (a := d) ?_ (by omega); grind
    have c2 : l ≤ t := by
      refine Int.le_of_mul_le_mul_right (a := d) ?_ (by omega); grind
    rw [if_neg (by omega)]
    refine ⟨rfl, ?_, ?_⟩ <;> dsimp only
    · split <;> grind
    · split <;> grind
  · rintro ⟨a, b, c⟩
    by_cases hh : m < f ∨ t < l
    · rw [if_pos hh] at a; cases a
    · rw [if_neg hh] at b c
      dsimp only at b c
      constructor
      · by_cases g : f < l
        · rw [if_pos g, if_pos g] at b; grind
        · have := Int.mul_le_mul_of_nonneg_right (show l ≤ f by omega) (show 0 ≤ d by omega); grind
      · by_cases g : m < t
        · rw [if_pos g, if_pos g] at c; grind
        · have := Int.mul_le_mul_of_nonneg_right (show t ≤ m by omega) (show 0 ≤ d by omega); grind

theorem at1_turn {l m f t n d : Int} : at1 (-m) (-l) (-f) (-t) n d ↔ at1 l m f t n d := by
  unfold at1; constructor <;> (rintro ⟨a, b⟩; constructor <;> grind)

theorem st_iff {l m f t n d : Int} (hd : 1 ≤ d) (h0 : 0 ≤ n) (h1 : n ≤ d) :
    at1 l m f t n d ↔ (st l m f t).ok = true ∧ (st l m f t).fn * d ≤ n * (st l m f t).fd ∧ n * (st l m f t).ld ≤ (st l m f t).ln * d := by
  unfold st
  split
  · rw [← at1_turn]; exact up_iff (by omega) hd h0 h1
  · exact up_iff (by omega) hd h0 h1

theorem up_fits {l m f t : Int} (hft : f ≤ t) (hok : (up l m f t).ok = true) (hw : t - f ≤ 1073741824) :
    (1 ≤ (up l m f t).fd ∧ (up l m f t).fd ≤ 1073741824 ∧ 0 ≤ (up l m f t).fn ∧ (up l m f t).fn ≤ (up l m f t).fd) ∧ (1 ≤ (up l m f t).ld ∧ (up l m f t).ld ≤ 1073741824 ∧ 0 ≤ (up l m f t).ln ∧ (up l m f t).ln ≤ (up l m f t).ld) := by
  unfold up at hok ⊢
  by_cases hh : m < f ∨ t < l
  · rw [if_pos hh] at hok; cases hok
  · rw [if_neg hh]; dsimp only; repeat' split
    all_goals omega
theorem st_fits {l m f t : Int} (hok : (st l m f t).ok = true) (hw : t - f ≤ 1073741824) (hw' : f - t ≤ 1073741824) :
    (1 ≤ (st l m f t).fd ∧ (st l m f t).fd ≤ 1073741824 ∧ 0 ≤ (st l m f t).fn ∧ (st l m f t).fn ≤ (st l m f t).fd) ∧ (1 ≤ (st l m f t).ld ∧ (st l m f t).ld ≤ 1073741824 ∧ 0 ≤ (st l m f t).ln ∧ (st l m f t).ln ≤ (st l m f t).ld) := by
  unfold st at hok ⊢
  split
  · rw [if_pos (by assumption)] at hok; exact up_fits (by omega) hok (by omega)
  · rw [if_neg (by assumption)] at hok; exact up_fits (by omega) hok (by omega)

/-! ### what is met -/
theorem met_all {l m f t l' m' f' t' : Int} (b1 : t - f ≤ 1073741824) (b2 : f - t ≤ 1073741824) (b3 : t' - f' ≤ 1073741824) (b4 : f' - t' ≤ 1073741824) :
    (metOk (st l m f t) (st l' m' f' t') = true ∧
      (1 ≤ metD (st l m f t) (st l' m' f' t') ∧ metD (st l m f t) (st l' m' f' t') ≤ 1073741824 ∧ 0 ≤ metN (st l m f t) (st l' m' f' t') ∧ metN (st l m f t) (st l' m' f' t') ≤ metD (st l m f t) (st l' m' f' t')) ∧
      at1 l m f t (metN (st l m f t) (st l' m' f' t')) (metD (st l m f t) (st l' m' f' t')) ∧ at1 l' m' f' t' (metN (st l m f t) (st l' m' f' t')) (metD (st l m f t) (st l' m' f' t')) ∧
      ∀ n d : Int, 1 ≤ d → 0 ≤ n → n ≤ d → at1 l m f t n d → at1 l' m' f' t' n d → metN (st l m f t) (st l' m' f' t') * d ≤ n * metD (st l m f t) (st l' m' f' t')) ∨
    (metOk (st l m f t) (st l' m' f' t') = false ∧ metN (st l m f t) (st l' m' f' t') = 0 ∧ metD (st l m f t) (st l' m' f' t') = 0 ∧
      ∀ n d : Int, 1 ≤ d → 0 ≤ n → n ≤ d → at1 l m f t n d → at1 l' m' f' t' n d → False) := by
  have X := @st_iff l m f t
  have Y := @st_iff l' m' f' t'
  have FX := @st_fits l m f t
  have FY := @st_fits l' m' f' t'
  generalize st l m f t = x at *
  generalize st l' m' f' t' = y at *
  cases hx : x.ok with
  | false => right; simp only [metOk, metN, metD, hx]; refine ⟨rfl, rfl, rfl, ?_⟩; intro n d h1 h2 h3 h4 h5; have := ((X h1 h2 h3).1 h4).1; rw [hx] at this; cases this
  | true =>
    cases hy : y.ok with
    | false => right; simp only [metOk, metN, metD, hx, hy]; refine ⟨rfl, rfl, rfl, ?_⟩; intro n d h1 h2 h3 h4 h5; have := ((Y h1 h2 h3).1 h5).1; rw [hy] at this; cases this
    | true =>
      obtain ⟨⟨x1, x2, x3, x4⟩, x5, x6, x7, x8⟩ := FX hx b1 b2
      obtain ⟨⟨y1, y2, y3, y4⟩, y5, y6, y7, y8⟩ := FY hy b3 b4
      have rx : Bx.right x.fn x.fd = true := right_iff.2 (by omega)
      have ry : Bx.right y.fn y.fd = true := right_iff.2 (by omega)
      have rx' : Bx.right x.ln x.ld = true := right_iff.2 (by omega)
      have ry' : Bx.right y.ln y.ld = true := right_iff.2 (by omega)
      -- the later one of both
      have hL : ∃ N D : Int, laterN x.fn x.fd y.fn y.fd = N ∧ laterD x.fn x.fd y.fn y.fd = D ∧ 1 ≤ D ∧ D ≤ 1073741824 ∧ 0 ≤ N ∧ N ≤ D ∧ x.fn * D ≤ N * x.fd ∧ y.fn * D ≤ N * y.fd ∧ ((N = x.fn ∧ D = x.fd) ∨ (N = y.fn ∧ D = y.fd)) := by
        unfold laterN laterD
        rw [ahead_of rx ry]
        by_cases g : x.fn * y.fd < y.fn * x.fd
        · rw [if_pos (by simpa using g), if_pos (by simpa using g)]; exact ⟨_, _, rfl, rfl, y1, y2, y3, y4, by omega, by omega, Or.inr ⟨rfl, rfl⟩⟩
        · rw [if_neg (by simpa using g), if_neg (by simpa using g)]; exact ⟨_, _, rfl, rfl, x1, x2, x3, x4, by omega, by omega, Or.inl ⟨rfl, rfl⟩⟩
      obtain ⟨N, D, eN, eD, d1, d2, d3, d4, d5, d6, d7⟩ := hL
      have rN : Bx.right N D = true := right_iff.2 (by omega)
      simp only [metN, metD, metOk, hx, hy, eN, eD, Bool.true_and, ahead_of rx' rN, ahead_of ry' rN]
      have least : ∀ n d : Int, 1 ≤ d → 0 ≤ n → n ≤ d → at1 l m f t n d → at1 l' m' f' t' n d → N * d ≤ n * D := by
        intro n d h1 h2 h3 h4 h5
        have A := ((X h1 h2 h3).1 h4).2.1
        have B := ((Y h1 h2 h3).1 h5).2.1
        rcases d7 with ⟨rfl, rfl⟩ | ⟨rfl, rfl⟩ <;> assumption
      by_cases g1 : x.ln * D < N * x.ld
      · right
        simp only [g1, decide_true, Bool.not_true, Bool.false_and]
        refine ⟨trivial, rfl, rfl, ?_⟩
        intro n d h1 h2 h3 h4 h5
        have A := ((X h1 h2 h3).1 h4).2.2
        have B := least n d h1 h2 h3 h4 h5
        have := frac_trans (n1 := N) (d1 := D) (n2 := n) (d2 := d) (n3 := x.ln) (d3 := x.ld) (by omega) (by omega) (by omega) B A
        omega
      · by_cases g2 : y.ln * D < N * y.ld
        · right
          simp only [g1, g2, decide_true, decide_false, Bool.not_true, Bool.not_false, Bool.true_and]
          refine ⟨trivial, rfl, rfl, ?_⟩
          intro n d h1 h2 h3 h4 h5
          have A := ((Y h1 h2 h3).1 h5).2.2
          have B := least n d h1 h2 h3 h4 h5
          have := frac_trans (n1 := N) (d1 := D) (n2 := n) (d2 := d) (n3 := y.ln) (d3 := y.ld) (by omega) (by omega) (by omega) B A
          omega
        · left
          simp only [g1, g2, decide_false, Bool.not_false, Bool.true_and, if_true]
          exact ⟨trivial, ⟨d1, d2, d3, d4⟩, (X d1 d3 d4).2 ⟨hx, d5, by omega⟩, (Y d1 d3 d4).2 ⟨hy, d6, by omega⟩, least⟩
end Bx
end Go.Proofs.Ytbfffgnalopfbaa

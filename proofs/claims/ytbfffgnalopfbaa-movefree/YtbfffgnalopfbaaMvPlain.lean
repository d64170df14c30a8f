/- How one moves: steps of players and of balls. Plain functions, and their laws. -/
import Derived.Test.YtbfffgnalopfbaaTilFree
import Derived.Test.YtbfffgnalopfbaaEntPlain
namespace Go.Proofs.Ytbfffgnalopfbaa.Mv
set_option linter.unusedVariables false

/-- the box around a place -/
def boxAt (x y : Int) : Ti.Bx := ⟨Fx.sub x 24576, Fx.sub y 24576, Fx.add x 24576, Fx.add y 24576⟩
def stands (m : Ti.M) (x y : Int) : Bool := Ti.freeB m (boxAt x y)
def down (n : Int) : Int := n / 127
/-- where one comes to, in one direction and then in the other -/
def goX (m : Ti.M) (x y d : Int) : Int := if stands m (x + d) y = true then x + d else x
def goY (m : Ti.M) (x y d : Int) : Int := if stands m x (y + d) = true then y + d else y
/-- whether a player walks -/
def walks (e : En.E) (mx my : Int) : Bool := decide (En.Formed e) && (decide (e.kind = 1) && (!decide (e.h = 0) && (!decide (mx = -128) && !decide (my = -128))))
def rolls (e : En.E) : Bool := decide (En.Formed e) && decide (e.kind = 2)
def stepped (m : Ti.M) (e : En.E) (vx vy : Int) : En.E := ⟨e.id, e.kind, goX m e.ax e.ay vx, goY m (goX m e.ax e.ay vx) e.ay vy, vx, vy, e.h, e.t⟩
def walk (m : Ti.M) (e : En.E) (mx my : Int) : En.E := if walks e mx my = true then stepped m e (down (mx * 16384)) (down (my * 16384)) else e
def turnX (m : Ti.M) (x y d : Int) : Int := if stands m (x + d) y = true then d else -d
def turnY (m : Ti.M) (x y d : Int) : Int := if stands m x (y + d) = true then d else -d
def rolled (m : Ti.M) (e : En.E) : En.E := ⟨e.id, e.kind, goX m e.ax e.ay e.vx, goY m (goX m e.ax e.ay e.vx) e.ay e.vy, turnX m e.ax e.ay e.vx, turnY m (goX m e.ax e.ay e.vx) e.ay e.vy, e.h, e.t⟩
def roll (m : Ti.M) (e : En.E) : En.E := if rolls e = true then rolled m e else e

theorem hold_box {x : Int} (h0 : 0 ≤ Fx.sub x 24576) (h1 : Fx.add x 24576 ≤ 2097152) : 24576 ≤ x ∧ x ≤ 2072576 ∧ Fx.sub x 24576 = x - 24576 ∧ Fx.add x 24576 = x + 24576 := by
  have h24 : Fx.hold 24576 = 24576 := Fx.hold_of (by omega) (by omega)
  unfold Fx.sub at h0 ⊢
  unfold Fx.add at h1 ⊢
  rw [h24] at h0 h1 ⊢
  have b0 := Fx.hold_lo x
  have b1 := Fx.hold_hi x
  have s0 : 24576 ≤ Fx.hold x := by
    by_cases h : 24576 ≤ Fx.hold x
    · exact h
    · by_cases h' : -2147483648 ≤ Fx.hold x - 24576
      · rw [Fx.hold_of h' (by omega)] at h0; omega
      · rw [Fx.hold_below (by omega)] at h0; omega
  have s2 : Fx.hold x ≤ 2072576 := by
    by_cases h : Fx.hold x + 24576 ≤ 2147483647
    · rw [Fx.hold_of (by omega) h] at h1; omega
    · rw [Fx.hold_above (by omega)] at h1; omega
  have s3 : Fx.hold x = x := by
    by_cases h : x < -2147483648
    · rw [Fx.hold_below h] at s0; omega
    · by_cases h' : 2147483647 < x
      · rw [Fx.hold_above h'] at s2; omega
      · exact Fx.hold_of (by omega) (by omega)
  rw [s3] at s0 s2 ⊢
  rw [Fx.hold_of (x := x + 24576) (by omega) (by omega), Fx.hold_of (x := x - 24576) (by omega) (by omega)]
  omega
/-- who stands, stands there -/
theorem stands_box {m : Ti.M} {x y : Int} (h : stands m x y = true) : (24576 ≤ x ∧ x ≤ 2072576) ∧ (24576 ≤ y ∧ y ≤ 2072576) ∧ boxAt x y = ⟨x - 24576, y - 24576, x + 24576, y + 24576⟩ := by
  have hf := (Ti.free_is m _).1 h
  obtain ⟨d1, d2, d3, d4, _⟩ := hf.1.1
  obtain ⟨w1, w2, w3, w4, w5, w6⟩ := hf.2.1
  have w3' : 0 ≤ Fx.sub x 24576 := w3
  have w4' : 0 ≤ Fx.sub y 24576 := w4
  have w5' : Fx.add x 24576 ≤ m.W * 65536 := w5
  have w6' : Fx.add y 24576 ≤ m.H * 65536 := w6
  obtain ⟨a1, a2, a3, a4⟩ := hold_box w3' (by omega)
  obtain ⟨b1, b2, b3, b4⟩ := hold_box w4' (by omega)
  refine ⟨⟨a1, a2⟩, ⟨b1, b2⟩, ?_⟩
  unfold boxAt
  rw [a3, a4, b3, b4]
theorem box_small {x y : Int} (hx : 0 ≤ x ∧ x ≤ 4000000) (hy : 0 ≤ y ∧ y ≤ 4000000) : boxAt x y = ⟨x - 24576, y - 24576, x + 24576, y + 24576⟩ := by
  unfold boxAt Fx.sub Fx.add
  rw [Fx.hold_of (x := x) (by omega) (by omega), Fx.hold_of (x := y) (by omega) (by omega), Fx.hold_of (x := 24576) (by omega) (by omega), Fx.hold_of (by omega) (by omega), Fx.hold_of (by omega) (by omega), Fx.hold_of (by omega) (by omega), Fx.hold_of (by omega) (by omega)]

theorem goX_stands {m : Ti.M} {x y d : Int} (h : stands m x y = true) : stands m (goX m x y d) y = true := by
  unfold goX
  split
  · rename_i h1; exact h1
  · exact h
theorem goY_stands {m : Ti.M} {x y d : Int} (h : stands m x y = true) : stands m x (goY m x y d) = true := by
  unfold goY
  split
  · rename_i h1; exact h1
  · exact h
theorem goX_far {m : Ti.M} {x y d : Int} : goX m x y d = x + d ∨ goX m x y d = x := by unfold goX; split <;> simp
theorem goY_far {m : Ti.M} {x y d : Int} : goY m x y d = y + d ∨ goY m x y d = y := by unfold goY; split <;> simp
theorem down_in {n : Int} (h0 : -127 ≤ n) (h1 : n ≤ 127) : -16384 ≤ down (n * 16384) ∧ down (n * 16384) ≤ 16384 := by unfold down; omega
theorem walks_iff {e : En.E} {mx my : Int} : walks e mx my = true ↔ En.Formed e ∧ e.kind = 1 ∧ e.h ≠ 0 ∧ mx ≠ -128 ∧ my ≠ -128 := by
  unfold walks
  rw [Bool.and_eq_true, Bool.and_eq_true, Bool.and_eq_true, Bool.and_eq_true, decide_eq_true_iff, decide_eq_true_iff, Bool.not_eq_true', Bool.not_eq_true', Bool.not_eq_true', decide_eq_false_iff_not, decide_eq_false_iff_not, decide_eq_false_iff_not]
theorem rolls_iff {e : En.E} : rolls e = true ↔ En.Formed e ∧ e.kind = 2 := by
  unfold rolls
  rw [Bool.and_eq_true, decide_eq_true_iff, decide_eq_true_iff]
/-- who stands free stands free behind a step, and is no further than Speed -/
theorem walk_free {m : Ti.M} {e : En.E} {mx my : Int} (h : stands m e.ax e.ay = true) (hx : -128 ≤ mx ∧ mx ≤ 127) (hy : -128 ≤ my ∧ my ≤ 127) :
    stands m (walk m e mx my).ax (walk m e mx my).ay = true ∧ (-16384 ≤ (walk m e mx my).ax - e.ax ∧ (walk m e mx my).ax - e.ax ≤ 16384) ∧ (-16384 ≤ (walk m e mx my).ay - e.ay ∧ (walk m e mx my).ay - e.ay ≤ 16384) ∧ (walk m e mx my).id = e.id ∧ (walk m e mx my).h = e.h ∧ (walk m e mx my).t = e.t := by
  unfold walk
  by_cases hw : walks e mx my = true
  · rw [if_pos hw]
    obtain ⟨_, _, _, h1, h2⟩ := walks_iff.1 hw
    have d1 := down_in (n := mx) (by omega) (by omega)
    have d2 := down_in (n := my) (by omega) (by omega)
    refine ⟨goY_stands (goX_stands h), ?_, ?_, rfl, rfl, rfl⟩
    · show -16384 ≤ goX m e.ax e.ay (down (mx * 16384)) - e.ax ∧ goX m e.ax e.ay (down (mx * 16384)) - e.ax ≤ 16384
      rcases goX_far (m := m) (x := e.ax) (y := e.ay) (d := down (mx * 16384)) with e1 | e1 <;> rw [e1] <;> omega
    · show -16384 ≤ goY m (goX m e.ax e.ay (down (mx * 16384))) e.ay (down (my * 16384)) - e.ay ∧ goY m (goX m e.ax e.ay (down (mx * 16384))) e.ay (down (my * 16384)) - e.ay ≤ 16384
      rcases goY_far (m := m) (x := goX m e.ax e.ay (down (mx * 16384))) (y := e.ay) (d := down (my * 16384)) with e1 | e1 <;> rw [e1] <;> omega
  · rw [if_neg hw]
    exact ⟨h, by omega, by omega, rfl, rfl, rfl⟩
/-- a step's entity has numbers that may be -/
theorem walk_wf {m : Ti.M} {e : En.E} {mx my : Int} (he : e.wf) (hx : -128 ≤ mx ∧ mx ≤ 127) (hy : -128 ≤ my ∧ my ≤ 127) : (walk m e mx my).wf := by
  unfold walk
  by_cases hw : walks e mx my = true
  · rw [if_pos hw]
    obtain ⟨hf, _, _, h1, h2⟩ := walks_iff.1 hw
    have d1 := down_in (n := mx) (by omega) (by omega)
    have d2 := down_in (n := my) (by omega) (by omega)
    obtain ⟨q1, q2, q3, q4, q5, q6, q7, q8⟩ := he
    obtain ⟨_, ⟨a1, a2, a3, a4⟩, _⟩ := hf
    have g1 := goX_far (m := m) (x := e.ax) (y := e.ay) (d := down (mx * 16384))
    have g2 := goY_far (m := m) (x := goX m e.ax e.ay (down (mx * 16384))) (y := e.ay) (d := down (my * 16384))
    refine ⟨q1, q2, ?_, ?_, ?_, ?_, q7, q8⟩
    · show En.I64 (goX m e.ax e.ay (down (mx * 16384))); unfold En.I64; omega
    · show En.I64 (goY m (goX m e.ax e.ay (down (mx * 16384))) e.ay (down (my * 16384))); unfold En.I64; omega
    · show En.I64 (down (mx * 16384)); unfold En.I64; omega
    · show En.I64 (down (my * 16384)); unfold En.I64; omega
  · rw [if_neg hw]; exact he
theorem roll_wf {m : Ti.M} {e : En.E} (he : e.wf) : (roll m e).wf := by
  unfold roll
  by_cases hw : rolls e = true
  · rw [if_pos hw]
    obtain ⟨hf, _⟩ := rolls_iff.1 hw
    obtain ⟨q1, q2, q3, q4, q5, q6, q7, q8⟩ := he
    obtain ⟨_, ⟨a1, a2, a3, a4⟩, ⟨b1, b2, b3, b4⟩, _⟩ := hf
    have g1 := goX_far (m := m) (x := e.ax) (y := e.ay) (d := e.vx)
    have g2 := goY_far (m := m) (x := goX m e.ax e.ay e.vx) (y := e.ay) (d := e.vy)
    refine ⟨q1, q2, ?_, ?_, ?_, ?_, q7, q8⟩
    · show En.I64 (goX m e.ax e.ay e.vx); unfold En.I64; omega
    · show En.I64 (goY m (goX m e.ax e.ay e.vx) e.ay e.vy); unfold En.I64; omega
    · show En.I64 (turnX m e.ax e.ay e.vx); unfold En.I64 turnX; split <;> omega
    · show En.I64 (turnY m (goX m e.ax e.ay e.vx) e.ay e.vy); unfold En.I64 turnY; split <;> omega
  · rw [if_neg hw]; exact he
/-- a ball that stands free stands free behind a step; where it is blocked it is turned about, and stays -/
theorem roll_free {m : Ti.M} {e : En.E} (h : stands m e.ax e.ay = true) :
    stands m (roll m e).ax (roll m e).ay = true ∧ ((roll m e).vx = e.vx ∧ ((roll m e).ax = e.ax + e.vx ∨ (roll m e).ax = e.ax) ∨ (roll m e).vx = -e.vx ∧ (roll m e).ax = e.ax) ∧ ((roll m e).vy = e.vy ∧ ((roll m e).ay = e.ay + e.vy ∨ (roll m e).ay = e.ay) ∨ (roll m e).vy = -e.vy ∧ (roll m e).ay = e.ay) ∧ (rolls e = false → roll m e = e) := by
  unfold roll
  by_cases hw : rolls e = true
  · rw [if_pos hw]
    refine ⟨goY_stands (goX_stands h), ?_, ?_, fun hf => by rw [hw] at hf; cases hf⟩
    · show turnX m e.ax e.ay e.vx = e.vx ∧ (goX m e.ax e.ay e.vx = e.ax + e.vx ∨ goX m e.ax e.ay e.vx = e.ax) ∨ turnX m e.ax e.ay e.vx = -e.vx ∧ goX m e.ax e.ay e.vx = e.ax
      unfold turnX goX
      split
      · exact .inl ⟨rfl, .inl rfl⟩
      · exact .inr ⟨rfl, rfl⟩
    · show turnY m (goX m e.ax e.ay e.vx) e.ay e.vy = e.vy ∧ (goY m (goX m e.ax e.ay e.vx) e.ay e.vy = e.ay + e.vy ∨ goY m (goX m e.ax e.ay e.vx) e.ay e.vy = e.ay) ∨ turnY m (goX m e.ax e.ay e.vx) e.ay e.vy = -e.vy ∧ goY m (goX m e.ax e.ay e.vx) e.ay e.vy = e.ay
      unfold turnY goY
      split
      · exact .inl ⟨rfl, .inl rfl⟩
      · exact .inr ⟨rfl, rfl⟩
  · rw [if_neg hw]
    exact ⟨h, .inl ⟨rfl, .inr rfl⟩, .inl ⟨rfl, .inr rfl⟩, fun _ => rfl⟩
end Go.Proofs.Ytbfffgnalopfbaa.Mv

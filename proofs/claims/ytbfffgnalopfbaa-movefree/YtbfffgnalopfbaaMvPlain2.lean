/- How one moves in three small maps: shut in, in the open, and in a row of two tiles. -/
import Derived.Test.YtbfffgnalopfbaaMvPlain
namespace Go.Proofs.Ytbfffgnalopfbaa.Mv
set_option linter.unusedVariables false

def mapS : Ti.M := ⟨3, 3, [true, true, true, true, false, true, true, true, true], [(98304, 98304)]⟩
def mapO : Ti.M := ⟨3, 3, [false, false, false, false, false, false, false, false, false], [(98304, 98304)]⟩
def mapA : Ti.M := ⟨2, 1, [false, false], [(32768, 32768)]⟩
def textS : List UInt8 := [226, 150, 136, 226, 150, 136, 226, 150, 136, 10, 226, 150, 136, 226, 151, 142, 226, 150, 136, 10, 226, 150, 136, 226, 150, 136, 226, 150, 136, 10]
def textO : List UInt8 := [194, 183, 194, 183, 194, 183, 10, 194, 183, 226, 151, 142, 194, 183, 10, 194, 183, 194, 183, 194, 183, 10]
def textA : List UInt8 := [226, 151, 142, 194, 183, 10]
theorem readS : Ti.read textS = (some ⟨0, 3, 3, [true, true, true, true, false, true, true, true, true], [(98304, 98304)]⟩, 0) := by rfl
theorem readO : Ti.read textO = (some ⟨0, 3, 3, [false, false, false, false, false, false, false, false, false], [(98304, 98304)]⟩, 0) := by rfl
theorem readA : Ti.read textA = (some ⟨0, 2, 1, [false, false], [(32768, 32768)]⟩, 0) := by rfl
theorem formedS : Ti.Formed mapS := (Ti.read_formed readS).1
theorem formedO : Ti.Formed mapO := (Ti.read_formed readO).1
theorem formedA : Ti.Formed mapA := (Ti.read_formed readA).1
theorem wallS (x y : Nat) (hx : x < 3) (hy : y < 3) (h : ¬ (x = 1 ∧ y = 1)) : Ti.wall mapS x y = true := by
  have hx' : x = 0 ∨ x = 1 ∨ x = 2 := by omega
  have hy' : y = 0 ∨ y = 1 ∨ y = 2 := by omega
  rcases hx' with rfl | rfl | rfl <;> rcases hy' with rfl | rfl | rfl <;> first | rfl | exact absurd ⟨rfl, rfl⟩ h
theorem wallO (x y : Nat) (hx : x < 3) (hy : y < 3) : Ti.wall mapO x y = false := by
  have hx' : x = 0 ∨ x = 1 ∨ x = 2 := by omega
  have hy' : y = 0 ∨ y = 1 ∨ y = 2 := by omega
  rcases hx' with rfl | rfl | rfl <;> rcases hy' with rfl | rfl | rfl <;> rfl
theorem wallA (x y : Nat) (hx : x < 2) (hy : y < 1) : Ti.wall mapA x y = false := by
  have hx' : x = 0 ∨ x = 1 := by omega
  have hy' : y = 0 := by omega
  subst hy'
  rcases hx' with rfl | rfl <;> rfl
/-- shut in: one stands within the tile -/
theorem stays {x y : Int} (h : stands mapS x y = true) : (90112 ≤ x ∧ x ≤ 106496) ∧ (90112 ≤ y ∧ y ≤ 106496) := by
  obtain ⟨⟨a1, a2⟩, ⟨b1, b2⟩, hb⟩ := stands_box h
  have hf := (Ti.free_is mapS _).1 h
  rw [hb] at hf
  obtain ⟨_, ⟨w1, w2, w3, w4, w5, w6⟩, hw⟩ := hf
  have w5' : x + 24576 ≤ 3 * 65536 := w5
  have w6' : y + 24576 ≤ 3 * 65536 := w6
  have no : ∀ (i j : Nat), i < 3 → j < 3 → ¬ (i = 1 ∧ j = 1) → ¬ ((i : Int) * 65536 < x + 24576 ∧ x - 24576 < (i : Int) * 65536 + 65536 ∧ (j : Int) * 65536 < y + 24576 ∧ y - 24576 < (j : Int) * 65536 + 65536) :=
    fun i j hi hj hn ho => hw i j hi hj (wallS i j hi hj hn) ho
  have j0 : ∃ j : Nat, j < 3 ∧ (j : Int) * 65536 < y + 24576 ∧ y - 24576 < (j : Int) * 65536 + 65536 := ⟨((y - 24576) / 65536).toNat, by omega, by omega, by omega⟩
  have i0 : ∃ i : Nat, i < 3 ∧ (i : Int) * 65536 < x + 24576 ∧ x - 24576 < (i : Int) * 65536 + 65536 := ⟨((x - 24576) / 65536).toNat, by omega, by omega, by omega⟩
  obtain ⟨j, j1, j2, j3⟩ := j0
  obtain ⟨i, i1, i2, i3⟩ := i0
  have q0 := no 0 j (by omega) j1 (by omega)
  have q2 := no 2 j (by omega) j1 (by omega)
  have r0 := no i 0 i1 (by omega) (by omega)
  have r2 := no i 2 i1 (by omega) (by omega)
  refine ⟨⟨?_, ?_⟩, ?_, ?_⟩
  · by_cases hc : 90112 ≤ x
    · exact hc
    · exact absurd ⟨by omega, by omega, j2, j3⟩ q0
  · by_cases hc : x ≤ 106496
    · exact hc
    · exact absurd ⟨by omega, by omega, j2, j3⟩ q2
  · by_cases hc : 90112 ≤ y
    · exact hc
    · exact absurd ⟨i2, i3, by omega, by omega⟩ r0
  · by_cases hc : y ≤ 106496
    · exact hc
    · exact absurd ⟨i2, i3, by omega, by omega⟩ r2
theorem stands_of {m : Ti.M} {x y : Int} (hF : Ti.Formed m) (hx : 24576 ≤ x ∧ x + 24576 ≤ m.W * 65536) (hy : 24576 ≤ y ∧ y + 24576 ≤ m.H * 65536) (h : ∀ i j, i < m.W.toNat → j < m.H.toNat → Ti.wall m i j = true → ¬ Ti.Over i j ⟨x - 24576, y - 24576, x + 24576, y + 24576⟩) : stands m x y = true := by
  obtain ⟨d1, d2, d3, d4, _⟩ := hF.1
  refine (Ti.free_is m _).2 ?_
  rw [box_small (by omega) (by omega)]
  exact ⟨hF, ⟨by show x - 24576 ≤ x + 24576; omega, by show y - 24576 ≤ y + 24576; omega, by show 0 ≤ x - 24576; omega, by show 0 ≤ y - 24576; omega, hx.2, hy.2⟩, h⟩
/-- in the open -/
theorem opens {x y : Int} (hx : 24576 ≤ x ∧ x ≤ 172032) (hy : 24576 ≤ y ∧ y ≤ 172032) : stands mapO x y = true :=
  stands_of formedO ⟨hx.1, by show x + 24576 ≤ 3 * 65536; omega⟩ ⟨hy.1, by show y + 24576 ≤ 3 * 65536; omega⟩ fun i j hi hj hw => by
    rw [wallO i j hi hj] at hw
    cases hw
theorem row {x : Int} (hx : 24576 ≤ x ∧ x ≤ 106496) : stands mapA x 32768 = true :=
  stands_of formedA ⟨hx.1, by show x + 24576 ≤ 2 * 65536; omega⟩ ⟨by omega, by show (32768 : Int) + 24576 ≤ 1 * 65536; omega⟩ fun i j hi hj hw => by
    rw [wallA i j hi hj] at hw
    cases hw
theorem start_stays : stands mapS 98304 98304 = true :=
  stands_of formedS ⟨by omega, by show (98304 : Int) + 24576 ≤ 3 * 65536; omega⟩ ⟨by omega, by show (98304 : Int) + 24576 ≤ 3 * 65536; omega⟩ fun i j hi hj hw ho => by
    obtain ⟨h1, h2, h3, h4⟩ := ho
    have h1' : (i : Int) * 65536 < 98304 + 24576 := h1
    have h2' : (98304 : Int) - 24576 < (i : Int) * 65536 + 65536 := h2
    have h3' : (j : Int) * 65536 < 98304 + 24576 := h3
    have h4' : (98304 : Int) - 24576 < (j : Int) * 65536 + 65536 := h4
    obtain rfl : i = 1 := by omega
    obtain rfl : j = 1 := by omega
    cases hw
end Go.Proofs.Ytbfffgnalopfbaa.Mv

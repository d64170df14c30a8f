/- In the open one walks as one enters (MvL). -/
import Derived.Test.YtbfffgnalopfbaaMvLaw
namespace Go.Proofs.Ytbfffgnalopfbaa
open Go.RowKit
set_option linter.unusedVariables false

namespace Mv
theorem open_walk {ax ay vx vy mx my : Int} (hax : 49152 ≤ ax ∧ ax ≤ 147456) (hay : 49152 ≤ ay ∧ ay ≤ 147456) (hvx : -65536 ≤ vx ∧ vx ≤ 65536) (hvy : -65536 ≤ vy ∧ vy ≤ 65536) (hx : -127 ≤ mx ∧ mx ≤ 127) (hy : -127 ≤ my ∧ my ≤ 127) :
    walk mapO ⟨5, 1, ax, ay, vx, vy, 1, 0⟩ mx my = ⟨5, 1, ax + down (mx * 16384), ay + down (my * 16384), down (mx * 16384), down (my * 16384), 1, 0⟩ := by
  have d1 := down_in (n := mx) hx.1 hx.2
  have d2 := down_in (n := my) hy.1 hy.2
  have hF : En.Formed ⟨5, 1, ax, ay, vx, vy, 1, 0⟩ := ⟨.inl ⟨rfl, by show (1 : Int) ≤ 5; decide, by show (5 : Int) ≤ 8; decide, .inl ⟨by show (0 : Int) < 1; decide, rfl⟩⟩, ⟨by show -134217728 ≤ ax; omega, by show ax ≤ 134217728; omega, by show -134217728 ≤ ay; omega, by show ay ≤ 134217728; omega⟩, ⟨hvx.1, hvx.2, hvy.1, hvy.2⟩, by show (0 : Int) ≤ 1; decide, by show (1 : Int) ≤ 100; decide, by show (0 : Int) ≤ 0; decide, by show (0 : Int) ≤ 20; decide⟩
  have hw : walks ⟨5, 1, ax, ay, vx, vy, 1, 0⟩ mx my = true := walks_iff.2 ⟨hF, rfl, by show (1 : Int) ≠ 0; decide, by omega, by omega⟩
  have s1 : stands mapO (ax + down (mx * 16384)) ay = true := opens (by omega) (by omega)
  have s2 : stands mapO (ax + down (mx * 16384)) (ay + down (my * 16384)) = true := opens (by omega) (by omega)
  simp only [walk, hw, if_true, stepped, goX, goY, s1, s2]
/-- there and back again, but for what rounding takes -/
theorem down_back (n : Int) : -1 ≤ down (n * 16384) + down (-n * 16384) ∧ down (n * 16384) + down (-n * 16384) ≤ 0 := by unfold down; omega
theorem down_pos (n : Int) : (decide (0 < down (n * 16384)) == decide (0 < n)) = true := by
  have : 0 < down (n * 16384) ↔ 0 < n := by unfold down; omega
  simp [this]
theorem down_neg (n : Int) : (decide (down (n * 16384) < 0) == decide (n < 0)) = true := by
  have : down (n * 16384) < 0 ↔ n < 0 := by unfold down; omega
  simp [this]
theorem both {p q : Bool} (h : (p == q) = true) : (p = true ∧ q = true) ∨ (p = false ∧ q = false) := by cases p <;> cases q <;> simp_all
theorem down_zero : down (0 * 16384) = 0 := by decide
end Mv
end Go.Proofs.Ytbfffgnalopfbaa

/- What the laws of layer 11 ask of boxes whose numbers are written out (TiL). -/
import Derived.Test.YtecjfenpdpdanaaTilLaw
namespace Go.Proofs.Ytecjfenpdpdanaa
open Go.RowKit
set_option linter.unusedVariables false

namespace Ti
theorem freeB_iff {m : M} {b : Bx} : freeB m b = true ↔ Free m b := by
  constructor
  · intro h
    by_cases hf : Free m b
    · exact hf
    · rw [TiR.not_free hf] at h
      cases h
  · exact TiR.is_free
/-- the box just a tile is free just if it is no wall -/
theorem tile_free {m : M} (hF : Formed m) {x y : Nat} (hx : x < m.W.toNat) (hy : y < m.H.toNat) : (!(freeB m ⟨(x : Int) * 65536, (y : Int) * 65536, (x : Int) * 65536 + 65536, (y : Int) * 65536 + 65536⟩ == wallB m (x : Int) (y : Int))) = true := by
  obtain ⟨d1, d2, d3, d4, _⟩ := hF.1
  have hw : wallB m (x : Int) (y : Int) = wall m x y := by
    rw [Bool.eq_iff_iff, wallB_iff]
    unfold WallAt
    rw [Int.toNat_natCast, Int.toNat_natCast]
    constructor
    · rintro (h | h | h | h | h | h)
      · exact absurd hF h
      · omega
      · omega
      · omega
      · omega
      · exact h
    · intro h; exact .inr (.inr (.inr (.inr (.inr h))))
  have hf : freeB m ⟨(x : Int) * 65536, (y : Int) * 65536, (x : Int) * 65536 + 65536, (y : Int) * 65536 + 65536⟩ = !wall m x y := by
    rw [Bool.eq_iff_iff, freeB_iff]
    constructor
    · intro h
      cases hq : wall m x y with
      | false => rfl
      | true => exact absurd ⟨by show (x : Int) * 65536 < (x : Int) * 65536 + 65536; omega, by show (x : Int) * 65536 < (x : Int) * 65536 + 65536; omega, by show (y : Int) * 65536 < (y : Int) * 65536 + 65536; omega, by show (y : Int) * 65536 < (y : Int) * 65536 + 65536; omega⟩ (h.2.2 x y hx hy hq)
    · intro h
      have hq : wall m x y = false := by simpa using h
      refine ⟨hF, ⟨by show (x : Int) * 65536 ≤ (x : Int) * 65536 + 65536; omega, by show (y : Int) * 65536 ≤ (y : Int) * 65536 + 65536; omega, by show 0 ≤ (x : Int) * 65536; omega, by show 0 ≤ (y : Int) * 65536; omega, by show (x : Int) * 65536 + 65536 ≤ m.W * 65536; omega, by show (y : Int) * 65536 + 65536 ≤ m.H * 65536; omega⟩, ?_⟩
      rintro x' y' _ _ hw' ⟨h1, h2, h3, h4⟩
      have h1' : (x' : Int) * 65536 < (x : Int) * 65536 + 65536 := h1
      have h2' : (x : Int) * 65536 < (x' : Int) * 65536 + 65536 := h2
      have h3' : (y' : Int) * 65536 < (y : Int) * 65536 + 65536 := h3
      have h4' : (y : Int) * 65536 < (y' : Int) * 65536 + 65536 := h4
      obtain rfl : x' = x := by omega
      obtain rfl : y' = y := by omega
      rw [hq] at hw'
      cases hw'
  rw [hw, hf]
  cases wall m x y <;> rfl
/-- a point on its edge is free -/
theorem point_free {m : M} (hF : Formed m) {x y : Nat} (hx : x < m.W.toNat) (hy : y < m.H.toNat) : freeB m ⟨(x : Int) * 65536, (y : Int) * 65536, (x : Int) * 65536, (y : Int) * 65536⟩ = true := by
  obtain ⟨d1, d2, d3, d4, _⟩ := hF.1
  rw [freeB_iff]
  refine ⟨hF, ⟨Int.le_refl _, Int.le_refl _, by show 0 ≤ (x : Int) * 65536; omega, by show 0 ≤ (y : Int) * 65536; omega, by show (x : Int) * 65536 ≤ m.W * 65536; omega, by show (y : Int) * 65536 ≤ m.H * 65536; omega⟩, ?_⟩
  rintro x' y' _ _ _ ⟨h1, h2, _, _⟩
  have h1' : (x' : Int) * 65536 < (x : Int) * 65536 := h1
  have h2' : (x : Int) * 65536 < (x' : Int) * 65536 + 65536 := h2
  omega
theorem wall_left {m : M} (y : Int) : wallB m (-1) y = true := by
  rw [wallB_iff]
  exact .inr (.inl (by omega))
theorem wall_under {m : M} (x : Int) : wallB m x m.H = true := by
  rw [wallB_iff]
  exact .inr (.inr (.inr (.inr (.inl (by omega)))))
end Ti

namespace TiL
theorem u8_in {a : Int} (h : (Lit.int .u8 a).wf = true) : 0 ≤ a ∧ a < 256 := by
  simp [Lit.wf, IntKind.min, IntKind.max, IntKind.bits, IntKind.signed] at h; omega
theorem u16_in {a : Int} (h : (Lit.int .u16 a).wf = true) : 0 ≤ a ∧ a < 65536 := by
  simp [Lit.wf, IntKind.min, IntKind.max, IntKind.bits, IntKind.signed] at h; omega
theorem tmod_in {a : Int} {n : Nat} (ha : 0 ≤ a) (hn : 1 ≤ n) : ∃ k : Nat, a.tmod (n : Int) = (k : Int) ∧ k < n := by
  have h1 : a.tmod (n : Int) = a % (n : Int) := Int.tmod_eq_emod_of_nonneg ha
  have h2 := Int.emod_nonneg a (show (n : Int) ≠ 0 by omega)
  have h3 := Int.emod_lt_of_pos a (show (0 : Int) < (n : Int) by omega)
  exact ⟨(a.tmod (n : Int)).toNat, by rw [h1]; omega, by rw [h1]; omega⟩
theorem free_w (m : Ti.M) (oa : Option Addr) (ca : Nat) (ob : Option Addr) (cb : Nat) (x0 x1 x2 x3 : Int) (w : World) (h : MapAt m oa ob w) :
    Calls Try.prog 21 #[mapVal m oa ca ob cb, .agg #[.int .i64 x0, .int .i64 x1, .int .i64 x2, .int .i64 x3]] w fun e w' => e = .returned (.bool (Ti.freeB m ⟨x0, x1, x2, x3⟩)) ∧ Turned [] w w' :=
  TiW.free_any m oa ca ob cb ⟨x0, x1, x2, x3⟩ w h
theorem free_r (m : Ti.M) (oa : Option Addr) (ca : Nat) (ob : Option Addr) (cb : Nat) (x0 x1 x2 x3 : Int) (w : World) (h : MapAt m oa ob w) :
    Calls Try.prog 22 #[mapVal m oa ca ob cb, .agg #[.int .i64 x0, .int .i64 x1, .int .i64 x2, .int .i64 x3]] w fun e w' => e = .returned (.bool (Ti.freeB m ⟨x0, x1, x2, x3⟩)) ∧ Turned [] w w' :=
  TiR.free_any m oa ca ob cb ⟨x0, x1, x2, x3⟩ w h
/-- a quiet call out of a world that is kept -/
theorem quiet {f : FuncId} {args : Array Value} {W : World} {x : KeptW W} {v : Value} (h : Calls Try.prog f args x.u fun e w' => e = .returned v ∧ Turned [] x.u w') : Calls Try.prog f args x.u fun e w'' => e = .returned v ∧ ∃ y : KeptW W, w'' = y.u :=
  kept_call (h.mono fun r w' h => ⟨h.1, h.2.none⟩)
end TiL
end Go.Proofs.Ytecjfenpdpdanaa

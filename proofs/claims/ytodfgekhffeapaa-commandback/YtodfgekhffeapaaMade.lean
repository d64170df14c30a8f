/- 'make' of elements of several cells: what lies there. -/
import Derived.Test.YtodfgekhffeapaaPush
import Derived.OwnWalk
namespace Go.Proofs.Ytodfgekhffeapaa
open Go.RowKit
set_option linter.unusedVariables false

theorem made_flat {α : Type} {enc : α → List Value} {a : α} {sz n : Nat} (hs : (enc a).length = sz) (h0 : 0 < sz) : (madeCells (enc a).toArray (n * sz)).toList = (List.replicate n a).flatMap enc := by
  have hlen : ((List.replicate n a).flatMap enc).length = n * sz := by
    rw [List.length_flatMap]
    simp [hs]
  apply List.ext_getElem?
  intro i
  by_cases hi : i < n * sz
  · have hq : i / sz < n := by rw [Nat.div_lt_iff_lt_mul h0]; exact hi
    have hr : i % sz < sz := Nat.mod_lt _ h0
    have h1 := flat_at (f := enc) (l := List.replicate n a) (sz := sz) (i := i / sz) (j := i % sz) (a := a) (by intro b hb; rw [List.eq_of_mem_replicate hb]; exact hs) (by simp [hq]) hr
    have h2 : i / sz * sz + i % sz = i := by have := Nat.div_add_mod i sz; rw [Nat.mul_comm] at this; exact this
    rw [h2] at h1
    rw [h1]
    have h3 : i % sz < (enc a).length := by omega
    simp [madeCells, hi, hs, List.getElem?_eq_getElem h3]
  · have e1 : (madeCells (enc a).toArray (n * sz)).toList[i]? = none := List.getElem?_eq_none (by simp [madeCells]; omega)
    have e2 : ((List.replicate n a).flatMap enc)[i]? = none := List.getElem?_eq_none (by omega)
    rw [e1, e2]
/-- what 'make' made -/
theorem made_ownL {α : Type} {e : TypeId} {enc : α → List Value} {a : α} {sz n base : Nat} {z v : Value} {w : World} (h : w.ownsRow base e sz v n (madeCells z.cells (n * sz)).toList) (hz : z.cells = (enc a).toArray) (hs : (enc a).length = sz) (h0 : 0 < sz) : OwnL e sz enc v (List.replicate n a) w := by
  rw [hz, made_flat hs h0] at h
  unfold OwnL
  rw [List.length_replicate]
  refine ⟨h.1, ?_⟩
  rcases h.2 with hn | ⟨g, cap, cur, hv, hg, rest⟩
  · exact .inl hn
  · exact .inr ⟨g, cap, cur, hv, Nat.zero_le _, rest⟩
theorem grown_turned {w w' : World} (h : w.grownBy w' none) : Turned [] w w' := (Turned.refl [] w).grown h (by simp)
end Go.Proofs.Ytodfgekhffeapaa

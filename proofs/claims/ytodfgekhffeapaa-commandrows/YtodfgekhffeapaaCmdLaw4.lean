/- Parts of rows, in the laws of layer 9 (CmL). -/
import Derived.Test.YtodfgekhffeapaaCmdLaw2
namespace Go.Proofs.Ytodfgekhffeapaa
open Go.RowKit
set_option linter.unusedVariables false

namespace CmL
theorem first_get {l : List Cm.C} {c : Cm.C} (h : l[0]? = some c) : Cm.first l = c.n := by
  cases l with
  | nil => simp at h
  | cons d t => simp at h; subst h; rfl
theorem part_ahead {l : List Cm.C} {k : Nat} (h : Cm.row l = true) (h1 : 1 ≤ k) (hk : k ≤ l.length) : Cm.row (l.take k) = true := by
  obtain ⟨a, b, c⟩ := (Cm.row_iff l).1 h
  refine (Cm.row_iff _).2 ⟨by rw [List.length_take]; omega, by rw [List.length_take]; omega, ?_⟩
  have h0 := List.getElem?_eq_getElem (l := l) (i := 0) (by omega)
  have hf : Cm.first (l.take k) = Cm.first l := by
    rw [first_get h0]
    refine first_get ?_
    rw [List.getElem?_take_of_lt (by omega)]; exact h0
  intro i d hi
  have hl := (List.getElem?_eq_some_iff.1 hi).1
  rw [List.length_take] at hl
  rw [List.getElem?_take_of_lt (by omega)] at hi
  rw [hf]
  exact c i d hi
theorem part_behind {l : List Cm.C} {k : Nat} (h : Cm.row l = true) (hk : k < l.length) : Cm.row (l.drop k) = true := by
  obtain ⟨a, b, c⟩ := (Cm.row_iff l).1 h
  refine (Cm.row_iff _).2 ⟨by rw [List.length_drop]; omega, by rw [List.length_drop]; omega, ?_⟩
  have h0 := List.getElem?_eq_getElem hk
  have hf : Cm.first (l.drop k) = Cm.first l + k := by
    rw [← (c k _ h0).2]
    refine first_get ?_
    rw [List.getElem?_drop]; exact h0
  intro i d hi
  rw [List.getElem?_drop] at hi
  have := c (k + i) d hi
  exact ⟨this.1, by omega⟩
theorem part_gap {l : List Cm.C} {k : Nat} (h : Cm.row l = true) (h1 : 1 ≤ k) (hk : k + 1 < l.length) : Cm.row (l.take k ++ l.drop (k + 1)) = false := by
  obtain ⟨a, b, c⟩ := (Cm.row_iff l).1 h
  have h0 := List.getElem?_eq_getElem (l := l) (i := 0) (by omega)
  have hk1 := List.getElem?_eq_getElem hk
  have hlt : (l.take k).length = k := by rw [List.length_take]; omega
  have hf : Cm.first (l.take k ++ l.drop (k + 1)) = Cm.first l := by
    rw [first_get h0]
    refine first_get ?_
    rw [List.getElem?_append_left (by omega), List.getElem?_take_of_lt (by omega)]; exact h0
  refine Cm.row_not (i := k) (c := l[k + 1]) ?_ ?_
  · rw [List.getElem?_append_right (by omega), hlt, Nat.sub_self, List.getElem?_drop]
    exact hk1
  · rw [hf]
    rintro ⟨_, h2⟩
    have := (c (k + 1) _ hk1).2
    omega
theorem part_turned {l : List Cm.C} (h : Cm.row l = true) (h2 : 2 ≤ l.length) : Cm.row l.reverse = false := by
  obtain ⟨a, b, c⟩ := (Cm.row_iff l).1 h
  have e0 := List.getElem?_eq_getElem (l := l) (i := l.length - 1) (by omega)
  have e1 := List.getElem?_eq_getElem (l := l) (i := l.length - 2) (by omega)
  have r0 : l.reverse[0]? = some l[l.length - 1] := by
    rw [List.getElem?_reverse (by omega)]; exact e0
  have r1 : l.reverse[1]? = some l[l.length - 2] := by
    rw [List.getElem?_reverse (by omega), show l.length - 1 - 1 = l.length - 2 by omega]; exact e1
  refine Cm.row_not r1 ?_
  rw [first_get r0]
  rintro ⟨_, h3⟩
  have := (c _ _ e0).2
  have := (c _ _ e1).2
  omega
theorem row_drop {α : Type} {sz : Nat} {enc : α → List Value} {g off : Nat} {l : List α} {w : World} (h : RowOf sz enc (some ⟨g, off, none⟩) l w) (k : Nat) : RowOf sz enc (some ⟨g, off + k * sz, none⟩) (l.drop k) w := by
  intro i a hi
  rw [List.getElem?_drop] at hi
  obtain ⟨b, o, ho, hlt, hc⟩ := h (k + i) a hi
  simp at ho
  obtain ⟨rfl, rfl⟩ := ho
  refine ⟨g, off + k * sz, rfl, hlt, fun j u hu => ?_⟩
  have := hc j u hu
  rw [Nat.add_mul, ← Nat.add_assoc] at this
  exact this
/-- where an append's slice lies -/
theorem pushed {v v' : Value} {B : Nat} {w : World} (h : ∀ b ∈ blk v, B ≤ b) (hB : B ≤ w.heap.size) (hb : blk v' = blk v ∨ blk v' = [w.heap.size]) : ∀ b ∈ blk v', B ≤ b := by
  intro b hm
  rcases hb with e | e
  · rw [e] at hm; exact h b hm
  · rw [e] at hm; simp at hm; omega
theorem flat_cells {c : Cm.C} {cs : List Value} {b : Nat} {w : World} (he : cmEnc c = cs) (hb : b = w.heap.size) (t : TypeId) : ∀ j u, ([c].flatMap cmEnc)[j]? = some u → (w.alloc (.cells cs.toArray t)).cell? ⟨b, 0 + j, none⟩ = some u := by
  intro j u hj
  subst hb
  rw [Nat.zero_add]
  refine ((Struct.new w cs t).2 j u ?_).1
  rw [show [c].flatMap cmEnc = cs by simp [he]] at hj
  exact hj
theorem rev_take {l : List Cm.C} {j : Nat} {c : Cm.C} (h : l[l.length - 1 - j]? = some c) (hj : j < l.length) : l.reverse.take (j + 1) = l.reverse.take j ++ [c] := by
  rw [List.take_add_one, List.getElem?_reverse hj, h]
  rfl
end CmL
end Go.Proofs.Ytodfgekhffeapaa

/- Parts of lists of entities, in the laws of layer 10 (EnL). -/
import Derived.Test.YtjphcbcbaiifhaaEntLaw2
namespace Go.Proofs.Ytjphcbcbaiifhaa
open Go.RowKit
set_option linter.unusedVariables false

namespace EnL
theorem rises_lt {l : List En.E} (h : En.list l = true) : ∀ (n j : Nat) (d e : En.E), l[j]? = some d → l[j + 1 + n]? = some e → d.id < e.id
  | 0, j, d, e, hd, he => ((En.list_iff l).1 h (j + 1) e (by simpa using he)).2 d (by omega) (by simpa using hd)
  | n + 1, j, d, e, hd, he => by
    have hlt := (List.getElem?_eq_some_iff.1 he).1
    obtain ⟨c, hc⟩ : ∃ c, l[j + 1 + n]? = some c := ⟨_, List.getElem?_eq_getElem (by omega)⟩
    have h1 := rises_lt h n j d c hd hc
    have h2 := ((En.list_iff l).1 h (j + 1 + (n + 1)) e he).2 c (by omega) (by rw [show j + 1 + (n + 1) - 1 = j + 1 + n by omega]; exact hc)
    omega
theorem part_ahead {l : List En.E} (h : En.list l = true) (k : Nat) : En.list (l.take k) = true := by
  refine (En.list_iff _).2 ?_
  intro i e hi
  have hl := (List.getElem?_eq_some_iff.1 hi).1
  rw [List.length_take] at hl
  rw [List.getElem?_take_of_lt (by omega)] at hi
  have := (En.list_iff l).1 h i e hi
  refine ⟨this.1, fun d h0 hd => this.2 d h0 ?_⟩
  rw [List.getElem?_take_of_lt (by omega)] at hd
  exact hd
theorem part_behind {l : List En.E} (h : En.list l = true) (k : Nat) : En.list (l.drop k) = true := by
  refine (En.list_iff _).2 ?_
  intro i e hi
  rw [List.getElem?_drop] at hi
  have := (En.list_iff l).1 h (k + i) e hi
  refine ⟨this.1, fun d h0 hd => this.2 d (by omega) ?_⟩
  rw [List.getElem?_drop] at hd
  rw [show k + i - 1 = k + (i - 1) by omega]
  exact hd
theorem part_turned {l : List En.E} (h : En.list l = true) (h2 : 2 ≤ l.length) : En.list l.reverse = false := by
  have e0 := List.getElem?_eq_getElem (l := l) (i := l.length - 1) (by omega)
  have e1 := List.getElem?_eq_getElem (l := l) (i := l.length - 2) (by omega)
  have r0 : l.reverse[0]? = some l[l.length - 1] := by rw [List.getElem?_reverse (by omega)]; exact e0
  have r1 : l.reverse[1]? = some l[l.length - 2] := by
    rw [List.getElem?_reverse (by omega), show l.length - 1 - 1 = l.length - 2 by omega]; exact e1
  refine En.list_not r1 ?_
  rintro ⟨_, h3⟩
  have h4 := h3 _ (by omega) r0
  have h5 := rises_lt h 0 (l.length - 2) _ _ e1 (by rw [show l.length - 2 + 1 + 0 = l.length - 1 by omega]; exact e0)
  omega
theorem find_self {l : List En.E} (h : En.list l = true) {k : Nat} {e : En.E} (hk : l[k]? = some e) : En.find l e.id = (k : Int) := by
  refine En.find_at hk rfl ?_
  intro j d hj hd
  have := rises_lt h (k - j - 1) j d e hd (by rw [show j + 1 + (k - j - 1) = k by omega]; exact hk)
  omega
theorem find_ahead {l : List En.E} (h : En.list l = true) {k : Nat} {e : En.E} (hk : l[k]? = some e) : En.find (l.take k) e.id = -1 := by
  refine En.find_no ?_
  intro j d hd
  have hl := (List.getElem?_eq_some_iff.1 hd).1
  rw [List.length_take] at hl
  rw [List.getElem?_take_of_lt (by omega)] at hd
  have := rises_lt h (k - j - 1) j d e hd (by rw [show j + 1 + (k - j - 1) = k by omega]; exact hk)
  omega
theorem row_take {α : Type} {sz : Nat} {enc : α → List Value} {o : Option Addr} {l : List α} {w : World} (h : RowOf sz enc o l w) (k : Nat) : RowOf sz enc o (l.take k) w := by
  intro i a hi
  have hl := (List.getElem?_eq_some_iff.1 hi).1
  rw [List.length_take] at hl
  rw [List.getElem?_take_of_lt (by omega)] at hi
  exact h i a hi
theorem row_drop {α : Type} {sz : Nat} {enc : α → List Value} {g off : Nat} {l : List α} {w : World} (h : RowOf sz enc (some ⟨g, off, none⟩) l w) (k : Nat) : RowOf sz enc (some ⟨g, off + k * sz, none⟩) (l.drop k) w := by
  intro i a hi
  rw [List.getElem?_drop] at hi
  obtain ⟨b, o, ho, hlt, hc⟩ := h (k + i) a hi
  simp at ho
  obtain ⟨rfl, rfl⟩ := ho
  refine ⟨g, off + k * sz, rfl, hlt, fun j u hu => ?_⟩
  have := hc j u hu
  rw [Nat.add_mul, ← Nat.add_assoc] at this
  exact this
theorem pushed {v v' : Value} {B : Nat} {w : World} (h : ∀ b ∈ blk v, B ≤ b) (hB : B ≤ w.heap.size) (hb : blk v' = blk v ∨ blk v' = [w.heap.size]) : ∀ b ∈ blk v', B ≤ b := by
  intro b hm
  rcases hb with e | e
  · rw [e] at hm; exact h b hm
  · rw [e] at hm; simp at hm; omega
theorem flat_cells {c : En.E} {cs : List Value} {b : Nat} {w : World} (he : enEnc c = cs) (hb : b = w.heap.size) (t : TypeId) : ∀ j u, ([c].flatMap enEnc)[j]? = some u → (w.alloc (.cells cs.toArray t)).cell? ⟨b, 0 + j, none⟩ = some u := by
  intro j u hj
  subst hb
  rw [Nat.zero_add]
  refine ((Struct.new w cs t).2 j u ?_).1
  rw [show [c].flatMap enEnc = cs by simp [he]] at hj
  exact hj
theorem rev_take {l : List En.E} {j : Nat} {c : En.E} (h : l[l.length - 1 - j]? = some c) (hj : j < l.length) : l.reverse.take (j + 1) = l.reverse.take j ++ [c] := by
  rw [List.take_add_one, List.getElem?_reverse hj, h]
  rfl
end EnL
end Go.Proofs.Ytjphcbcbaiifhaa

/- Rows of bytes, told by a list of numbers: the words of layer 5's texts (Row, Own) and those of layer 6's (RowOf, OwnL) say the same. -/
import Derived.Test.YtdaedmbdoniaiaaOwn
import Derived.Test.YtdaedmbdoniaiaaByteMem
namespace Go.Proofs.Ytdaedmbdoniaiaa
open Go.RowKit
set_option linter.unusedVariables false

theorem Row.rowOf {oa : Option Addr} {l : List Nat} {w : World} (h : Row oa l w) : RowOf 1 byEnc oa l w := by
  intro i a hi
  have hl : i < l.length := (List.getElem?_eq_some_iff.1 hi).1
  obtain ⟨b, off, ho, hlt, hc⟩ := h i hl
  refine ⟨b, off, ho, hlt, fun j u hu => ?_⟩
  match j, hu with
  | 0, hu =>
    simp [byEnc] at hu
    rw [← hu, Nat.mul_one, Nat.add_zero, hc]
    simp [List.getD, hi]
theorem RowOf.row {oa : Option Addr} {l : List Nat} {w : World} (h : RowOf 1 byEnc oa l w) : Row oa l w := by
  intro i hi
  obtain ⟨b, off, ho, hlt, hc⟩ := h i _ (List.getElem?_eq_getElem hi)
  refine ⟨b, off, ho, hlt, ?_⟩
  have := hc 0 _ rfl
  rw [Nat.mul_one, Nat.add_zero] at this
  rw [this]
  simp [List.getD, List.getElem?_eq_getElem hi]
theorem Own.ownL {base : Nat} {v : Value} {l : List Nat} {w : World} (h : Own base v l w) : OwnL 5 1 byEnc v l w := by
  have e : l.flatMap byEnc = l.map bv := flat_one bv l
  unfold OwnL
  rw [e]
  refine ⟨h.1, ?_⟩
  rcases h.2 with hn | ⟨g, cap, cur, hv, hg, rest⟩
  · exact .inl hn
  · exact .inr ⟨g, cap, cur, hv, Nat.zero_le _, rest⟩
/-- the blocks of a slice that owns its bytes from base on -/
theorem OwnL.own {base : Nat} {v : Value} {l : List Nat} {w : World} (h : OwnL 5 1 byEnc v l w) (hb : ∀ k ∈ blk v, base ≤ k) : Own base v l w := by
  have e : l.flatMap byEnc = l.map bv := flat_one bv l
  unfold OwnL at h
  rw [e] at h
  refine ⟨h.1, ?_⟩
  rcases h.2 with hn | ⟨g, cap, cur, hv, hg, rest⟩
  · exact .inl hn
  · refine .inr ⟨g, cap, cur, hv, hb g ?_, rest⟩
    rw [hv]
    simp [blk, Value.ownBlock]
/-- what nothing old has turned in keeps -/
theorem RowOf.below {oa : Option Addr} {l : List Nat} {w u : World} (h : RowOf 1 byEnc oa l w) (hb : Below w.heap.size w u) : RowOf 1 byEnc oa l u := h.keep hb
/-- a part of a row -/
theorem RowOf.part {α : Type} {enc : α → List Value} {g off a m : Nat} {l : List α} {w : World} (h : RowOf 1 enc (some ⟨g, off, none⟩) l w) : RowOf 1 enc (some ⟨g, off + a, none⟩) ((l.drop a).take m) w := by
  intro i b hi
  have hi' : l[a + i]? = some b := by
    have h1 : i < m := by
      have := (List.getElem?_eq_some_iff.1 hi).1
      rw [List.length_take] at this
      omega
    rw [List.getElem?_take_of_lt h1, List.getElem?_drop] at hi
    exact hi
  obtain ⟨g', off', ho, hlt, hc⟩ := h _ _ hi'
  simp at ho
  obtain ⟨rfl, rfl⟩ := ho
  refine ⟨g, off + a, rfl, hlt, fun j u hu => ?_⟩
  have := hc j u hu
  rw [show off + (a + i) * 1 + j = off + a + i * 1 + j by omega] at this
  exact this
theorem RowOf.rest {α : Type} {enc : α → List Value} {g off a : Nat} {l : List α} {w : World} (h : RowOf 1 enc (some ⟨g, off, none⟩) l w) : RowOf 1 enc (some ⟨g, off + a, none⟩) (l.drop a) w := by
  have := h.part (a := a) (m := l.length)
  rw [List.take_of_length_le (by rw [List.length_drop]; omega)] at this
  exact this
/-- a row that has an element has an address -/
theorem RowOf.addr {α : Type} {enc : α → List Value} {sz : Nat} {oa : Option Addr} {l : List α} {w : World} (h : RowOf sz enc oa l w) (h0 : 0 < l.length) : ∃ g off, oa = some ⟨g, off, none⟩ := by
  obtain ⟨g, off, ho, _, _⟩ := h 0 _ (List.getElem?_eq_getElem h0)
  exact ⟨g, off, ho⟩
/-- a byte of a row -/
theorem RowOf.byte {g off i : Nat} {l : List Nat} {w : World} (h : RowOf 1 byEnc (some ⟨g, off, none⟩) l w) (hi : i < l.length) : w.cell? ⟨g, off + i, none⟩ = some (.int .u8 ((l.getD i 0 : Nat) : Int)) := by
  obtain ⟨g', off', ho, _, hc⟩ := h i _ (List.getElem?_eq_getElem hi)
  simp at ho
  obtain ⟨rfl, rfl⟩ := ho
  have := hc 0 _ rfl
  rw [Nat.mul_one, Nat.add_zero] at this
  rw [this]
  simp [List.getD, List.getElem?_eq_getElem hi]
/-- a byte of a slice of the call's own is written -/
theorem OwnL.byteSet {v : Value} {l : List Nat} {w : World} {g cap i x : Nat} (h : OwnL 5 1 byEnc v l w) (hv : v = .slice (some ⟨g, 0, none⟩) l.length cap) (hi : i < l.length) :
    OwnL 5 1 byEnc v (l.set i x) (w.setCell ⟨g, i, none⟩ (.int .u8 (x : Int))) :=
  OwnL.set (f := fun n : Nat => .int .u8 (n : Int)) h hv hi x
/-- a slice of bytes that came in -/
theorem bytes_row {oa : Option Addr} {len : Nat} {w : World} (h : Ints .u8 oa len w) : ∃ bs : List Nat, bs.length = len ∧ (∀ x ∈ bs, x < 256) ∧ RowOf 1 byEnc oa bs w := by
  obtain ⟨l, h1, h2, h3⟩ := row_of h
  exact ⟨l, h1, h2, h3.rowOf⟩
end Go.Proofs.Ytdaedmbdoniaiaa

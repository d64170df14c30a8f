/- The words of the law on headers' bits. -/
import Derived.Test.YtloobijdpchppaaChLaw
import Derived.Test.YtloobijdpchppaaChWPut
import Derived.Test.YtloobijdpchppaaChWRead
import Derived.Test.YtloobijdpchppaaChBack
import Derived.Test.YtloobijdpchppaaBitWr2
namespace Go.Proofs.Ytloobijdpchppaa
open Go.RowKit
set_option linter.unusedVariables false

namespace ChL
theorem bytes_of {oa : Option Addr} {len : Nat} {w : World} (h : Ints .u8 oa len w) : ∃ bs : List Nat, bs.length = len ∧ (∀ x ∈ bs, x < 256) ∧ RowOf 1 byEnc oa bs w := by
  suffices hs : ∀ n, n ≤ len → ∃ l : List Nat, l.length = n ∧ (∀ x ∈ l, x < 256) ∧ RowOf 1 byEnc oa l w from hs len (Nat.le_refl _)
  intro n
  induction n with
  | zero => intro _; exact ⟨[], rfl, by simp, fun i a hi => by simp at hi⟩
  | succ n ih =>
    intro hn
    obtain ⟨l, hl, h8, hr⟩ := ih (by omega)
    obtain ⟨b, off, z, ho, hb, hc, hz⟩ := h n (by omega)
    simp [Lit.wf, IntKind.min, IntKind.max, IntKind.bits, IntKind.signed] at hz
    refine ⟨l ++ [z.toNat], by simp [hl], ?_, ?_⟩
    · intro x hx
      rcases List.mem_append.1 hx with hx | hx
      · exact h8 x hx
      · rw [List.mem_singleton.1 hx]; omega
    · intro i a hi
      by_cases hil : i < l.length
      · rw [List.getElem?_append_left hil] at hi
        exact hr i a hi
      · have hi2 : i = l.length := by have := (List.getElem?_eq_some_iff.1 hi).1; rw [List.length_append, List.length_singleton] at this; omega
        subst hi2
        rw [List.getElem?_append_right (Nat.le_refl _), Nat.sub_self] at hi
        simp at hi
        subst hi
        refine ⟨b, off, ho, hb, fun j u hu => ?_⟩
        match j, hu with
        | 0, hu =>
          simp [byEnc] at hu
          subst hu
          rw [Nat.mul_one, Nat.add_zero, hl, hc]
          congr 2
          omega
theorem bits_len (h : Ch.H) : (Ch.bits h).length = 65 := by
  unfold Ch.bits
  simp only [List.length_append, Bt.bits_length]
theorem back {h : Ch.H} (hw : Ch.HWf h) : Ch.got ⟨Bt.unpack (Bt.pack (Ch.bits h)), 0, false⟩ = h ∧ Ch.bad ⟨Bt.unpack (Bt.pack (Ch.bits h)), 0, false⟩ = (!h.y && decide (0 < h.a.toNat + h.m.toNat)) := by
  have := Ch.read_back (r := ⟨Bt.unpack (Bt.pack (Ch.bits h)), 0, false⟩) hw rfl (by show (Bt.unpack _).drop 0 = _; rw [List.drop_zero, Bt.unpack_pack])
  exact ⟨this.1, this.2.2.1⟩
theorem four {y : Bool} {a m : Int} (ha : 0 ≤ a) (hm : 0 ≤ m) : (y = true ∧ (!y && decide (0 < a.toNat + m.toNat)) = false) ∨ (y = false ∧ a = 0 ∧ m = 0 ∧ (!y && decide (0 < a.toNat + m.toNat)) = false) ∨ (y = false ∧ ¬ a = 0 ∧ (!y && decide (0 < a.toNat + m.toNat)) = true) ∨ (y = false ∧ a = 0 ∧ ¬ m = 0 ∧ (!y && decide (0 < a.toNat + m.toNat)) = true) := by
  cases y
  · right
    by_cases h1 : a = 0
    · by_cases h2 : m = 0
      · exact .inl ⟨rfl, h1, h2, by subst h1 h2; rfl⟩
      · exact .inr (.inr ⟨rfl, h1, h2, by rw [decide_eq_true (by omega)]; rfl⟩)
    · exact .inr (.inl ⟨rfl, h1, by rw [decide_eq_true (by omega)]; rfl⟩)
  · exact .inl ⟨rfl, rfl⟩
end ChL
end Go.Proofs.Ytloobijdpchppaa

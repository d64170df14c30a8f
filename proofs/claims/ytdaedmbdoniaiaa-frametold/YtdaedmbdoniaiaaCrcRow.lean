/- A row of bytes that lies in memory and is only read, told by a list of numbers. -/
import Derived.Test.YtdaedmbdoniaiaaInts
import Derived.Test.YtdaedmbdoniaiaaCrcPlain
import Derived.Below
namespace Go.Proofs.Ytdaedmbdoniaiaa
open Go.RowKit
set_option linter.unusedVariables false

/-- the slice's bytes are these -/
def Row (oa : Option Addr) (l : List Nat) (w : World) : Prop :=
  ∀ i : Nat, i < l.length → ∃ b off : Nat, oa = some ⟨b, off, none⟩ ∧ b < w.heap.size ∧ w.cell? ⟨b, off + i, none⟩ = some (.int .u8 ((l.getD i 0 : Nat) : Int))

theorem row_of {oa : Option Addr} {len : Nat} {w : World} (h : Ints .u8 oa len w) : ∃ l : List Nat, l.length = len ∧ (∀ x ∈ l, x < 256) ∧ Row oa l w := by
  suffices hs : ∀ n, n ≤ len → ∃ l : List Nat, l.length = n ∧ (∀ x ∈ l, x < 256) ∧ Row oa l w from hs len (Nat.le_refl _)
  intro n
  induction n with
  | zero => intro _; exact ⟨[], rfl, by simp, fun i hi => absurd hi (Nat.not_lt_zero _)⟩
  | succ n ih =>
    intro hn
    obtain ⟨l, hl, hb, hr⟩ := ih (by omega)
    obtain ⟨b, off, z, ho, hlt, hc, hz⟩ := h n (by omega)
    simp [Lit.wf, IntKind.min, IntKind.max, IntKind.bits, IntKind.signed] at hz
    refine ⟨l ++ [z.toNat], by simp [hl], ?_, ?_⟩
    · intro x hx
      rcases List.mem_append.1 hx with hx | hx
      · exact hb x hx
      · simp at hx; omega
    · intro i hi
      simp at hi
      by_cases e : i < l.length
      · obtain ⟨b, off, ho, hlt, hc⟩ := hr i e
        exact ⟨b, off, ho, hlt, by rw [hc]; simp [List.getD, List.getElem?_append_left e]⟩
      · obtain rfl : i = n := by omega
        refine ⟨b, off, ho, hlt, ?_⟩
        rw [hc]
        simp [List.getD, hl]
        omega

theorem Row.keep {oa : Option Addr} {l : List Nat} {w u : World} (h : Row oa l w) (hb : Below w.heap.size w u) : Row oa l u := by
  intro i hi
  obtain ⟨b, off, ho, hlt, hc⟩ := h i hi
  exact ⟨b, off, ho, Nat.lt_of_lt_of_le hlt hb.size, (hb.cell (p := ⟨b, off + i, none⟩) hlt).trans hc⟩
theorem Row.take {oa : Option Addr} {l : List Nat} {w : World} (h : Row oa l w) (n : Nat) : Row oa (l.take n) w := by
  intro i hi
  rw [List.length_take] at hi
  obtain ⟨b, off, ho, hlt, hc⟩ := h i (by omega)
  refine ⟨b, off, ho, hlt, ?_⟩
  rw [hc]
  simp [List.getD, show i < n by omega]
theorem byte_at {l : List Nat} (h : ∀ x ∈ l, x < 256) (i : Nat) : l.getD i 0 < 256 := by
  rw [List.getD_eq_getElem?_getD]
  cases e : l[i]? with
  | none => simp
  | some x => exact h x (List.mem_of_getElem? e)
theorem Cr.fold_take {l : List Nat} {i : Nat} (s : Nat) (h : i < l.length) : Cr.fold s (l.take (i + 1)) = Cr.by8 (Cr.fold s (l.take i)) (l.getD i 0) := by
  rw [List.take_add_one, List.getElem?_eq_getElem h]
  show Cr.fold s (l.take i ++ [l[i]]) = _
  rw [Cr.fold_snoc]
  simp [List.getD, List.getElem?_eq_getElem h]
namespace Cr
/-- a number's four bytes, the lowest one first -/
def four4 (n : Nat) : List Nat := [n % 256, n / 256 % 256, n / 65536 % 256, n / 16777216 % 256]
theorem four4_lt (n : Nat) : ∀ x ∈ four4 n, x < 256 := by
  intro x hx
  simp [four4] at hx
  omega
theorem four4_at (n : Nat) : ∀ k, k < 4 → (four4 n).getD k 0 = n / 256 ^ k % 256
  | 0, _ => by simp [four4]
  | 1, _ => by simp [four4]
  | 2, _ => by simp [four4]
  | 3, _ => by simp [four4]
theorem four4_take {n k : Nat} (s : Nat) (h : k < 4) : fold s ((four4 n).take (k + 1)) = by8 (fold s ((four4 n).take k)) (n / 256 ^ k % 256) := by
  rw [fold_take s (show k < (four4 n).length from h), four4_at n k h]
theorem pow_step (n k : Nat) : n / 256 ^ k / 256 = n / 256 ^ (k + 1) := by rw [Nat.div_div_eq_div_mul, Nat.pow_succ]
theorem take_lt {l : List Nat} (h : ∀ x ∈ l, x < 256) (k : Nat) : ∀ x ∈ l.take k, x < 256 := fun x hx => h x (List.mem_of_mem_take hx)
theorem append_lt {l r : List Nat} (h : ∀ x ∈ l, x < 256) (h' : ∀ x ∈ r, x < 256) : ∀ x ∈ l ++ r, x < 256 := by
  intro x hx
  rcases List.mem_append.1 hx with hx | hx
  · exact h x hx
  · exact h' x hx
theorem sum_eq {l : List Nat} (h : ∀ x ∈ l, x < 256) : ((sum l : Nat) : Int) = 4294967295 - ((fold 4294967295 l : Nat) : Int) := by
  have := fold_lt (s := 4294967295) (by omega) h
  unfold sum
  omega
end Cr
end Go.Proofs.Ytdaedmbdoniaiaa

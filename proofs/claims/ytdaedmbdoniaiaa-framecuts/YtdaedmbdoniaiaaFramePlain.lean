/- Datagrams, plain: the four bytes ahead of a payload, and what they tell. -/
import Derived.Test.YtdaedmbdoniaiaaCrcRow
namespace Go.Proofs.Ytdaedmbdoniaiaa.Fr
set_option linter.unusedVariables false

/-- two numbers, mixed -/
def mix (a b : Nat) : Nat := Cr.sum (Cr.four4 a ++ Cr.four4 b)
theorem mix_lt (a b : Nat) : mix a b < 4294967296 := Cr.sum_lt _
theorem four4_inj {a b : Nat} (ha : a < 4294967296) (hb : b < 4294967296) (h : Cr.four4 a = Cr.four4 b) : a = b := by
  simp [Cr.four4] at h
  omega
theorem mix_first {a b c : Nat} (ha : a < 4294967296) (hb : b < 4294967296) (h : mix a c = mix b c) : a = b := by
  obtain ⟨h0, h1, h2, h3⟩ := Cr.tells (pre := []) (post := Cr.four4 c) (by simp) (Cr.four4_lt c) (by omega) (by omega) (by omega) (by omega) (by omega) (by omega) (by omega) (by omega) h
  omega
theorem mix_last {a b c : Nat} (ha : a < 4294967296) (hb : b < 4294967296) (h : mix c a = mix c b) : a = b := by
  obtain ⟨h0, h1, h2, h3⟩ := Cr.tells (pre := Cr.four4 c) (post := []) (Cr.four4_lt c) (by simp) (by omega) (by omega) (by omega) (by omega) (by omega) (by omega) (by omega) (by omega) h
  omega
/-- the sum of a payload, with the key and how many bytes it has -/
def sum (key : Nat) (l : List Nat) : Nat := mix (Cr.sum l) (mix key l.length)
theorem sum_lt (key : Nat) (l : List Nat) : sum key l < 4294967296 := mix_lt _ _
/-- the datagram -/
def wrap (key : Nat) (l : List Nat) : List Nat := Cr.four4 (sum key l) ++ l
theorem wrap_length (key : Nat) (l : List Nat) : (wrap key l).length = l.length + 4 := by simp [wrap, Cr.four4]
theorem wrap_lt {key : Nat} {l : List Nat} (h : ∀ x ∈ l, x < 256) : ∀ x ∈ wrap key l, x < 256 := Cr.append_lt (Cr.four4_lt _) h
/-- is b what is made of its others? -/
def opens (key : Nat) (b : List Nat) : Bool := b == wrap key (b.drop 4)
theorem opens_wrap (key : Nat) (l : List Nat) : opens key (wrap key l) = true := by simp [opens, wrap, Cr.four4]
theorem opens_key {key other : Nat} {l : List Nat} (hk : key < 4294967296) (ho : other < 4294967296) : opens other (wrap key l) = (key == other) := by
  have e : (wrap key l).drop 4 = l := by simp [wrap, Cr.four4]
  unfold opens
  rw [e]
  by_cases h : key = other
  · subst h; simp
  · have : wrap key l ≠ wrap other l := by
      intro hw
      unfold wrap at hw
      have h4 := List.append_cancel_right hw
      have hs := four4_inj (sum_lt key l) (sum_lt other l) h4
      exact h (mix_first hk ho (mix_last (mix_lt _ _) (mix_lt _ _) hs))
    rw [beq_eq_false_iff_ne.2 this, beq_eq_false_iff_ne.2 h]
/-- another payload of as many bytes and with another sum has another head -/
theorem head_told {key : Nat} {l r : List Nat} (hl : l.length = r.length) (h : Cr.sum l ≠ Cr.sum r) : sum key l ≠ sum key r := by
  unfold sum
  rw [hl]
  intro e
  exact h (mix_first (Cr.sum_lt _) (Cr.sum_lt _) e)
end Go.Proofs.Ytdaedmbdoniaiaa.Fr

/- Small numbers taken seven bits at a time, as the program takes them: the same as what the document says. -/
import Derived.Test.YtloobijdpchppaaBitPlain2
namespace Go.Proofs.Ytloobijdpchppaa.Bt
set_option linter.unusedVariables false

/-- k times eight bits at most, of which j were taken and told n -/
def sev : Nat → Nat → Nat → List Bool → Option (Nat × Nat)
  | 0, _, _, _ => none
  | k + 1, j, n, l =>
    if l.length < 8 then none
    else if 18446744073709551616 ≤ 2 ^ (7 * j) * val ((l.drop 1).take 7) then none
    else if l.headD false then sev k (j + 1) (n + 2 ^ (7 * j) * val ((l.drop 1).take 7)) (l.drop 8)
    else if val ((l.drop 1).take 7) ≠ 0 ∨ j = 0 then some (n + 2 ^ (7 * j) * val ((l.drop 1).take 7), j + 1)
    else none
theorem sev_short {k j n : Nat} {l : List Bool} (h : l.length < 8) : sev k j n l = none := by
  cases k with
  | zero => rfl
  | succ k => unfold sev; rw [if_pos h]
theorem pow7 (j : Nat) : 2 ^ (7 * j) = 128 ^ j := by rw [Nat.pow_mul]
theorem top {j n x : Nat} (hj : j ≤ 9) (hn : n < 2 ^ (7 * j)) : (18446744073709551616 ≤ 2 ^ (7 * j) * x) ↔ ¬ (n + 2 ^ (7 * j) * x < 18446744073709551616) := by
  have e : (18446744073709551616 : Nat) = 2 ^ (7 * j) * 2 ^ (64 - 7 * j) := by
    rw [← Nat.pow_add, show 7 * j + (64 - 7 * j) = 64 by omega]
  have hp : 0 < 2 ^ (7 * j) := Nat.pow_pos (by omega)
  rw [e]
  generalize 2 ^ (64 - 7 * j) = m at *
  generalize 2 ^ (7 * j) = c at *
  constructor
  · intro h; omega
  · intro h
    by_cases hx : m ≤ x
    · exact Nat.mul_le_mul_left c hx
    · have h1 : x + 1 ≤ m := by omega
      have h2 := Nat.mul_le_mul_left c h1
      rw [Nat.mul_add, Nat.mul_one] at h2
      omega
/-- what is told out of n that were told and what grp tells -/
def lay (j n : Nat) : Option (Nat × Nat) → Option (Nat × Nat)
  | none => none
  | some (u, c) => if n + 2 ^ (7 * j) * u < 18446744073709551616 ∧ eights (n + 2 ^ (7 * j) * u) = c + j then some (n + 2 ^ (7 * j) * u, c + j) else none
theorem lay_some (j n u c : Nat) : lay j n (some (u, c)) = if n + 2 ^ (7 * j) * u < 18446744073709551616 ∧ eights (n + 2 ^ (7 * j) * u) = c + j then some (n + 2 ^ (7 * j) * u, c + j) else none := rfl
theorem sev_lay : ∀ {k j n : Nat} {l : List Bool}, k + j ≤ 10 → n < 2 ^ (7 * j) → sev k j n l = lay j n (grp k l)
  | 0, j, n, l, _, _ => rfl
  | k + 1, j, n, [], _, _ => rfl
  | k + 1, j, n, m :: r, hk, hn => by
    have hs : sev (k + 1) j n (m :: r) = if (m :: r).length < 8 then none else if 18446744073709551616 ≤ 2 ^ (7 * j) * val (r.take 7) then none else if m then sev k (j + 1) (n + 2 ^ (7 * j) * val (r.take 7)) (r.drop 7) else if val (r.take 7) ≠ 0 ∨ j = 0 then some (n + 2 ^ (7 * j) * val (r.take 7), j + 1) else none := rfl
    rw [hs]
    by_cases h7 : r.length < 7
    · rw [if_pos (by rw [List.length_cons]; omega)]
      have : grp (k + 1) (m :: r) = none := by unfold grp; simp only []; rw [if_pos h7]
      rw [this]; rfl
    · rw [if_neg (by rw [List.length_cons]; omega)]
      have hv := val_lt (r.take 7)
      rw [List.length_take, Nat.min_eq_left (by omega)] at hv
      have hv' : val (r.take 7) < 128 := hv
      have ht := top (x := val (r.take 7)) (show j ≤ 9 by omega) hn
      have hp : 2 ^ (7 * (j + 1)) = 2 ^ (7 * j) * 128 := by rw [show 7 * (j + 1) = 7 * j + 7 by omega, Nat.pow_add]
      have hn' : n + 2 ^ (7 * j) * val (r.take 7) < 2 ^ (7 * (j + 1)) := by
        rw [hp]
        have h1 : val (r.take 7) + 1 ≤ 128 := by omega
        have h2 := Nat.mul_le_mul_left (2 ^ (7 * j)) h1
        rw [Nat.mul_add, Nat.mul_one] at h2
        omega
      cases m with
      | true =>
        rw [grp_true k h7]
        by_cases hb : 18446744073709551616 ≤ 2 ^ (7 * j) * val (r.take 7)
        · rw [if_pos hb]
          cases hg : grp k (r.drop 7) with
          | none => rfl
          | some q =>
            obtain ⟨u, c⟩ := q
            show none = lay j n (some (val (r.take 7) + 128 * u, c + 1))
            rw [lay_some, if_neg]
            rintro ⟨h1, _⟩
            have : 2 ^ (7 * j) * val (r.take 7) ≤ 2 ^ (7 * j) * (val (r.take 7) + 128 * u) := Nat.mul_le_mul_left _ (by omega)
            omega
        · rw [if_neg hb, if_pos rfl, sev_lay (k := k) (j := j + 1) (by omega) hn']
          cases hg : grp k (r.drop 7) with
          | none => rfl
          | some q =>
            obtain ⟨u, c⟩ := q
            show lay (j + 1) (n + 2 ^ (7 * j) * val (r.take 7)) (some (u, c)) = lay j n (some (val (r.take 7) + 128 * u, c + 1))
            rw [lay_some, lay_some]
            have e : n + 2 ^ (7 * j) * val (r.take 7) + 2 ^ (7 * (j + 1)) * u = n + 2 ^ (7 * j) * (val (r.take 7) + 128 * u) := by
              rw [hp, Nat.mul_add, Nat.mul_assoc]; omega
            rw [e, show c + (j + 1) = c + 1 + j by omega]
      | false =>
        rw [grp_false k h7]
        show _ = lay j n (some (val (r.take 7), 1))
        rw [lay_some]
        by_cases hb : 18446744073709551616 ≤ 2 ^ (7 * j) * val (r.take 7)
        · rw [if_pos hb, if_neg]
          rintro ⟨h1, _⟩
          exact (ht.1 hb) h1
        · rw [if_neg hb]
          have hlt : n + 2 ^ (7 * j) * val (r.take 7) < 18446744073709551616 := by
            by_cases h : n + 2 ^ (7 * j) * val (r.take 7) < 18446744073709551616
            · exact h
            · exact absurd (ht.2 h) hb
          have hle : eights (n + 2 ^ (7 * j) * val (r.take 7)) ≤ j + 1 := (eights_le (by omega)).2 (by rw [← pow7]; exact hn')
          have hiff : eights (n + 2 ^ (7 * j) * val (r.take 7)) = 1 + j ↔ (val (r.take 7) ≠ 0 ∨ j = 0) := by
            by_cases hj : j = 0
            · subst hj
              have := eights_pos (n + 2 ^ (7 * 0) * val (r.take 7))
              constructor
              · intro _; exact .inr rfl
              · intro _; omega
            · have h2 := eights_le (n := j) (u := n + 2 ^ (7 * j) * val (r.take 7)) (by omega)
              rw [← pow7] at h2
              constructor
              · intro he
                left
                intro h0
                rw [h0, Nat.mul_zero, Nat.add_zero] at h2 he
                have := h2.2 hn
                omega
              · rintro (h0 | h0)
                · have : ¬ (eights (n + 2 ^ (7 * j) * val (r.take 7)) ≤ j) := by
                    rw [h2]
                    have h3 : 2 ^ (7 * j) * 1 ≤ 2 ^ (7 * j) * val (r.take 7) := Nat.mul_le_mul_left _ (by omega)
                    omega
                  omega
                · exact absurd h0 hj
          simp only [Bool.false_eq_true, if_false]
          by_cases hc : val (r.take 7) ≠ 0 ∨ j = 0
          · rw [if_pos hc, if_pos ⟨hlt, hiff.2 hc⟩, Nat.add_comm 1 j]
          · rw [if_neg hc, if_neg]
            rintro ⟨_, h⟩
            exact hc (hiff.1 h)
theorem small_sev (l : List Bool) : small l = (sev 10 0 0 l).map fun q => (zag q.1, 8 * q.2) := by
  rw [sev_lay (by omega) (by decide)]
  unfold small lay
  cases grp 10 l with
  | none => rfl
  | some q =>
    obtain ⟨u, c⟩ := q
    simp only [Nat.mul_zero, Nat.pow_zero, Nat.one_mul, Nat.zero_add, Nat.add_zero]
    by_cases h : u < 18446744073709551616 ∧ eights u = c
    · rw [if_pos h, if_pos h]; rfl
    · rw [if_neg h, if_neg h]; rfl
theorem sev_lt {l : List Bool} {u c : Nat} (h : sev 10 0 0 l = some (u, c)) : u < 18446744073709551616 := by
  rw [sev_lay (by omega) (by decide)] at h
  unfold lay at h
  cases hg : grp 10 l with
  | none => rw [hg] at h; cases h
  | some q =>
    obtain ⟨u', c'⟩ := q
    rw [hg] at h
    simp only [Nat.mul_zero, Nat.pow_zero, Nat.one_mul, Nat.zero_add, Nat.add_zero] at h
    by_cases hc : u' < 18446744073709551616 ∧ eights u' = c'
    · rw [if_pos hc] at h
      simp at h
      rw [← h.1]
      exact hc.1
    · rw [if_neg hc] at h; cases h
end Go.Proofs.Ytloobijdpchppaa.Bt

/- What a reader of bits has taken is what came; what comes is taken: numbers of n bits, and small ones. -/
import Derived.Test.YtloobijdpchppaaBitPlain2
namespace Go.Proofs.Ytloobijdpchppaa

namespace Bt
set_option linter.unusedVariables false
namespace Rd
/-- n bits were taken, and the reader has not failed -/
theorem take_ok {r : Rd} {n : Nat} (h : (r.take (n : Int)).fail = false) :
    r.fail = false ∧ n ≤ 64 ∧ n ≤ r.left ∧ r.take (n : Int) = ⟨r.l, r.at_ + n, false⟩ ∧ r.tell (n : Int) = val (r.rest.take n) ∧ r.tell (n : Int) < 2 ^ n ∧ r.rest = bits (r.tell (n : Int)) n ++ (r.take (n : Int)).rest := by
  have hc : r.can (n : Int) = true := by
    by_cases hc : r.can (n : Int) = true
    · exact hc
    · unfold take at h; rw [if_neg hc] at h; cases h
  obtain ⟨h1, _, h3, h4⟩ := can_iff.1 hc
  have e1 : r.take (n : Int) = ⟨r.l, r.at_ + n, false⟩ := by unfold take; rw [if_pos hc]; rfl
  have e2 : r.tell (n : Int) = val (r.rest.take n) := by unfold tell; rw [if_pos hc]; rfl
  have hl : (r.rest.take n).length = n := by rw [List.length_take, rest_length]; omega
  have hv := val_lt (r.rest.take n)
  rw [hl] at hv
  refine ⟨h1, by omega, by omega, e1, e2, by rw [e2]; exact hv, ?_⟩
  have hb := bits_val (r.rest.take n)
  rw [hl] at hb
  rw [e1, e2, hb]
  show r.rest = r.rest.take n ++ r.l.drop (r.at_ + n)
  rw [show r.l.drop (r.at_ + n) = r.rest.drop n by unfold rest; rw [List.drop_drop]]
  exact (List.take_append_drop n r.rest).symm
/-- the bits of a number come next -/
theorem take_bits {r : Rd} {x n : Nat} {t : List Bool} (hf : r.fail = false) (h : r.rest = bits x n ++ t) (hx : x < 2 ^ n) (hn : n ≤ 64) :
    r.tell (n : Int) = x ∧ r.take (n : Int) = ⟨r.l, r.at_ + n, false⟩ ∧ (r.take (n : Int)).rest = t := by
  have hl : n ≤ r.left := by rw [← rest_length, h, List.length_append, bits_length]; omega
  have hc : r.can (n : Int) = true := can_iff.2 ⟨hf, by omega, by omega, by omega⟩
  have e1 : r.take (n : Int) = ⟨r.l, r.at_ + n, false⟩ := by unfold take; rw [if_pos hc]; rfl
  have e2 : r.tell (n : Int) = val (r.rest.take n) := by unfold tell; rw [if_pos hc]; rfl
  have e3 : r.rest.take n = bits x n := by rw [h, List.take_append_of_le_length (by rw [bits_length]; omega), List.take_of_length_le (by rw [bits_length]; omega)]
  refine ⟨by rw [e2, e3, val_bits, Nat.mod_eq_of_lt hx], e1, ?_⟩
  rw [e1]
  show r.l.drop (r.at_ + n) = t
  rw [show r.l.drop (r.at_ + n) = r.rest.drop n by unfold rest; rw [List.drop_drop], h, List.drop_append_of_le_length (by rw [bits_length]; omega), List.drop_of_length_le (by rw [bits_length]; omega), List.nil_append]
theorem take_fail {r : Rd} (n : Int) (h : r.fail = true) : r.take n = ⟨r.l, r.at_, true⟩ ∧ r.tell n = 0 := by
  have hc : ¬ r.can n = true := by rw [can_iff, h]; simp
  unfold take tell
  rw [if_neg hc, if_neg hc]; exact ⟨rfl, rfl⟩
theorem take_l (r : Rd) (n : Int) : (r.take n).l = r.l := by unfold take; split <;> rfl
theorem fail_of {r : Rd} {n : Int} (h : (r.take n).fail = false) : r.fail = false := by
  cases hf : r.fail with
  | false => rfl
  | true => rw [(take_fail n hf).1] at h; cases h
/-- bits are laid on behind -/
def on (r : Rd) (s : List Bool) : Rd := ⟨r.l ++ s, r.at_, r.fail⟩
theorem take_on {r : Rd} {n : Nat} (s : List Bool) (h : (r.take (n : Int)).fail = false) : (r.on s).tell (n : Int) = r.tell (n : Int) ∧ (r.on s).take (n : Int) = (r.take (n : Int)).on s := by
  obtain ⟨h1, h2, h3, h4, h5, h6, h7⟩ := take_ok h
  have hl : r.at_ + n ≤ r.l.length ∨ n = 0 := by unfold left at h3; omega
  have hlon : n ≤ (r.on s).left := by unfold left on at *; simp; omega
  have hc : (r.on s).can (n : Int) = true := can_iff.2 ⟨h1, by omega, by omega, by omega⟩
  have e1 : (r.on s).take (n : Int) = ⟨r.l ++ s, r.at_ + n, false⟩ := by unfold take; rw [if_pos hc]; rfl
  have e2 : (r.on s).tell (n : Int) = val ((r.on s).rest.take n) := by unfold tell; rw [if_pos hc]; rfl
  refine ⟨?_, by rw [e1, h4]; rfl⟩
  rw [e2, h5]
  congr 1
  rcases hl with hl | hl
  · show ((r.l ++ s).drop r.at_).take n = (r.l.drop r.at_).take n
    rw [List.drop_append_of_le_length (by omega), List.take_append_of_le_length (by rw [List.length_drop]; omega)]
  · subst hl; simp
theorem sTake_bits {r : Rd} {x : Int} {t : List Bool} (hf : r.fail = false) (h : r.rest = sm (zig x) ++ t) (hx : zig x < 18446744073709551616) :
    r.sTell = x ∧ r.sTake = ⟨r.l, r.at_ + (sm (zig x)).length, false⟩ ∧ r.sTake.rest = t := by
  have hs := small_sm hx t
  rw [← h] at hs
  have e1 : r.sTell = x := by unfold sTell; rw [hf, hs]; rfl
  have e2 : r.sTake = ⟨r.l, r.at_ + (sm (zig x)).length, false⟩ := by unfold sTake; rw [hf, hs, sm_length]; rfl
  refine ⟨e1, e2, ?_⟩
  rw [e2]
  show r.l.drop (r.at_ + (sm (zig x)).length) = t
  rw [show r.l.drop (r.at_ + (sm (zig x)).length) = r.rest.drop (sm (zig x)).length by unfold rest; rw [List.drop_drop], h, List.drop_left]
theorem sfail_of {r : Rd} (h : r.sTake.fail = false) : r.fail = false := by
  cases hf : r.fail with
  | false => rfl
  | true => unfold sTake at h; rw [hf] at h; simp [hf] at h
theorem sTake_l (r : Rd) : r.sTake.l = r.l := by
  unfold sTake
  split
  · rfl
  · split <;> rfl
theorem zig_i64 {x : Int} (h : zig x < 18446744073709551616) : -9223372036854775808 ≤ x ∧ x < 9223372036854775808 := by
  unfold zig at h
  split at h <;> omega
theorem sTake_ok {r : Rd} (h : r.sTake.fail = false) : zig r.sTell < 18446744073709551616 ∧ r.rest = sm (zig r.sTell) ++ r.sTake.rest ∧ r.sTake = ⟨r.l, r.at_ + (sm (zig r.sTell)).length, false⟩ := by
  have hf := sfail_of h
  cases hs : small r.rest with
  | none => unfold sTake at h; rw [hf, hs] at h; cases h
  | some p =>
    obtain ⟨x, n⟩ := p
    obtain ⟨h1, _, t, ht⟩ := small_iff.1 hs
    obtain ⟨e1, e2, e3⟩ := sTake_bits hf ht h1
    rw [e1, e3]
    exact ⟨h1, ht, e2⟩
theorem sTell_i64 (r : Rd) : -9223372036854775808 ≤ r.sTell ∧ r.sTell < 9223372036854775808 := by
  unfold sTell
  split
  · omega
  · cases hs : small r.rest with
    | none => simp only; omega
    | some p =>
      obtain ⟨x, n⟩ := p
      exact zig_i64 (small_iff.1 hs).1
end Rd
end Bt
end Go.Proofs.Ytloobijdpchppaa

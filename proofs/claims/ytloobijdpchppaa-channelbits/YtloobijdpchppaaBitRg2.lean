/- What the reference's reader of bits answers, as a call: small numbers (BtG). -/
import Derived.Test.YtloobijdpchppaaBitRg
namespace Go.Proofs.Ytloobijdpchppaa
open Go.RowKit
set_option linter.unusedVariables false

namespace BtG
open BtR (RB)
open BtW (int_ret puts)
theorem take_same {l s : List Bool} {k : Nat} {a b : Bool} (h : l.take k = s.take k) (ha : l[k]? = some a) (hb : s[k]? = some b) : (l.take (k + 1) = s.take (k + 1)) ↔ a = b := by
  rw [List.take_add_one, List.take_add_one, ha, hb, h]
  simp
theorem ne_of_take {l s : List Bool} {k : Nat} {a b : Bool} (ha : l[k]? = some a) (hb : s[k]? = some b) (hab : a ≠ b) : l ≠ s := by
  rintro rfl
  rw [ha] at hb
  exact hab (by simpa using hb)

/-- behind j times eight bits that told n: what grp tells of what is left, and of all -/
def glay (j n : Nat) : Option (Nat × Nat) → Option (Nat × Nat)
  | none => none
  | some (u, c) => some (n + 128 ^ j * u, c + j)
theorem grp_next {k j n : Nat} {r : List Bool} (h7 : ¬ r.length < 7) : glay j n (Bt.grp (k + 1) (true :: r)) = glay (j + 1) (n + 128 ^ j * Bt.val (r.take 7)) (Bt.grp k (r.drop 7)) := by
  rw [Bt.grp_true k h7]
  cases Bt.grp k (r.drop 7) with
  | none => rfl
  | some q =>
    obtain ⟨u, c⟩ := q
    show some (n + 128 ^ j * (Bt.val (r.take 7) + 128 * u), c + 1 + j) = some (n + 128 ^ j * Bt.val (r.take 7) + 128 ^ (j + 1) * u, c + (j + 1))
    rw [Nat.mul_add, Nat.pow_succ, ← Nat.mul_assoc, ← Nat.add_assoc, show c + 1 + j = c + (j + 1) by omega]
theorem grp_end {k j n : Nat} {r : List Bool} (h7 : ¬ r.length < 7) : glay j n (Bt.grp (k + 1) (false :: r)) = some (n + 128 ^ j * Bt.val (r.take 7), j + 1) := by
  rw [Bt.grp_false k h7]
  show some (n + 128 ^ j * Bt.val (r.take 7), 1 + j) = _
  rw [Nat.add_comm 1 j]
theorem grp_short {k j n : Nat} {l : List Bool} (h : l.length < 8) : glay j n (Bt.grp k l) = none := by
  cases k with
  | zero => rfl
  | succ k =>
    cases l with
    | nil => rfl
    | cons m r =>
      have : Bt.grp (k + 1) (m :: r) = none := by
        unfold Bt.grp
        simp only []
        rw [if_pos (by rw [List.length_cons] at h; omega)]
      rw [this]; rfl
/-- read, and put again -/
theorem small_same {l : List Bool} {U c : Nat} (h : Bt.grp 10 l = some (U, c)) : Bt.small l = if l.take (8 * c) = Bt.sm (Bt.zig (Bt.zag (U % 18446744073709551616))) then some (Bt.zag (U % 18446744073709551616), 8 * c) else none := by
  rw [Bt.zig_zag]
  have hV : U % 18446744073709551616 < 18446744073709551616 := Nat.mod_lt _ (by omega)
  obtain ⟨g1, g2, g3, g4, g5, g6⟩ := Bt.grp_some h
  by_cases he : l.take (8 * c) = Bt.sm (U % 18446744073709551616)
  · rw [if_pos he]
    have hl : l = Bt.sm (U % 18446744073709551616) ++ l.drop (8 * c) := by rw [← he, List.take_append_drop]
    have hlen := congrArg List.length he
    rw [List.length_take, Nat.min_eq_left g3, Bt.sm_length] at hlen
    rw [Bt.small_iff, Bt.zig_zag]
    exact ⟨hV, hlen, _, hl⟩
  · rw [if_neg he]
    cases hs : Bt.small l with
    | none => rfl
    | some q =>
      obtain ⟨x, n⟩ := q
      obtain ⟨h1, h2, r, h3⟩ := Bt.small_iff.1 hs
      have h4 := Bt.grp_sm r (Bt.eights_ten h1)
      rw [← h3, h] at h4
      simp at h4
      obtain ⟨rfl, rfl⟩ := h4
      exfalso
      apply he
      rw [Nat.mod_eq_of_lt h1]
      exact g6 rfl
theorem small_no {l : List Bool} (h : Bt.grp 10 l = none) : Bt.small l = none := by unfold Bt.small; rw [h]
theorem st_none {r : Bt.Rd} (hf : r.fail = false) (e : Bt.small r.rest = none) : r.sTell = 0 ∧ r.sTake = ⟨r.l, r.at_, true⟩ := by
  unfold Bt.Rd.sTell Bt.Rd.sTake
  rw [hf, e]
  exact ⟨rfl, rfl⟩
theorem st_some {r : Bt.Rd} {x : Int} {c : Nat} (hf : r.fail = false) (e : Bt.small r.rest = some (x, c)) : r.sTell = x ∧ r.sTake = ⟨r.l, r.at_ + c, false⟩ := by
  unfold Bt.Rd.sTell Bt.Rd.sTake
  rw [hf, e]
  exact ⟨rfl, rfl⟩

end BtG
end Go.Proofs.Ytloobijdpchppaa

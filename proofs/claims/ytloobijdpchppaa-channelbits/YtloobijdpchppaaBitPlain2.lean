/- Bits and their bytes, there and back; what a reader does, as plain functions. -/
import Derived.Test.YtloobijdpchppaaBitPlain
namespace Go.Proofs.Ytloobijdpchppaa.Bt
set_option linter.unusedVariables false

theorem byteAt_keep {l : List Bool} {b : Bool} {i : Nat} (h : 8 * i + 8 ≤ l.length) : byteAt (l ++ [b]) i = byteAt l i := by
  unfold byteAt
  rw [List.drop_append_of_le_length (by omega), List.take_append_of_le_length (by rw [List.length_drop]; omega)]
/-- one bit more, in a new byte -/
theorem pack_new {l : List Bool} (b : Bool) (h : l.length % 8 = 0) : pack (l ++ [b]) = pack l ++ [b.toNat] := by
  unfold pack
  rw [List.length_append, List.length_singleton, show (l.length + 1 + 7) / 8 = (l.length + 7) / 8 + 1 by omega, List.range_succ, List.map_append]
  congr 1
  · apply List.map_congr_left
    intro i hi
    rw [List.mem_range] at hi
    exact byteAt_keep (by omega)
  · simp only [List.map_cons, List.map_nil, List.cons.injEq, and_true]
    unfold byteAt
    rw [show 8 * ((l.length + 7) / 8) = l.length by omega, List.drop_append_of_le_length (Nat.le_refl _), List.drop_length, List.nil_append]
    show b.toNat + 2 * 0 = b.toNat
    omega
/-- one bit more, in the last byte -/
theorem pack_more {l : List Bool} (b : Bool) (h : l.length % 8 ≠ 0) : pack (l ++ [b]) = (pack l).set (l.length / 8) (byteAt l (l.length / 8) + 2 ^ (l.length % 8) * b.toNat) := by
  apply List.ext_getElem
  · rw [List.length_set, pack_length, pack_length, List.length_append, List.length_singleton]; omega
  · intro i h1 h2
    rw [pack_length, List.length_append, List.length_singleton] at h1
    rw [List.getElem_set]
    have hl : (l ++ [b]).length = l.length + 1 := by simp
    by_cases e : l.length / 8 = i
    · rw [if_pos e]
      simp only [pack, List.getElem_map, List.getElem_range]
      subst e
      unfold byteAt
      have hd : (l.drop (8 * (l.length / 8))).length = l.length % 8 := by rw [List.length_drop]; omega
      rw [List.drop_append_of_le_length (by omega), List.take_of_length_le (by rw [List.length_append, hd, List.length_singleton]; omega), List.take_of_length_le (by omega), val_snoc, hd]
    · rw [if_neg e]
      simp only [pack, List.getElem_map, List.getElem_range]
      exact byteAt_keep (by omega)
theorem byteAt_last {l : List Bool} : byteAt l (l.length / 8) < 2 ^ (l.length % 8) := by
  unfold byteAt
  have hd : (l.drop (8 * (l.length / 8))).length = l.length % 8 := by rw [List.length_drop]; omega
  have := val_lt ((l.drop (8 * (l.length / 8))).take 8)
  rw [List.take_of_length_le (by omega), hd] at this
  rw [List.take_of_length_le (by omega)]
  exact this
/-- there and back: what lacks of the last byte is 0 -/
theorem unpack_pack (l : List Bool) : unpack (pack l) = l ++ List.replicate (8 * ((l.length + 7) / 8) - l.length) false := by
  apply List.ext_getElem
  · rw [unpack_length, pack_length, List.length_append, List.length_replicate]; omega
  · intro i h1 h2
    have h1' : i < 8 * (pack l).length := by rw [unpack_length] at h1; exact h1
    have e : (unpack (pack l)).getD i false = (unpack (pack l))[i] := by simp [List.getD, List.getElem?_eq_getElem h1]
    have hp : i / 8 < (l.length + 7) / 8 := by rw [pack_length] at h1'; omega
    rw [← e, unpack_at h1', pack_at hp]
    unfold byteAt
    have hb := bits_val ((l.drop (8 * (i / 8))).take 8)
    have hlen : ((l.drop (8 * (i / 8))).take 8).length = min 8 (l.length - 8 * (i / 8)) := by rw [List.length_take, List.length_drop]
    by_cases hi : i < l.length
    · have hk : i % 8 < ((l.drop (8 * (i / 8))).take 8).length := by rw [hlen]; omega
      rw [← bits_at hk, hb]
      simp [List.getD, List.getElem?_drop, show i % 8 < 8 by omega, show 8 * (i / 8) + i % 8 = i by omega, List.getElem_append_left hi, List.getElem?_eq_getElem hi]
    · have hv := val_lt ((l.drop (8 * (i / 8))).take 8)
      have hk : ((l.drop (8 * (i / 8))).take 8).length ≤ i % 8 := by rw [hlen]; omega
      have hz : val ((l.drop (8 * (i / 8))).take 8) / 2 ^ (i % 8) = 0 := Nat.div_eq_of_lt (Nat.lt_of_lt_of_le hv (Nat.pow_le_pow_right (n := 2) (by omega) hk))
      rw [hz]
      rw [List.getElem_append_right (by omega), List.getElem_replicate]
      rfl

/-- a reader: its bits, where it is, whether it has failed -/
structure Rd where
  l : List Bool
  at_ : Nat
  fail : Bool
namespace Rd
def ok (r : Rd) : Bool := !r.fail
def left (r : Rd) : Nat := r.l.length - r.at_
def rest (r : Rd) : List Bool := r.l.drop r.at_
def can (r : Rd) (n : Int) : Bool := !r.fail && decide (0 ≤ n) && decide (n ≤ 64) && decide (n ≤ (r.left : Int))
/-- n bits are taken: what they tell, and the reader behind -/
def tell (r : Rd) (n : Int) : Nat := if r.can n then val (r.rest.take n.toNat) else 0
def take (r : Rd) (n : Int) : Rd := if r.can n then ⟨r.l, r.at_ + n.toNat, false⟩ else ⟨r.l, r.at_, true⟩
/-- a small number is taken -/
def sTell (r : Rd) : Int := if r.fail then 0 else match small r.rest with | none => 0 | some (x, _) => x
def sTake (r : Rd) : Rd := if r.fail then r else match small r.rest with | none => ⟨r.l, r.at_, true⟩ | some (_, n) => ⟨r.l, r.at_ + n, false⟩
def done (r : Rd) : Bool := !r.fail && decide (r.left < 8) && r.rest.all (fun b => !b)
/-- where it is lies within its bits -/
def wf (r : Rd) : Prop := r.at_ ≤ r.l.length
theorem rest_length (r : Rd) : r.rest.length = r.left := List.length_drop
theorem can_iff {r : Rd} {n : Int} : r.can n = true ↔ r.fail = false ∧ 0 ≤ n ∧ n ≤ 64 ∧ n ≤ (r.left : Int) := by
  unfold can; simp [and_assoc]
theorem take_wf {r : Rd} {n : Int} (h : r.wf) : (r.take n).wf := by
  unfold take wf at *
  by_cases hc : r.can n = true
  · rw [if_pos hc]
    have := can_iff.1 hc
    unfold left at this
    show r.at_ + n.toNat ≤ r.l.length
    omega
  · rw [if_neg hc]; exact h
theorem small_le {l : List Bool} {x : Int} {n : Nat} (h : small l = some (x, n)) : n ≤ l.length := by
  obtain ⟨_, rfl, r, rfl⟩ := small_iff.1 h
  rw [List.length_append, sm_length]; omega
theorem sTake_wf {r : Rd} (h : r.wf) : r.sTake.wf := by
  unfold sTake
  split
  · exact h
  · cases hs : small r.rest with
    | none => exact h
    | some p =>
      obtain ⟨x, n⟩ := p
      have := small_le hs
      rw [rest_length] at this
      unfold left at this
      unfold wf at *
      show r.at_ + n ≤ r.l.length
      omega
theorem tell_lt (r : Rd) (n : Int) : r.tell n < 18446744073709551616 := by
  unfold tell
  split
  · rename_i hc
    have := can_iff.1 hc
    have hv := val_lt (r.rest.take n.toNat)
    have hp : 2 ^ (r.rest.take n.toNat).length ≤ 2 ^ 64 := Nat.pow_le_pow_right (by omega) (by rw [List.length_take]; omega)
    exact Nat.lt_of_lt_of_le hv hp
  · omega
end Rd
end Go.Proofs.Ytloobijdpchppaa.Bt

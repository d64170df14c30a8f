/- What the functions of the reference answer, as a call (SrR): Steps, bit, Has. -/
import Derived.Test.YtloobijdpchppaaSerWalks
namespace Go.Proofs.Ytloobijdpchppaa
open Go.RowKit
set_option linter.unusedVariables false
namespace SrR

set_option maxHeartbeats 400000 in
theorem steps_any (a b : Int) (w : World) (ha0 : 0 ≤ a) (ha : a < 65536) (hb0 : 0 ≤ b) (hb : b < 65536) :
    Calls Try.prog 51 #[.int .u16 a, .int .u16 b] w fun e w' => e = .returned (.int .i64 (Sr.steps a b)) ∧ w' = w := by
  by_cases h : 32767 < (b - a) % 65536
  · go_enter Try.func51, Try.ntmps51
    go_wp2
    go_ret
    exact int_eq (by unfold Sr.steps; omega) rfl
  · go_enter Try.func51, Try.ntmps51
    go_wp2
    go_ret
    exact int_eq (by unfold Sr.steps; omega) rfl

/-- the mask, its lowest bits left out -/
def cut (m : Int) (j : Nat) : Int := ((m.toNat / 2 ^ j : Nat) : Int)
theorem cut_lo (m : Int) (j : Nat) : 0 ≤ cut m j := Int.natCast_nonneg _
theorem cut_hi {m : Int} (hm : m < 4294967296) (j : Nat) : cut m j < 4294967296 := by
  unfold cut
  have : m.toNat / 2 ^ j ≤ m.toNat := Nat.div_le_self _ _
  generalize m.toNat / 2 ^ j = c at *
  omega
theorem cut_zero {m : Int} (hm0 : 0 ≤ m) : cut m 0 = m := by unfold cut; rw [Nat.pow_zero, Nat.div_one]; omega
theorem cut_succ (m : Int) (j : Nat) : cut m j / 2 = cut m (j + 1) := by
  unfold cut; rw [Nat.pow_succ, ← Nat.div_div_eq_div_mul]; omega
theorem cut_bit (m : Int) (j : Nat) : (cut m j % 2 == 1) = Sr.tb m (j + 1) := by
  unfold cut Sr.tb
  rw [Nat.testBit_eq_decide_div_mod_eq, show ((j : Int) + 1 - 1).toNat = j by omega]
  generalize m.toNat / 2 ^ j = c
  by_cases h : c % 2 = 1
  · have : ((c : Int) % 2) = 1 := by omega
    simp [h, this]
  · have h2 : c % 2 = 0 := by omega
    have : ((c : Int) % 2) = 0 := by omega
    simp [h2, this]

set_option maxHeartbeats 400000 in
theorem bit_any (m : Int) (k : Nat) (w : World) (hm0 : 0 ≤ m) (hm : m < 4294967296) (h2 : k < 32) :
    Calls Try.prog 52 #[.int .u32 m, .int .i64 (k + 1)] w fun e w' => e = .returned (.bool (Sr.tb m (k + 1))) ∧ w' = w := by
  go_enter Try.func52, Try.ntmps52
  go_wp2
  go_loop [0, 5] (fun v i => ∃ j : Nat, j ≤ k ∧ i = .int .i64 (j + 1) ∧ v = .int .u32 (cut m j)) (fun _ i => k + 1 - (intOf i).toNat)
  case atStart => exact ⟨0, Nat.zero_le _, rfl, by rw [cut_zero hm0]⟩
  case round =>
    obtain ⟨j, hj, rfl, rfl⟩ := hrel
    have c1 := cut_lo m j
    have c2 := cut_hi hm j
    by_cases hlt : j < k
    · go_wp2
      go_round
      case rel => exact ⟨j + 1, by omega, by go_num, by rw [← cut_succ]⟩
      case measure => simp [intOf]; omega
    · obtain rfl : j = k := by omega
      go_wp2
      go_ret
      exact bool_eq (cut_bit m j) rfl

theorem has_hit {l m n : Int} {j : Nat} (hl0 : 0 ≤ l) (hl : l < 65536) (hj : j < 32) (h : n = (l - (j + 1)) % 65536) : Sr.tb m (j + 1) = Sr.has true l m n := by
  have e : Sr.steps l n = -((j : Int) + 1) := by unfold Sr.steps; omega
  rw [Sr.has_lt (by omega), e, Int.neg_neg]
theorem has_miss {l m n : Int} (hl0 : 0 ≤ l) (hl : l < 65536) (hn0 : 0 ≤ n) (hn : n < 65536) (hm : m < 4294967296) (h : ∀ i : Nat, i < 32 → n ≠ (l - (i + 1)) % 65536) : (n == l) = Sr.has true l m n := by
  by_cases h1 : 0 ≤ Sr.steps l n
  · rw [Sr.has_ge h1]
    have : (n = l) ↔ (Sr.steps l n = 0) := by unfold Sr.steps; omega
    rw [Bool.eq_iff_iff]; simpa using this
  · rw [Sr.has_lt (by omega)]
    have hf : 32 < -(Sr.steps l n) := by
      by_cases hc : 32 < -(Sr.steps l n)
      · exact hc
      · exfalso
        refine h (-(Sr.steps l n) - 1).toNat (by omega) ?_
        have := Sr.steps_lo l n
        unfold Sr.steps at *
        omega
    rw [Sr.tb_far hm hf]
    have : n ≠ l := by intro e; subst e; apply h1; unfold Sr.steps; omega
    simpa using this

set_option maxHeartbeats 1000000 in
theorem has_any (y : Bool) (l m n : Int) (w : World) (hl0 : 0 ≤ l) (hl : l < 65536) (hm0 : 0 ≤ m) (hm : m < 4294967296) (hn0 : 0 ≤ n) (hn : n < 65536) :
    Calls Try.prog 36 #[.agg #[.bool y, .int .u16 l, .int .u32 m], .int .u16 n] w fun e w' => e = .returned (.bool (Sr.has y l m n)) ∧ Below w.heap.size w w' := by
  cases y
  · go_enter Try.func36, Try.ntmps36
    go_wp2
    go_ret
    exact bool_eq rfl (below_one _ _)
  · go_enter Try.func36, Try.ntmps36
    go_wp2
    go_loop [5] (fun i => ∃ j : Nat, j ≤ 32 ∧ i = .int .i64 (j + 1) ∧ ∀ i : Nat, i < j → n ≠ (l - (i + 1)) % 65536) (fun i => 33 - (intOf i).toNat)
    case atStart => exact ⟨0, Nat.zero_le _, rfl, by intro i hi; omega⟩
    case round =>
      obtain ⟨j, hj, rfl, hh⟩ := hrel
      have HH : Hid (∀ i : Nat, i < j → n ≠ (l - (i + 1)) % 65536) := hh
      clear hh
      by_cases hlt : j < 32
      · by_cases hx : n = (l - (j + 1)) % 65536
        · have hy : (n == (l - (j + 1)) % 65536) = true := by simpa using hx
          have HX : Hid (n = (l - (j + 1)) % 65536) := hx
          clear hx
          go_wp2_with (go_at_call 52; refine (bit_any _ _ _ hm0 hm hlt).mono ?_; rintro e w' ⟨rfl, rfl⟩)
          go_ret
          exact bool_eq (has_hit hl0 hl hlt HX.out) (below_one _ _)
        · have hy : (n == (l - (j + 1)) % 65536) = false := by simpa using hx
          go_wp2_with fail
          go_round
          case rel => exact ⟨j + 1, by omega, by go_num, by intro i hi; rcases Nat.lt_succ_iff_lt_or_eq.1 hi with h | rfl; exact HH.out i h; exact hx⟩
          case measure => simp [intOf]; omega
      · obtain rfl : j = 32 := by omega
        go_wp2
        go_ret
        exact bool_eq (has_miss hl0 hl hn0 hn hm HH.out) (below_one _ _)
end SrR
end Go.Proofs.Ytloobijdpchppaa

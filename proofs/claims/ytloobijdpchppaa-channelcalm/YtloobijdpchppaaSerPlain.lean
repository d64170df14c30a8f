/- Numbers that go round, and the window of those that came: plain functions, and their laws. -/
import Derived.Laws.BitsAllLaws
import Derived.Laws.ShiftsVarLaws
namespace Go.Proofs.Ytloobijdpchppaa.Sr
set_option linter.unusedSimpArgs false

/-- steps from a to b, the shorter way round -/
def steps (a b : Int) : Int := (b - a + 32768) % 65536 - 32768
theorem steps_lo (a b : Int) : -32768 ≤ steps a b := by unfold steps; omega
theorem steps_hi (a b : Int) : steps a b ≤ 32767 := by unfold steps; omega
/-- the mask's bit of the number k ahead -/
def bit (k : Int) : Int := if k ≤ 32 then ((2 ^ (k - 1).toNat : Nat) : Int) else 0
theorem bit_of {k : Int} (h : k ≤ 32) : bit k = ((2 ^ (k - 1).toNat : Nat) : Int) := if_pos h
theorem bit_far {k : Int} (h : 32 < k) : bit k = 0 := if_neg (by omega)
theorem bit_lo (k : Int) : 0 ≤ bit k := by unfold bit; split; exact Int.natCast_nonneg _; exact Int.le_refl _
theorem bit_hi (k : Int) : bit k < 4294967296 := by
  unfold bit; split
  · have : (2 : Nat) ^ (k - 1).toNat ≤ 2 ^ 31 := Nat.pow_le_pow_right (by omega) (by omega)
    omega
  · omega
/-- is the bit of the number k ahead set? -/
def tb (m k : Int) : Bool := m.toNat.testBit (k - 1).toNat
def has (any : Bool) (l m n : Int) : Bool := any && (decide (steps l n = 0) || (decide (steps l n < 0) && tb m (-(steps l n))))
def ok (any : Bool) (l m n : Int) : Bool := !any || decide (0 < steps l n) || (decide (steps l n < 0) && decide (-32 ≤ steps l n) && !tb m (-(steps l n)))
def last (any : Bool) (l n : Int) : Int := if any = false ∨ 0 < steps l n then n else l
def shl (m s : Int) : Int := ((m.toNat * 2 ^ s.toNat % 4294967296 : Nat) : Int)
def or (a b : Int) : Int := ((a.toNat ||| b.toNat : Nat) : Int)
def mask (any : Bool) (l m n : Int) : Int :=
  if any = false then 0 else if 0 < steps l n then or (shl m (steps l n)) (bit (steps l n)) else if ok any l m n = true then or m (bit (-(steps l n))) else m

theorem tb_far {m k : Int} (h : m < 4294967296) (hk : 32 < k) : tb m k = false := by
  unfold tb
  refine Nat.testBit_lt_two_pow ?_
  have : (2 : Nat) ^ 32 ≤ 2 ^ (k - 1).toNat := Nat.pow_le_pow_right (by omega) (by omega)
  omega
/-- 'mask & bit' -/
theorem and_bit {m k : Int} (hm : m < 4294967296) : ((m.toNat &&& (bit k).toNat : Nat) : Int) = if tb m k = true then bit k else 0 := by
  by_cases hk : k ≤ 32
  · rw [bit_of hk, Int.toNat_natCast, nat_bit]
    unfold tb
    rw [Nat.testBit_eq_decide_div_mod_eq]
    have hlt : m.toNat / 2 ^ (k - 1).toNat % 2 < 2 := Nat.mod_lt _ (by omega)
    generalize m.toNat / 2 ^ (k - 1).toNat % 2 = c at *
    have hc : c < 2 := hlt
    generalize 2 ^ (k - 1).toNat = p
    obtain rfl | rfl : c = 0 ∨ c = 1 := by omega
    · simp
    · simp
  · rw [bit_far (by omega), tb_far hm (by omega)]; simp
theorem bit_pos {k : Int} (hk : k ≤ 32) : 0 < bit k := by
  rw [bit_of hk]; have := Nat.two_pow_pos (k - 1).toNat; omega
theorem or_lo (a b : Int) : 0 ≤ or a b := by unfold or; omega
theorem or_hi {a b : Int} (ha : a < 4294967296) (hb : b < 4294967296) : or a b < 4294967296 := by
  unfold or
  have : a.toNat ||| b.toNat < 2 ^ 32 := Nat.or_lt_two_pow (by omega) (by omega)
  omega
theorem shl_lo (a b : Int) : 0 ≤ shl a b := by unfold shl; exact Int.natCast_nonneg _
theorem shl_hi (a b : Int) : shl a b < 4294967296 := by
  unfold shl
  have := Nat.mod_lt (a.toNat * 2 ^ b.toNat) (show 4294967296 > 0 by decide)
  generalize a.toNat * 2 ^ b.toNat % 4294967296 = c at *
  omega
theorem mask_none {l m n : Int} : mask false l m n = 0 := rfl
theorem mask_on {l m n : Int} (h : 0 < steps l n) : mask true l m n = or (shl m (steps l n)) (bit (steps l n)) := by
  unfold mask; rw [if_neg (by simp), if_pos h]
theorem mask_fill {l m n : Int} (h : ¬ 0 < steps l n) (ho : ok true l m n = true) : mask true l m n = or m (bit (-(steps l n))) := by
  unfold mask; rw [if_neg (by simp), if_neg h, if_pos ho]
theorem mask_stay {l m n : Int} (h : ¬ 0 < steps l n) (ho : ok true l m n = false) : mask true l m n = m := by
  unfold mask; rw [if_neg (by simp), if_neg h, if_neg (by simp [ho])]
theorem mask_in {any : Bool} {l m n : Int} (h0 : 0 ≤ m) (hm : m < 4294967296) : 0 ≤ mask any l m n ∧ mask any l m n < 4294967296 := by
  cases any
  · rw [mask_none]; decide
  · by_cases h : 0 < steps l n
    · rw [mask_on h]; exact ⟨or_lo _ _, or_hi (shl_hi _ _) (bit_hi _)⟩
    · cases ho : ok true l m n
      · rw [mask_stay h ho]; exact ⟨h0, hm⟩
      · rw [mask_fill h ho]; exact ⟨or_lo _ _, or_hi hm (bit_hi _)⟩
theorem last_none {l n : Int} : last false l n = n := by unfold last; simp
theorem last_on {l n : Int} (h : 0 < steps l n) : last true l n = n := by unfold last; rw [if_pos (Or.inr h)]
theorem last_stay {l n : Int} (h : ¬ 0 < steps l n) : last true l n = l := by unfold last; rw [if_neg (by simp [h])]
theorem last_lo {any : Bool} {l n : Int} (hl : 0 ≤ l) (hn : 0 ≤ n) : 0 ≤ last any l n := by unfold last; split <;> omega
theorem last_hi {any : Bool} {l n : Int} (hl : l < 65536) (hn : n < 65536) : last any l n < 65536 := by unfold last; split <;> omega

theorem has_ge {l m n : Int} (h : 0 ≤ steps l n) : has true l m n = (steps l n == 0) := by
  unfold has
  rw [decide_eq_false (show ¬ steps l n < 0 by omega)]
  simp; rfl
theorem has_lt {l m n : Int} (h : steps l n < 0) : has true l m n = tb m (-(steps l n)) := by
  unfold has
  rw [decide_eq_true h, decide_eq_false (show ¬ steps l n = 0 by omega)]
  simp
theorem ok_none {l m n : Int} : ok false l m n = true := by unfold ok; simp
theorem ok_on {l m n : Int} (h : 0 < steps l n) : ok true l m n = true := by unfold ok; simp [h]
theorem ok_at {l m n : Int} (h : steps l n = 0) : ok true l m n = false := by unfold ok; simp [h]
theorem ok_back {l m n : Int} (h : steps l n < 0) (h2 : -32 ≤ steps l n) : ok true l m n = !tb m (-(steps l n)) := by
  unfold ok; rw [decide_eq_true h, decide_eq_true h2, decide_eq_false (show ¬ 0 < steps l n by omega)]; simp
theorem ok_far {l m n : Int} (h : steps l n < -32) : ok true l m n = false := by
  unfold ok; rw [decide_eq_false (show ¬ -32 ≤ steps l n by omega), decide_eq_false (show ¬ 0 < steps l n by omega)]; simp
/-! bits of what is made -/
theorem tb_or {a b k : Int} : tb (or a b) k = (tb a k || tb b k) := by
  unfold tb or; rw [Int.toNat_natCast, Nat.testBit_or]
theorem tb_bit {j k : Int} (hj : 1 ≤ j) (hk : 1 ≤ k) : tb (bit j) k = (decide (j ≤ 32) && decide (j = k)) := by
  unfold tb
  by_cases h : j ≤ 32
  · rw [bit_of h, Int.toNat_natCast, Nat.testBit_two_pow]
    have e : ((j - 1).toNat = (k - 1).toNat) ↔ j = k := by omega
    rw [decide_eq_true h, Bool.true_and]
    exact decide_eq_decide.2 e
  · rw [bit_far (by omega)]; simp [h]
theorem tb_shl {m s k : Int} (hs : 0 ≤ s) (hk : 1 ≤ k) (hk2 : k ≤ 32) : tb (shl m s) k = (decide (s < k) && tb m (k - s)) := by
  unfold tb shl
  rw [Int.toNat_natCast, show 4294967296 = 2 ^ 32 from rfl, Nat.testBit_mod_two_pow, Nat.mul_comm, Nat.testBit_two_pow_mul]
  have h1 : ((k - 1).toNat < 32) := by omega
  by_cases h2 : s < k
  · have h3 : (k - 1).toNat ≥ s.toNat := by omega
    have h4 : (k - 1).toNat - s.toNat = (k - s - 1).toNat := by omega
    rw [decide_eq_true h1, decide_eq_true h2, decide_eq_true h3, h4]; rfl
  · have h3 : ¬ (k - 1).toNat ≥ s.toNat := by omega
    rw [decide_eq_true h1, decide_eq_false h2, decide_eq_false h3]; rfl
end Go.Proofs.Ytloobijdpchppaa.Sr

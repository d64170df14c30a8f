/- Joined: BitPlain, BitPlain2, RdPlain, FgPlain, FgRun, FgStep, Turned, Flat, Push, BitMem, ByteMem, BitMem2, BitWr, BitWr2, BitRf. -/
import Derived.Laws.BitsAllLaws
import Derived.WalkKit
import Derived.Below
import Derived.OwnWalk
import Derived.Maps.AppendAt
import Derived.Deep.RegionLaw
import Derived.ProofKit
import Derived.OpenShut
import Derived.ChangeOld
import Derived.ChangeSlices
import Derived.Deep.Slices
import Derived.Deep.Upon
import Derived.Test.YtkjlbginggppaaaRows
import Derived.WalkSpells
import Derived.WalkSmall
import Derived.BigQuiet
import Derived.BigRegion
import Derived.Deep.QuietTactic
import Derived.Deep.RegionWith
/- Bits as lists of bools: numbers of n bits, small numbers, bytes; plain functions, and their laws. -/
namespace Go.Proofs.Ytkjlbginggppaaa.Bt
set_option linter.unusedVariables false

/-- the lowest n bits of x, the lowest one first -/
def bits : Nat → Nat → List Bool
  | _, 0 => []
  | x, n + 1 => (x % 2 == 1) :: bits (x / 2) n
/-- what bits tell, the lowest one first -/
def val : List Bool → Nat
  | [] => 0
  | b :: l => b.toNat + 2 * val l
theorem bits_length : ∀ (n x : Nat), (bits x n).length = n
  | 0, _ => rfl
  | n + 1, x => by show (bits (x / 2) n).length + 1 = n + 1; rw [bits_length n]
theorem val_lt : ∀ l : List Bool, val l < 2 ^ l.length
  | [] => by decide
  | b :: l => by
    have := val_lt l
    have hb : b.toNat < 2 := by cases b <;> decide
    show b.toNat + 2 * val l < 2 ^ (l.length + 1)
    rw [Nat.pow_succ]; omega
theorem val_bits : ∀ (n x : Nat), val (bits x n) = x % 2 ^ n
  | 0, x => by show 0 = x % 1; omega
  | n + 1, x => by
    show (x % 2 == 1).toNat + 2 * val (bits (x / 2) n) = _
    rw [val_bits n, Nat.pow_succ, Nat.mul_comm (2 ^ n) 2, Nat.mod_mul]
    have : x % 2 < 2 := Nat.mod_lt _ (by omega)
    by_cases h : x % 2 = 1
    · simp [h]
    · have h0 : x % 2 = 0 := by omega
      simp [h0]
theorem bits_val : ∀ l : List Bool, bits (val l) l.length = l
  | [] => rfl
  | b :: l => by
    have hb : b.toNat < 2 := by cases b <;> decide
    show ((b.toNat + 2 * val l) % 2 == 1) :: bits ((b.toNat + 2 * val l) / 2) l.length = b :: l
    rw [show (b.toNat + 2 * val l) / 2 = val l by omega, bits_val l, show (b.toNat + 2 * val l) % 2 = b.toNat by omega]
    cases b <;> rfl
theorem bits_mod : ∀ (n m x : Nat), n ≤ m → bits (x % 2 ^ m) n = bits x n
  | 0, _, _, _ => rfl
  | n + 1, 0, _, h => by omega
  | n + 1, m + 1, x, h => by
    show ((x % 2 ^ (m + 1)) % 2 == 1) :: bits (x % 2 ^ (m + 1) / 2) n = (x % 2 == 1) :: bits (x / 2) n
    have e1 : x % 2 ^ (m + 1) % 2 = x % 2 := by rw [Nat.pow_succ, Nat.mul_comm]; exact Nat.mod_mul_right_mod _ _ _
    have e2 : x % 2 ^ (m + 1) / 2 = x / 2 % 2 ^ m := by rw [Nat.pow_succ, Nat.mul_comm, Nat.mod_mul_right_div_self]
    rw [e1, e2, bits_mod n m _ (by omega)]
theorem bits_add : ∀ (n m x : Nat), bits x (n + m) = bits x n ++ bits (x / 2 ^ n) m
  | 0, m, x => by rw [Nat.zero_add, Nat.pow_zero, Nat.div_one]; rfl
  | n + 1, m, x => by
    rw [Nat.add_right_comm]
    show (x % 2 == 1) :: bits (x / 2) (n + m) = ((x % 2 == 1) :: bits (x / 2) n) ++ bits (x / 2 ^ (n + 1)) m
    rw [bits_add n m, Nat.div_div_eq_div_mul, Nat.pow_succ, Nat.mul_comm 2]
    rfl
theorem bits_snoc (n x : Nat) : bits x (n + 1) = bits x n ++ [x / 2 ^ n % 2 == 1] := by rw [bits_add n 1]; rfl
theorem bits_inj {n x y : Nat} (hx : x < 2 ^ n) (hy : y < 2 ^ n) (h : bits x n = bits y n) : x = y := by
  have := congrArg val h
  rwa [val_bits, val_bits, Nat.mod_eq_of_lt hx, Nat.mod_eq_of_lt hy] at this
theorem bits_zero : ∀ n, bits 0 n = List.replicate n false
  | 0 => rfl
  | n + 1 => by show (0 % 2 == 1) :: bits (0 / 2) n = _; rw [Nat.zero_div, bits_zero n]; rfl
theorem val_append : ∀ l r : List Bool, val (l ++ r) = val l + 2 ^ l.length * val r
  | [], r => by show val r = 0 + 2 ^ 0 * val r; omega
  | b :: l, r => by
    show b.toNat + 2 * val (l ++ r) = (b.toNat + 2 * val l) + 2 ^ (l.length + 1) * val r
    rw [val_append l r, Nat.pow_succ, Nat.mul_comm (2 ^ l.length) 2, Nat.mul_assoc]; omega
theorem val_snoc (l : List Bool) (b : Bool) : val (l ++ [b]) = val l + 2 ^ l.length * b.toNat := by
  rw [val_append]; show _ + _ * (b.toNat + 2 * 0) = _; rw [Nat.mul_zero, Nat.add_zero]
theorem val_zeros (n : Nat) : val (List.replicate n false) = 0 := by rw [← bits_zero, val_bits]; exact Nat.zero_mod _
theorem val_eq_zero : ∀ {l : List Bool}, val l = 0 → l = List.replicate l.length false
  | [], _ => rfl
  | b :: l, h => by
    have hb : b.toNat + 2 * val l = 0 := h
    have h0 : val l = 0 := by omega
    have : b = false := by cases b; rfl; simp at hb
    subst this
    show false :: l = false :: List.replicate l.length false
    rw [← val_eq_zero h0]
theorem val_inj {l r : List Bool} (hl : l.length = r.length) (h : val l = val r) : l = r := by
  have := bits_val l
  rw [h, hl, bits_val] at this
  exact this.symm

/-- a number with its sign, as one without -/
def zig (x : Int) : Nat := if x < 0 then (-(x + 1)).toNat * 2 + 1 else x.toNat * 2
def zag (u : Nat) : Int := if u % 2 = 1 then -((u / 2 : Nat) : Int) - 1 else ((u / 2 : Nat) : Int)
theorem zag_zig (x : Int) : zag (zig x) = x := by
  unfold zig zag
  by_cases h : x < 0
  · rw [if_pos h, if_pos (by omega)]; omega
  · rw [if_neg h, if_neg (by omega)]; omega
theorem zig_zag (u : Nat) : zig (zag u) = u := by
  unfold zig zag
  by_cases h : u % 2 = 1
  · rw [if_pos h, if_pos (by omega)]; omega
  · rw [if_neg h, if_neg (by omega)]; omega
theorem zig_lt {x : Int} (h1 : -9223372036854775808 ≤ x) (h2 : x < 9223372036854775808) : zig x < 18446744073709551616 := by
  unfold zig; split <;> omega
theorem zag_lo {u : Nat} (h : u < 18446744073709551616) : -9223372036854775808 ≤ zag u := by unfold zag; split <;> omega
theorem zag_hi {u : Nat} (h : u < 18446744073709551616) : zag u < 9223372036854775808 := by unfold zag; split <;> omega
theorem zig_inj {x y : Int} (h : zig x = zig y) : x = y := by rw [← zag_zig x, h, zag_zig]

/-- a small number's bits, k steps at most -/
def smF : Nat → Nat → List Bool
  | 0, u => false :: bits u 7
  | k + 1, u => if 127 < u then (true :: bits (u % 128) 7) ++ smF k (u / 128) else false :: bits u 7
theorem smF_succ (k u : Nat) : smF (k + 1) u = if 127 < u then (true :: bits (u % 128) 7) ++ smF k (u / 128) else false :: bits u 7 := rfl
theorem smF_eq : ∀ {k j u : Nat}, u ≤ k → u ≤ j → smF k u = smF j u
  | 0, 0, _, _, _ => rfl
  | 0, j + 1, u, h, _ => by rw [smF_succ, if_neg (by omega)]; rfl
  | k + 1, 0, u, _, h => by rw [smF_succ, if_neg (by omega)]; rfl
  | k + 1, j + 1, u, h, h' => by
    rw [smF_succ, smF_succ]
    by_cases hu : 127 < u
    · rw [if_pos hu, if_pos hu, smF_eq (k := k) (j := j) (by omega) (by omega)]
    · rw [if_neg hu, if_neg hu]
/-- a small number's bits -/
def sm (u : Nat) : List Bool := smF u u
theorem sm_more {u : Nat} (h : 127 < u) : sm u = (true :: bits (u % 128) 7) ++ sm (u / 128) := by
  unfold sm
  obtain ⟨v, rfl⟩ : ∃ v, u = v + 1 := ⟨u - 1, by omega⟩
  rw [smF_succ, if_pos h, smF_eq (k := v) (j := (v + 1) / 128) (by omega) (Nat.le_refl _)]
theorem sm_last {u : Nat} (h : ¬ 127 < u) : sm u = false :: bits u 7 := by
  unfold sm
  cases u with
  | zero => rfl
  | succ v => rw [smF_succ, if_neg h]
/-- how many times eight bits, k steps at most -/
def eightsF : Nat → Nat → Nat
  | 0, _ => 1
  | k + 1, u => if 127 < u then eightsF k (u / 128) + 1 else 1
theorem eightsF_succ (k u : Nat) : eightsF (k + 1) u = if 127 < u then eightsF k (u / 128) + 1 else 1 := rfl
theorem eightsF_eq : ∀ {k j u : Nat}, u ≤ k → u ≤ j → eightsF k u = eightsF j u
  | 0, 0, _, _, _ => rfl
  | 0, j + 1, u, h, _ => by rw [eightsF_succ, if_neg (by omega)]; rfl
  | k + 1, 0, u, _, h => by rw [eightsF_succ, if_neg (by omega)]; rfl
  | k + 1, j + 1, u, h, h' => by
    rw [eightsF_succ, eightsF_succ]
    by_cases hu : 127 < u
    · rw [if_pos hu, if_pos hu, eightsF_eq (k := k) (j := j) (by omega) (by omega)]
    · rw [if_neg hu, if_neg hu]
/-- how many times eight bits -/
def eights (u : Nat) : Nat := eightsF u u
theorem eights_more {u : Nat} (h : 127 < u) : eights u = eights (u / 128) + 1 := by
  unfold eights
  obtain ⟨v, rfl⟩ : ∃ v, u = v + 1 := ⟨u - 1, by omega⟩
  rw [eightsF_succ, if_pos h, eightsF_eq (k := v) (j := (v + 1) / 128) (by omega) (Nat.le_refl _)]
theorem eights_last {u : Nat} (h : ¬ 127 < u) : eights u = 1 := by
  unfold eights
  cases u with
  | zero => rfl
  | succ v => rw [eightsF_succ, if_neg h]
theorem eights_pos (u : Nat) : 1 ≤ eights u := by
  by_cases h : 127 < u
  · rw [eights_more h]; omega
  · rw [eights_last h]; omega
theorem sm_length (u : Nat) : (sm u).length = 8 * eights u := by
  induction u using Nat.strongRecOn with
  | ind u ih =>
    by_cases h : 127 < u
    · rw [sm_more h, eights_more h, List.length_append, ih (u / 128) (by omega)]
      simp [bits_length]; omega
    · rw [sm_last h, eights_last h]; simp [bits_length]
/-- in n times eight bits goes what is below 128 to the n -/
theorem eights_le : ∀ {n u : Nat}, 1 ≤ n → (eights u ≤ n ↔ u < 128 ^ n)
  | 0, _, h => by omega
  | 1, u, _ => by
    by_cases h : 127 < u
    · rw [eights_more h]
      have := eights_pos (u / 128)
      omega
    · rw [eights_last h]; omega
  | n + 2, u, _ => by
    have hp : 128 ^ (n + 2) = 128 ^ (n + 1) * 128 := Nat.pow_succ ..
    have h1 : 1 ≤ 128 ^ (n + 1) := Nat.pos_of_ne_zero (by simp)
    by_cases h : 127 < u
    · rw [eights_more h, Nat.add_le_add_iff_right, eights_le (n := n + 1) (by omega), hp]
      rw [Nat.div_lt_iff_lt_mul (by omega)]
    · rw [eights_last h, hp]; omega
theorem eights_ten {u : Nat} (h : u < 18446744073709551616) : eights u ≤ 10 := by
  rw [eights_le (by omega)]
  exact Nat.lt_of_lt_of_le h (by decide)
theorem eights_mono {u v : Nat} (h : u ≤ v) : eights u ≤ eights v := by
  have hv := (eights_le (u := v) (eights_pos v)).1 (Nat.le_refl _)
  exact (eights_le (eights_pos v)).2 (Nat.lt_of_le_of_lt h hv)
/-- small numbers begin none other -/
theorem sm_prefix {u v : Nat} {r s : List Bool} (h : sm u ++ r = sm v ++ s) : u = v ∧ r = s := by
  induction u using Nat.strongRecOn generalizing v with
  | ind u ih =>
    by_cases hu : 127 < u <;> by_cases hv : 127 < v
    · rw [sm_more hu, sm_more hv] at h
      simp only [List.cons_append, List.append_assoc, List.cons.injEq, true_and] at h
      obtain ⟨h1, h2⟩ := List.append_inj h (by rw [bits_length, bits_length])
      obtain ⟨h3, h4⟩ := ih (u / 128) (by omega) h2
      have := bits_inj (n := 7) (by omega) (by omega) h1
      exact ⟨by omega, h4⟩
    · rw [sm_more hu, sm_last hv] at h; simp at h
    · rw [sm_last hu, sm_more hv] at h; simp at h
    · rw [sm_last hu, sm_last hv] at h
      simp only [List.cons_append, List.cons.injEq, true_and] at h
      obtain ⟨h1, h2⟩ := List.append_inj h (by rw [bits_length, bits_length])
      exact ⟨bits_inj (n := 7) (by omega) (by omega) h1, h2⟩

/-- up to k times eight bits, as they come: what they tell, and how many times eight they are -/
def grp : Nat → List Bool → Option (Nat × Nat)
  | 0, _ => none
  | k + 1, l =>
    match l with
    | [] => none
    | m :: r =>
      if r.length < 7 then none
      else if m then
        match grp k (r.drop 7) with
        | none => none
        | some (u, c) => some (val (r.take 7) + 128 * u, c + 1)
      else some (val (r.take 7), 1)
theorem grp_true (k : Nat) {r : List Bool} (h : ¬ r.length < 7) : grp (k + 1) (true :: r) = (match grp k (r.drop 7) with | none => none | some (u, c) => some (val (r.take 7) + 128 * u, c + 1)) := by
  show (if r.length < 7 then none else if true = true then (match grp k (r.drop 7) with | none => none | some (u, c) => some (val (r.take 7) + 128 * u, c + 1)) else some (val (r.take 7), 1)) = _
  rw [if_neg h, if_pos rfl]
theorem grp_false (k : Nat) {r : List Bool} (h : ¬ r.length < 7) : grp (k + 1) (false :: r) = some (val (r.take 7), 1) := by
  unfold grp; simp [h]
theorem grp_sm : ∀ {k u : Nat} (r : List Bool), eights u ≤ k → grp k (sm u ++ r) = some (u, eights u)
  | 0, u, _, h => by have := eights_pos u; omega
  | k + 1, u, r, h => by
    by_cases hu : 127 < u
    · rw [eights_more hu] at h ⊢
      have ih := grp_sm (k := k) (u := u / 128) r (by omega)
      rw [sm_more hu]
      show grp (k + 1) (true :: (bits (u % 128) 7 ++ sm (u / 128) ++ r)) = _
      rw [grp_true k (by simp [bits_length])]
      have e1 : (bits (u % 128) 7 ++ sm (u / 128) ++ r).drop 7 = sm (u / 128) ++ r := by rw [List.append_assoc, List.drop_append_of_le_length (by rw [bits_length]; omega), List.drop_of_length_le (by rw [bits_length]; omega), List.nil_append]
      have e2 : (bits (u % 128) 7 ++ sm (u / 128) ++ r).take 7 = bits (u % 128) 7 := by rw [List.append_assoc, List.take_append_of_le_length (by rw [bits_length]; omega), List.take_of_length_le (by rw [bits_length]; omega)]
      rw [e1, ih, e2]
      simp [val_bits]; omega
    · rw [eights_last hu, sm_last hu]
      show grp (k + 1) (false :: (bits u 7 ++ r)) = _
      rw [grp_false k (by simp [bits_length])]
      have e2 : (bits u 7 ++ r).take 7 = bits u 7 := by rw [List.take_append_of_le_length (by rw [bits_length]; omega), List.take_of_length_le (by rw [bits_length]; omega)]
      rw [e2, val_bits, Nat.mod_eq_of_lt (show u < 2 ^ 7 by omega)]
theorem grp_far : ∀ {k u : Nat} (r : List Bool), k < eights u → grp k (sm u ++ r) = none
  | 0, _, _, _ => rfl
  | k + 1, u, r, h => by
    by_cases hu : 127 < u
    · rw [eights_more hu] at h
      have ih := grp_far (k := k) (u := u / 128) r (by omega)
      rw [sm_more hu]
      show grp (k + 1) (true :: (bits (u % 128) 7 ++ sm (u / 128) ++ r)) = _
      rw [grp_true k (by simp [bits_length])]
      have e1 : (bits (u % 128) 7 ++ sm (u / 128) ++ r).drop 7 = sm (u / 128) ++ r := by rw [List.append_assoc, List.drop_append_of_le_length (by rw [bits_length]; omega), List.drop_of_length_le (by rw [bits_length]; omega), List.nil_append]
      rw [e1, ih]
    · rw [eights_last hu] at h; omega
theorem grp_some : ∀ {k : Nat} {l : List Bool} {u c : Nat}, grp k l = some (u, c) → 1 ≤ c ∧ c ≤ k ∧ 8 * c ≤ l.length ∧ u < 128 ^ c ∧ eights u ≤ c ∧ (eights u = c → l.take (8 * c) = sm u)
  | 0, _, _, _, h => by cases h
  | k + 1, [], _, _, h => by cases h
  | k + 1, m :: r, u, c, h => by
    have h' : (if r.length < 7 then none else if m then (match grp k (r.drop 7) with | none => none | some (u, c) => some (val (r.take 7) + 128 * u, c + 1)) else some (val (r.take 7), 1)) = some (u, c) := h
    by_cases h7 : r.length < 7
    · rw [if_pos h7] at h'; cases h'
    · rw [if_neg h7] at h'
      have hl7 : (r.take 7).length = 7 := by rw [List.length_take]; omega
      have hv := val_lt (r.take 7)
      rw [hl7] at hv
      have hb := bits_val (r.take 7)
      rw [hl7] at hb
      cases m with
      | false =>
        simp at h'
        obtain ⟨rfl, rfl⟩ := h'
        refine ⟨Nat.le_refl _, by omega, by simp; omega, by omega, by rw [eights_last (by omega)]; exact Nat.le_refl _, fun _ => ?_⟩
        rw [sm_last (by omega), hb]
        rfl
      | true =>
        simp only [if_true] at h'
        cases hg : grp k (r.drop 7) with
        | none => rw [hg] at h'; cases h'
        | some p =>
          obtain ⟨u', c'⟩ := p
          rw [hg] at h'
          simp at h'
          obtain ⟨rfl, rfl⟩ := h'
          obtain ⟨g1, g2, g3, g4, g5, g6⟩ := grp_some hg
          rw [List.length_drop] at g3
          have hp : 128 ^ (c' + 1) = 128 ^ c' * 128 := Nat.pow_succ ..
          have hu : val (r.take 7) + 128 * u' < 128 ^ (c' + 1) := by rw [hp]; omega
          refine ⟨by omega, by omega, by simp; omega, hu, (eights_le (by omega)).2 hu, fun he => ?_⟩
          have h127 : 127 < val (r.take 7) + 128 * u' := by
            by_cases h0 : 127 < val (r.take 7) + 128 * u'
            · exact h0
            · rw [eights_last h0] at he; omega
          have hd : (val (r.take 7) + 128 * u') / 128 = u' := by omega
          rw [eights_more h127, hd] at he
          rw [sm_more h127, hd, show (val (r.take 7) + 128 * u') % 128 = val (r.take 7) by omega, hb, ← g6 (by omega), show 8 * (c' + 1) = 7 + 8 * c' + 1 by omega]
          show true :: r.take (7 + 8 * c') = true :: r.take 7 ++ (r.drop 7).take (8 * c')
          rw [List.take_add]
          rfl
/-- the next small number, and its bits: or none -/
def small (l : List Bool) : Option (Int × Nat) :=
  match grp 10 l with
  | none => none
  | some (u, c) => if u < 18446744073709551616 ∧ eights u = c then some (zag u, 8 * c) else none
theorem small_iff {l : List Bool} {x : Int} {n : Nat} : small l = some (x, n) ↔ (zig x < 18446744073709551616 ∧ n = 8 * eights (zig x) ∧ ∃ r, l = sm (zig x) ++ r) := by
  unfold small
  constructor
  · intro h
    cases hg : grp 10 l with
    | none => rw [hg] at h; cases h
    | some p =>
      obtain ⟨u, c⟩ := p
      rw [hg] at h
      simp only at h
      split at h
      · rename_i hc
        simp at h
        obtain ⟨rfl, rfl⟩ := h
        obtain ⟨_, _, _, _, _, g6⟩ := grp_some hg
        rw [zig_zag]
        refine ⟨hc.1, by rw [hc.2], l.drop (8 * c), ?_⟩
        rw [← g6 hc.2, List.take_append_drop]
      · cases h
  · rintro ⟨h1, rfl, r, rfl⟩
    rw [grp_sm r (eights_ten h1)]
    simp [h1, zag_zig]
theorem small_none {l : List Bool} (h : ∀ x r, zig x < 18446744073709551616 → l ≠ sm (zig x) ++ r) : small l = none := by
  cases hs : small l with
  | none => rfl
  | some p =>
    obtain ⟨x, n⟩ := p
    obtain ⟨h1, _, r, h2⟩ := small_iff.1 hs
    exact absurd h2 (h x r h1)
theorem small_sm {x : Int} (h : zig x < 18446744073709551616) (r : List Bool) : small (sm (zig x) ++ r) = some (x, 8 * eights (zig x)) := small_iff.2 ⟨h, rfl, r, rfl⟩

/-- the bytes of bits: what lacks of the last one is 0 -/
def byteAt (l : List Bool) (i : Nat) : Nat := val ((l.drop (8 * i)).take 8)
def pack (l : List Bool) : List Nat := (List.range ((l.length + 7) / 8)).map (byteAt l)
/-- the bits of bytes -/
def unpack (b : List Nat) : List Bool := b.flatMap fun x => bits x 8
theorem byteAt_lt (l : List Bool) (i : Nat) : byteAt l i < 256 := by
  have := val_lt ((l.drop (8 * i)).take 8)
  have h8 : ((l.drop (8 * i)).take 8).length ≤ 8 := by rw [List.length_take]; omega
  exact Nat.lt_of_lt_of_le this (Nat.pow_le_pow_right (n := 2) (by omega) h8)
theorem pack_lt (l : List Bool) : ∀ x ∈ pack l, x < 256 := by
  intro x hx
  obtain ⟨i, _, rfl⟩ := List.mem_map.1 hx
  exact byteAt_lt l i
theorem pack_length (l : List Bool) : (pack l).length = (l.length + 7) / 8 := by simp [pack]
theorem pack_at {l : List Bool} {i : Nat} (h : i < (l.length + 7) / 8) : (pack l).getD i 0 = byteAt l i := by
  simp [pack, List.getD, h]
theorem pack_nil : pack [] = [] := rfl
theorem unpack_length : ∀ b : List Nat, (unpack b).length = 8 * b.length
  | [] => rfl
  | x :: b => by
    show (bits x 8 ++ unpack b).length = _
    rw [List.length_append, bits_length, unpack_length b, List.length_cons]; omega
theorem unpack_append (a b : List Nat) : unpack (a ++ b) = unpack a ++ unpack b := List.flatMap_append
theorem bits_at : ∀ {n x i : Nat}, i < n → (bits x n).getD i false = (x / 2 ^ i % 2 == 1)
  | 0, _, _, h => by omega
  | n + 1, x, 0, _ => by show (x % 2 == 1) = _; rw [Nat.pow_zero, Nat.div_one]
  | n + 1, x, i + 1, h => by
    show (bits (x / 2) n).getD i false = _
    rw [bits_at (by omega), Nat.div_div_eq_div_mul, Nat.pow_succ, Nat.mul_comm 2]
theorem getD_left {α : Type} {l r : List α} {i : Nat} {d : α} (h : i < l.length) : (l ++ r).getD i d = l.getD i d := by simp [List.getD, List.getElem?_append_left h]
theorem getD_right {α : Type} {l r : List α} {i : Nat} {d : α} (h : l.length ≤ i) : (l ++ r).getD i d = r.getD (i - l.length) d := by simp [List.getD, List.getElem?_append_right h]
theorem unpack_at : ∀ {b : List Nat} {i : Nat}, i < 8 * b.length → (unpack b).getD i false = (b.getD (i / 8) 0 / 2 ^ (i % 8) % 2 == 1)
  | [], i, h => by simp at h
  | x :: b, i, h => by
    show (bits x 8 ++ unpack b).getD i false = _
    by_cases hi : i < 8
    · rw [show i / 8 = 0 by omega, show i % 8 = i by omega]
      rw [getD_left (by rw [bits_length]; exact hi), bits_at hi]
      rfl
    · rw [List.length_cons] at h
      rw [getD_right (by rw [bits_length]; omega), bits_length, unpack_at (by omega)]
      rw [show i / 8 = (i - 8) / 8 + 1 by omega, show i % 8 = (i - 8) % 8 by omega]
      rfl
end Go.Proofs.Ytkjlbginggppaaa.Bt


/- Bits and their bytes, there and back; what a reader does, as plain functions. -/
namespace Go.Proofs.Ytkjlbginggppaaa.Bt
set_option linter.unusedVariables false

theorem byteAt_keep {l : List Bool} {b : Bool} {i : Nat} (h : 8 * i + 8 ≤ l.length) : byteAt (l ++ [b]) i = byteAt l i := by
  unfold byteAt
  rw [List.drop_append_of_le_length (by omega), List.take_append_of_le_length (by rw [List.length_drop]; omega)]
/-- one bit more, in a new byte -/
theorem pack_new {l : List Bool} (b : Bool) (h : l.length % 8 = 0) : pack (l ++ [b]) = pack l ++ [b.toNat] := by
  unfold pack
  rw [List.length_append, List.length_singleton, show (l.length + 1 + 7) / 8 = (l.length + 7) / 8 + 1 by omega, List.range_succ, List.map_append]
  congr 1
  · apply List.map_congr_left
    intro i hi
    rw [List.mem_range] at hi
    exact byteAt_keep (by omega)
  · simp only [List.map_cons, List.map_nil, List.cons.injEq, and_true]
    unfold byteAt
    rw [show 8 * ((l.length + 7) / 8) = l.length by omega, List.drop_append_of_le_length (Nat.le_refl _), List.drop_length, List.nil_append]
    show b.toNat + 2 * 0 = b.toNat
    omega
/-- one bit more, in the last byte -/
theorem pack_more {l : List Bool} (b : Bool) (h : l.length % 8 ≠ 0) : pack (l ++ [b]) = (pack l).set (l.length / 8) (byteAt l (l.length / 8) + 2 ^ (l.length % 8) * b.toNat) := by
  apply List.ext_getElem
  · rw [List.length_set, pack_length, pack_length, List.length_append, List.length_singleton]; omega
  · intro i h1 h2
    rw [pack_length, List.length_append, List.length_singleton] at h1
    rw [List.getElem_set]
    have hl : (l ++ [b]).length = l.length + 1 := by simp
    by_cases e : l.length / 8 = i
    · rw [if_pos e]
      simp only [pack, List.getElem_map, List.getElem_range]
      subst e
      unfold byteAt
      have hd : (l.drop (8 * (l.length / 8))).length = l.length % 8 := by rw [List.length_drop]; omega
      rw [List.drop_append_of_le_length (by omega), List.take_of_length_le (by rw [List.length_append, hd, List.length_singleton]; omega), List.take_of_length_le (by omega), val_snoc, hd]
    · rw [if_neg e]
      simp only [pack, List.getElem_map, List.getElem_range]
      exact byteAt_keep (by omega)
theorem byteAt_last {l : List Bool} : byteAt l (l.length / 8) < 2 ^ (l.length % 8) := by
  unfold byteAt
  have hd : (l.drop (8 * (l.length / 8))).length = l.length % 8 := by rw [List.length_drop]; omega
  have := val_lt ((l.drop (8 * (l.length / 8))).take 8)
  rw [List.take_of_length_le (by omega), hd] at this
  rw [List.take_of_length_le (by omega)]
  exact this
/-- there and back: what lacks of the last byte is 0 -/
theorem unpack_pack (l : List Bool) : unpack (pack l) = l ++ List.replicate (8 * ((l.length + 7) / 8) - l.length) false := by
  apply List.ext_getElem
  · rw [unpack_length, pack_length, List.length_append, List.length_replicate]; omega
  · intro i h1 h2
    have h1' : i < 8 * (pack l).length := by rw [unpack_length] at h1; exact h1
    have e : (unpack (pack l)).getD i false = (unpack (pack l))[i] := by simp [List.getD, List.getElem?_eq_getElem h1]
    have hp : i / 8 < (l.length + 7) / 8 := by rw [pack_length] at h1'; omega
    rw [← e, unpack_at h1', pack_at hp]
    unfold byteAt
    have hb := bits_val ((l.drop (8 * (i / 8))).take 8)
    have hlen : ((l.drop (8 * (i / 8))).take 8).length = min 8 (l.length - 8 * (i / 8)) := by rw [List.length_take, List.length_drop]
    by_cases hi : i < l.length
    · have hk : i % 8 < ((l.drop (8 * (i / 8))).take 8).length := by rw [hlen]; omega
      rw [← bits_at hk, hb]
      simp [List.getD, List.getElem?_drop, show i % 8 < 8 by omega, show 8 * (i / 8) + i % 8 = i by omega, List.getElem_append_left hi, List.getElem?_eq_getElem hi]
    · have hv := val_lt ((l.drop (8 * (i / 8))).take 8)
      have hk : ((l.drop (8 * (i / 8))).take 8).length ≤ i % 8 := by rw [hlen]; omega
      have hz : val ((l.drop (8 * (i / 8))).take 8) / 2 ^ (i % 8) = 0 := Nat.div_eq_of_lt (Nat.lt_of_lt_of_le hv (Nat.pow_le_pow_right (n := 2) (by omega) hk))
      rw [hz]
      rw [List.getElem_append_right (by omega), List.getElem_replicate]
      rfl

/-- a reader: its bits, where it is, whether it has failed -/
structure Rd where
  l : List Bool
  at_ : Nat
  fail : Bool
namespace Rd
def ok (r : Rd) : Bool := !r.fail
def left (r : Rd) : Nat := r.l.length - r.at_
def rest (r : Rd) : List Bool := r.l.drop r.at_
def can (r : Rd) (n : Int) : Bool := !r.fail && decide (0 ≤ n) && decide (n ≤ 64) && decide (n ≤ (r.left : Int))
/-- n bits are taken: what they tell, and the reader behind -/
def tell (r : Rd) (n : Int) : Nat := if r.can n then val (r.rest.take n.toNat) else 0
def take (r : Rd) (n : Int) : Rd := if r.can n then ⟨r.l, r.at_ + n.toNat, false⟩ else ⟨r.l, r.at_, true⟩
/-- a small number is taken -/
def sTell (r : Rd) : Int := if r.fail then 0 else match small r.rest with | none => 0 | some (x, _) => x
def sTake (r : Rd) : Rd := if r.fail then r else match small r.rest with | none => ⟨r.l, r.at_, true⟩ | some (_, n) => ⟨r.l, r.at_ + n, false⟩
def done (r : Rd) : Bool := !r.fail && decide (r.left < 8) && r.rest.all (fun b => !b)
/-- where it is lies within its bits -/
def wf (r : Rd) : Prop := r.at_ ≤ r.l.length
theorem rest_length (r : Rd) : r.rest.length = r.left := List.length_drop
theorem can_iff {r : Rd} {n : Int} : r.can n = true ↔ r.fail = false ∧ 0 ≤ n ∧ n ≤ 64 ∧ n ≤ (r.left : Int) := by
  unfold can; simp [and_assoc]
theorem take_wf {r : Rd} {n : Int} (h : r.wf) : (r.take n).wf := by
  unfold take wf at *
  by_cases hc : r.can n = true
  · rw [if_pos hc]
    have := can_iff.1 hc
    unfold left at this
    show r.at_ + n.toNat ≤ r.l.length
    omega
  · rw [if_neg hc]; exact h
theorem small_le {l : List Bool} {x : Int} {n : Nat} (h : small l = some (x, n)) : n ≤ l.length := by
  obtain ⟨_, rfl, r, rfl⟩ := small_iff.1 h
  rw [List.length_append, sm_length]; omega
theorem sTake_wf {r : Rd} (h : r.wf) : r.sTake.wf := by
  unfold sTake
  split
  · exact h
  · cases hs : small r.rest with
    | none => exact h
    | some p =>
      obtain ⟨x, n⟩ := p
      have := small_le hs
      rw [rest_length] at this
      unfold left at this
      unfold wf at *
      show r.at_ + n ≤ r.l.length
      omega
theorem tell_lt (r : Rd) (n : Int) : r.tell n < 18446744073709551616 := by
  unfold tell
  split
  · rename_i hc
    have := can_iff.1 hc
    have hv := val_lt (r.rest.take n.toNat)
    have hp : 2 ^ (r.rest.take n.toNat).length ≤ 2 ^ 64 := Nat.pow_le_pow_right (by omega) (by rw [List.length_take]; omega)
    exact Nat.lt_of_lt_of_le hv hp
  · omega
end Rd
end Go.Proofs.Ytkjlbginggppaaa.Bt


/- What a reader of bits has taken is what came; what comes is taken: numbers of n bits, and small ones. -/
namespace Go.Proofs.Ytkjlbginggppaaa

namespace Bt
set_option linter.unusedVariables false
namespace Rd
/-- n bits were taken, and the reader has not failed -/
theorem take_ok {r : Rd} {n : Nat} (h : (r.take (n : Int)).fail = false) :
    r.fail = false ∧ n ≤ 64 ∧ n ≤ r.left ∧ r.take (n : Int) = ⟨r.l, r.at_ + n, false⟩ ∧ r.tell (n : Int) = val (r.rest.take n) ∧ r.tell (n : Int) < 2 ^ n ∧ r.rest = bits (r.tell (n : Int)) n ++ (r.take (n : Int)).rest := by
  have hc : r.can (n : Int) = true := by
    by_cases hc : r.can (n : Int) = true
    · exact hc
    · unfold take at h; rw [if_neg hc] at h; cases h
  obtain ⟨h1, _, h3, h4⟩ := can_iff.1 hc
  have e1 : r.take (n : Int) = ⟨r.l, r.at_ + n, false⟩ := by unfold take; rw [if_pos hc]; rfl
  have e2 : r.tell (n : Int) = val (r.rest.take n) := by unfold tell; rw [if_pos hc]; rfl
  have hl : (r.rest.take n).length = n := by rw [List.length_take, rest_length]; omega
  have hv := val_lt (r.rest.take n)
  rw [hl] at hv
  refine ⟨h1, by omega, by omega, e1, e2, by rw [e2]; exact hv, ?_⟩
  have hb := bits_val (r.rest.take n)
  rw [hl] at hb
  rw [e1, e2, hb]
  show r.rest = r.rest.take n ++ r.l.drop (r.at_ + n)
  rw [show r.l.drop (r.at_ + n) = r.rest.drop n by unfold rest; rw [List.drop_drop]]
  exact (List.take_append_drop n r.rest).symm
/-- the bits of a number come next -/
theorem take_bits {r : Rd} {x n : Nat} {t : List Bool} (hf : r.fail = false) (h : r.rest = bits x n ++ t) (hx : x < 2 ^ n) (hn : n ≤ 64) :
    r.tell (n : Int) = x ∧ r.take (n : Int) = ⟨r.l, r.at_ + n, false⟩ ∧ (r.take (n : Int)).rest = t := by
  have hl : n ≤ r.left := by rw [← rest_length, h, List.length_append, bits_length]; omega
  have hc : r.can (n : Int) = true := can_iff.2 ⟨hf, by omega, by omega, by omega⟩
  have e1 : r.take (n : Int) = ⟨r.l, r.at_ + n, false⟩ := by unfold take; rw [if_pos hc]; rfl
  have e2 : r.tell (n : Int) = val (r.rest.take n) := by unfold tell; rw [if_pos hc]; rfl
  have e3 : r.rest.take n = bits x n := by rw [h, List.take_append_of_le_length (by rw [bits_length]; omega), List.take_of_length_le (by rw [bits_length]; omega)]
  refine ⟨by rw [e2, e3, val_bits, Nat.mod_eq_of_lt hx], e1, ?_⟩
  rw [e1]
  show r.l.drop (r.at_ + n) = t
  rw [show r.l.drop (r.at_ + n) = r.rest.drop n by unfold rest; rw [List.drop_drop], h, List.drop_append_of_le_length (by rw [bits_length]; omega), List.drop_of_length_le (by rw [bits_length]; omega), List.nil_append]
theorem take_fail {r : Rd} (n : Int) (h : r.fail = true) : r.take n = ⟨r.l, r.at_, true⟩ ∧ r.tell n = 0 := by
  have hc : ¬ r.can n = true := by rw [can_iff, h]; simp
  unfold take tell
  rw [if_neg hc, if_neg hc]; exact ⟨rfl, rfl⟩
theorem take_l (r : Rd) (n : Int) : (r.take n).l = r.l := by unfold take; split <;> rfl
theorem fail_of {r : Rd} {n : Int} (h : (r.take n).fail = false) : r.fail = false := by
  cases hf : r.fail with
  | false => rfl
  | true => rw [(take_fail n hf).1] at h; cases h
/-- bits are laid on behind -/
def on (r : Rd) (s : List Bool) : Rd := ⟨r.l ++ s, r.at_, r.fail⟩
theorem take_on {r : Rd} {n : Nat} (s : List Bool) (h : (r.take (n : Int)).fail = false) : (r.on s).tell (n : Int) = r.tell (n : Int) ∧ (r.on s).take (n : Int) = (r.take (n : Int)).on s := by
  obtain ⟨h1, h2, h3, h4, h5, h6, h7⟩ := take_ok h
  have hl : r.at_ + n ≤ r.l.length ∨ n = 0 := by unfold left at h3; omega
  have hlon : n ≤ (r.on s).left := by unfold left on at *; simp; omega
  have hc : (r.on s).can (n : Int) = true := can_iff.2 ⟨h1, by omega, by omega, by omega⟩
  have e1 : (r.on s).take (n : Int) = ⟨r.l ++ s, r.at_ + n, false⟩ := by unfold take; rw [if_pos hc]; rfl
  have e2 : (r.on s).tell (n : Int) = val ((r.on s).rest.take n) := by unfold tell; rw [if_pos hc]; rfl
  refine ⟨?_, by rw [e1, h4]; rfl⟩
  rw [e2, h5]
  congr 1
  rcases hl with hl | hl
  · show ((r.l ++ s).drop r.at_).take n = (r.l.drop r.at_).take n
    rw [List.drop_append_of_le_length (by omega), List.take_append_of_le_length (by rw [List.length_drop]; omega)]
  · subst hl; simp
theorem sTake_bits {r : Rd} {x : Int} {t : List Bool} (hf : r.fail = false) (h : r.rest = sm (zig x) ++ t) (hx : zig x < 18446744073709551616) :
    r.sTell = x ∧ r.sTake = ⟨r.l, r.at_ + (sm (zig x)).length, false⟩ ∧ r.sTake.rest = t := by
  have hs := small_sm hx t
  rw [← h] at hs
  have e1 : r.sTell = x := by unfold sTell; rw [hf, hs]; rfl
  have e2 : r.sTake = ⟨r.l, r.at_ + (sm (zig x)).length, false⟩ := by unfold sTake; rw [hf, hs, sm_length]; rfl
  refine ⟨e1, e2, ?_⟩
  rw [e2]
  show r.l.drop (r.at_ + (sm (zig x)).length) = t
  rw [show r.l.drop (r.at_ + (sm (zig x)).length) = r.rest.drop (sm (zig x)).length by unfold rest; rw [List.drop_drop], h, List.drop_left]
theorem sfail_of {r : Rd} (h : r.sTake.fail = false) : r.fail = false := by
  cases hf : r.fail with
  | false => rfl
  | true => unfold sTake at h; rw [hf] at h; simp [hf] at h
theorem sTake_l (r : Rd) : r.sTake.l = r.l := by
  unfold sTake
  split
  · rfl
  · split <;> rfl
theorem zig_i64 {x : Int} (h : zig x < 18446744073709551616) : -9223372036854775808 ≤ x ∧ x < 9223372036854775808 := by
  unfold zig at h
  split at h <;> omega
theorem sTake_ok {r : Rd} (h : r.sTake.fail = false) : zig r.sTell < 18446744073709551616 ∧ r.rest = sm (zig r.sTell) ++ r.sTake.rest ∧ r.sTake = ⟨r.l, r.at_ + (sm (zig r.sTell)).length, false⟩ := by
  have hf := sfail_of h
  cases hs : small r.rest with
  | none => unfold sTake at h; rw [hf, hs] at h; cases h
  | some p =>
    obtain ⟨x, n⟩ := p
    obtain ⟨h1, _, t, ht⟩ := small_iff.1 hs
    obtain ⟨e1, e2, e3⟩ := sTake_bits hf ht h1
    rw [e1, e3]
    exact ⟨h1, ht, e2⟩
theorem sTell_i64 (r : Rd) : -9223372036854775808 ≤ r.sTell ∧ r.sTell < 9223372036854775808 := by
  unfold sTell
  split
  · omega
  · cases hs : small r.rest with
    | none => simp only; omega
    | some p =>
      obtain ⟨x, n⟩ := p
      exact zig_i64 (small_iff.1 hs).1
end Rd
end Bt
end Go.Proofs.Ytkjlbginggppaaa


/- Messages in parts, plain: a part's bytes, what is read of bytes, the parts of a message, what an assembler keeps. -/
namespace Go.Proofs.Ytkjlbginggppaaa
set_option linter.unusedVariables false

namespace Fg
open Bt
/-- a part: its message's id, how many parts that has, its place, its bytes -/
structure P where
  id : Nat
  n : Nat
  at_ : Nat
  b : List Nat

/-! a part's bytes -/
theorem bits_two (x y n m : Nat) (h : x < 2 ^ n) : Bt.bits x n ++ Bt.bits y m = Bt.bits (x + 2 ^ n * y) (n + m) := by
  rw [bits_add]
  have h1 : Bt.bits (x + 2 ^ n * y) n = Bt.bits x n := by
    rw [← bits_mod n n (x + 2 ^ n * y) (Nat.le_refl _), Nat.add_mul_mod_self_left, Nat.mod_eq_of_lt h]
  have h2 : (x + 2 ^ n * y) / 2 ^ n = y := by
    rw [Nat.add_mul_div_left _ _ (Nat.two_pow_pos n), Nat.div_eq_of_lt h, Nat.zero_add]
  rw [h1, h2]
theorem val_eight (x : Nat) (h : x < 256) : val (Bt.bits x 8) = x := by rw [val_bits]; exact Nat.mod_eq_of_lt h
theorem pack_three {x y z : Nat} (hx : x < 256) (hy : y < 256) (hz : z < 256) : pack (Bt.bits x 8 ++ (Bt.bits y 8 ++ Bt.bits z 8)) = [x, y, z] := by
  have hl : (Bt.bits x 8 ++ (Bt.bits y 8 ++ Bt.bits z 8)).length = 24 := by simp only [List.length_append, bits_length]
  unfold pack
  rw [hl]
  show [byteAt _ 0, byteAt _ 1, byteAt _ 2] = _
  have lx := bits_length 8 x
  have ly := bits_length 8 y
  have lz := bits_length 8 z
  have e0 : byteAt (Bt.bits x 8 ++ (Bt.bits y 8 ++ Bt.bits z 8)) 0 = x := by
    unfold byteAt
    rw [Nat.mul_zero, List.drop_zero, List.take_append_of_le_length (by omega), List.take_of_length_le (by omega), val_eight x hx]
  have e1 : byteAt (Bt.bits x 8 ++ (Bt.bits y 8 ++ Bt.bits z 8)) 1 = y := by
    unfold byteAt
    rw [List.drop_append, List.drop_of_length_le (by omega), List.nil_append, lx, show 8 * 1 - 8 = 0 from rfl, List.drop_zero, List.take_append_of_le_length (by omega), List.take_of_length_le (by omega), val_eight y hy]
  have e2 : byteAt (Bt.bits x 8 ++ (Bt.bits y 8 ++ Bt.bits z 8)) 2 = z := by
    unfold byteAt
    rw [List.drop_append, List.drop_of_length_le (by omega), List.nil_append, lx, show 8 * 2 - 8 = 8 from rfl, List.drop_append, List.drop_of_length_le (by omega), List.nil_append, ly, show 8 - 8 = 0 from rfl, List.drop_zero, List.take_of_length_le (by omega), val_eight z hz]
  rw [e0, e1, e2]
/-- the three bytes ahead -/
def head (p : P) : List Nat := [p.id % 256, p.id / 256, p.n - 1 + 16 * p.at_]
def bytes (p : P) : List Nat := head p ++ p.b
theorem head_bits {id n at_ : Nat} (h1 : id < 65536) (h2 : n ≤ 16) (h3 : at_ < 16) : pack (Bt.bits id 16 ++ Bt.bits (n - 1) 4 ++ Bt.bits at_ 4) = [id % 256, id / 256, n - 1 + 16 * at_] := by
  have e1 : Bt.bits id 16 = Bt.bits (id % 256) 8 ++ Bt.bits (id / 256) 8 := by
    have := bits_two (id % 256) (id / 256) 8 8 (by omega)
    rw [this]; congr 1; omega
  have e2 : Bt.bits (n - 1) 4 ++ Bt.bits at_ 4 = Bt.bits (n - 1 + 16 * at_) 8 := bits_two (n - 1) at_ 4 4 (by omega)
  rw [List.append_assoc, e2, e1, List.append_assoc]
  exact pack_three (by omega) (by omega) (by omega)

/-! what is read -/
def read : List Nat → Option P
  | x :: y :: z :: b => if 1 ≤ b.length ∧ b.length ≤ 300 ∧ z / 16 < z % 16 + 1 ∧ z % 16 + 1 ≤ 14 ∧ (z / 16 = z % 16 ∨ b.length = 300) then some ⟨x + 256 * y, z % 16 + 1, z / 16, b⟩ else none
  | _ => none
theorem read_cons (x y z : Nat) (b : List Nat) : read (x :: y :: z :: b) = if 1 ≤ b.length ∧ b.length ≤ 300 ∧ z / 16 < z % 16 + 1 ∧ z % 16 + 1 ≤ 14 ∧ (z / 16 = z % 16 ∨ b.length = 300) then some ⟨x + 256 * y, z % 16 + 1, z / 16, b⟩ else none := rfl
structure Formed (p : P) : Prop where
  id : p.id < 65536
  n : p.n ≤ 14
  at_ : p.at_ < p.n
  b0 : 1 ≤ p.b.length
  b1 : p.b.length ≤ 300
  full : p.at_ + 1 = p.n ∨ p.b.length = 300
theorem read_bytes {p : P} (h : Formed p) : read (bytes p) = some p := by
  obtain ⟨id, n, at_, b⟩ := p
  obtain ⟨h1, h2, h3, h4, h5, h6⟩ := h
  simp only at h1 h2 h3 h4 h5 h6
  show read (id % 256 :: id / 256 :: (n - 1 + 16 * at_) :: b) = _
  rw [read_cons]
  have e1 : (n - 1 + 16 * at_) % 16 = n - 1 := by omega
  have e2 : (n - 1 + 16 * at_) / 16 = at_ := by omega
  have e3 : id % 256 + 256 * (id / 256) = id := by omega
  have e4 : n - 1 + 1 = n := by omega
  rw [e1, e2, e3, e4, if_pos ⟨h4, h5, h3, h2, by omega⟩]
theorem read_formed {l : List Nat} {p : P} (hl : ∀ x ∈ l, x < 256) (h : read l = some p) : Formed p ∧ l = bytes p := by
  match l, h with
  | x :: y :: z :: b, h =>
    rw [read_cons] at h
    split at h
    · rename_i c
      obtain ⟨c1, c2, c3, c4, c5⟩ := c
      cases h
      have hx := hl x (by simp)
      have hy := hl y (by simp)
      refine ⟨⟨by show x + 256 * y < 65536; omega, c4, c3, c1, c2, c5.imp (fun h => (by show z / 16 + 1 = z % 16 + 1; omega)) id⟩, ?_⟩
      show _ = [(x + 256 * y) % 256, (x + 256 * y) / 256, z % 16 + 1 - 1 + 16 * (z / 16)] ++ b
      rw [show (x + 256 * y) % 256 = x by omega, show (x + 256 * y) / 256 = y by omega, show z % 16 + 1 - 1 + 16 * (z / 16) = z by omega]
      rfl
    · cases h
/-- what a reader of such bytes tells -/
theorem tells {x y z : Nat} {b : List Nat} {r : Rd} (hx : x < 256) (hy : y < 256) (hz : z < 256) (hf : r.fail = false) (hr : r.rest = unpack (x :: y :: z :: b)) :
    r.tell 16 = x + 256 * y ∧ (r.take 16).tell 4 = z % 16 ∧ ((r.take 16).take 4).tell 4 = z / 16 := by
  have e0 : r.rest = Bt.bits (x + 256 * y) 16 ++ (Bt.bits (z % 16) 4 ++ (Bt.bits (z / 16) 4 ++ unpack b)) := by
    have e1 := bits_two x y 8 8 (by omega)
    have e2 := bits_two (z % 16) (z / 16) 4 4 (by omega)
    rw [hr]
    show Bt.bits x 8 ++ (Bt.bits y 8 ++ (Bt.bits z 8 ++ unpack b)) = _
    rw [← List.append_assoc, e1, ← List.append_assoc (Bt.bits (z % 16) 4), e2, show z % 16 + 2 ^ 4 * (z / 16) = z by omega]
  obtain ⟨t1, s1, q1⟩ := Rd.take_bits hf e0 (by omega) (by omega)
  have f1 : (r.take ((16 : Nat) : Int)).fail = false := by rw [s1]
  obtain ⟨t2, s2, q2⟩ := Rd.take_bits f1 q1 (by omega) (by omega)
  have f2 : ((r.take ((16 : Nat) : Int)).take ((4 : Nat) : Int)).fail = false := by rw [s2]
  obtain ⟨t3, _, _⟩ := Rd.take_bits f2 q2 (by omega) (by omega)
  exact ⟨t1, t2, t3⟩

/-! a message's parts -/
def many (b : List Nat) : Nat := (b.length + 299) / 300
def piece (b : List Nat) (i : Nat) : List Nat := (b.drop (300 * i)).take 300
def part (id : Nat) (b : List Nat) (i : Nat) : P := ⟨id, many b, i, piece b i⟩
def split (id : Nat) (b : List Nat) : List P := (List.range (many b)).map (part id b)
theorem piece_len (b : List Nat) (i : Nat) : (piece b i).length = min 300 (b.length - 300 * i) := by
  unfold piece; rw [List.length_take, List.length_drop]
theorem part_formed {id : Nat} {b : List Nat} {i : Nat} (hid : id < 65536) (hb : b.length ≤ 4200) (hi : i < many b) : Formed (part id b i) := by
  have hl := piece_len b i
  unfold many at hi
  refine ⟨hid, ?_, hi, ?_, ?_, ?_⟩
  · show many b ≤ 14; unfold many; omega
  · show 1 ≤ (piece b i).length; omega
  · show (piece b i).length ≤ 300; omega
  · show i + 1 = many b ∨ (piece b i).length = 300; unfold many; omega
theorem pieces (b : List Nat) : ∀ n, n ≤ many b → (List.range n).flatMap (piece b) = b.take (300 * n)
  | 0, _ => by simp
  | n + 1, h => by
    rw [List.range_succ, List.flatMap_append, pieces b n (by omega)]
    show _ ++ [n].flatMap (piece b) = _
    rw [List.flatMap_singleton, show 300 * (n + 1) = 300 * n + 300 by omega, List.take_add]
    rfl
theorem pieces_all (b : List Nat) : (List.range (many b)).flatMap (piece b) = b := by
  rw [pieces b _ (Nat.le_refl _), List.take_of_length_le (by unfold many; omega)]
theorem split_len (id : Nat) (b : List Nat) : (split id b).length = many b := by unfold split; rw [List.length_map, List.length_range]
theorem split_at {id : Nat} {b : List Nat} {i : Nat} (h : i < many b) : (split id b)[i]? = some (part id b i) := by
  unfold split; rw [List.getElem?_map, List.getElem?_range h]; rfl

/-! an assembler: the parts that are kept, in the order they came -/
def mine (a b : P) : Bool := a.id == b.id && a.n == b.n
theorem mine_iff {a b : P} : mine a b = true ↔ a.id = b.id ∧ a.n = b.n := by unfold mine; simp
theorem mine_self (a : P) : mine a a = true := mine_iff.2 ⟨rfl, rfl⟩
theorem mine_symm (a b : P) : mine a b = mine b a :=
  Bool.eq_iff_iff.2 ⟨fun h => mine_iff.2 ⟨(mine_iff.1 h).1.symm, (mine_iff.1 h).2.symm⟩, fun h => mine_iff.2 ⟨(mine_iff.1 h).1.symm, (mine_iff.1 h).2.symm⟩⟩
def firsts : List P → List P → Nat
  | _, [] => 0
  | s, p :: l => (if s.any (fun q => mine q p) = true then 0 else 1) + firsts (s ++ [p]) l
/-- of how many messages parts are kept -/
def waits (L : List P) : Nat := firsts [] L
def drop (p : P) (L : List P) : List P := L.filter fun q => !mine q p
def got (p : P) (L : List P) : List P := L.filter fun q => mine q p
def old (p : P) (L : List P) : Bool := L.any fun q => mine q p && q.at_ == p.at_
def room (p : P) (L : List P) : List P := match L with | [] => [] | q :: l => if got p (q :: l) = [] ∧ waits (q :: l) = 4 then drop q (q :: l) else q :: l
def whole (p : P) (L : List P) : List Nat := (List.range p.n).flatMap fun i => (L.filter fun q => mine q p && q.at_ == i).flatMap P.b
/-- what is answered, and what is kept then -/
structure R where
  b : List Nat
  ok : Bool
  e : Int
  l : List P
def feed (L : List P) (p : P) : R :=
  if old p L = true then ⟨[], false, 8, L⟩
  else if (got p L).length + 1 < p.n then ⟨[], false, 0, room p L ++ [p]⟩
  else ⟨whole p (room p L ++ [p]), true, 0, drop p (room p L ++ [p])⟩
/-- fed whatever bytes -/
def feedB (L : List P) (b : List Nat) : R := match read b with | none => ⟨[], false, 2, L⟩ | some p => feed L p
end Fg
end Go.Proofs.Ytkjlbginggppaaa


/- Up to four messages' parts, fed once each in whatever order: what is answered, plain. -/
namespace Go.Proofs.Ytkjlbginggppaaa
set_option linter.unusedVariables false

namespace Fg
theorem len_of : ∀ (n : Nat) (l : List Nat), l.Nodup → (∀ x ∈ l, x < n) → (∀ i, i < n → i ∈ l) → l.length = n
  | 0, l, _, h, _ => by
    cases l with
    | nil => rfl
    | cons a l => have := h a List.mem_cons_self; omega
  | n + 1, l, d, h, a => by
    have hm := a n (by omega)
    have e := len_of n (l.erase n) (d.erase n) (fun x hx => by
      have h1 := d.mem_erase_iff.1 hx
      have := h x h1.2
      omega) (fun i hi => d.mem_erase_iff.2 ⟨by omega, a i (by omega)⟩)
    rw [List.length_erase_of_mem hm] at e
    have : 0 < l.length := List.length_pos_of_mem hm
    omega
theorem filter_one {α : Type} {l : List α} {x : α} {Q : α → Bool} (d : l.Nodup) (hx : x ∈ l) (h : ∀ y ∈ l, Q y = true ↔ y = x) : l.filter Q = [x] := by
  induction l with
  | nil => cases hx
  | cons a l ih =>
    rw [List.nodup_cons] at d
    by_cases e : a = x
    · subst e
      rw [List.filter_cons, if_pos ((h a List.mem_cons_self).2 rfl)]
      have : l.filter Q = [] := by
        rw [List.filter_eq_nil_iff]
        intro y hy hq
        have := (h y (List.mem_cons_of_mem _ hy)).1 hq
        subst this
        exact d.1 hy
      rw [this]
    · rw [List.filter_cons, if_neg (fun hq => e ((h a List.mem_cons_self).1 hq))]
      exact ih d.2 ((List.mem_cons.1 hx).resolve_left fun c => e c.symm) fun y hy => h y (List.mem_cons_of_mem _ hy)

theorem filt_le {α : Type} {Q G : α → Bool} (h : ∀ r, Q r = true → G r = true) : ∀ A : List α, (A.filter Q).length ≤ (A.filter G).length
  | [] => Nat.le_refl _
  | a :: A => by
    have ih := filt_le h A
    rw [List.filter_cons, List.filter_cons]
    by_cases hq : Q a = true
    · rw [if_pos hq, if_pos (h a hq), List.length_cons, List.length_cons]; omega
    · rw [if_neg hq]
      split
      · rw [List.length_cons]; omega
      · exact ih
theorem filt_lt {α : Type} {Q G : α → Bool} (h : ∀ r, Q r = true → G r = true) {r : α} (h1 : Q r = false) (h2 : G r = true) : ∀ A : List α, r ∈ A → (A.filter Q).length + 1 ≤ (A.filter G).length
  | [], hm => by cases hm
  | a :: A, hm => by
    rw [List.filter_cons, List.filter_cons]
    rcases List.mem_cons.1 hm with e | e
    · subst e
      have := filt_le h A
      rw [if_neg (by rw [h1]; decide), if_pos h2, List.length_cons]; omega
    · have ih := filt_lt h h1 h2 A e
      by_cases hq : Q a = true
      · rw [if_pos hq, if_pos (h a hq), List.length_cons, List.length_cons]; omega
      · rw [if_neg hq]
        split
        · rw [List.length_cons]; omega
        · exact ih
theorem mine_trans {a b c : P} (h1 : mine a b = true) (h2 : mine b c = true) : mine a c = true :=
  mine_iff.2 ⟨(mine_iff.1 h1).1.trans (mine_iff.1 h2).1, (mine_iff.1 h1).2.trans (mine_iff.1 h2).2⟩
/-- how many messages there may be: those whose words lie in a list -/
theorem firsts_le (Ks : List P) : ∀ (l s : List P), (∀ p ∈ l, ∃ r ∈ Ks, mine r p = true) → firsts s l ≤ (Ks.filter fun r => !s.any fun q => mine q r).length
  | [], s, _ => Nat.zero_le _
  | p :: l, s, h => by
    have ih := firsts_le Ks l (s ++ [p]) (fun q hq => h q (List.mem_cons_of_mem _ hq))
    have himp : ∀ r, (!(s ++ [p]).any fun q => mine q r) = true → (!s.any fun q => mine q r) = true := by
      intro r hr
      rw [List.any_append] at hr
      cases h1 : s.any fun q => mine q r
      · rfl
      · rw [h1, Bool.true_or] at hr; cases hr
    unfold firsts
    split
    · have := filt_le himp Ks; omega
    · rename_i hn
      obtain ⟨r, hr, hrp⟩ := h p List.mem_cons_self
      have hns : (!s.any fun q => mine q r) = true := by
        cases hc : s.any fun q => mine q r
        · rfl
        · obtain ⟨q, hq, hqr⟩ := List.any_eq_true.1 hc
          exact False.elim (hn (List.any_eq_true.2 ⟨q, hq, mine_trans hqr hrp⟩))
      have hn1 : (!(s ++ [p]).any fun q => mine q r) = false := by
        have : ((s ++ [p]).any fun q => mine q r) = true := List.any_eq_true.2 ⟨p, List.mem_append_right _ (by simp), by rw [mine_symm]; exact hrp⟩
        rw [this]; rfl
      have := filt_lt himp hn1 hns Ks hr
      omega

section
variable (id : Nat → Nat) (b : Nat → List Nat)
/-- part i of the message m -/
def pt (x : Nat × Nat) : P := part (id x.1) (b x.1) x.2
/-- K are kept, R remain: of the messages that are not whole -/
structure Inv (K R : List (Nat × Nat)) : Prop where
  ndK : K.Nodup
  ndR : R.Nodup
  dis : ∀ x ∈ K, x ∉ R
  rgR : ∀ x ∈ R, x.1 < 4 ∧ x.2 < many (b x.1)
  rgK : ∀ x ∈ K, x.1 < 4 ∧ x.2 < many (b x.1) ∧ ∃ j, (x.1, j) ∈ R
  all : ∀ m i j, (m, j) ∈ R → i < many (b m) → (m, i) ∈ K ∨ (m, i) ∈ R
def cnt (m : Nat) (R : List (Nat × Nat)) : Nat := (R.filter fun x => x.1 == m).length
variable {id b} {K R : List (Nat × Nat)}
theorem mine_pt (hid : ∀ m m', m < 4 → m' < 4 → id m = id m' → m = m') {x y : Nat × Nat} (hx : x.1 < 4) (hy : y.1 < 4) : mine (pt id b x) (pt id b y) = true ↔ x.1 = y.1 :=
  ⟨fun h => hid _ _ hx hy (mine_iff.1 h).1, fun h => mine_iff.2 ⟨by show id x.1 = id y.1; rw [h], by show many (b x.1) = many (b y.1); rw [h]⟩⟩
theorem Inv.count (h : Inv b K R) {m j : Nat} (hm : (m, j) ∈ R) : cnt m K + cnt m R = many (b m) := by
  have e := len_of (many (b m)) (((K ++ R).filter fun x => x.1 == m).map Prod.snd) ?_ ?_ ?_
  · rw [List.length_map, List.filter_append, List.length_append] at e
    exact e
  · show List.Pairwise _ _
    rw [List.pairwise_map]
    have hd : (K ++ R).Nodup := List.nodup_append.2 ⟨h.ndK, h.ndR, fun a ha c hc e => by subst e; exact h.dis a ha hc⟩
    refine List.Pairwise.imp_of_mem ?_ (List.Pairwise.sublist List.filter_sublist hd)
    intro x y hx hy hne e
    have h1 := (List.mem_filter.1 hx).2
    have h2 := (List.mem_filter.1 hy).2
    simp at h1 h2
    exact hne (Prod.ext (by rw [h1, h2]) e)
  · intro i hi
    obtain ⟨x, hx, rfl⟩ := List.mem_map.1 hi
    obtain ⟨h1, h2⟩ := List.mem_filter.1 hx
    simp at h2
    rcases List.mem_append.1 h1 with e | e
    · have := (h.rgK x e).2.1; rw [h2] at this; exact this
    · have := (h.rgR x e).2; rw [h2] at this; exact this
  · intro i hi
    refine List.mem_map.2 ⟨(m, i), List.mem_filter.2 ⟨List.mem_append.2 (h.all m i j hm hi), by simp⟩, rfl⟩
theorem got_len (hid : ∀ m m', m < 4 → m' < 4 → id m = id m' → m = m') (h : Inv b K R) {x : Nat × Nat} (hx : x.1 < 4) : (got (pt id b x) (K.map (pt id b))).length = cnt x.1 K := by
  unfold got cnt
  rw [List.filter_map, List.length_map]
  congr 1
  apply List.filter_congr
  intro y hy
  have := mine_pt (b := b) hid (h.rgK y hy).1 hx
  show mine (pt id b y) (pt id b x) = _
  exact Bool.eq_iff_iff.2 (this.trans (by simp))
theorem not_old (hid : ∀ m m', m < 4 → m' < 4 → id m = id m' → m = m') (h : Inv b K R) {x : Nat × Nat} (hx : x ∈ R) : old (pt id b x) (K.map (pt id b)) = false := by
  cases hc : old (pt id b x) (K.map (pt id b))
  · rfl
  · obtain ⟨q, hq, hqx⟩ := List.any_eq_true.1 hc
    obtain ⟨y, hy, rfl⟩ := List.mem_map.1 hq
    rw [Bool.and_eq_true] at hqx
    have h1 := (mine_pt (b := b) hid (h.rgK y hy).1 (h.rgR x hx).1).1 hqx.1
    have h2 : y.2 = x.2 := eq_of_beq hqx.2
    have : y = x := Prod.ext h1 h2
    subst this
    exact absurd hx (h.dis y hy)
/-- there is room: at most three other messages wait -/
theorem room_all (hid : ∀ m m', m < 4 → m' < 4 → id m = id m' → m = m') (h : Inv b K R) {x : Nat × Nat} (hx : x.1 < 4) : room (pt id b x) (K.map (pt id b)) = K.map (pt id b) := by
  cases K with
  | nil => rfl
  | cons y K =>
    refine if_neg ?_
    rintro ⟨h1, h2⟩
    have hno : ∀ z ∈ y :: K, z.1 ≠ x.1 := by
      intro z hz e
      have : pt id b z ∈ got (pt id b x) ((y :: K).map (pt id b)) := List.mem_filter.2 ⟨List.mem_map.2 ⟨z, hz, rfl⟩, (mine_pt (b := b) hid (h.rgK z hz).1 hx).2 e⟩
      rw [List.map_cons] at this
      rw [h1] at this
      cases this
    have hle := firsts_le (((List.range 4).filter fun m => m != x.1).map fun m => pt id b (m, 0)) ((y :: K).map (pt id b)) [] (fun p hp => by
      obtain ⟨z, hz, rfl⟩ := List.mem_map.1 hp
      refine ⟨pt id b (z.1, 0), List.mem_map.2 ⟨z.1, List.mem_filter.2 ⟨List.mem_range.2 (h.rgK z hz).1, by simpa using hno z hz⟩, rfl⟩, (mine_pt (b := b) hid (h.rgK z hz).1 (h.rgK z hz).1).2 rfl⟩)
    have h3 : (((List.range 4).filter fun m => m != x.1).map fun m => pt id b (m, 0)).length = 3 := by
      rw [List.length_map]
      obtain e | e | e | e : x.1 = 0 ∨ x.1 = 1 ∨ x.1 = 2 ∨ x.1 = 3 := by omega
      all_goals rw [e]; rfl
    have h4 : firsts [] ((y :: K).map (pt id b)) = 4 := h2
    have h5 := List.length_filter_le (fun r => !([] : List P).any fun q => mine q r) (((List.range 4).filter fun m => m != x.1).map fun m => pt id b (m, 0))
    omega
/-- all parts but one are kept: with it the message is whole -/
theorem whole_all (hid : ∀ m m', m < 4 → m' < 4 → id m = id m' → m = m') (h : Inv b K R) {x : Nat × Nat} (hx : x ∈ R) (h1 : cnt x.1 R = 1) : whole (pt id b x) (K.map (pt id b) ++ [pt id b x]) = b x.1 := by
  have hxr := h.rgR x hx
  have honly : ∀ j, (x.1, j) ∈ R → j = x.2 := by
    intro j hj
    have hf : x ∈ R.filter fun y => y.1 == x.1 := List.mem_filter.2 ⟨hx, by simp⟩
    have hg : (x.1, j) ∈ R.filter fun y => y.1 == x.1 := List.mem_filter.2 ⟨hj, by simp⟩
    unfold cnt at h1
    obtain ⟨z, hz⟩ := List.length_eq_one_iff.1 h1
    rw [hz] at hf hg
    have e1 := List.mem_singleton.1 hf
    have e2 := List.mem_singleton.1 hg
    rw [← e1] at e2
    exact (congrArg Prod.snd e2)
  have hnd : (K ++ [x]).Nodup := List.nodup_append.2 ⟨h.ndK, by simp, fun a ha c hc e => by
    have := List.mem_singleton.1 hc
    subst this; subst e
    exact h.dis a ha hx⟩
  unfold whole
  have e : ∀ i ∈ List.range (pt id b x).n, (fun i => ((K.map (pt id b) ++ [pt id b x]).filter fun q => mine q (pt id b x) && q.at_ == i).flatMap P.b) i = piece (b x.1) i := by
    intro i hi
    have hi2 : i < many (b x.1) := List.mem_range.1 hi
    have hin : (x.1, i) ∈ K ++ [x] := by
      rcases h.all x.1 i x.2 (by exact hx) hi2 with c | c
      · exact List.mem_append_left _ c
      · have := honly i c
        subst this
        exact List.mem_append_right _ (by simp)
    have hm : K.map (pt id b) ++ [pt id b x] = (K ++ [x]).map (pt id b) := by rw [List.map_append]; rfl
    show ((K.map (pt id b) ++ [pt id b x]).filter _).flatMap P.b = _
    rw [hm, List.filter_map, filter_one hnd hin]
    · show [pt id b (x.1, i)].flatMap P.b = _
      rw [List.flatMap_singleton]; rfl
    · intro y hy
      have hy4 : y.1 < 4 := by
        rcases List.mem_append.1 hy with c | c
        · exact (h.rgK y c).1
        · rw [List.mem_singleton.1 c]; exact hxr.1
      show (mine (pt id b y) (pt id b x) && (pt id b y).at_ == i) = true ↔ _
      rw [Bool.and_eq_true, mine_pt (b := b) hid hy4 hxr.1]
      constructor
      · rintro ⟨c1, c2⟩; exact Prod.ext c1 (eq_of_beq c2)
      · rintro rfl; exact ⟨rfl, by show (i == i) = true; simp⟩
  have hcong : ∀ (l : List Nat) (f g : Nat → List Nat), (∀ i ∈ l, f i = g i) → l.flatMap f = l.flatMap g := by
    intro l f g hfg
    induction l with
    | nil => rfl
    | cons a l ih => rw [List.flatMap_cons, List.flatMap_cons, hfg a List.mem_cons_self, ih fun i hi => hfg i (List.mem_cons_of_mem _ hi)]
  rw [hcong _ _ _ e]
  exact pieces_all (b x.1)
end
end Fg
end Go.Proofs.Ytkjlbginggppaaa


/- A part is fed: what is answered, and what is kept then; the remaining ones, one taken out. Plain. -/
namespace Go.Proofs.Ytkjlbginggppaaa
set_option linter.unusedVariables false

namespace Fg
section
variable {id : Nat → Nat} {b : Nat → List Nat} {K R R' : List (Nat × Nat)} {x : Nat × Nat}
theorem cnt_same (hp : R.Perm (x :: R')) : cnt x.1 R = cnt x.1 R' + 1 := by
  unfold cnt
  rw [(hp.filter _).length_eq, List.filter_cons, if_pos (by simp), List.length_cons]
theorem cnt_other (hp : R.Perm (x :: R')) {m : Nat} (hm : m ≠ x.1) : cnt m R = cnt m R' := by
  unfold cnt
  rw [(hp.filter _).length_eq, List.filter_cons, if_neg (by simpa using fun e => hm e.symm)]
theorem cnt_pos {m : Nat} (h : 0 < cnt m R) : ∃ j, (m, j) ∈ R := by
  unfold cnt at h
  obtain ⟨y, hy⟩ := List.exists_mem_of_length_pos h
  obtain ⟨h1, h2⟩ := List.mem_filter.1 hy
  simp at h2
  exact ⟨y.2, by rw [← h2]; exact h1⟩
theorem cnt_none {m : Nat} (h : cnt m R = 0) (j : Nat) : (m, j) ∉ R := by
  intro hm
  unfold cnt at h
  have : (m, j) ∈ R.filter fun y => y.1 == m := List.mem_filter.2 ⟨hm, by simp⟩
  rw [List.eq_nil_of_length_eq_zero h] at this
  cases this
theorem mem_of (hp : R.Perm (x :: R')) {y : Nat × Nat} : y ∈ R ↔ y = x ∨ y ∈ R' := by rw [hp.mem_iff, List.mem_cons]
theorem nd_of (hp : R.Perm (x :: R')) (h : R.Nodup) : x ∉ R' ∧ R'.Nodup := List.nodup_cons.1 (hp.nodup_iff.1 h)

/-- a part that isn't its message's last one -/
theorem step_some (hid : ∀ m m', m < 4 → m' < 4 → id m = id m' → m = m') (h : Inv b K R) (hp : R.Perm (x :: R')) (h1 : 0 < cnt x.1 R') :
    feed (K.map (pt id b)) (pt id b x) = ⟨[], false, 0, (K ++ [x]).map (pt id b)⟩ ∧ Inv b (K ++ [x]) R' := by
  have hx : x ∈ R := (mem_of hp).2 (.inl rfl)
  obtain ⟨hx', hnd'⟩ := nd_of hp h.ndR
  refine ⟨?_, ?_, hnd', ?_, fun y hy => h.rgR y ((mem_of hp).2 (.inr hy)), ?_, ?_⟩
  · unfold feed
    rw [not_old hid h hx, if_neg (by decide), got_len hid h (h.rgR x hx).1]
    have hc := h.count (m := x.1) (j := x.2) hx
    have hs := cnt_same hp
    rw [if_pos (show cnt x.1 K + 1 < (pt id b x).n from (show cnt x.1 K + 1 < many (b x.1) by omega)), room_all hid h (h.rgR x hx).1, List.map_append]
    rfl
  · exact List.nodup_append.2 ⟨h.ndK, by simp, fun a ha c hc e => by
      have := List.mem_singleton.1 hc
      subst this; subst e
      exact h.dis a ha hx⟩
  · intro y hy hy'
    rcases List.mem_append.1 hy with e | e
    · exact h.dis y e ((mem_of hp).2 (.inr hy'))
    · rw [List.mem_singleton.1 e] at hy'; exact hx' hy'
  · intro y hy
    rcases List.mem_append.1 hy with e | e
    · obtain ⟨g1, g2, j, hj⟩ := h.rgK y e
      refine ⟨g1, g2, ?_⟩
      rcases (mem_of hp).1 hj with c | c
      · have : y.1 = x.1 := by rw [← c]
        rw [this]; exact cnt_pos h1
      · exact ⟨j, c⟩
    · rw [List.mem_singleton.1 e]
      exact ⟨(h.rgR x hx).1, (h.rgR x hx).2, cnt_pos h1⟩
  · intro m i j hj hi
    rcases h.all m i j ((mem_of hp).2 (.inr hj)) hi with c | c
    · exact .inl (List.mem_append_left _ c)
    · rcases (mem_of hp).1 c with c | c
      · exact .inl (List.mem_append_right _ (by rw [c]; simp))
      · exact .inr c
/-- a message's last part -/
theorem step_last (hid : ∀ m m', m < 4 → m' < 4 → id m = id m' → m = m') (h : Inv b K R) (hp : R.Perm (x :: R')) (h1 : cnt x.1 R' = 0) :
    feed (K.map (pt id b)) (pt id b x) = ⟨b x.1, true, 0, (K.filter fun y => y.1 != x.1).map (pt id b)⟩ ∧ Inv b (K.filter fun y => y.1 != x.1) R' := by
  have hx : x ∈ R := (mem_of hp).2 (.inl rfl)
  obtain ⟨hx', hnd'⟩ := nd_of hp h.ndR
  have hs := cnt_same hp
  refine ⟨?_, List.Pairwise.sublist List.filter_sublist h.ndK, hnd', ?_, fun y hy => h.rgR y ((mem_of hp).2 (.inr hy)), ?_, ?_⟩
  · unfold feed
    rw [not_old hid h hx, if_neg (by decide), got_len hid h (h.rgR x hx).1]
    have hc := h.count (m := x.1) (j := x.2) hx
    rw [if_neg (show ¬ cnt x.1 K + 1 < (pt id b x).n from (show ¬ cnt x.1 K + 1 < many (b x.1) by omega)), room_all hid h (h.rgR x hx).1, whole_all hid h hx (by omega)]
    have hd : drop (pt id b x) (K.map (pt id b) ++ [pt id b x]) = (K.filter fun y => y.1 != x.1).map (pt id b) := by
      unfold drop
      rw [List.filter_append, List.filter_map, List.filter_cons, if_neg (by rw [mine_self]; decide), List.filter_nil, List.append_nil]
      congr 1
      apply List.filter_congr
      intro y hy
      have := mine_pt (b := b) hid (h.rgK y hy).1 (h.rgR x hx).1
      show (!mine (pt id b y) (pt id b x)) = _
      by_cases e : y.1 = x.1
      · rw [this.2 e, e]; simp
      · have : mine (pt id b y) (pt id b x) = false := by
          cases hc : mine (pt id b y) (pt id b x)
          · rfl
          · exact absurd (this.1 hc) e
        rw [this]; simp [e]
    rw [hd]
  · intro y hy hy'
    exact h.dis y (List.mem_filter.1 hy).1 ((mem_of hp).2 (.inr hy'))
  · intro y hy
    obtain ⟨hy1, hy2⟩ := List.mem_filter.1 hy
    obtain ⟨g1, g2, j, hj⟩ := h.rgK y hy1
    refine ⟨g1, g2, j, ?_⟩
    rcases (mem_of hp).1 hj with c | c
    · have : y.1 = x.1 := by rw [← c]
      simp [this] at hy2
    · exact c
  · intro m i j hj hi
    have hne : m ≠ x.1 := fun e => by subst e; exact cnt_none h1 j hj
    rcases h.all m i j ((mem_of hp).2 (.inr hj)) hi with c | c
    · exact .inl (List.mem_filter.2 ⟨c, by simpa using hne⟩)
    · rcases (mem_of hp).1 c with c | c
      · exact absurd (congrArg Prod.fst c) hne
      · exact .inr c
/-- once more -/
theorem step_old (hx : x ∈ K) : feed (K.map (pt id b)) (pt id b x) = ⟨[], false, 8, K.map (pt id b)⟩ := by
  have : old (pt id b x) (K.map (pt id b)) = true := List.any_eq_true.2 ⟨pt id b x, List.mem_map.2 ⟨x, hx, rfl⟩, by rw [mine_self]; simp⟩
  unfold feed
  rw [this, if_pos rfl]
theorem Inv.done (h : Inv b K []) : K = [] := by
  cases K with
  | nil => rfl
  | cons y K => obtain ⟨_, _, j, hj⟩ := h.rgK y List.mem_cons_self; cases hj
/-- the parts of those messages that can be parted -/
def start (ok : Nat → Bool) (b : Nat → List Nat) : List (Nat × Nat) := (List.range 4).flatMap fun m => if ok m = true then (List.range (many (b m))).map fun i => (m, i) else []
theorem start_mem {ok : Nat → Bool} {m i : Nat} : (m, i) ∈ start ok b ↔ m < 4 ∧ ok m = true ∧ i < many (b m) := by
  unfold start
  rw [List.mem_flatMap]
  constructor
  · rintro ⟨k, hk, h⟩
    have hk4 := List.mem_range.1 hk
    split at h
    · rename_i hok
      obtain ⟨j, hj, e⟩ := List.mem_map.1 h
      cases e
      exact ⟨hk4, hok, List.mem_range.1 hj⟩
    · cases h
  · rintro ⟨h1, h2, h3⟩
    exact ⟨m, List.mem_range.2 h1, by rw [if_pos h2]; exact List.mem_map.2 ⟨i, List.mem_range.2 h3, rfl⟩⟩
theorem start_inv {ok : Nat → Bool} (hnd : (start ok b).Nodup) : Inv b [] (start ok b) where
  ndK := List.nodup_nil
  ndR := hnd
  dis := fun x hx => by cases hx
  rgR := fun x hx => by have := start_mem.1 (show (x.1, x.2) ∈ start ok b from hx); exact ⟨this.1, this.2.2⟩
  rgK := fun x hx => by cases hx
  all := fun m i j hj hi => by have := start_mem.1 hj; exact .inr (start_mem.2 ⟨this.1, this.2.1, hi⟩)
theorem range_nodup : ∀ n, (List.range n).Nodup
  | 0 => List.nodup_nil
  | n + 1 => by
    rw [List.range_succ]
    exact List.nodup_append.2 ⟨range_nodup n, by simp, fun a ha c hc e => by
      have := List.mem_singleton.1 hc
      have := List.mem_range.1 ha
      omega⟩
theorem row_nodup (m n : Nat) : ((List.range n).map fun i => (m, i)).Nodup := by
  show List.Pairwise _ _
  rw [List.pairwise_map]
  exact List.Pairwise.imp (fun h e => h (congrArg Prod.snd e)) (range_nodup n)
theorem start_nodup (ok : Nat → Bool) (b : Nat → List Nat) : (start ok b).Nodup := by
  have h : ∀ n, ((List.range n).flatMap fun m => if ok m = true then (List.range (many (b m))).map fun i => (m, i) else []).Nodup := by
    intro n
    induction n with
    | zero => exact List.nodup_nil
    | succ n ih =>
      rw [List.range_succ, List.flatMap_append, List.flatMap_singleton]
      refine List.nodup_append.2 ⟨ih, ?_, ?_⟩
      · split
        · exact row_nodup n _
        · exact List.nodup_nil
      · intro a ha c hc e
        subst e
        obtain ⟨k, hk, h1⟩ := List.mem_flatMap.1 ha
        have hkn := List.mem_range.1 hk
        split at h1
        · obtain ⟨i, _, e1⟩ := List.mem_map.1 h1
          split at hc
          · obtain ⟨j, _, e2⟩ := List.mem_map.1 hc
            have : k = n := by rw [← e2] at e1; exact congrArg Prod.fst e1
            omega
          · cases hc
        · cases h1
  exact h 4
/-- one is taken out: the last one takes its place -/
def out (k : Nat) (R : List (Nat × Nat)) : List (Nat × Nat) := match R.getLast? with | none => [] | some z => (R.set k z).dropLast
theorem out_perm {k : Nat} (hk : R[k]? = some x) : R.Perm (x :: out k R) := by
  have hkl := (List.getElem?_eq_some_iff.1 hk).1
  obtain ⟨Q, z, rfl⟩ : ∃ Q z, R = Q ++ [z] := by
    cases hR : R.reverse with
    | nil => have := congrArg List.length hR; simp at this; subst this; simp at hkl
    | cons z Q => exact ⟨Q.reverse, z, by have := congrArg List.reverse hR; simpa using this⟩
  have he : out k (Q ++ [z]) = ((Q ++ [z]).set k z).dropLast := by
    unfold out
    rw [List.getLast?_append]
    rfl
  rw [he]
  rw [List.length_append, List.length_singleton] at hkl
  by_cases hq : k < Q.length
  · rw [List.getElem?_append_left hq] at hk
    rw [List.set_append_left k z hq, List.dropLast_concat] 
    have hs : Q = Q.take k ++ x :: Q.drop (k + 1) := by
      have h5 : Q.drop k = x :: Q.drop (k + 1) := by
        rw [List.drop_eq_getElem_cons hq]
        rw [(List.getElem?_eq_some_iff.1 hk).2]
      rw [← h5, List.take_append_drop]
    have hset : Q.set k z = Q.take k ++ z :: Q.drop (k + 1) := List.set_eq_take_append_cons_drop .. |>.trans (if_pos hq)
    rw [hset]
    have p1 : (Q ++ [z]).Perm (z :: Q) := List.perm_append_singleton z Q
    have p2 : (z :: Q).Perm (z :: (x :: (Q.take k ++ Q.drop (k + 1)))) := by
      refine List.Perm.cons z ?_
      conv => lhs; rw [hs]
      exact List.perm_middle
    have p3 : (z :: (x :: (Q.take k ++ Q.drop (k + 1)))).Perm (x :: (z :: (Q.take k ++ Q.drop (k + 1)))) := List.Perm.swap ..
    have p4 : (x :: (z :: (Q.take k ++ Q.drop (k + 1)))).Perm (x :: (Q.take k ++ z :: Q.drop (k + 1))) := List.Perm.cons x List.perm_middle.symm
    exact ((p1.trans p2).trans p3).trans p4
  · have e : k = Q.length := by omega
    subst e
    rw [List.getElem?_append_right (Nat.le_refl _), Nat.sub_self] at hk
    have hzx : z = x := by simpa using hk
    subst hzx
    rw [List.set_append_right _ _ (Nat.le_refl _), Nat.sub_self]
    show (Q ++ [z]).Perm (z :: (Q ++ [z]).dropLast)
    rw [List.dropLast_concat]
    exact List.perm_append_singleton z Q
end
end Fg
end Go.Proofs.Ytkjlbginggppaaa


/- Which blocks a call may have turned: all that lay there lies as it lay but for those that are named. Slices of the call's own, told by a list, with the block in which they lie. Over any program. -/
namespace Go.Proofs.Ytkjlbginggppaaa
open Go.RowKit
set_option linter.unusedVariables false

/-- but for the blocks S all that lay in w lies in w' as it lay -/
structure Turned (S : List Nat) (w w' : World) : Prop where
  os : w'.os = w.os
  tape : w'.tape = w.tape
  output : w'.output = w.output
  size : w.heap.size ≤ w'.heap.size
  block : ∀ k, k < w.heap.size → k ∉ S → w'.heap[k]? = w.heap[k]?
namespace Turned
variable {S S' : List Nat} {w w' w'' : World}
theorem refl (S : List Nat) (w : World) : Turned S w w := ⟨rfl, rfl, rfl, Nat.le_refl _, fun _ _ _ => rfl⟩
theorem mono (h : Turned S w w') (hs : ∀ k ∈ S, k < w.heap.size → k ∈ S') : Turned S' w w' :=
  ⟨h.os, h.tape, h.output, h.size, fun k hk hn => h.block k hk fun hm => hn (hs k hm hk)⟩
theorem trans (h : Turned S w w') (h' : Turned S' w' w'') (hs : ∀ k ∈ S', k < w.heap.size → k ∈ S) : Turned S w w'' :=
  ⟨h'.os.trans h.os, h'.tape.trans h.tape, h'.output.trans h.output, Nat.le_trans h.size h'.size, fun k hk hn => (h'.block k (Nat.lt_of_lt_of_le hk h.size) fun hm => hn (hs k hm hk)).trans (h.block k hk hn)⟩
theorem drew (h : Turned S w w') : Turned S w w'.drew := ⟨h.os, h.tape, h.output, h.size, h.block⟩
theorem alloc (h : Turned S w w') (o : Obj) : Turned S w (w'.alloc o) :=
  h.trans (S' := []) ⟨rfl, rfl, rfl, by simp, fun k hk _ => Below.heap_alloc _ _ _ hk⟩ (by simp)
theorem setCell (h : Turned S w w') {p : Addr} (hp : p.block ∈ S ∨ w.heap.size ≤ p.block) (u : Value) : Turned S w (w'.setCell p u) :=
  h.trans (S' := [p.block]) ⟨rfl, rfl, rfl, by simp [World.setCell], fun k hk hn => Below.heap_setCell _ _ _ _ (by simpa using hn)⟩ (by
    intro k hk hl
    simp at hk
    subst hk
    rcases hp with h | h
    · exact h
    · omega)
theorem grown (h : Turned S w w') {row : Option Nat} (hg : w'.grownBy w'' row) (hr : ∀ k, row = some k → k ∈ S ∨ w.heap.size ≤ k) : Turned S w w'' :=
  h.trans (S' := row.toList) ⟨hg.os, hg.tape, hg.output, hg.size, fun k hk hn => hg.block k hk fun e => hn (by rw [← e]; simp)⟩ (by
    intro k hk hl
    have e : row = some k := by simpa using hk
    rcases hr k e with h | h
    · exact h
    · omega)
theorem ofBelow (h : Below w.heap.size w w') : Turned [] w w' := ⟨h.os, h.tape, h.output, h.size, fun k hk _ => h.block k hk⟩
theorem below {B : Nat} (h : Turned S w w') (hB : B ≤ w.heap.size) (hs : ∀ k ∈ S, B ≤ k) : Below B w w' :=
  ⟨h.os, h.tape, h.output, h.size, fun k hk => h.block k (Nat.lt_of_lt_of_le hk hB) fun hm => by have := hs k hm; omega⟩
theorem none (h : Turned [] w w') : Below w.heap.size w w' := h.below (Nat.le_refl _) (by simp)
theorem cell (h : Turned S w w') {p : Addr} (hl : p.block < w.heap.size) (hn : p.block ∉ S) : w'.cell? p = w.cell? p := World.cell?_of_block (w := w) (h.block p.block hl hn)
theorem frozen (h : Turned S w w') {p : Addr} (hl : p.block < w.heap.size) (hn : p.block ∉ S) : w'.frozen? p = w.frozen? p := World.frozen?_of_block (w := w) (h.block p.block hl hn)
end Turned

/-- the block of a slice of the call's own -/
def blk (v : Value) : List Nat := v.ownBlock.toList
/-- v owns the elements l, sz cells each -/
def OwnL {α : Type} (e : TypeId) (sz : Nat) (enc : α → List Value) (v : Value) (l : List α) (w : World) : Prop := w.ownsRow 0 e sz v l.length (l.flatMap enc)
/-- what the program's table says of a slice's type and its elements' -/
structure ElemOk (P : Program) (t e : TypeId) (z : Value) (sz bytes : Nat) : Prop where
  und : P.underlying t = some (.slice e)
  info : (P.info? e).map (fun i => (i.zero, i.size, i.bytes)) = some (some z, sz, bytes)
  zs : z.cells.size = sz
  pos : 0 < sz

section
variable {α : Type} {e : TypeId} {sz : Nat} {enc : α → List Value} {v : Value} {l : List α} {w w' : World} {S : List Nat}
theorem blk_nil : blk (.slice Option.none 0 0) = [] := rfl
theorem OwnL.nil (e : TypeId) (sz : Nat) (enc : α → List Value) (w : World) : OwnL e sz enc (.slice Option.none 0 0) [] w := World.ownsRow_nil _ _ _ _
theorem OwnL.lt (h : OwnL e sz enc v l w) : ∀ k ∈ blk v, k < w.heap.size := by
  intro k hk
  exact (World.ownsRow.lt h k (by simpa [blk] using hk)).2
theorem OwnL.keep (h : OwnL e sz enc v l w) (ht : Turned S w w') (hd : ∀ k ∈ blk v, k ∉ S) : OwnL e sz enc v l w' := by
  refine ⟨h.1, ?_⟩
  have hlt := h.lt
  rcases h.2 with hn | ⟨g, cap, cur, rfl, hg, hgg, rest⟩
  · exact .inl hn
  · refine .inr ⟨g, cap, cur, rfl, hg, ?_, rest⟩
    have hm : g ∈ blk (.slice (some ⟨g, 0, Option.none⟩) l.length cap) := by simp [blk, Value.ownBlock]
    rw [ht.block g (hlt g hm) (hd g hm)]
    exact hgg
theorem OwnL.form (h : OwnL e sz enc v l w) : ∃ oa cap, v = .slice oa l.length cap ∧ l.length ≤ cap ∧ cap ≤ maxLen := by
  rcases h.2 with ⟨rfl, hn⟩ | ⟨g, cap, cur, rfl, hg, hgg, h1, h2, _⟩
  · exact ⟨Option.none, 0, by rw [hn], by omega, by unfold maxLen; omega⟩
  · exact ⟨_, _, rfl, h1, h2⟩
theorem flat_at {f : α → List Value} (hf : ∀ a ∈ l, (f a).length = sz) {i j : Nat} {a : α} (hi : l[i]? = some a) (hj : j < sz) : (l.flatMap f)[i * sz + j]? = (f a)[j]? := by
  induction l generalizing i with
  | nil => simp at hi
  | cons b l ih =>
    rw [List.flatMap_cons]
    have hb := hf b (List.mem_cons_self ..)
    cases i with
    | zero =>
      simp at hi
      subst hi
      rw [Nat.zero_mul, Nat.zero_add, List.getElem?_append_left (by omega)]
    | succ i =>
      rw [Nat.add_mul, Nat.one_mul, List.getElem?_append_right (by omega), hb, show i * sz + sz + j - sz = i * sz + j by omega]
      exact ih (fun a ha => hf a (List.mem_cons_of_mem _ ha)) (by simpa using hi)
/-- an element's cells, where they lie -/
theorem OwnL.cell (h : OwnL e sz enc v l w) (hf : ∀ a ∈ l, (enc a).length = sz) {i : Nat} {a : α} (hi : l[i]? = some a) :
    ∃ g cap, v = .slice (some ⟨g, 0, Option.none⟩) l.length cap ∧ blk v = [g] ∧ g < w.heap.size ∧ ∀ j u, (enc a)[j]? = some u → w.cell? ⟨g, i * sz + j, Option.none⟩ = some u ∧ w.frozen? ⟨g, i * sz + j, Option.none⟩ = false := by
  have hil : i < l.length := (List.getElem?_eq_some_iff.1 hi).1
  have hcells := fun g hg => World.ownsRow.cells h (g := g) hg
  rcases h.2 with ⟨rfl, hn⟩ | ⟨g, cap, cur, rfl, hg, hgg, h1, h2, _⟩
  · omega
  · refine ⟨g, cap, rfl, rfl, (Array.getElem?_eq_some_iff.1 hgg).1, fun j u hu => ⟨?_, by simp [World.frozen?, hgg]⟩⟩
    have hj : j < sz := by rw [← hf a (List.mem_of_getElem? hi)]; exact (List.getElem?_eq_some_iff.1 hu).1
    have := hcells g rfl (i * sz + j) u (by rw [flat_at hf hi hj]; exact hu)
    rw [Addr.add_lit, Nat.zero_add] at this
    exact this
theorem flat_one {β : Type} (f : α → β) : ∀ l : List α, l.flatMap (fun a => [f a]) = l.map f
  | [] => rfl
  | a :: l => by rw [List.flatMap_cons, flat_one f l]; rfl
/-- an element of one cell is written -/
theorem OwnL.set {f : α → Value} (h : OwnL e 1 (fun a => [f a]) v l w) {g i : Nat} {oc : Nat} (hv : v = .slice (some ⟨g, 0, Option.none⟩) l.length oc) (hi : i < l.length) (a : α) :
    OwnL e 1 (fun a => [f a]) v (l.set i a) (w.setCell ⟨g, i, Option.none⟩ (f a)) := by
  rcases h.2 with ⟨rfl, hn⟩ | ⟨g', cap, cur, hv', hg, hgg, h1, h2, h3, h4⟩
  · omega
  · have heq : g' = g ∧ cap = oc := by rw [hv] at hv'; simp at hv'; exact ⟨hv'.1.symm, hv'.2.symm⟩
    obtain ⟨rfl, rfl⟩ := heq
    refine ⟨by rw [flat_one]; simp, .inr ⟨g', cap, cur.setIfInBounds i (f a), by rw [hv, List.length_set], hg, ?_, by rw [List.length_set]; exact h1, h2, by simpa using h3, ?_⟩⟩
    · have hlt := (Array.getElem?_eq_some_iff.1 hgg).1
      simp only [World.setCell, Array.getElem?_modify, if_true]
      rw [hgg]
      rfl
    · rw [Nat.mul_one] at h4 ⊢
      rw [List.length_set]
      rw [flat_one, List.map_set, ← flat_one f l, ← h4]
      simp [List.take_set]

/-- 'append(v, r...)' onto a slice of the call's own -/
theorem run_push {P : Program} {t : TypeId} {z : Value} {bytes : Nat} (E : ElemOk P t e z sz bytes) (ty : TypeId) (h : OwnL e sz enc v l w) (b off c : Nat) (r : List α)
    (hlen : ∀ a ∈ r, (enc a).length = sz) (hone : ∀ a ∈ r, ∀ u ∈ enc a, u.oneCell' = true) (hc : ∀ j u, (r.flatMap enc)[j]? = some u → w.cell? ⟨b, off + j, Option.none⟩ = some u)
    (h63 : l.length + r.length ≤ maxLen) (hb : (l.length + r.length) * bytes ≤ 140737488355328) :
    ∃ v' w', (Builtin.append_ #[t, t] ty #[v, .slice (some ⟨b, off, Option.none⟩) r.length c]).run P w = .ok v' w' ∧ OwnL e sz enc v' (l ++ r) w' ∧ Turned (blk v) w w' ∧ (blk v' = blk v ∨ blk v' = [w.heap.size]) := by
  obtain ⟨i0, hi, hz0, hz1, hz2⟩ := info_parts E.info
  have hfl : ∀ (r : List α), (∀ a ∈ r, (enc a).length = sz) → (r.flatMap enc).length = r.length * sz := by
    intro r
    induction r with
    | nil => intro _; simp
    | cons a r ih =>
      intro hl
      rw [List.flatMap_cons, List.length_append, hl a (List.mem_cons_self ..), ih fun x hx => hl x (List.mem_cons_of_mem _ hx), List.length_cons, Nat.add_mul]
      omega
  obtain ⟨v', w', h1, h2, h3, _, h5⟩ := run_append_own_at (P := P) w 0 t ty e i0 z sz bytes E.und hi hz0 hz1 hz2 E.zs E.pos v l.length (l.flatMap enc) h ⟨b, off, Option.none⟩ r.length c (r.flatMap enc) (hfl r hlen)
    (by intro j u hj; rw [Addr.add_lit]; exact hc j u hj)
    (by
      intro u hu
      obtain ⟨a, ha, hu⟩ := List.mem_flatMap.1 hu
      exact hone a ha u hu) h63 hb (Nat.zero_le _)
  refine ⟨v', w', h1, ?_, ⟨h3.os, h3.tape, h3.output, h3.size, fun k hk hn => h3.block k hk fun e => hn (by unfold blk; rw [← e]; simp)⟩, ?_⟩
  · unfold OwnL
    rw [List.length_append, List.flatMap_append]
    exact h2
  · rcases h5 with h | h
    · left; unfold blk; rw [h]
    · right; unfold blk; rw [h]; rfl
/-- the same, in a walk -/
theorem wp_push {P : Program} {t : TypeId} {z : Value} {bytes : Nat} (E : ElemOk P t e z sz bytes) {ops : Array Oper} {rest : List Oper} {o : Oper} {a : Act} {Q : Exit → Act → World → Prop} (hgd : o.guard = Option.none) (s x : Operand)
    (ho : o.op = .call { callee := .builtin .append, args := #[s, x], argTypes := #[t, t] })
    (hs : a.eval s = v) (h : OwnL e sz enc v l w) (b off n c : Nat) (r : List α) (hn : r.length = n) (hx : a.eval x = .slice (some ⟨b, off, Option.none⟩) n c)
    (hlen : ∀ a ∈ r, (enc a).length = sz) (hone : ∀ a ∈ r, ∀ u ∈ enc a, u.oneCell' = true) (hc : ∀ j u, (r.flatMap enc)[j]? = some u → w.cell? ⟨b, off + j, Option.none⟩ = some u)
    (h63 : l.length + n ≤ maxLen) (hb : (l.length + n) * bytes ≤ 140737488355328)
    (hk : ∀ v' w', OwnL e sz enc v' (l ++ r) w' → Turned (blk v) w w' → (blk v' = blk v ∨ blk v' = [w.heap.size]) → wpList P ops Q rest (a.put o.dst v') w') :
    wpList P ops Q (o :: rest) a w := by
  subst hn
  obtain ⟨v', w', hr, h2, h3, h4⟩ := run_push E o.type h b off c r hlen hone hc h63 hb
  refine wpList_plain hgd fun K hK => ?_
  unfold Oper.wp execOp
  simp only [ho, resolve, invoke, builtin, Sem.run_bind, Sem.run_pure, Result.andThen_ok, List.map_toArray, List.map_cons, List.map_nil, hs, hx, hr]
  exact hK _ _ (hk v' w' h2 h3 h4)
/-- the same, as a step of a region that draws its order -/
theorem step_push {P : Program} {t : TypeId} {z : Value} {bytes : Nat} (E : ElemOk P t e z sz bytes) {ops : Array Oper} {o : Oper} {a : Act} {K : Act → World → Prop} {Q : Exit → Act → World → Prop} {E' : Prop} (hgd : o.guard = Option.none) (s x : Operand)
    (ho : o.op = Op.call { callee := Callee.builtin Builtin.append, args := #[s, x], argTypes := #[t, t] })
    (hs : a.eval s = v) (h : OwnL e sz enc v l w) (b off n c : Nat) (r : List α) (hn : r.length = n) (hx : a.eval x = .slice (some ⟨b, off, Option.none⟩) n c)
    (hlen : ∀ a ∈ r, (enc a).length = sz) (hone : ∀ a ∈ r, ∀ u ∈ enc a, u.oneCell' = true) (hc : ∀ j u, (r.flatMap enc)[j]? = some u → w.cell? ⟨b, off + j, Option.none⟩ = some u)
    (h63 : l.length + n ≤ maxLen) (hb : (l.length + n) * bytes ≤ 140737488355328)
    (hk : ∀ v' w', OwnL e sz enc v' (l ++ r) w' → Turned (blk v) w w' → (blk v' = blk v ∨ blk v' = [w.heap.size]) → K (a.put o.dst v') w') :
    if Region.wanted o (yielded ops a.tmps) = true then Oper.wp P o a w K Q else E' := by
  subst hn
  have hw : Region.wanted o (yielded ops a.tmps) = true := by simp [Region.wanted, hgd]
  rw [if_pos hw]
  obtain ⟨v', w', hr, h2, h3, h4⟩ := run_push E o.type h b off c r hlen hone hc h63 hb
  unfold Oper.wp
  simp [execOp, ho, resolve, invoke, builtin, hs, hx, hr, Result.andThen]
  exact hk v' w' h2 h3 h4
end
end Go.Proofs.Ytkjlbginggppaaa


/- Parameters that are flat: integers, bools, structs and arrays of these, nested at will; and slices of them: their cells, one by one. Over any program. -/
namespace Go.Proofs.Ytkjlbginggppaaa
open Go.ChangeShapes Go.WideShapes Go.ChangeAt Go.RowKit
set_option linter.unusedVariables false

/-- a cell's kind -/
structure Leaf where
  kind : Option IntKind
def Leaf.int (k : IntKind) : Leaf := ⟨some k⟩
def Leaf.bool : Leaf := ⟨none⟩
def Leaf.ok (l : Leaf) (v : Value) : Prop :=
  match l.kind with
  | some k => ∃ z, v = .int k z ∧ (Lit.int k z).wf = true
  | none => ∃ b, v = .bool b
def AllOk : List Leaf → List Value → Prop
  | [], [] => True
  | k :: ks, v :: vs => k.ok v ∧ AllOk ks vs
  | _, _ => False
theorem AllOk.length : ∀ {ks : List Leaf} {cs : List Value}, AllOk ks cs → cs.length = ks.length
  | [], [], _ => rfl
  | _ :: ks, _ :: cs, h => by rw [List.length_cons, List.length_cons, AllOk.length h.2]
  | [], _ :: _, h => h.elim
  | _ :: _, [], h => h.elim
theorem AllOk.append : ∀ {ks ls : List Leaf} {cs ds : List Value}, AllOk ks cs → AllOk ls ds → AllOk (ks ++ ls) (cs ++ ds)
  | [], _, [], _, _, h => h
  | _ :: _, _, _ :: _, _, h, h' => ⟨h.1, AllOk.append h.2 h'⟩
  | [], _, _ :: _, _, h, _ => h.elim
  | _ :: _, _, [], _, h, _ => h.elim

/-- the fields' cells, one behind the other from o on -/
def flatFs (P : Program) (g : TypeId → Option (List Leaf)) : List Field → Nat → Option (List Leaf)
  | [], _ => some []
  | f :: r, o =>
    if f.offset = o then
      match g f.type with
      | none => none
      | some ks => if P.cellsOf f.type = ks.length then (match flatFs P g r (o + ks.length) with | none => none | some ls => some (ks ++ ls)) else none
    else none
def copies (ks : List Leaf) : Nat → List Leaf
  | 0 => []
  | n + 1 => ks ++ copies ks n
theorem copies_length (ks : List Leaf) : ∀ n, (copies ks n).length = n * ks.length
  | 0 => by simp [copies]
  | n + 1 => by simp [copies, copies_length ks n, Nat.add_mul]; omega
/-- a type's cells, if it is flat -/
def flat (P : Program) : Nat → TypeId → Option (List Leaf)
  | 0, _ => none
  | d + 1, t =>
    match P.underlying t with
    | some (.int k) => some [.int k]
    | some .bool => some [.bool]
    | some (.struct fs) =>
      match flatFs P (flat P d) fs.toList 0 with
      | none => none
      | some ks => if P.cellsOf t = ks.length then some ks else none
    | some (.array n e) =>
      match flat P d e with
      | none => none
      | some ks => if P.cellsOf e = ks.length ∧ P.cellsOf t = n * ks.length then some (copies ks n) else none
    | _ => none

section
variable {H : Type} {enc : TypeId × Value → H} {P : Program} {w : World} {base : Nat} {spare : Nat → Bool} {held : Bool}
theorem fields_ok {g : TypeId → Option (List Leaf)} {cs : List Value} : ∀ {fs : List Field} {o : Nat} {ks : List Leaf}, flatFs P g fs o = some ks →
    (∀ f ∈ fs, ∀ ls, g f.type = some ls → AllOk ls ((cs.drop f.offset).take (P.cellsOf f.type))) → AllOk ks ((cs.drop o).take ks.length)
  | [], o, ks, h, _ => by
    have : ks = [] := by simpa [flatFs] using h.symm
    subst this
    simp [AllOk]
  | f :: r, o, ks, h, hf => by
    unfold flatFs at h
    by_cases ho : f.offset = o
    · rw [if_pos ho] at h
      cases hg : g f.type with
      | none => rw [hg] at h; cases h
      | some ls =>
        rw [hg] at h
        simp only at h
        by_cases hc : P.cellsOf f.type = ls.length
        · rw [if_pos hc] at h
          cases hr : flatFs P g r (o + ls.length) with
          | none => rw [hr] at h; cases h
          | some ms =>
            rw [hr] at h
            simp at h
            subst h
            have h1 := hf f (List.mem_cons_self ..) ls hg
            rw [ho, hc] at h1
            have h2 := fields_ok (cs := cs) hr fun f' hf' => hf f' (List.mem_cons_of_mem _ hf')
            have := h1.append h2
            rw [List.length_append, List.take_add, List.drop_drop]
            exact this
        · rw [if_neg hc] at h; cases h
    · rw [if_neg ho] at h; cases h
theorem copies_ok {ks : List Leaf} {cs : List Value} : ∀ (n o : Nat), (∀ i, i < n → AllOk ks ((cs.drop (o + i * ks.length)).take ks.length)) → AllOk (copies ks n) ((cs.drop o).take (copies ks n).length)
  | 0, _, _ => by simp [copies, AllOk]
  | n + 1, o, h => by
    have h1 := h 0 (by omega)
    rw [Nat.zero_mul, Nat.add_zero] at h1
    have h2 := copies_ok n (o + ks.length) fun i hi => by
      have := h (i + 1) (by omega)
      rw [Nat.add_mul, Nat.one_mul, show o + (i * ks.length + ks.length) = o + ks.length + i * ks.length by omega] at this
      exact this
    have := h1.append h2
    show AllOk (ks ++ copies ks n) ((cs.drop o).take (ks ++ copies ks n).length)
    rw [List.length_append, List.take_add, List.drop_drop]
    exact this
theorem flat_ok : ∀ {d : Nat} {t : TypeId} {ks : List Leaf} {fuel : Nat} {cs : List Value} {x : DataW H × List MemPlace}, flat P d t = some ks → DataW.trod enc P w base spare held fuel t cs = some x → AllOk ks cs
  | 0, _, _, _, _, _, h, _ => by cases h
  | d + 1, t, ks, fuel, cs, x, h, hx => by
    unfold flat at h
    split at h
    · rename_i k hk
      simp at h
      subst h
      obtain ⟨n, rfl, _, hw⟩ := DataW.trod_int hk hx
      exact ⟨⟨n, rfl, hw⟩, trivial⟩
    · rename_i hk
      simp at h
      subst h
      obtain ⟨b, rfl, _⟩ := DataW.trod_bool hk hx
      exact ⟨⟨b, rfl⟩, trivial⟩
    · rename_i fs hk
      cases hg : flatFs P (flat P d) fs.toList 0 with
      | none => rw [hg] at h; cases h
      | some ls =>
        rw [hg] at h
        simp only at h
        by_cases hc : P.cellsOf t = ls.length
        · rw [if_pos hc] at h
          simp at h
          subst h
          obtain ⟨xs, n, _, _, hl, hlen, hf⟩ := DataW.trod_struct hk hx
          have := fields_ok (cs := cs) hg (by
            intro f hm ms hms
            obtain ⟨i, hi⟩ := List.getElem?_of_mem hm
            have hi' : fs[i]? = some f := by simpa using hi
            have hlt : i < fs.size := (Array.getElem?_eq_some_iff.1 hi').1
            have := hf i f hi'
            rw [List.getElem?_eq_getElem (by omega)] at this
            exact flat_ok hms this)
          rw [List.drop_zero, List.take_of_length_le (by omega)] at this
          exact this
        · rw [if_neg hc] at h; cases h
    · rename_i n e hk
      cases hg : flat P d e with
      | none => rw [hg] at h; cases h
      | some ls =>
        rw [hg] at h
        simp only at h
        by_cases hc : P.cellsOf e = ls.length ∧ P.cellsOf t = n * ls.length
        · rw [if_pos hc] at h
          simp at h
          subst h
          cases fuel with
          | zero => simp [DataW.trod] at hx
          | succ fuel =>
            unfold DataW.trod at hx
            rw [hk] at hx
            have hx' : (if cs.length = P.cellsOf t then ((List.range n).mapM fun i => DataW.trod enc P w base spare held fuel e ((cs.drop (i * P.cellsOf e)).take (P.cellsOf e))).map fun xs => (DataW.agg (xs.map (·.1)), xs.flatMap (·.2)) else none) = some x := hx
            by_cases hl : cs.length = P.cellsOf t
            · rw [if_pos hl] at hx'
              obtain ⟨xs, hm, _⟩ := Option.map_eq_some_iff.1 hx'
              have hlen := mapM_some_length hm
              rw [List.length_range] at hlen
              have := copies_ok (ks := ls) (cs := cs) n 0 (by
                intro i hi
                have := mapM_some_get hm i i (by simp [hi])
                rw [List.getElem?_eq_getElem (by omega), hc.1] at this
                rw [Nat.zero_add]
                exact flat_ok hg this)
              rw [List.drop_zero, List.take_of_length_le (by rw [copies_length]; omega)] at this
              exact this
            · rw [if_neg hl] at hx'; cases hx'
        · rw [if_neg hc] at h; cases h
    · cases h

/-- a struct or an array that is flat -/
theorem open_flat {t : TypeId} {d : Nat} {ks : List Leaf} {v : Value} {dd : DataW H} {p : List MemPlace} {r : Reach} {b0 : Nat}
    (ht : (∃ fs, P.underlying t = some (.struct fs)) ∨ ∃ n e, P.underlying t = some (.array n e)) (hf : flat P d t = some ks)
    (hval : Value.okWide P w r b0 t v) (h : DataW.Trod enc P w base spare held t v dd p) : ∃ cs : List Value, v = .agg cs.toArray ∧ AllOk ks cs := by
  obtain ⟨cs, rfl⟩ : ∃ cs : Array Value, v = .agg cs := by
    rcases ht with ⟨fs, ht⟩ | ⟨n, e, ht⟩
    · obtain ⟨cs, rfl, _⟩ := okWide_struct ht hval
      exact ⟨cs, rfl⟩
    · simp only [Value.okWide, ht] at hval
      obtain ⟨cs, rfl, _⟩ := hval
      exact ⟨cs, rfl⟩
  obtain ⟨fuel, hx⟩ := h
  exact ⟨cs.toList, by simp, flat_ok hf hx⟩

/-- a slice of elements of sz cells each, that is only read -/
def RowOf {α : Type} (sz : Nat) (f : α → List Value) (oa : Option Addr) (l : List α) (w : World) : Prop :=
  ∀ i a, l[i]? = some a → ∃ b off, oa = some ⟨b, off, none⟩ ∧ b < w.heap.size ∧ ∀ j u, (f a)[j]? = some u → w.cell? ⟨b, off + i * sz + j, none⟩ = some u
theorem RowOf.keep {α : Type} {sz : Nat} {f : α → List Value} {oa : Option Addr} {l : List α} {w u : World} (h : RowOf sz f oa l w) (hb : Below w.heap.size w u) : RowOf sz f oa l u := by
  intro i a hi
  obtain ⟨b, off, ho, hlt, hc⟩ := h i a hi
  exact ⟨b, off, ho, Nat.lt_of_lt_of_le hlt hb.size, fun j v hv => (hb.cell (p := ⟨b, off + i * sz + j, none⟩) hlt).trans (hc j v hv)⟩
/-- what each is one of, the list is a list of -/
theorem list_of {α : Type} (f : α → List Value) : ∀ {l : List (List Value)}, (∀ cs ∈ l, ∃ a, cs = f a) → ∃ l' : List α, l = l'.map f
  | [], _ => ⟨[], rfl⟩
  | c :: l, h => by
    obtain ⟨a, rfl⟩ := h c (List.mem_cons_self ..)
    obtain ⟨l', rfl⟩ := list_of f fun cs hc => h cs (List.mem_cons_of_mem _ hc)
    exact ⟨a :: l', rfl⟩
theorem open_flats {α : Type} {t e : TypeId} {d : Nat} {ks : List Leaf} {v : Value} {dd : DataW H} {p : List MemPlace} {r : Reach} {b0 : Nat} (f : α → List Value)
    (ht : P.underlying t = some (.slice e)) (hf : flat P d e = some ks) (hc : P.cellsOf e = ks.length) (hpos : 0 < ks.length) (hk : ∀ cs, AllOk ks cs → ∃ a, cs = f a)
    (hval : Value.okWide P w r b0 t v) (h : DataW.Trod enc P w base spare held t v dd p) :
    ∃ (oa : Option Addr) (len cap : Nat) (l : List α), v = .slice oa len cap ∧ len ≤ maxLen ∧ len ≤ cap ∧ l.length = len ∧ RowOf ks.length f oa l w ∧ ∀ a ∈ l, AllOk ks (f a) := by
  obtain ⟨oa, len, cap, rfl⟩ := okWide_slice ht hval
  obtain ⟨fuel, hx⟩ := h
  rcases Go.Deep.open_slice ht hx with ⟨hcs, _⟩ | ⟨a, len', cap', m, n, D, Pl, hcs, hb, hl, hm, hmm, _, hel⟩
  · simp [Value.cells] at hcs
    obtain ⟨rfl, rfl, rfl⟩ := hcs
    exact ⟨none, 0, 0, [], rfl, Nat.zero_le _, Nat.le_refl _, rfl, fun i a hi => by simp at hi, by simp⟩
  · simp [Value.cells] at hcs
    obtain ⟨rfl, rfl, rfl⟩ := hcs
    have hlm : len ≤ m := by rw [hmm]; split <;> omega
    have each : ∀ i, i < len → ∃ x : α, AllOk ks (f x) ∧ w.cells? base (a.add (i * ks.length)) ks.length = some (f x) := by
      intro i hi
      obtain ⟨cs', h1, h2⟩ := hel i (by omega)
      have ok := flat_ok hf h2
      obtain ⟨x, rfl⟩ := hk cs' ok
      rw [hc] at h1
      exact ⟨x, ok, h1⟩
    have all : ∀ k, k ≤ len → ∃ l : List α, l.length = k ∧ (∀ a ∈ l, AllOk ks (f a)) ∧ ∀ i x, l[i]? = some x → w.cells? base (a.add (i * ks.length)) ks.length = some (f x) := by
      intro k
      induction k with
      | zero => intro _; exact ⟨[], rfl, by simp, fun i x hi => by simp at hi⟩
      | succ k ih =>
        intro hk
        obtain ⟨l, hl, ho, hc⟩ := ih (by omega)
        obtain ⟨x, ox, hx⟩ := each k (by omega)
        refine ⟨l ++ [x], by simp [hl], ?_, ?_⟩
        · intro y hy
          rcases List.mem_append.1 hy with hy | hy
          · exact ho y hy
          · simp at hy; subst hy; exact ox
        · intro i y hi
          by_cases e : i < l.length
          · rw [List.getElem?_append_left e] at hi
            exact hc i y hi
          · rw [List.getElem?_append_right (by omega)] at hi
            have : i = k := by
              have := (List.getElem?_eq_some_iff.1 hi).1
              simp at this; omega
            subst this
            rw [hl, Nat.sub_self] at hi
            simp at hi
            subst hi
            exact hx
    obtain ⟨l, hll, ho, hcl⟩ := all len (Nat.le_refl _)
    refine ⟨some a, len, cap, l, rfl, by omega, hl, hll, ?_, ho⟩
    intro i x hi
    have hcells := hcl i x hi
    obtain ⟨_, hlen, hcell⟩ := World.cells?_some hcells
    have hlt := World.cells?_block hcells hpos
    obtain ⟨ab, ao, spot⟩ := a
    have hspot : spot = none := by
      have hl0 : 0 < l.length := Nat.lt_of_le_of_lt (Nat.zero_le _) (List.getElem?_eq_some_iff.1 hi).1
      have hc0 := hcl 0 l[0] (List.getElem?_eq_getElem hl0)
      obtain ⟨_, hn0, hcell0⟩ := World.cells?_some hc0
      have h0 := hcell0 0 hpos
      rw [List.getElem?_eq_getElem (by omega)] at h0
      have := World.cell?_spot h0
      simpa [Addr.add] using this
    subst hspot
    have hblk : ab < w.heap.size := by
      rw [Addr.add_lit] at hlt
      exact hlt
    refine ⟨ab, ao, rfl, hblk, fun j u hu => ?_⟩
    have hj : j < ks.length := by rw [← hlen]; exact (List.getElem?_eq_some_iff.1 hu).1
    have := hcell j hj
    rw [Addr.add_lit, Addr.add_lit, hu] at this
    exact this
end
end Go.Proofs.Ytkjlbginggppaaa


/- 'append(v, r...)' onto a slice of the call's own, from whatever slice r, nil and empty too; a struct of the call's own that holds such a slice. Over any program. -/
namespace Go.Proofs.Ytkjlbginggppaaa
open Go.RowKit
set_option linter.unusedVariables false

section
variable {P : Program} {α : Type} {t e : TypeId} {z : Value} {sz bytes : Nat} {enc : α → List Value} {v : Value} {l : List α} {w w' : World} {S : List Nat}
theorem run_pushAll (E : ElemOk P t e z sz bytes) (ty : TypeId) (h : OwnL e sz enc v l w) (oa : Option Addr) (n c : Nat) (r : List α) (hn : r.length = n) (hr : RowOf sz enc oa r w)
    (hlen : ∀ a ∈ r, (enc a).length = sz) (hone : ∀ a ∈ r, ∀ u ∈ enc a, u.oneCell' = true) (h63 : l.length + n ≤ maxLen) (hb : (l.length + n) * bytes ≤ 140737488355328) :
    ∃ v' w', (Builtin.append_ #[t, t] ty #[v, .slice oa n c]).run P w = .ok v' w' ∧ OwnL e sz enc v' (l ++ r) w' ∧ Turned (blk v) w w' ∧ (blk v' = blk v ∨ blk v' = [w.heap.size]) := by
  subst hn
  by_cases hr0 : r = []
  · subst hr0
    obtain ⟨i0, hi, hz0, hz1, hz2⟩ := info_parts E.info
    obtain ⟨ob, cap, hv, hle, _⟩ := h.form
    refine ⟨v, w, ?_, by rw [List.append_nil]; exact h, Turned.refl _ _, .inl rfl⟩
    rw [hv]
    cases oa with
    | none => exact run_append_nothing w t t ty e i0 E.und hi ob l.length cap hle _ (Src.ofNil w E.und c)
    | some a => exact run_append_nothing w t t ty e i0 E.und hi ob l.length cap hle _ (Src.ofSlice w E.und a 0 c [] (by simp) (by simp) (by simp))
  · obtain ⟨a0, hr0⟩ : ∃ a0, r[0]? = some a0 := by
      cases r with
      | nil => exact absurd rfl hr0
      | cons a r => exact ⟨a, rfl⟩
    obtain ⟨b, off, rfl, _, _⟩ := hr 0 a0 hr0
    refine run_push E ty h b off c r hlen hone ?_ h63 hb
    intro j u hj
    have hjl : j < (r.flatMap enc).length := (List.getElem?_eq_some_iff.1 hj).1
    have hfl : ∀ (r : List α), (∀ a ∈ r, (enc a).length = sz) → (r.flatMap enc).length = r.length * sz := by
      intro r
      induction r with
      | nil => intro _; simp
      | cons a r ih =>
        intro hl
        rw [List.flatMap_cons, List.length_append, hl a (List.mem_cons_self ..), ih fun x hx => hl x (List.mem_cons_of_mem _ hx), List.length_cons, Nat.add_mul]
        omega
    rw [hfl r hlen] at hjl
    have hpos := E.pos
    have hi : j / sz < r.length := by rw [Nat.div_lt_iff_lt_mul hpos]; exact hjl
    have hm : j % sz < sz := Nat.mod_lt _ hpos
    have hd : j / sz * sz + j % sz = j := by rw [Nat.mul_comm]; exact Nat.div_add_mod j sz
    obtain ⟨b', off', ho, _, hc'⟩ := hr (j / sz) r[j / sz] (List.getElem?_eq_getElem hi)
    simp at ho
    obtain ⟨rfl, rfl⟩ := ho
    have e1 := flat_at hlen (List.getElem?_eq_getElem hi) hm
    rw [hd, hj] at e1
    have := hc' (j % sz) u e1.symm
    rw [Nat.add_assoc, hd] at this
    exact this
theorem wp_pushAll (E : ElemOk P t e z sz bytes) {ops : Array Oper} {rest : List Oper} {o : Oper} {a : Act} {Q : Exit → Act → World → Prop} (hgd : o.guard = Option.none) (s x : Operand)
    (ho : o.op = .call { callee := .builtin .append, args := #[s, x], argTypes := #[t, t] })
    (hs : a.eval s = v) (h : OwnL e sz enc v l w) (oa : Option Addr) (n c : Nat) (r : List α) (hn : r.length = n) (hx : a.eval x = .slice oa n c) (hr : RowOf sz enc oa r w)
    (hlen : ∀ a ∈ r, (enc a).length = sz) (hone : ∀ a ∈ r, ∀ u ∈ enc a, u.oneCell' = true)
    (h63 : l.length + n ≤ maxLen) (hb : (l.length + n) * bytes ≤ 140737488355328)
    (hk : ∀ v' w', OwnL e sz enc v' (l ++ r) w' → Turned (blk v) w w' → (blk v' = blk v ∨ blk v' = [w.heap.size]) → wpList P ops Q rest (a.put o.dst v') w') :
    wpList P ops Q (o :: rest) a w := by
  obtain ⟨v', w', hrun, h2, h3, h4⟩ := run_pushAll E o.type h oa n c r hn hr hlen hone h63 hb
  refine wpList_plain hgd fun K hK => ?_
  unfold Oper.wp execOp
  simp only [ho, resolve, invoke, builtin, Sem.run_bind, Sem.run_pure, Result.andThen_ok, List.map_toArray, List.map_cons, List.map_nil, hs, hx, hrun]
  exact hK _ _ (hk v' w' h2 h3 h4)
theorem step_pushAll (E : ElemOk P t e z sz bytes) {ops : Array Oper} {o : Oper} {a : Act} {K : Act → World → Prop} {Q : Exit → Act → World → Prop} {E' : Prop} (hgd : o.guard = Option.none) (s x : Operand)
    (ho : o.op = Op.call { callee := Callee.builtin Builtin.append, args := #[s, x], argTypes := #[t, t] })
    (hs : a.eval s = v) (h : OwnL e sz enc v l w) (oa : Option Addr) (n c : Nat) (r : List α) (hn : r.length = n) (hx : a.eval x = .slice oa n c) (hr : RowOf sz enc oa r w)
    (hlen : ∀ a ∈ r, (enc a).length = sz) (hone : ∀ a ∈ r, ∀ u ∈ enc a, u.oneCell' = true)
    (h63 : l.length + n ≤ maxLen) (hb : (l.length + n) * bytes ≤ 140737488355328)
    (hk : ∀ v' w', OwnL e sz enc v' (l ++ r) w' → Turned (blk v) w w' → (blk v' = blk v ∨ blk v' = [w.heap.size]) → K (a.put o.dst v') w') :
    if Region.wanted o (yielded ops a.tmps) = true then Oper.wp P o a w K Q else E' := by
  have hw : Region.wanted o (yielded ops a.tmps) = true := by simp [Region.wanted, hgd]
  rw [if_pos hw]
  obtain ⟨v', w', hrun, h2, h3, h4⟩ := run_pushAll E o.type h oa n c r hn hr hlen hone h63 hb
  unfold Oper.wp
  simp [execOp, ho, resolve, invoke, builtin, hs, hx, hrun, Result.andThen]
  exact hk v' w' h2 h3 h4
/-- a row of the call's own, as one that is read -/
theorem OwnL.rowOf (h : OwnL e sz enc v l w) (hlen : ∀ a ∈ l, (enc a).length = sz) : ∃ oa cap, v = .slice oa l.length cap ∧ l.length ≤ cap ∧ l.length ≤ maxLen ∧ RowOf sz enc oa l w ∧ ∀ a, oa = some a → a.spot = Option.none := by
  have hcell := fun i a hi => h.cell hlen (i := i) (a := a) hi
  have hown := h
  rcases h.2 with ⟨rfl, hn⟩ | ⟨g, cap, cur, rfl, hg, hgg, h1, h2, _⟩
  · refine ⟨Option.none, 0, by rw [hn], by omega, by omega, ?_, by simp⟩
    intro i a hi
    have := (List.getElem?_eq_some_iff.1 hi).1
    omega
  · refine ⟨_, cap, rfl, h1, by omega, ?_, by simp⟩
    intro i a hi
    obtain ⟨g', cap', hv, _, hlt, hc⟩ := hcell i a hi
    simp at hv
    obtain ⟨rfl, rfl⟩ := hv
    refine ⟨g, 0, rfl, hlt, fun j u hu => ?_⟩
    rw [Nat.zero_add]
    exact (hc j u hu).1
theorem RowOf.turned {oa : Option Addr} (h : RowOf sz enc oa l w) (ht : Turned S w w') (hd : ∀ a, oa = some a → a.block ∉ S) : RowOf sz enc oa l w' := by
  intro i a hi
  obtain ⟨b, off, ho, hlt, hc⟩ := h i a hi
  exact ⟨b, off, ho, Nat.lt_of_lt_of_le hlt ht.size, fun j u hu => (ht.cell (p := ⟨b, off + i * sz + j, Option.none⟩) hlt (hd ⟨b, off, Option.none⟩ ho)).trans (hc j u hu)⟩
end

/-- a block of the call's own holds these cells -/
def Struct (p : Nat) (cs : List Value) (w : World) : Prop :=
  p < w.heap.size ∧ ∀ j u, cs[j]? = some u → w.cell? ⟨p, j, none⟩ = some u ∧ w.frozen? ⟨p, j, none⟩ = false
theorem Struct.keep {p : Nat} {cs : List Value} {w w' : World} {S : List Nat} (h : Struct p cs w) (ht : Turned S w w') (hd : p ∉ S) : Struct p cs w' :=
  ⟨Nat.lt_of_lt_of_le h.1 ht.size, fun j u hu => ⟨(ht.cell (p := ⟨p, j, none⟩) h.1 hd).trans (h.2 j u hu).1, (ht.frozen (p := ⟨p, j, none⟩) h.1 hd).trans (h.2 j u hu).2⟩⟩
theorem Struct.new (w : World) (cs : List Value) (t : TypeId) : Struct w.heap.size cs (w.alloc (.cells cs.toArray t)) := by
  refine ⟨by simp, fun j u hu => ⟨?_, by simp⟩⟩
  simp [go_sem, hu]
theorem Struct.set {p i : Nat} {cs : List Value} {w : World} (h : Struct p cs w) (hi : i < cs.length) (v : Value) : Struct p (cs.set i v) (w.setCell ⟨p, i, none⟩ v) := by
  refine ⟨by simpa using h.1, fun j u hu => ?_⟩
  have hj : j < cs.length := by have := (List.getElem?_eq_some_iff.1 hu).1; simpa using this
  have h0 := h.2 j cs[j] (List.getElem?_eq_getElem hj)
  refine ⟨?_, by rw [World.frozen?_setCell]; exact h0.2⟩
  by_cases e : i = j
  · subst e
    rw [List.getElem?_set_self hi] at hu
    simp at hu
    subst hu
    simp [World.cell?_setCell_same', h0.1]
  · rw [List.getElem?_set_ne e] at hu
    rw [World.cell?_setCell_other]
    · exact (h.2 j u hu).1
    · simp
end Go.Proofs.Ytkjlbginggppaaa


/- The reference's writer and reader of bits, where they lie: a struct of the call's own, and the row of bools that it holds; with the blocks that are theirs. -/
namespace Go.Proofs.Ytkjlbginggppaaa
open Go.RowKit
set_option linter.unusedVariables false

def bEnc (b : Bool) : List Value := [.bool b]
theorem bEnc_len {l : List Bool} : ∀ a ∈ l, (bEnc a).length = 1 := fun _ _ => rfl
theorem bEnc_one {l : List Bool} : ∀ a ∈ l, ∀ u ∈ bEnc a, u.oneCell' = true := by
  intro a _ u hu
  simp [bEnc] at hu
  subst hu
  rfl
/-- block p is a struct of one slice of bools, which are l; its blocks are F -/
def RBits (e : TypeId) (p : Nat) (l : List Bool) (F : List Nat) (w : World) : Prop :=
  ∃ v, Struct p [v] w ∧ OwnL e 1 bEnc v l w ∧ F = p :: blk v ∧ p ∉ blk v
/-- block p is a struct of a slice of bools, where it is and whether it has failed -/
def RRead (e : TypeId) (p : Nat) (r : Bt.Rd) (F : List Nat) (w : World) : Prop :=
  ∃ v, Struct p [v, .int .i64 (r.at_ : Int), .bool r.fail] w ∧ OwnL e 1 bEnc v r.l w ∧ F = p :: blk v ∧ p ∉ blk v
section
variable {e : TypeId} {p : Nat} {l : List Bool} {r : Bt.Rd} {F S : List Nat} {w w' : World}
theorem RBits.lt (h : RBits e p l F w) : ∀ k ∈ F, k < w.heap.size := by
  obtain ⟨v, hs, ho, rfl, _⟩ := h
  intro k hk
  rcases List.mem_cons.1 hk with rfl | hk
  · exact hs.1
  · exact ho.lt k hk
theorem RBits.keep (h : RBits e p l F w) (ht : Turned S w w') (hd : ∀ k ∈ F, k ∉ S) : RBits e p l F w' := by
  obtain ⟨v, hs, ho, rfl, hn⟩ := h
  exact ⟨v, hs.keep ht (hd p (List.mem_cons_self ..)), ho.keep ht fun k hk => hd k (List.mem_cons_of_mem _ hk), rfl, hn⟩
theorem RRead.lt (h : RRead e p r F w) : ∀ k ∈ F, k < w.heap.size := by
  obtain ⟨v, hs, ho, rfl, _⟩ := h
  intro k hk
  rcases List.mem_cons.1 hk with rfl | hk
  · exact hs.1
  · exact ho.lt k hk
theorem RRead.keep (h : RRead e p r F w) (ht : Turned S w w') (hd : ∀ k ∈ F, k ∉ S) : RRead e p r F w' := by
  obtain ⟨v, hs, ho, rfl, hn⟩ := h
  exact ⟨v, hs.keep ht (hd p (List.mem_cons_self ..)), ho.keep ht fun k hk => hd k (List.mem_cons_of_mem _ hk), rfl, hn⟩
/-- new, of no bits -/
theorem RBits.new (e : TypeId) (w : World) (t : TypeId) : RBits e w.heap.size [] [w.heap.size] (w.alloc (.cells #[.slice none 0 0] t)) :=
  ⟨_, Struct.new w [_] t, OwnL.nil _ _ _ _, rfl, by simp [blk, Value.ownBlock]⟩
/-- its slice is another one now: behind an append and the store of it -/
theorem RBits.store {v v' : Value} {l' : List Bool} (hs : Struct p [v] w) (ho' : OwnL e 1 bEnc v' l' w') (ht : Turned (blk v) w w') (hn : p ∉ blk v) (hb : blk v' = blk v ∨ blk v' = [w.heap.size]) :
    RBits e p l' (p :: blk v') (w'.setCell ⟨p, 0, none⟩ v') ∧ Turned (p :: blk v) w (w'.setCell ⟨p, 0, none⟩ v') ∧ ∀ k ∈ p :: blk v', k ∈ p :: blk v ∨ w.heap.size ≤ k := by
  have hn' : p ∉ blk v' := by
    rcases hb with h | h
    · rw [h]; exact hn
    · rw [h]; have := hs.1; simp; omega
  have hT : Turned (p :: blk v) w (w'.setCell ⟨p, 0, none⟩ v') := (ht.mono (S' := p :: blk v) fun k hk _ => List.mem_cons_of_mem _ hk).setCell (.inl (List.mem_cons_self ..)) _
  refine ⟨⟨v', (hs.keep ht hn).set (i := 0) (by simp) v', ?_, rfl, hn'⟩, hT, ?_⟩
  · refine ho'.keep (S := [p]) ((Turned.refl [p] w').setCell (.inl (by simp)) _) ?_
    intro k hk hm
    simp at hm
    subst hm
    exact hn' hk
  · intro k hk
    rcases List.mem_cons.1 hk with rfl | hk
    · exact .inl (List.mem_cons_self ..)
    · rcases hb with h | h
      · rw [h] at hk; exact .inl (List.mem_cons_of_mem _ hk)
      · rw [h] at hk; simp at hk; exact .inr (by omega)
end
end Go.Proofs.Ytkjlbginggppaaa


/- Bytes, as slices of the call's own have them; which blocks were written. -/
namespace Go.Proofs.Ytkjlbginggppaaa
open Go.RowKit
set_option linter.unusedVariables false

/-- the blocks F were written, and are F' now: what came is new -/
def Moved (F F' : List Nat) (w w' : World) : Prop := Turned F w w' ∧ ∀ k ∈ F', k ∈ F ∨ w.heap.size ≤ k
namespace Moved
variable {F F' F'' G : List Nat} {w w' w'' : World}
theorem refl (F : List Nat) (w : World) : Moved F F w w := ⟨Turned.refl _ _, fun k hk => .inl hk⟩
theorem trans (h : Moved F F' w w') (h' : Moved F' F'' w' w'') : Moved F F'' w w'' := by
  have hs := h.1.size
  refine ⟨h.1.trans h'.1 ?_, ?_⟩
  · intro k hk hl
    rcases h.2 k hk with h | h
    · exact h
    · omega
  · intro k hk
    rcases h'.2 k hk with h1 | h1
    · exact h.2 k h1
    · exact .inr (by omega)
theorem apart (h : Moved F F' w w') (hl : ∀ k ∈ G, k < w.heap.size) (hd : ∀ k ∈ G, k ∉ F) : ∀ k ∈ G, k ∉ F' := by
  intro k hk hm
  rcases h.2 k hm with h1 | h1
  · exact hd k hk h1
  · have := hl k hk; omega
/-- all that was written came since -/
theorem below {B : Nat} {w0 : World} (h : Moved F F' w w') (h0 : Below B w0 w) (hB : B ≤ w.heap.size) (hF : ∀ k ∈ F, B ≤ k) : Below B w0 w' := h0.trans (h.1.below hB hF)
theorem ge {B : Nat} (h : Moved F F' w w') (hB : B ≤ w.heap.size) (hF : ∀ k ∈ F, B ≤ k) : ∀ k ∈ F', B ≤ k := by
  intro k hk
  rcases h.2 k hk with h1 | h1
  · exact hF k h1
  · omega
theorem size (h : Moved F F' w w') : w.heap.size ≤ w'.heap.size := h.1.size
end Moved

def byEnc (n : Nat) : List Value := [.int .u8 (n : Int)]
theorem byEnc_len {l : List Nat} : ∀ a ∈ l, (byEnc a).length = 1 := fun _ _ => rfl
theorem byEnc_one {l : List Nat} : ∀ a ∈ l, ∀ u ∈ byEnc a, u.oneCell' = true := by
  intro a _ u hu
  simp [byEnc] at hu
  subst hu
  rfl
theorem elem_u8 : ElemOk Try.prog 25 5 (.int .u8 0) 1 1 := ⟨by kernel_rfl, by kernel_rfl, rfl, by decide⟩

theorem one_cell {α : Type} {enc : α → List Value} {a : α} {x : Value} (he : enc a = [x]) (w : World) (t : TypeId) : ∀ j u, ([a].flatMap enc)[j]? = some u → (w.alloc (.cells #[x] t)).cell? ⟨w.heap.size, 0 + j, none⟩ = some u := by
  intro j u hj
  rw [show [a].flatMap enc = [x] by simp [he]] at hj
  match j, hj with
  | 0, hj => simp at hj; subst hj; simp [go_sem]

/-- behind 'x.f = append(x.f, a)', the element laid in a block of its own: the slice, the struct at p whose first cell it is, and what has turned -/
theorem push_one {α : Type} {e : TypeId} {enc : α → List Value} {v v' : Value} {cs : List Value} {l : List α} {a : α} {p : Nat} {w w1 : World} {o : Obj}
    (hlen : ∀ b ∈ l ++ [a], (enc b).length = 1) (hs : Struct p (v :: cs) w) (hn : p ∉ blk v) (ho1 : OwnL e 1 enc v' (l ++ [a]) w1) (ht : Turned (blk v) (w.alloc o) w1) (hb : blk v' = blk v ∨ blk v' = [(w.alloc o).heap.size]) :
    ∃ g cap, v' = .slice (some ⟨g, 0, none⟩) (l.length + 1) cap ∧ g ≠ p ∧ w1.cell? ⟨p, 0, none⟩ = some v ∧ w1.frozen? ⟨p, 0, none⟩ = false ∧
      ∀ W2, W2 = w1.setCell ⟨p, 0, none⟩ v' → Struct p (v' :: cs) W2 ∧ OwnL e 1 enc v' (l ++ [a]) W2 ∧ Turned (p :: blk v) w W2 ∧ blk v' = [g] ∧ (blk v = [g] ∨ w.heap.size ≤ g) := by
  have hs1 := (hs.keep ((Turned.refl [] w).alloc o) (by simp)).keep ht hn
  obtain ⟨g, cap, rfl, hbk, hg, hc⟩ := ho1.cell hlen (i := l.length) (a := a) (by simp)
  have hgp : g ≠ p := by
    rintro rfl
    rcases hb with h | h
    · rw [hbk] at h; exact hn (by rw [← h]; simp)
    · rw [hbk] at h; simp at h; have := hs.1; omega
  refine ⟨g, cap, by simp, hgp, (hs1.2 0 _ rfl).1, (hs1.2 0 _ rfl).2, ?_⟩
  rintro W2 rfl
  refine ⟨hs1.set (i := 0) (by simp) _, ?_, ?_, hbk, ?_⟩
  · refine ho1.keep (S := [p]) ((Turned.refl [p] w1).setCell (.inl (by simp)) _) ?_
    intro k hk hm
    rw [hbk] at hk
    simp at hk hm
    omega
  · have h0 : Turned (blk v) w w1 := ((Turned.refl (blk v) w).alloc o).trans ht fun k hk _ => hk
    have h1 : Turned (p :: blk v) w w1 := h0.mono fun k hk _ => List.mem_cons_of_mem _ hk
    exact h1.setCell (p := ⟨p, 0, none⟩) (.inl (by simp)) _
  · rcases hb with h | h
    · left; rw [← h, hbk]
    · right; rw [hbk] at h; simp at h; omega

/-- an element of the slice is written, then the struct's second cell -/
theorem put_fin {α : Type} {e : TypeId} {f : α → Value} {V n m : Value} {l : List α} {a : α} {g p i cap : Nat} {S : List Nat} {w W : World} (hV : V = .slice (some ⟨g, 0, none⟩) l.length cap) (hs : Struct p [V, n] W) (ho : OwnL e 1 (fun a => [f a]) V l W) (hgp : g ≠ p) (hi : i < l.length)
    (ht : Turned S w W) (hp : p ∈ S) (hg : g ∈ S ∨ w.heap.size ≤ g) {W' : World} (hW : W' = ((W.setCell ⟨g, i, none⟩ (f a)).setCell ⟨p, 1, none⟩ m).drew) :
    Struct p [V, m] W' ∧ OwnL e 1 (fun a => [f a]) V (l.set i a) W' ∧ Turned S w W' := by
  subst hW
  refine ⟨?_, ?_, ?_⟩
  · have h1 : Struct p [V, n] (W.setCell ⟨g, i, none⟩ (f a)) := hs.keep (S := [g]) ((Turned.refl [g] W).setCell (p := ⟨g, i, none⟩) (.inl (by simp)) _) (by simp; omega)
    exact h1.set (i := 1) (by simp) m
  · have h1 := ho.set hV hi a
    have h2 := h1.keep (S := [p]) ((Turned.refl [p] _).setCell (p := ⟨p, 1, none⟩) (.inl (by simp)) m) (by
      intro k hk hm
      rw [hV] at hk
      simp [blk, Value.ownBlock] at hk hm
      omega)
    exact h2
  · exact ((ht.setCell (p := ⟨g, i, none⟩) hg _).setCell (p := ⟨p, 1, none⟩) (.inl hp) _).drew
end Go.Proofs.Ytkjlbginggppaaa


/- The program's writer and reader of bits, and the reference's reader, where they lie; what a call that writes them may have turned. -/
namespace Go.Proofs.Ytkjlbginggppaaa
open Go.RowKit
set_option linter.unusedVariables false

theorem elem_bool : ElemOk Try.prog 67 4 (.bool false) 1 1 := ⟨by kernel_rfl, by kernel_rfl, rfl, by decide⟩

/-- block p is a writer that has the bits l; its blocks are F -/
def PW (p : Nat) (l : List Bool) (F : List Nat) (w : World) : Prop :=
  ∃ v, Struct p [v, .int .i64 (l.length : Int)] w ∧ OwnL 5 1 byEnc v (Bt.pack l) w ∧ F = p :: blk v ∧ p ∉ blk v
section
variable {p : Nat} {l : List Bool} {F S : List Nat} {w w' : World}
theorem PW.lt (h : PW p l F w) : ∀ k ∈ F, k < w.heap.size := by
  obtain ⟨v, hs, ho, rfl, _⟩ := h
  intro k hk
  rcases List.mem_cons.1 hk with rfl | hk
  · exact hs.1
  · exact ho.lt k hk
theorem PW.keep (h : PW p l F w) (ht : Turned S w w') (hd : ∀ k ∈ F, k ∉ S) : PW p l F w' := by
  obtain ⟨v, hs, ho, rfl, hn⟩ := h
  exact ⟨v, hs.keep ht (hd p (List.mem_cons_self ..)), ho.keep ht fun k hk => hd k (List.mem_cons_of_mem _ hk), rfl, hn⟩
theorem PW.new (w : World) (t : TypeId) : PW w.heap.size [] [w.heap.size] (w.alloc (.cells #[.slice none 0 0, .int .i64 0] t)) :=
  ⟨_, Struct.new w [_, _] t, OwnL.nil _ _ _ _, rfl, by simp [blk, Value.ownBlock]⟩
/-- its bytes and its count are others now -/
theorem PW.store {v v' : Value} {n : Value} {l' : List Bool} (hs : Struct p [v, n] w) (ho' : OwnL 5 1 byEnc v' (Bt.pack l') w') (hs' : Struct p [v', .int .i64 (l'.length : Int)] w') (ht : Turned (p :: blk v) w w') (hn : p ∉ blk v) (hb : blk v' = blk v ∨ ∃ g, blk v' = [g] ∧ w.heap.size ≤ g) :
    ∃ F', PW p l' F' w' ∧ Moved (p :: blk v) F' w w' := by
  have hn' : p ∉ blk v' := by
    rcases hb with h | ⟨g, h, hg⟩
    · rw [h]; exact hn
    · rw [h]; have := hs.1; simp; omega
  refine ⟨p :: blk v', ⟨v', hs', ho', rfl, hn'⟩, ht, ?_⟩
  intro k hk
  rcases List.mem_cons.1 hk with rfl | hk
  · exact .inl (List.mem_cons_self ..)
  · rcases hb with h | ⟨g, h, hg⟩
    · rw [h] at hk; exact .inl (List.mem_cons_of_mem _ hk)
    · rw [h] at hk; simp at hk; subst hk; exact .inr hg
end

/-- block p is a reader of the bytes bs, of which the slice v tells -/
def PRd (p : Nat) (v : Value) (bs : List Nat) (r : Bt.Rd) (w : World) : Prop :=
  Struct p [v, .int .i64 (r.at_ : Int), .bool r.fail] w ∧ (∃ oa cap, v = .slice oa bs.length cap ∧ RowOf 1 byEnc oa bs w ∧ ∀ a, oa = some a → a.block ≠ p ∧ a.block < w.heap.size) ∧ r.l = Bt.unpack bs ∧ r.wf ∧ (∀ b ∈ bs, b < 256) ∧ bs.length ≤ 4294967296
/-- block p is the reference's reader, whose bits the slice v tells -/
def RRd (p : Nat) (v : Value) (r : Bt.Rd) (w : World) : Prop :=
  Struct p [v, .int .i64 (r.at_ : Int), .bool r.fail] w ∧ (∃ oa cap, v = .slice oa r.l.length cap ∧ r.l.length ≤ cap ∧ RowOf 1 bEnc oa r.l w ∧ ∀ a, oa = some a → a.block ≠ p ∧ a.block < w.heap.size) ∧ r.wf ∧ r.l.length ≤ 4294967296 * 8
/-- the block of a slice that is only read -/
def rblk : Value → List Nat
  | .slice (some a) _ _ => [a.block]
  | _ => []
section
variable {p : Nat} {v : Value} {bs : List Nat} {r : Bt.Rd} {S : List Nat} {w w' : World}
theorem PRd.lt (h : PRd p v bs r w) : p < w.heap.size := h.1.1
theorem PRd.keep (h : PRd p v bs r w) (ht : Turned S w w') (hp : p ∉ S) (hv : ∀ k ∈ rblk v, k ∉ S) : PRd p v bs r w' := by
  obtain ⟨hs, ⟨oa, cap, rfl, hr, hd⟩, h2⟩ := h
  exact ⟨hs.keep ht hp, ⟨oa, cap, rfl, hr.turned ht fun a ha => hv _ (by subst ha; simp [rblk]), fun a ha => ⟨(hd a ha).1, Nat.lt_of_lt_of_le (hd a ha).2 ht.size⟩⟩, h2⟩
theorem RRd.lt (h : RRd p v r w) : p < w.heap.size := h.1.1
theorem RRd.keep (h : RRd p v r w) (ht : Turned S w w') (hp : p ∉ S) (hv : ∀ k ∈ rblk v, k ∉ S) : RRd p v r w' := by
  obtain ⟨hs, ⟨oa, cap, rfl, hcap, hr, hd⟩, h2⟩ := h
  exact ⟨hs.keep ht hp, ⟨oa, cap, rfl, hcap, hr.turned ht fun a ha => hv _ (by subst ha; simp [rblk]), fun a ha => ⟨(hd a ha).1, Nat.lt_of_lt_of_le (hd a ha).2 ht.size⟩⟩, h2⟩
end
end Go.Proofs.Ytkjlbginggppaaa


/- What the program's writer of bits does, as a call (BtW). -/
namespace Go.Proofs.Ytkjlbginggppaaa
open Go.RowKit
set_option linter.unusedVariables false

namespace BtW
theorem end0 {p : Prop} (hp : p) : Ending.returned (.tuple #[]) = .returned (.tuple #[]) ∧ p := ⟨rfl, hp⟩

theorem int_ret {k : IntKind} {a b : Int} {p : Prop} (h : a = b) (hp : p) : Ending.returned (.int k a) = .returned (.int k b) ∧ p := by rw [h]; exact ⟨rfl, hp⟩
theorem or0 {z : Nat} (hz : z < 2) : bits .or .u8 0 (z : Int) = (z : Int) := by
  have : z = 0 ∨ z = 1 := by omega
  rcases this with rfl | rfl <;> rfl
theorem or_new {n x z : Nat} (hz : z < 2) (hx : x < 2 ^ (n % 8)) : bits .or .u8 (x : Int) ((z : Int) * 2 ^ (n % 8) % 256) = ((x + 2 ^ (n % 8) * z : Nat) : Int) := by
  have h7 : n % 8 ≤ 7 := by omega
  have hp : 2 ^ (n % 8) ≤ 2 ^ 7 := Nat.pow_le_pow_right (by omega) h7
  have e : ((z : Int) * 2 ^ (n % 8) % 256) = ((2 ^ (n % 8) * z : Nat) : Int) := by
    have : z = 0 ∨ z = 1 := by omega
    rcases this with rfl | rfl
    · simp
    · have h2 : ((2 ^ (n % 8) : Nat) : Int) = (2 : Int) ^ (n % 8) := by simp
      rw [Nat.mul_one, h2, show ((1 : Nat) : Int) = 1 from rfl, Int.one_mul, ← h2]
      omega
  have hz2 : 2 ^ (n % 8) * z < 256 := by
    have : z = 0 ∨ z = 1 := by omega
    rcases this with rfl | rfl
    · simp
    · omega
  rw [e, u8_or_nat x _ (by omega) hz2]
  congr 1
  rw [Nat.or_comm, ← Nat.two_pow_add_eq_or_of_lt hx, Nat.add_comm]

theorem not_neg (m : Nat) (h : m < 9223372036854775808) : bits .xor .i64 (-1) (-1 - (m : Int)) = (m : Int) := by
  show IntKind.i64.wrap ((BitVec.ofInt 64 (-1) ^^^ BitVec.ofInt 64 (-1 - (m : Int))).toNat : Int) = _
  have h1 : BitVec.ofInt 64 (-1) = BitVec.allOnes 64 := by decide
  rw [h1, BitVec.allOnes_xor, BitVec.toNat_not, BitVec.toNat_ofInt]
  have h2 : ((-1 - (m : Int)) % ((2 ^ 64 : Nat) : Int)).toNat = 18446744073709551615 - m := by omega
  rw [h2]
  simp [IntKind.wrap, IntKind.bits, IntKind.signed]
  omega
theorem or1 (m : Nat) (h : m < 9223372036854775808) : bits .or .u64 ((m : Int) * 2) 1 = (m : Int) * 2 + 1 := by
  have := u64_or_nat (2 * m) 1 (by omega) (by omega)
  rw [show (2 * m) ||| 1 = 2 * m + 1 by rw [Nat.or_comm, show 2 * m = 2 ^ 1 * m by omega, Nat.or_comm, ← Nat.two_pow_add_eq_or_of_lt (i := 1) (by omega)]] at this
  rw [show ((m : Int) * 2) = ((2 * m : Nat) : Int) by omega]
  refine Eq.trans this ?_
  omega

set_option maxHeartbeats 1000000 in
theorem putBit_new (p n z : Nat) (v : Value) (bs : List Nat) (hz : z < 2) (w : World) (hs : Struct p [v, .int .i64 (n : Int)] w) (ho : OwnL 5 1 byEnc v bs w) (hn : p ∉ blk v) (hl : bs.length ≤ 1099511627776) (hn8 : n = 8 * bs.length) :
    Calls Try.prog 48 #[.pointer (some ⟨p, 0, none⟩), .int .u8 (z : Int)] w fun e w' => e = .returned (.tuple #[]) ∧ ∃ v', Struct p [v', .int .i64 ((n + 1 : Nat) : Int)] w' ∧ OwnL 5 1 byEnc v' (bs ++ [z]) w' ∧ Turned (p :: blk v) w w' ∧ (blk v' = blk v ∨ ∃ g, blk v' = [g] ∧ w.heap.size ≤ g) := by
  have c0 := (hs.2 0 _ rfl).1
  have f0 := (hs.2 0 _ rfl).2
  have c1 := (hs.2 1 _ rfl).1
  have hp := hs.1
  have h8' : ((n : Int) % 8) = 0 := by omega
  have HQ : Hid (((n : Int) / 8) = (bs.length : Int)) := by show _ = _; omega
  clear hn8
  go_enter Try.func48, Try.ntmps48
  go_wp2_with (at_builtin; refine wp_push (v := v) elem_u8 rfl _ _ rfl rfl (ho.keep ((Turned.refl [] w).alloc _) (by simp)) w.heap.size 0 1 1 [0] rfl rfl byEnc_len byEnc_one (one_cell rfl w _) (by unfold maxLen; omega) (by omega) ?_; intro v' w1 ho1 ht1 hb1; obtain ⟨g, cap, rfl, hgp, c10, f10, hW⟩ := push_one byEnc_len hs hn ho1 ht1 hb1)
  obtain ⟨W2, hW2⟩ : ∃ W2, W2 = w1.setCell ⟨p, 0, none⟩ (.slice (some ⟨g, 0, none⟩) (bs.length + 1) cap) := ⟨_, rfl⟩
  rw [← hW2]
  obtain ⟨hs2, ho2, ht2, hbk, hg⟩ := hW W2 hW2
  clear hW2 hW ho1 ht1 hb1 c0 f0 c1 c10 f10
  have d0 := (hs2.2 0 _ rfl).1
  have d1 := (hs2.2 1 _ rfl).1
  have d2 := (hs2.2 1 _ rfl).2
  obtain ⟨g', cap', hv', _, hgl, hc⟩ := ho2.cell byEnc_len (i := bs.length) (a := 0) (by simp)
  simp at hv'
  obtain ⟨rfl, rfl⟩ := hv'
  have e0 := (hc 0 _ rfl).1
  have e1 := (hc 0 _ rfl).2
  rw [Nat.mul_one, Nat.add_zero] at e0 e1
  have hq := HQ.out
  have hlt : (bs.length : Int) < (bs.length : Int) + 1 := by omega
  have hlt2 : bs.length < bs.length + 1 := by omega
  go_region
  rw [or0 hz]
  have hi : bs.length < (bs ++ [0]).length := by simp
  have hgm : g ∈ p :: blk v ∨ w.heap.size ≤ g := by
    rcases hg with h | h
    · left; rw [h]; simp
    · exact .inr h
  go_wp2
  go_end0
  refine end0 ?_
  obtain ⟨r1, r2, r3⟩ := put_fin (f := fun n : Nat => .int .u8 (n : Int)) (a := z) (m := .int .i64 ((n + 1 : Nat) : Int)) (cap := cap) (by simp) hs2 ho2 hgp hi ht2 (List.mem_cons_self ..) hgm rfl
  have he : List.set (bs ++ [0]) bs.length z = bs ++ [z] := by simp
  rw [he] at r2
  refine ⟨_, r1, r2, r3, ?_⟩
  rw [hbk]
  rcases hg with h | h
  · left; rw [h]
  · right; exact ⟨g, rfl, h⟩

set_option maxHeartbeats 1000000 in
theorem putBit_more (p n z x : Nat) (v : Value) (bs : List Nat) (hz : z < 2) (w : World) (hs : Struct p [v, .int .i64 (n : Int)] w) (ho : OwnL 5 1 byEnc v bs w) (hn : p ∉ blk v) (hl : bs.length ≤ 1099511627776) (hn8 : n % 8 ≠ 0) (hnb : (n + 7) / 8 = bs.length) (hx : bs[n / 8]? = some x) (hxl : x < 2 ^ (n % 8)) :
    Calls Try.prog 48 #[.pointer (some ⟨p, 0, none⟩), .int .u8 (z : Int)] w fun e w' => e = .returned (.tuple #[]) ∧ Struct p [v, .int .i64 ((n + 1 : Nat) : Int)] w' ∧ OwnL 5 1 byEnc v (bs.set (n / 8) (x + 2 ^ (n % 8) * z)) w' ∧ Turned (p :: blk v) w w' := by
  obtain ⟨g, cap, rfl, hbk, hg, hc⟩ := ho.cell byEnc_len hx
  have hgp : g ≠ p := by rintro rfl; exact hn (by rw [hbk]; simp)
  have c0 := (hs.2 0 _ rfl).1
  have c1 := (hs.2 1 _ rfl).1
  have f1 := (hs.2 1 _ rfl).2
  have e0 := (hc 0 _ rfl).1
  have e1 := (hc 0 _ rfl).2
  rw [Nat.mul_one, Nat.add_zero] at e0 e1
  have h8' : ¬ ((n : Int) % 8) = 0 := by omega
  have hor := or_new (n := n) hz hxl
  have hi : n / 8 < bs.length := by omega
  have hi' : (n : Int) / 8 < (bs.length : Int) := by omega
  have hn1 : n ≤ 8796093022208 := by omega
  clear hc hx hn8 hnb
  go_enter Try.func48, Try.ntmps48
  go_wp2_with fail
  go_region
  have hcast : ((x : Int) + 2 ^ (n % 8) * (z : Int)) = ((x + 2 ^ (n % 8) * z : Nat) : Int) := by simp
  rw [hcast]
  obtain ⟨y, hy⟩ : ∃ y, y = x + 2 ^ (n % 8) * z := ⟨_, rfl⟩
  have HY : Hid (y = x + 2 ^ (n % 8) * z) := hy
  rw [← hy]
  clear hy hor hcast
  go_wp2
  go_end0
  refine end0 ?_
  rw [← HY.out]
  exact put_fin (f := fun n : Nat => .int .u8 (n : Int)) (a := y) (m := .int .i64 ((n + 1 : Nat) : Int)) rfl hs ho hgp hi (Turned.refl _ w) (List.mem_cons_self ..) (.inl (by rw [hbk]; simp)) rfl

theorem putBit_any (p : Nat) (l : List Bool) (F : List Nat) (z : Nat) (zi : Int) (hzi : zi = (z : Int)) (hz : z < 2) (w : World) (h : PW p l F w) (hl : l.length ≤ 1099511627776) :
    Calls Try.prog 48 #[.pointer (some ⟨p, 0, none⟩), .int .u8 zi] w fun e w' => e = .returned (.tuple #[]) ∧ ∃ F', PW p (l ++ [z == 1]) F' w' ∧ Moved F F' w w' := by
  subst hzi
  obtain ⟨v, hs, ho, rfl, hn⟩ := h
  have hpl := Bt.pack_length l
  have hz1 : (z == 1).toNat = z := by
    have : z = 0 ∨ z = 1 := by omega
    rcases this with rfl | rfl <;> rfl
  by_cases h8 : l.length % 8 = 0
  · refine (putBit_new p l.length z v _ hz w hs ho hn (by omega) (by omega)).mono ?_
    rintro e w' ⟨rfl, v', r1, r2, r3, r4⟩
    refine ⟨rfl, ?_⟩
    have e := Bt.pack_new (z == 1) h8
    rw [hz1] at e
    refine PW.store hs (l' := l ++ [z == 1]) (by rw [e]; exact r2) (by rw [List.length_append]; exact r1) r3 hn r4
  · have hi : l.length / 8 < (Bt.pack l).length := by omega
    have hx : (Bt.pack l)[l.length / 8]? = some (Bt.byteAt l (l.length / 8)) := by
      rw [List.getElem?_eq_getElem hi]; simp [Bt.pack]
    refine (putBit_more p l.length z _ v _ hz w hs ho hn (by omega) h8 (by omega) hx Bt.byteAt_last).mono ?_
    rintro e w' ⟨rfl, r1, r2, r3⟩
    refine ⟨rfl, ?_⟩
    have e := Bt.pack_more (z == 1) h8
    rw [hz1] at e
    refine PW.store hs (l' := l ++ [z == 1]) (by rw [e]; exact r2) (by rw [List.length_append]; exact r1) r3 hn (.inl rfl)

theorem and1 (y : Nat) (h : y < 18446744073709551616) : bits .and .u64 (y : Int) 1 = ((y % 2 : Nat) : Int) := by
  have := u64_and_nat y 1 h (by omega)
  rw [Nat.and_one_is_mod] at this
  exact this

set_option maxHeartbeats 1000000 in
theorem put_in (p : Nat) (l : List Bool) (F : List Nat) (x n : Nat) (hx : x < 18446744073709551616) (hn : n ≤ 64) (w : World) (h : PW p l F w) (hl : l.length ≤ 549755813888) :
    Calls Try.prog 34 #[.pointer (some ⟨p, 0, none⟩), .int .u64 (x : Int), .int .i64 (n : Int)] w fun e w' => e = .returned (.tuple #[]) ∧ ∃ F', PW p (l ++ Bt.bits x n) F' w' ∧ Moved F F' w w' := by
  go_enter Try.func34, Try.ntmps34
  go_wp2_with fail
  go_loopw [1, 17] (fun xv i wr => ∃ k y F', k ≤ n ∧ i = .int .i64 ((k : Nat) : Int) ∧ xv = .int .u64 ((y : Nat) : Int) ∧ y = x / 2 ^ k ∧ PW p (l ++ Bt.bits x k) F' wr ∧ Moved F F' w wr) (fun _ i _ => n - (intOf i).toNat)
  case atStart => exact ⟨0, x, F, by omega, rfl, rfl, by simp, by simpa [Bt.bits] using h, Moved.refl _ _⟩
  case round =>
    obtain ⟨k, y, F1, hk, rfl, rfl, hy, hpw, hmv⟩ := hrel
    have hyl : y < 18446744073709551616 := by rw [hy]; exact Nat.lt_of_le_of_lt (Nat.div_le_self _ _) hx
    have HY : Hid (y = x / 2 ^ k) := hy
    clear hy
    by_cases hlt : k < n
    · have h1 := and1 y hyl
      have hll : (l ++ Bt.bits x k).length = l.length + k := by rw [List.length_append, Bt.bits_length]
      go_wp2_with (go_at_call 48; refine (putBit_any p _ F1 (y % 2) _ (by omega) (by omega) wr hpw (by omega)).mono ?_; rintro e w2 ⟨rfl, F2, hpw2, hmv2⟩)
      go_roundw
      case rel => 
        refine ⟨k + 1, y / 2, F2, by omega, by go_num, by go_num, by rw [HY.out, Nat.div_div_eq_div_mul, Nat.pow_succ], ?_, hmv.trans hmv2⟩
        rw [Bt.bits_snoc, ← List.append_assoc, ← HY.out]
        exact hpw2
      case measure => simp [intOf]; omega
    · have : k = n := by omega
      subst this
      go_wp2_with fail
      go_end0
      exact end0 ⟨F1, hpw, hmv⟩

/-- what Put puts -/
def puts (x : Nat) (n : Int) : List Bool := if 0 ≤ n ∧ n ≤ 64 then Bt.bits x n.toNat else []

set_option maxHeartbeats 1000000 in
theorem put_any (p : Nat) (l : List Bool) (F : List Nat) (x n : Int) (hx0 : 0 ≤ x) (hx : x < 18446744073709551616) (w : World) (h : PW p l F w) (hl : l.length ≤ 549755813888) :
    Calls Try.prog 34 #[.pointer (some ⟨p, 0, none⟩), .int .u64 x, .int .i64 n] w fun e w' => e = .returned (.tuple #[]) ∧ ∃ F', PW p (l ++ puts x.toNat n) F' w' ∧ Moved F F' w w' := by
  by_cases hn : 0 ≤ n ∧ n ≤ 64
  · have := put_in p l F x.toNat n.toNat (by omega) (by omega) w h hl
    rw [Int.toNat_of_nonneg hx0, Int.toNat_of_nonneg hn.1] at this
    unfold puts
    rw [if_pos hn]
    exact this
  · unfold puts
    rw [if_neg hn, List.append_nil]
    by_cases h0 : n < 0
    · go_enter Try.func34, Try.ntmps34
      go_wp2
      (try simp only [Exit.inBlock, Exit.then]); refine bodyPost_ret (results_none rfl _ _ _) rfl ?_
      exact end0 ⟨F, h, Moved.refl _ _⟩
    · have h64 : 64 < n := by omega
      go_enter Try.func34, Try.ntmps34
      go_wp2
      (try simp only [Exit.inBlock, Exit.then]); refine bodyPost_ret (results_none rfl _ _ _) rfl ?_
      exact end0 ⟨F, h, Moved.refl _ _⟩

set_option maxHeartbeats 400000 in
theorem put_nil (x n : Int) (w : World) :
    Calls Try.prog 34 #[.pointer none, .int .u64 x, .int .i64 n] w fun e w' => e = .returned (.tuple #[]) ∧ w' = w := by
  go_enter Try.func34, Try.ntmps34
  go_wp2
  (try simp only [Exit.inBlock, Exit.then]); refine bodyPost_ret (results_none rfl _ _ _) rfl ?_
  exact ⟨rfl, rfl⟩

end BtW
end Go.Proofs.Ytkjlbginggppaaa


/- What the program's writer of bits does, as a call: small numbers, and its bytes (BtW). -/
namespace Go.Proofs.Ytkjlbginggppaaa
open Go.RowKit
set_option linter.unusedVariables false

namespace BtW
theorem puts_one : puts (1 : Int).toNat 1 = [true] := by decide
theorem puts_zero : puts (0 : Int).toNat 1 = [false] := by decide
theorem puts_seven (u : Nat) : puts (u : Int).toNat 7 = Bt.bits u 7 := by unfold puts; rw [if_pos (by omega)]; simp
theorem sm_step {u : Nat} (h : 127 < u) (l : List Bool) : l ++ Bt.sm u = ((l ++ [true]) ++ Bt.bits u 7) ++ Bt.sm (u / 128) := by
  rw [Bt.sm_more h, show u % 128 = u % 2 ^ 7 from rfl, Bt.bits_mod 7 7 u (by omega)]
  simp
theorem sm_end {u : Nat} (h : ¬ 127 < u) (l : List Bool) : l ++ Bt.sm u = (l ++ [false]) ++ Bt.bits u 7 := by
  rw [Bt.sm_last h]
  simp
theorem sm_room {l l' : List Bool} {u v : Nat} (hv : v < 18446744073709551616) (h : l ++ Bt.sm v = l' ++ Bt.sm u) : l'.length ≤ l.length + 80 := by
  have := congrArg List.length h
  rw [List.length_append, List.length_append, Bt.sm_length, Bt.sm_length] at this
  have := Bt.eights_ten hv
  omega

set_option maxHeartbeats 1000000 in
theorem clone_any (oa : Option Addr) (n cap : Nat) (bs : List Nat) (w : World) (hn : bs.length = n) (hr : RowOf 1 byEnc oa bs w) (hl : n ≤ 1099511627776) :
    Calls Try.prog 49 #[.slice oa n cap] w fun e w' => ∃ v', e = .returned v' ∧ OwnL 5 1 byEnc v' bs w' ∧ Turned [] w w' ∧ ∀ k ∈ blk v', w.heap.size ≤ k := by
  have hnil : ∀ (u : World) (a : Option Addr) (l c : Nat), (binOp .eql 25 (.slice a l c) (.slice none 0 0)).run Try.prog u = .ok (.bool a.isNone) u := fun u a l c => Lib.run_eql_slice_nil (P := Try.prog) u 25 5 a l c 0 0 (by kernel_rfl)
  cases oa with
  | none =>
    have hb : bs = [] := by
      cases bs with
      | nil => rfl
      | cons a r => obtain ⟨b, off, ho, _⟩ := hr 0 a rfl; cases ho
    subst hb
    go_enter Try.func49, Try.ntmps49
    go_wp2
    go_ret
    exact ⟨_, rfl, OwnL.nil _ _ _ _, Turned.refl _ _, by simp [blk, Value.ownBlock]⟩
  | some a =>
    go_enter Try.func49, Try.ntmps49
    have h0 : OwnL 5 1 byEnc (.slice (some ⟨w.heap.size, 0, none⟩) 0 0) ([] : List Nat) (w.alloc (.cells #[] 5)) := World.ownsRow_made (e := 5) (size := 1) w #[] 0 (Nat.zero_le _) (Nat.zero_le _) rfl
    go_wp2_with (at_builtin; refine wp_pushAll (v := .slice (some ⟨w.heap.size, 0, none⟩) 0 0) elem_u8 rfl (.tmp 5) (.tmp 6) rfl rfl h0 (some a) n cap bs hn rfl (hr.turned ((Turned.refl [] w).alloc _) (by simp)) byEnc_len byEnc_one (by unfold maxLen; simp; omega) (by simp; omega) ?_; intro v' w1 ho1 ht1 hb1)
    go_ret
    refine ⟨_, rfl, ?_, ?_, ?_⟩
    · simpa using ho1
    · refine ((Turned.refl [] w).alloc _).trans ht1 ?_
      intro k hk hl
      simp [blk, Value.ownBlock] at hk
      omega
    · intro k hk
      have hk' : k ∈ blk v' := hk
      rcases hb1 with h | h
      · rw [h] at hk'; simp [blk, Value.ownBlock] at hk'; omega
      · rw [h] at hk'; simp at hk'; omega
set_option maxHeartbeats 1000000 in
theorem bytes_any (p : Nat) (l : List Bool) (F : List Nat) (w : World) (h : PW p l F w) (hl : l.length ≤ 549755813888) :
    Calls Try.prog 35 #[.pointer (some ⟨p, 0, none⟩)] w fun e w' => ∃ v', e = .returned v' ∧ OwnL 5 1 byEnc v' (Bt.pack l) w' ∧ Turned [] w w' ∧ ∀ k ∈ blk v', w.heap.size ≤ k := by
  obtain ⟨v, hs, ho, rfl, hn⟩ := h
  have c0 := (hs.2 0 _ rfl).1
  obtain ⟨oa, cap, rfl, _, _, hr, _⟩ := ho.rowOf byEnc_len
  have hpl := Bt.pack_length l
  have kc := clone_any oa (Bt.pack l).length cap (Bt.pack l) w rfl hr (by omega)
  clear hpl
  go_enter Try.func35, Try.ntmps35
  go_wp2_with (go_at_call 49; with_reducible refine kc.mono ?_; rintro e w1 ⟨v', rfl, ho1, ht1, hb1⟩)
  go_ret
  exact ⟨v', rfl, ho1, ht1, hb1⟩
theorem bytes_nil (w : World) :
    Calls Try.prog 35 #[.pointer none] w fun e w' => e = .returned (.slice none 0 0) ∧ w' = w := by
  go_enter Try.func35, Try.ntmps35
  go_wp2
  go_ret
  exact ⟨rfl, rfl⟩

end BtW
end Go.Proofs.Ytkjlbginggppaaa


/- What the reference's writer of bits does, as a call (BtR). -/
namespace Go.Proofs.Ytkjlbginggppaaa
open Go.RowKit
set_option linter.unusedVariables false

namespace BtR
open BtW (end0 puts puts_one puts_zero puts_seven sm_step sm_end sm_room)
theorem puts_128 (u : Nat) : puts ((u : Int) % 128).toNat 7 = Bt.bits u 7 := by
  unfold puts
  rw [if_pos (by omega), show ((u : Int) % 128).toNat = u % 2 ^ 7 by omega]
  exact Bt.bits_mod 7 7 u (by omega)
/-- the reference's bits, where they lie -/
abbrev RB (p : Nat) (l : List Bool) (F : List Nat) (w : World) : Prop := RBits 4 p l F w
theorem stored {p : Nat} {v : Value} {l' : List Bool} {w W2 : World} {g n cap : Nat} (hs2 : Struct p [.slice (some ⟨g, 0, none⟩) n cap] W2) (ho2 : OwnL 4 1 bEnc (.slice (some ⟨g, 0, none⟩) n cap) l' W2) (ht2 : Turned (p :: blk v) w W2) (hgp : g ≠ p) (hg : blk v = [g] ∨ w.heap.size ≤ g) :
    ∃ F', RB p l' F' W2 ∧ Moved (p :: blk v) F' w W2 := by
  refine ⟨_, ⟨_, hs2, ho2, rfl, by simp [blk, Value.ownBlock]; omega⟩, ht2, ?_⟩
  intro k hk
  simp [blk, Value.ownBlock] at hk
  rcases hk with rfl | rfl
  · exact .inl (List.mem_cons_self ..)
  · rcases hg with h | h
    · left; rw [h]; simp
    · exact .inr h

set_option maxHeartbeats 1000000 in
theorem put_in (p : Nat) (l : List Bool) (F : List Nat) (x n : Nat) (hx : x < 18446744073709551616) (hn : n ≤ 64) (w : World) (h : RB p l F w) (hl : l.length ≤ 549755813888) :
    Calls Try.prog 21 #[.pointer (some ⟨p, 0, none⟩), .int .u64 (x : Int), .int .i64 (n : Int)] w fun e w' => e = .returned (.tuple #[]) ∧ ∃ F', RB p (l ++ Bt.bits x n) F' w' ∧ Moved F F' w w' := by
  go_enter Try.func21, Try.ntmps21
  go_wp2_with fail
  go_loopw [1, 6] (fun xv i wr => ∃ k y F', k ≤ n ∧ i = .int .i64 ((k : Nat) : Int) ∧ xv = .int .u64 ((y : Nat) : Int) ∧ y = x / 2 ^ k ∧ RB p (l ++ Bt.bits x k) F' wr ∧ Moved F F' w wr) (fun _ i _ => n - (intOf i).toNat)
  case atStart => exact ⟨0, x, F, by omega, rfl, rfl, by simp, by simpa [Bt.bits] using h, Moved.refl _ _⟩
  case round =>
    obtain ⟨k, y, F1, hk, rfl, rfl, hy, hpw, hmv⟩ := hrel
    have hyl : y < 18446744073709551616 := by rw [hy]; exact Nat.lt_of_le_of_lt (Nat.div_le_self _ _) hx
    have HY : Hid (y = x / 2 ^ k) := hy
    clear hy h
    by_cases hlt : (k : Int) < (n : Int)
    · have hll : (l ++ Bt.bits x k).length = l.length + k := by rw [List.length_append, Bt.bits_length]
      have HL : Hid ((l ++ Bt.bits x k).length = l.length + k) := hll
      obtain ⟨v, hs, ho, rfl, hp⟩ := hpw
      have c0 := (hs.2 0 _ rfl).1
      have hn' : (n : Int) ≤ 64 := by omega
      have b1 : (l ++ Bt.bits x k).length + 1 ≤ maxLen := by unfold maxLen; omega
      have b2 : ((l ++ Bt.bits x k).length + 1) * 1 ≤ 140737488355328 := by omega
      obtain ⟨l1, hl1⟩ : ∃ l1, l1 = l ++ Bt.bits x k := ⟨_, rfl⟩
      rw [← hl1] at b1 b2 ho
      have HL1 : Hid (l1 = l ++ Bt.bits x k) := hl1
      clear hll hl1
      go_wp2_with (at_builtin; refine wp_push (v := v) elem_bool rfl _ _ rfl rfl (ho.keep ((Turned.refl [] wr).alloc _) (by simp)) wr.heap.size 0 1 1 [((y : Int) % 2 == 1)] rfl rfl bEnc_len bEnc_one (one_cell rfl wr _) b1 b2 ?_; intro v' w1 ho1 ht1 hb1; obtain ⟨g, cap, rfl, hgp, c10, f10, hW⟩ := push_one bEnc_len hs hp ho1 ht1 hb1)
      obtain ⟨W2, hW2⟩ : ∃ W2, W2 = w1.setCell ⟨p, 0, none⟩ (.slice (some ⟨g, 0, none⟩) (l1.length + 1) cap) := ⟨_, rfl⟩
      rw [← hW2]
      obtain ⟨hs2, ho2, ht2, hbk, hg⟩ := hW W2 hW2
      clear hW2 hW ho1 ht1 hb1 c10 f10 c0
      obtain ⟨F2, hrb, hmv2⟩ := stored hs2 ho2 ht2 hgp hg
      go_roundw
      case rel =>
        refine ⟨k + 1, y / 2, F2, by omega, by go_num, by go_num, by rw [HY.out, Nat.div_div_eq_div_mul, Nat.pow_succ], ?_, hmv.trans hmv2⟩
        rw [Bt.bits_snoc, ← List.append_assoc, ← HY.out, ← HL1.out]
        rw [show (y % 2 == 1) = ((y : Int) % 2 == 1) by rw [Bool.eq_iff_iff]; simp; omega]
        exact hrb
      case measure => simp [intOf]; omega
    · have : k = n := by omega
      subst this
      go_wp2_with fail
      go_end0
      exact end0 ⟨F1, hpw, hmv⟩

set_option maxHeartbeats 1000000 in
theorem put_any (p : Nat) (l : List Bool) (F : List Nat) (x n : Int) (hx0 : 0 ≤ x) (hx : x < 18446744073709551616) (w : World) (h : RB p l F w) (hl : l.length ≤ 549755813888) :
    Calls Try.prog 21 #[.pointer (some ⟨p, 0, none⟩), .int .u64 x, .int .i64 n] w fun e w' => e = .returned (.tuple #[]) ∧ ∃ F', RB p (l ++ puts x.toNat n) F' w' ∧ Moved F F' w w' := by
  by_cases hn : 0 ≤ n ∧ n ≤ 64
  · have := put_in p l F x.toNat n.toNat (by omega) (by omega) w h hl
    rw [Int.toNat_of_nonneg hx0, Int.toNat_of_nonneg hn.1] at this
    unfold puts
    rw [if_pos hn]
    exact this
  · unfold puts
    rw [if_neg hn, List.append_nil]
    go_enter Try.func21, Try.ntmps21
    go_wp2_with fail
    go_loopw [1, 6] (fun xv i wr => i = .int .i64 0 ∧ wr = w) (fun _ _ _ => 0)
    case atStart => exact ⟨rfl, rfl⟩
    case round =>
      obtain ⟨rfl, rfl⟩ := hrel
      by_cases h0 : n < 0
      · have h1 : ¬ (0 < n) := by omega
        go_wp2_with fail
        go_end0
        exact end0 ⟨F, h, Moved.refl _ _⟩
      · have h64 : 64 < n := by omega
        have h1 : 0 < n := by omega
        go_wp2_with fail
        go_end0
        exact end0 ⟨F, h, Moved.refl _ _⟩

end BtR
end Go.Proofs.Ytkjlbginggppaaa

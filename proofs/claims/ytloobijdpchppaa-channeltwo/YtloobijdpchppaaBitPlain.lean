/- Bits as lists of bools: numbers of n bits, small numbers, bytes; plain functions, and their laws. -/
import Derived.Laws.BitsAllLaws
namespace Go.Proofs.Ytloobijdpchppaa.Bt
set_option linter.unusedVariables false

/-- the lowest n bits of x, the lowest one first -/
def bits : Nat → Nat → List Bool
  | _, 0 => []
  | x, n + 1 => (x % 2 == 1) :: bits (x / 2) n
/-- what bits tell, the lowest one first -/
def val : List Bool → Nat
  | [] => 0
  | b :: l => b.toNat + 2 * val l
theorem bits_length : ∀ (n x : Nat), (bits x n).length = n
  | 0, _ => rfl
  | n + 1, x => by show (bits (x / 2) n).length + 1 = n + 1; rw [bits_length n]
theorem val_lt : ∀ l : List Bool, val l < 2 ^ l.length
  | [] => by decide
  | b :: l => by
    have := val_lt l
    have hb : b.toNat < 2 := by cases b <;> decide
    show b.toNat + 2 * val l < 2 ^ (l.length + 1)
    rw [Nat.pow_succ]; omega
theorem val_bits : ∀ (n x : Nat), val (bits x n) = x % 2 ^ n
  | 0, x => by show 0 = x % 1; omega
  | n + 1, x => by
    show (x % 2 == 1).toNat + 2 * val (bits (x / 2) n) = _
    rw [val_bits n, Nat.pow_succ, Nat.mul_comm (2 ^ n) 2, Nat.mod_mul]
    have : x % 2 < 2 := Nat.mod_lt _ (by omega)
    by_cases h : x % 2 = 1
    · simp [h]
    · have h0 : x % 2 = 0 := by omega
      simp [h0]
theorem bits_val : ∀ l : List Bool, bits (val l) l.length = l
  | [] => rfl
  | b :: l => by
    have hb : b.toNat < 2 := by cases b <;> decide
    show ((b.toNat + 2 * val l) % 2 == 1) :: bits ((b.toNat + 2 * val l) / 2) l.length = b :: l
    rw [show (b.toNat + 2 * val l) / 2 = val l by omega, bits_val l, show (b.toNat + 2 * val l) % 2 = b.toNat by omega]
    cases b <;> rfl
theorem bits_mod : ∀ (n m x : Nat), n ≤ m → bits (x % 2 ^ m) n = bits x n
  | 0, _, _, _ => rfl
  | n + 1, 0, _, h => by omega
  | n + 1, m + 1, x, h => by
    show ((x % 2 ^ (m + 1)) % 2 == 1) :: bits (x % 2 ^ (m + 1) / 2) n = (x % 2 == 1) :: bits (x / 2) n
    have e1 : x % 2 ^ (m + 1) % 2 = x % 2 := by rw [Nat.pow_succ, Nat.mul_comm]; exact Nat.mod_mul_right_mod _ _ _
    have e2 : x % 2 ^ (m + 1) / 2 = x / 2 % 2 ^ m := by rw [Nat.pow_succ, Nat.mul_comm, Nat.mod_mul_right_div_self]
    rw [e1, e2, bits_mod n m _ (by omega)]
theorem bits_add : ∀ (n m x : Nat), bits x (n + m) = bits x n ++ bits (x / 2 ^ n) m
  | 0, m, x => by rw [Nat.zero_add, Nat.pow_zero, Nat.div_one]; rfl
  | n + 1, m, x => by
    rw [Nat.add_right_comm]
    show (x % 2 == 1) :: bits (x / 2) (n + m) = ((x % 2 == 1) :: bits (x / 2) n) ++ bits (x / 2 ^ (n + 1)) m
    rw [bits_add n m, Nat.div_div_eq_div_mul, Nat.pow_succ, Nat.mul_comm 2]
    rfl
theorem bits_snoc (n x : Nat) : bits x (n + 1) = bits x n ++ [x / 2 ^ n % 2 == 1] := by rw [bits_add n 1]; rfl
theorem bits_inj {n x y : Nat} (hx : x < 2 ^ n) (hy : y < 2 ^ n) (h : bits x n = bits y n) : x = y := by
  have := congrArg val h
  rwa [val_bits, val_bits, Nat.mod_eq_of_lt hx, Nat.mod_eq_of_lt hy] at this
theorem bits_zero : ∀ n, bits 0 n = List.replicate n false
  | 0 => rfl
  | n + 1 => by show (0 % 2 == 1) :: bits (0 / 2) n = _; rw [Nat.zero_div, bits_zero n]; rfl
theorem val_append : ∀ l r : List Bool, val (l ++ r) = val l + 2 ^ l.length * val r
  | [], r => by show val r = 0 + 2 ^ 0 * val r; omega
  | b :: l, r => by
    show b.toNat + 2 * val (l ++ r) = (b.toNat + 2 * val l) + 2 ^ (l.length + 1) * val r
    rw [val_append l r, Nat.pow_succ, Nat.mul_comm (2 ^ l.length) 2, Nat.mul_assoc]; omega
theorem val_snoc (l : List Bool) (b : Bool) : val (l ++ [b]) = val l + 2 ^ l.length * b.toNat := by
  rw [val_append]; show _ + _ * (b.toNat + 2 * 0) = _; rw [Nat.mul_zero, Nat.add_zero]
theorem val_zeros (n : Nat) : val (List.replicate n false) = 0 := by rw [← bits_zero, val_bits]; exact Nat.zero_mod _
theorem val_eq_zero : ∀ {l : List Bool}, val l = 0 → l = List.replicate l.length false
  | [], _ => rfl
  | b :: l, h => by
    have hb : b.toNat + 2 * val l = 0 := h
    have h0 : val l = 0 := by omega
    have : b = false := by cases b; rfl; simp at hb
    subst this
    show false :: l = false :: List.replicate l.length false
    rw [← val_eq_zero h0]
theorem val_inj {l r : List Bool} (hl : l.length = r.length) (h : val l = val r) : l = r := by
  have := bits_val l
  rw [h, hl, bits_val] at this
  exact this.symm

/-- a number with its sign, as one without -/
def zig (x : Int) : Nat := if x < 0 then (-(x + 1)).toNat * 2 + 1 else x.toNat * 2
def zag (u : Nat) : Int := if u % 2 = 1 then -((u / 2 : Nat) : Int) - 1 else ((u / 2 : Nat) : Int)
theorem zag_zig (x : Int) : zag (zig x) = x := by
  unfold zig zag
  by_cases h : x < 0
  · rw [if_pos h, if_pos (by omega)]; omega
  · rw [if_neg h, if_neg (by omega)]; omega
theorem zig_zag (u : Nat) : zig (zag u) = u := by
  unfold zig zag
  by_cases h : u % 2 = 1
  · rw [if_pos h, if_pos (by omega)]; omega
  · rw [if_neg h, if_neg (by omega)]; omega
theorem zig_lt {x : Int} (h1 : -9223372036854775808 ≤ x) (h2 : x < 9223372036854775808) : zig x < 18446744073709551616 := by
  unfold zig; split <;> omega
theorem zag_lo {u : Nat} (h : u < 18446744073709551616) : -9223372036854775808 ≤ zag u := by unfold zag; split <;> omega
theorem zag_hi {u : Nat} (h : u < 18446744073709551616) : zag u < 9223372036854775808 := by unfold zag; split <;> omega
theorem zig_inj {x y : Int} (h : zig x = zig y) : x = y := by rw [← zag_zig x, h, zag_zig]

/-- a small number's bits, k steps at most -/
def smF : Nat → Nat → List Bool
  | 0, u => false :: bits u 7
  | k + 1, u => if 127 < u then (true :: bits (u % 128) 7) ++ smF k (u / 128) else false :: bits u 7
theorem smF_succ (k u : Nat) : smF (k + 1) u = if 127 < u then (true :: bits (u % 128) 7) ++ smF k (u / 128) else false :: bits u 7 := rfl
theorem smF_eq : ∀ {k j u : Nat}, u ≤ k → u ≤ j → smF k u = smF j u
  | 0, 0, _, _, _ => rfl
  | 0, j + 1, u, h, _ => by rw [smF_succ, if_neg (by omega)]; rfl
  | k + 1, 0, u, _, h => by rw [smF_succ, if_neg (by omega)]; rfl
  | k + 1, j + 1, u, h, h' => by
    rw [smF_succ, smF_succ]
    by_cases hu : 127 < u
    · rw [if_pos hu, if_pos hu, smF_eq (k := k) (j := j) (by omega) (by omega)]
    · rw [if_neg hu, if_neg hu]
/-- a small number's bits -/
def sm (u : Nat) : List Bool := smF u u
theorem sm_more {u : Nat} (h : 127 < u) : sm u = (true :: bits (u % 128) 7) ++ sm (u / 128) := by
  unfold sm
  obtain ⟨v, rfl⟩ : ∃ v, u = v + 1 := ⟨u - 1, by omega⟩
  rw [smF_succ, if_pos h, smF_eq (k := v) (j := (v + 1) / 128) (by omega) (Nat.le_refl _)]
theorem sm_last {u : Nat} (h : ¬ 127 < u) : sm u = false :: bits u 7 := by
  unfold sm
  cases u with
  | zero => rfl
  | succ v => rw [smF_succ, if_neg h]
/-- how many times eight bits, k steps at most -/
def eightsF : Nat → Nat → Nat
  | 0, _ => 1
  | k + 1, u => if 127 < u then eightsF k (u / 128) + 1 else 1
theorem eightsF_succ (k u : Nat) : eightsF (k + 1) u = if 127 < u then eightsF k (u / 128) + 1 else 1 := rfl
theorem eightsF_eq : ∀ {k j u : Nat}, u ≤ k → u ≤ j → eightsF k u = eightsF j u
  | 0, 0, _, _, _ => rfl
  | 0, j + 1, u, h, _ => by rw [eightsF_succ, if_neg (by omega)]; rfl
  | k + 1, 0, u, _, h => by rw [eightsF_succ, if_neg (by omega)]; rfl
  | k + 1, j + 1, u, h, h' => by
    rw [eightsF_succ, eightsF_succ]
    by_cases hu : 127 < u
    · rw [if_pos hu, if_pos hu, eightsF_eq (k := k) (j := j) (by omega) (by omega)]
    · rw [if_neg hu, if_neg hu]
/-- how many times eight bits -/
def eights (u : Nat) : Nat := eightsF u u
theorem eights_more {u : Nat} (h : 127 < u) : eights u = eights (u / 128) + 1 := by
  unfold eights
  obtain ⟨v, rfl⟩ : ∃ v, u = v + 1 := ⟨u - 1, by omega⟩
  rw [eightsF_succ, if_pos h, eightsF_eq (k := v) (j := (v + 1) / 128) (by omega) (Nat.le_refl _)]
theorem eights_last {u : Nat} (h : ¬ 127 < u) : eights u = 1 := by
  unfold eights
  cases u with
  | zero => rfl
  | succ v => rw [eightsF_succ, if_neg h]
theorem eights_pos (u : Nat) : 1 ≤ eights u := by
  by_cases h : 127 < u
  · rw [eights_more h]; omega
  · rw [eights_last h]; omega
theorem sm_length (u : Nat) : (sm u).length = 8 * eights u := by
  induction u using Nat.strongRecOn with
  | ind u ih =>
    by_cases h : 127 < u
    · rw [sm_more h, eights_more h, List.length_append, ih (u / 128) (by omega)]
      simp [bits_length]; omega
    · rw [sm_last h, eights_last h]; simp [bits_length]
/-- in n times eight bits goes what is below 128 to the n -/
theorem eights_le : ∀ {n u : Nat}, 1 ≤ n → (eights u ≤ n ↔ u < 128 ^ n)
  | 0, _, h => by omega
  | 1, u, _ => by
    by_cases h : 127 < u
    · rw [eights_more h]
      have := eights_pos (u / 128)
      omega
    · rw [eights_last h]; omega
  | n + 2, u, _ => by
    have hp : 128 ^ (n + 2) = 128 ^ (n + 1) * 128 := Nat.pow_succ ..
    have h1 : 1 ≤ 128 ^ (n + 1) := Nat.pos_of_ne_zero (by simp)
    by_cases h : 127 < u
    · rw [eights_more h, Nat.add_le_add_iff_right, eights_le (n := n + 1) (by omega), hp]
      rw [Nat.div_lt_iff_lt_mul (by omega)]
    · rw [eights_last h, hp]; omega
theorem eights_ten {u : Nat} (h : u < 18446744073709551616) : eights u ≤ 10 := by
  rw [eights_le (by omega)]
  exact Nat.lt_of_lt_of_le h (by decide)
theorem eights_mono {u v : Nat} (h : u ≤ v) : eights u ≤ eights v := by
  have hv := (eights_le (u := v) (eights_pos v)).1 (Nat.le_refl _)
  exact (eights_le (eights_pos v)).2 (Nat.lt_of_le_of_lt h hv)
/-- small numbers begin none other -/
theorem sm_prefix {u v : Nat} {r s : List Bool} (h : sm u ++ r = sm v ++ s) : u = v ∧ r = s := by
  induction u using Nat.strongRecOn generalizing v with
  | ind u ih =>
    by_cases hu : 127 < u <;> by_cases hv : 127 < v
    · rw [sm_more hu, sm_more hv] at h
      simp only [List.cons_append, List.append_assoc, List.cons.injEq, true_and] at h
      obtain ⟨h1, h2⟩ := List.append_inj h (by rw [bits_length, bits_length])
      obtain ⟨h3, h4⟩ := ih (u / 128) (by omega) h2
      have := bits_inj (n := 7) (by omega) (by omega) h1
      exact ⟨by omega, h4⟩
    · rw [sm_more hu, sm_last hv] at h; simp at h
    · rw [sm_last hu, sm_more hv] at h; simp at h
    · rw [sm_last hu, sm_last hv] at h
      simp only [List.cons_append, List.cons.injEq, true_and] at h
      obtain ⟨h1, h2⟩ := List.append_inj h (by rw [bits_length, bits_length])
      exact ⟨bits_inj (n := 7) (by omega) (by omega) h1, h2⟩

/-- up to k times eight bits, as they come: what they tell, and how many times eight they are -/
def grp : Nat → List Bool → Option (Nat × Nat)
  | 0, _ => none
  | k + 1, l =>
    match l with
    | [] => none
    | m :: r =>
      if r.length < 7 then none
      else if m then
        match grp k (r.drop 7) with
        | none => none
        | some (u, c) => some (val (r.take 7) + 128 * u, c + 1)
      else some (val (r.take 7), 1)
theorem grp_true (k : Nat) {r : List Bool} (h : ¬ r.length < 7) : grp (k + 1) (true :: r) = (match grp k (r.drop 7) with | none => none | some (u, c) => some (val (r.take 7) + 128 * u, c + 1)) := by
  show (if r.length < 7 then none else if true = true then (match grp k (r.drop 7) with | none => none | some (u, c) => some (val (r.take 7) + 128 * u, c + 1)) else some (val (r.take 7), 1)) = _
  rw [if_neg h, if_pos rfl]
theorem grp_false (k : Nat) {r : List Bool} (h : ¬ r.length < 7) : grp (k + 1) (false :: r) = some (val (r.take 7), 1) := by
  unfold grp; simp [h]
theorem grp_sm : ∀ {k u : Nat} (r : List Bool), eights u ≤ k → grp k (sm u ++ r) = some (u, eights u)
  | 0, u, _, h => by have := eights_pos u; omega
  | k + 1, u, r, h => by
    by_cases hu : 127 < u
    · rw [eights_more hu] at h ⊢
      have ih := grp_sm (k := k) (u := u / 128) r (by omega)
      rw [sm_more hu]
      show grp (k + 1) (true :: (bits (u % 128) 7 ++ sm (u / 128) ++ r)) = _
      rw [grp_true k (by simp [bits_length])]
      have e1 : (bits (u % 128) 7 ++ sm (u / 128) ++ r).drop 7 = sm (u / 128) ++ r := by rw [List.append_assoc, List.drop_append_of_le_length (by rw [bits_length]; omega), List.drop_of_length_le (by rw [bits_length]; omega), List.nil_append]
      have e2 : (bits (u % 128) 7 ++ sm (u / 128) ++ r).take 7 = bits (u % 128) 7 := by rw [List.append_assoc, List.take_append_of_le_length (by rw [bits_length]; omega), List.take_of_length_le (by rw [bits_length]; omega)]
      rw [e1, ih, e2]
      simp [val_bits]; omega
    · rw [eights_last hu, sm_last hu]
      show grp (k + 1) (false :: (bits u 7 ++ r)) = _
      rw [grp_false k (by simp [bits_length])]
      have e2 : (bits u 7 ++ r).take 7 = bits u 7 := by rw [List.take_append_of_le_length (by rw [bits_length]; omega), List.take_of_length_le (by rw [bits_length]; omega)]
      rw [e2, val_bits, Nat.mod_eq_of_lt (show u < 2 ^ 7 by omega)]
theorem grp_far : ∀ {k u : Nat} (r : List Bool), k < eights u → grp k (sm u ++ r) = none
  | 0, _, _, _ => rfl
  | k + 1, u, r, h => by
    by_cases hu : 127 < u
    · rw [eights_more hu] at h
      have ih := grp_far (k := k) (u := u / 128) r (by omega)
      rw [sm_more hu]
      show grp (k + 1) (true :: (bits (u % 128) 7 ++ sm (u / 128) ++ r)) = _
      rw [grp_true k (by simp [bits_length])]
      have e1 : (bits (u % 128) 7 ++ sm (u / 128) ++ r).drop 7 = sm (u / 128) ++ r := by rw [List.append_assoc, List.drop_append_of_le_length (by rw [bits_length]; omega), List.drop_of_length_le (by rw [bits_length]; omega), List.nil_append]
      rw [e1, ih]
    · rw [eights_last hu] at h; omega
theorem grp_some : ∀ {k : Nat} {l : List Bool} {u c : Nat}, grp k l = some (u, c) → 1 ≤ c ∧ c ≤ k ∧ 8 * c ≤ l.length ∧ u < 128 ^ c ∧ eights u ≤ c ∧ (eights u = c → l.take (8 * c) = sm u)
  | 0, _, _, _, h => by cases h
  | k + 1, [], _, _, h => by cases h
  | k + 1, m :: r, u, c, h => by
    have h' : (if r.length < 7 then none else if m then (match grp k (r.drop 7) with | none => none | some (u, c) => some (val (r.take 7) + 128 * u, c + 1)) else some (val (r.take 7), 1)) = some (u, c) := h
    by_cases h7 : r.length < 7
    · rw [if_pos h7] at h'; cases h'
    · rw [if_neg h7] at h'
      have hl7 : (r.take 7).length = 7 := by rw [List.length_take]; omega
      have hv := val_lt (r.take 7)
      rw [hl7] at hv
      have hb := bits_val (r.take 7)
      rw [hl7] at hb
      cases m with
      | false =>
        simp at h'
        obtain ⟨rfl, rfl⟩ := h'
        refine ⟨Nat.le_refl _, by omega, by simp; omega, by omega, by rw [eights_last (by omega)]; exact Nat.le_refl _, fun _ => ?_⟩
        rw [sm_last (by omega), hb]
        rfl
      | true =>
        simp only [if_true] at h'
        cases hg : grp k (r.drop 7) with
        | none => rw [hg] at h'; cases h'
        | some p =>
          obtain ⟨u', c'⟩ := p
          rw [hg] at h'
          simp at h'
          obtain ⟨rfl, rfl⟩ := h'
          obtain ⟨g1, g2, g3, g4, g5, g6⟩ := grp_some hg
          rw [List.length_drop] at g3
          have hp : 128 ^ (c' + 1) = 128 ^ c' * 128 := Nat.pow_succ ..
          have hu : val (r.take 7) + 128 * u' < 128 ^ (c' + 1) := by rw [hp]; omega
          refine ⟨by omega, by omega, by simp; omega, hu, (eights_le (by omega)).2 hu, fun he => ?_⟩
          have h127 : 127 < val (r.take 7) + 128 * u' := by
            by_cases h0 : 127 < val (r.take 7) + 128 * u'
            · exact h0
            · rw [eights_last h0] at he; omega
          have hd : (val (r.take 7) + 128 * u') / 128 = u' := by omega
          rw [eights_more h127, hd] at he
          rw [sm_more h127, hd, show (val (r.take 7) + 128 * u') % 128 = val (r.take 7) by omega, hb, ← g6 (by omega), show 8 * (c' + 1) = 7 + 8 * c' + 1 by omega]
          show true :: r.take (7 + 8 * c') = true :: r.take 7 ++ (r.drop 7).take (8 * c')
          rw [List.take_add]
          rfl
/-- the next small number, and its bits: or none -/
def small (l : List Bool) : Option (Int × Nat) :=
  match grp 10 l with
  | none => none
  | some (u, c) => if u < 18446744073709551616 ∧ eights u = c then some (zag u, 8 * c) else none
theorem small_iff {l : List Bool} {x : Int} {n : Nat} : small l = some (x, n) ↔ (zig x < 18446744073709551616 ∧ n = 8 * eights (zig x) ∧ ∃ r, l = sm (zig x) ++ r) := by
  unfold small
  constructor
  · intro h
    cases hg : grp 10 l with
    | none => rw [hg] at h; cases h
    | some p =>
      obtain ⟨u, c⟩ := p
      rw [hg] at h
      simp only at h
      split at h
      · rename_i hc
        simp at h
        obtain ⟨rfl, rfl⟩ := h
        obtain ⟨_, _, _, _, _, g6⟩ := grp_some hg
        rw [zig_zag]
        refine ⟨hc.1, by rw [hc.2], l.drop (8 * c), ?_⟩
        rw [← g6 hc.2, List.take_append_drop]
      · cases h
  · rintro ⟨h1, rfl, r, rfl⟩
    rw [grp_sm r (eights_ten h1)]
    simp [h1, zag_zig]
theorem small_none {l : List Bool} (h : ∀ x r, zig x < 18446744073709551616 → l ≠ sm (zig x) ++ r) : small l = none := by
  cases hs : small l with
  | none => rfl
  | some p =>
    obtain ⟨x, n⟩ := p
    obtain ⟨h1, _, r, h2⟩ := small_iff.1 hs
    exact absurd h2 (h x r h1)
theorem small_sm {x : Int} (h : zig x < 18446744073709551616) (r : List Bool) : small (sm (zig x) ++ r) = some (x, 8 * eights (zig x)) := small_iff.2 ⟨h, rfl, r, rfl⟩

/-- the bytes of bits: what lacks of the last one is 0 -/
def byteAt (l : List Bool) (i : Nat) : Nat := val ((l.drop (8 * i)).take 8)
def pack (l : List Bool) : List Nat := (List.range ((l.length + 7) / 8)).map (byteAt l)
/-- the bits of bytes -/
def unpack (b : List Nat) : List Bool := b.flatMap fun x => bits x 8
theorem byteAt_lt (l : List Bool) (i : Nat) : byteAt l i < 256 := by
  have := val_lt ((l.drop (8 * i)).take 8)
  have h8 : ((l.drop (8 * i)).take 8).length ≤ 8 := by rw [List.length_take]; omega
  exact Nat.lt_of_lt_of_le this (Nat.pow_le_pow_right (n := 2) (by omega) h8)
theorem pack_lt (l : List Bool) : ∀ x ∈ pack l, x < 256 := by
  intro x hx
  obtain ⟨i, _, rfl⟩ := List.mem_map.1 hx
  exact byteAt_lt l i
theorem pack_length (l : List Bool) : (pack l).length = (l.length + 7) / 8 := by simp [pack]
theorem pack_at {l : List Bool} {i : Nat} (h : i < (l.length + 7) / 8) : (pack l).getD i 0 = byteAt l i := by
  simp [pack, List.getD, h]
theorem pack_nil : pack [] = [] := rfl
theorem unpack_length : ∀ b : List Nat, (unpack b).length = 8 * b.length
  | [] => rfl
  | x :: b => by
    show (bits x 8 ++ unpack b).length = _
    rw [List.length_append, bits_length, unpack_length b, List.length_cons]; omega
theorem unpack_append (a b : List Nat) : unpack (a ++ b) = unpack a ++ unpack b := List.flatMap_append
theorem bits_at : ∀ {n x i : Nat}, i < n → (bits x n).getD i false = (x / 2 ^ i % 2 == 1)
  | 0, _, _, h => by omega
  | n + 1, x, 0, _ => by show (x % 2 == 1) = _; rw [Nat.pow_zero, Nat.div_one]
  | n + 1, x, i + 1, h => by
    show (bits (x / 2) n).getD i false = _
    rw [bits_at (by omega), Nat.div_div_eq_div_mul, Nat.pow_succ, Nat.mul_comm 2]
theorem getD_left {α : Type} {l r : List α} {i : Nat} {d : α} (h : i < l.length) : (l ++ r).getD i d = l.getD i d := by simp [List.getD, List.getElem?_append_left h]
theorem getD_right {α : Type} {l r : List α} {i : Nat} {d : α} (h : l.length ≤ i) : (l ++ r).getD i d = r.getD (i - l.length) d := by simp [List.getD, List.getElem?_append_right h]
theorem unpack_at : ∀ {b : List Nat} {i : Nat}, i < 8 * b.length → (unpack b).getD i false = (b.getD (i / 8) 0 / 2 ^ (i % 8) % 2 == 1)
  | [], i, h => by simp at h
  | x :: b, i, h => by
    show (bits x 8 ++ unpack b).getD i false = _
    by_cases hi : i < 8
    · rw [show i / 8 = 0 by omega, show i % 8 = i by omega]
      rw [getD_left (by rw [bits_length]; exact hi), bits_at hi]
      rfl
    · rw [List.length_cons] at h
      rw [getD_right (by rw [bits_length]; omega), bits_length, unpack_at (by omega)]
      rw [show i / 8 = (i - 8) / 8 + 1 by omega, show i % 8 = (i - 8) % 8 by omega]
      rfl
end Go.Proofs.Ytloobijdpchppaa.Bt

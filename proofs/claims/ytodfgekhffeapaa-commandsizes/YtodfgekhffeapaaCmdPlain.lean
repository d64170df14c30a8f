/- Commands: formed ones, rows, their bits; what a reader takes of them. Plain functions, and their laws. -/
import Derived.Test.YtodfgekhffeapaaRdPlain
namespace Go.Proofs.Ytodfgekhffeapaa

namespace Cm
open Bt
set_option linter.unusedVariables false
/-- a command: its number, where to, whether it fires, what was seen -/
structure C where
  n : Nat
  x : Int
  y : Int
  f : Bool
  v : Nat
  q : Nat
def C.wf (c : C) : Prop := c.n < 4294967296 ∧ -128 ≤ c.x ∧ c.x < 128 ∧ -128 ≤ c.y ∧ c.y < 128 ∧ c.v < 4294967296 ∧ c.q < 256
abbrev Formed (c : C) : Prop := 1 ≤ c.n ∧ c.n ≤ 2147483648 ∧ -127 ≤ c.x ∧ -127 ≤ c.y ∧ c.v ≤ 2147483648 ∧ (c.f = true ∨ (c.v = 0 ∧ c.q = 0))
def first : List C → Nat
  | [] => 0
  | c :: _ => c.n
def rowFrom : Nat → List C → Bool
  | _, [] => true
  | m, c :: l => decide (Formed c) && decide (c.n = m) && rowFrom (m + 1) l
def row (l : List C) : Bool := decide (1 ≤ l.length) && decide (l.length ≤ 8) && rowFrom (first l) l
theorem rowFrom_iff : ∀ (l : List C) (m : Nat), rowFrom m l = true ↔ ∀ i c, l[i]? = some c → Formed c ∧ c.n = m + i
  | [], m => by simp [rowFrom]
  | c :: l, m => by
    rw [rowFrom, Bool.and_eq_true, Bool.and_eq_true, decide_eq_true_iff, decide_eq_true_iff, rowFrom_iff l]
    constructor
    · rintro ⟨⟨h1, h2⟩, h3⟩ i d hi
      cases i with
      | zero => simp at hi; subst hi; exact ⟨h1, by omega⟩
      | succ i =>
        have := h3 i d (by simpa using hi)
        exact ⟨this.1, by omega⟩
    · intro h
      refine ⟨⟨(h 0 c rfl).1, by have := (h 0 c rfl).2; omega⟩, ?_⟩
      intro i d hi
      have := h (i + 1) d (by simpa using hi)
      exact ⟨this.1, by omega⟩
theorem row_iff (l : List C) : row l = true ↔ 1 ≤ l.length ∧ l.length ≤ 8 ∧ ∀ i c, l[i]? = some c → Formed c ∧ c.n = first l + i := by
  unfold row
  rw [Bool.and_eq_true, Bool.and_eq_true, decide_eq_true_iff, decide_eq_true_iff, rowFrom_iff]
  exact and_assoc
theorem row_not {l : List C} {i : Nat} {c : C} (hi : l[i]? = some c) (h : ¬ (Formed c ∧ c.n = first l + i)) : row l = false := by
  cases hr : row l with
  | false => rfl
  | true => exact absurd (((row_iff l).1 hr).2.2 i c hi) h
theorem row_len {l : List C} (h : ¬ (1 ≤ l.length ∧ l.length ≤ 8)) : row l = false := by
  cases hr : row l with
  | false => rfl
  | true => have := (row_iff l).1 hr; omega

/-- a command's bits, behind the count and the first number; a row's -/
def one (c : C) : List Bool := Bt.bits (c.x + 127).toNat 8 ++ (Bt.bits (c.y + 127).toNat 8 ++ (if c.f then true :: (Bt.bits c.v 32 ++ Bt.bits c.q 8) else [false]))
def some_ (l : List C) : List Bool := l.flatMap one
def all (l : List C) : List Bool := Bt.bits (l.length - 1) 3 ++ (Bt.bits (first l) 32 ++ some_ l)
theorem one_length (c : C) : (one c).length = if c.f then 57 else 17 := by
  unfold one
  cases c.f <;> simp [Bt.bits_length]
theorem one_le (c : C) : (one c).length ≤ 57 := by rw [one_length]; split <;> omega
/-- how many Bt.bits commands have -/
def size : List C → Nat
  | [] => 0
  | c :: l => (if c.f then 57 else 17) + size l
theorem some_length : ∀ l : List C, (some_ l).length = size l
  | [] => rfl
  | c :: l => by
    show (one c ++ some_ l).length = _
    rw [List.length_append, one_length, some_length l]; rfl
theorem size_le : ∀ l : List C, size l ≤ 57 * l.length
  | [] => by simp [size]
  | c :: l => by
    have := size_le l
    show (if c.f then 57 else 17) + size l ≤ _
    rw [List.length_cons]
    split <;> omega
theorem all_length (l : List C) : (all l).length = 35 + size l := by
  unfold all
  rw [List.length_append, List.length_append, bits_length, bits_length, some_length]; omega
theorem some_snoc (l : List C) (c : C) : some_ (l ++ [c]) = some_ l ++ one c := by simp [some_]
theorem some_take {l : List C} {k : Nat} {c : C} (h : l[k]? = some c) : some_ (l.take (k + 1)) = some_ (l.take k) ++ one c := by
  rw [List.take_add_one, h]; exact some_snoc _ _
theorem size_take {l : List C} {k : Nat} {c : C} (h : l[k]? = some c) : size (l.take (k + 1)) = size (l.take k) + (if c.f then 57 else 17) := by
  have := congrArg List.length (some_take h)
  rwa [List.length_append, some_length, some_length, one_length] at this

/-- one command is taken, whatever comes -/
def rdOne (r : Rd) (m : Nat) : C × Rd :=
  let a := r.tell 8
  let b := (r.take 8).tell 8
  let r2 := (r.take 8).take 8
  let r3 := r2.take 1
  let x : Int := if a < 255 ∧ b < 255 then (a : Int) - 127 else 0
  let y : Int := if a < 255 ∧ b < 255 then (b : Int) - 127 else 0
  if r2.tell 1 = 1 then (⟨m, x, y, true, r3.tell 32, (r3.take 32).tell 8⟩, (r3.take 32).take 8) else (⟨m, x, y, false, 0, 0⟩, r3)
/-- k commands are taken -/
def rdN (r : Rd) (m : Nat) : Nat → List C × Rd
  | 0 => ([], r)
  | k + 1 => ((rdN r m k).1 ++ [(rdOne (rdN r m k).2 ((m + k) % 4294967296)).1], (rdOne (rdN r m k).2 ((m + k) % 4294967296)).2)
theorem rdN_length (r : Rd) (m : Nat) : ∀ k, (rdN r m k).1.length = k
  | 0 => rfl
  | k + 1 => by show ((rdN r m k).1 ++ [_]).length = k + 1; rw [List.length_append, rdN_length r m k]; rfl
/-- a formed command's Bt.bits come next: it is taken -/
theorem rdOne_in {r : Rd} {c : C} {t : List Bool} (hf : r.fail = false) (hw : c.wf) (hc : Formed c) (h : r.rest = one c ++ t) :
    rdOne r c.n = (c, ⟨r.l, r.at_ + (one c).length, false⟩) ∧ (⟨r.l, r.at_ + (one c).length, false⟩ : Rd).rest = t := by
  obtain ⟨n, x, y, f, v, q⟩ := c
  obtain ⟨_, h2, h3, h4, h5, h6, h7⟩ := hw
  obtain ⟨_, _, g3, g4, g5, g6⟩ := hc
  simp only at h2 h3 h4 h5 h6 h7 g3 g4 g5 g6
  unfold one at h
  simp only [List.append_assoc] at h
  obtain ⟨a1, a2, a3⟩ := Rd.take_bits (n := 8) hf h (by omega) (by omega)
  have f1 : (r.take ((8 : Nat) : Int)).fail = false := by rw [a2]
  obtain ⟨b1, b2, b3⟩ := Rd.take_bits (n := 8) f1 a3 (by omega) (by omega)
  have f2 : ((r.take ((8 : Nat) : Int)).take ((8 : Nat) : Int)).fail = false := by rw [b2]
  have ha : r.tell 8 = (x + 127).toNat := a1
  have hb : (r.take 8).tell 8 = (y + 127).toNat := b1
  have hlt : (x + 127).toNat < 255 ∧ (y + 127).toNat < 255 := by omega
  cases f with
  | true =>
    simp only [if_true] at b3
    have b3' : ((r.take ((8 : Nat) : Int)).take ((8 : Nat) : Int)).rest = Bt.bits 1 1 ++ (Bt.bits v 32 ++ (Bt.bits q 8 ++ t)) := by rw [b3]; simp [Bt.bits]
    obtain ⟨c1, c2, c3⟩ := Rd.take_bits (n := 1) f2 b3' (by omega) (by omega)
    have f3 : (((r.take ((8 : Nat) : Int)).take ((8 : Nat) : Int)).take ((1 : Nat) : Int)).fail = false := by rw [c2]
    obtain ⟨d1, d2, d3⟩ := Rd.take_bits (n := 32) f3 c3 (by omega) (by omega)
    have f4 : ((((r.take ((8 : Nat) : Int)).take ((8 : Nat) : Int)).take ((1 : Nat) : Int)).take ((32 : Nat) : Int)).fail = false := by rw [d2]
    obtain ⟨e1, e2, e3⟩ := Rd.take_bits (n := 8) f4 d3 (by omega) (by omega)
    have hfin : ((((r.take 8).take 8).take 1).take 32).take 8 = (⟨r.l, r.at_ + 57, false⟩ : Rd) := by
      have : ((((r.take ((8 : Nat) : Int)).take ((8 : Nat) : Int)).take ((1 : Nat) : Int)).take ((32 : Nat) : Int)).take ((8 : Nat) : Int) = (⟨r.l, r.at_ + 57, false⟩ : Rd) := by
        rw [e2, d2, c2, b2, a2]
      exact this
    have hl : (one ⟨n, x, y, true, v, q⟩).length = 57 := by rw [one_length]; rfl
    rw [hl]
    refine ⟨?_, ?_⟩
    · unfold rdOne
      rw [ha, hb]
      simp only
      have hc1 : ((r.take 8).take 8).tell 1 = 1 := c1
      rw [if_pos hlt, if_pos hlt, if_pos hc1, hfin]
      have hd : (((r.take 8).take 8).take 1).tell 32 = v := d1
      have he : ((((r.take 8).take 8).take 1).take 32).tell 8 = q := e1
      rw [hd, he]
      congr 2 <;> omega
    · rw [← hfin]; exact e3
  | false =>
    simp only [Bool.false_eq_true, if_false] at b3
    have b3' : ((r.take ((8 : Nat) : Int)).take ((8 : Nat) : Int)).rest = Bt.bits 0 1 ++ t := by rw [b3]; simp [Bt.bits]
    obtain ⟨c1, c2, c3⟩ := Rd.take_bits (n := 1) f2 b3' (by omega) (by omega)
    have hfin : ((r.take 8).take 8).take 1 = (⟨r.l, r.at_ + 17, false⟩ : Rd) := by
      have : ((r.take ((8 : Nat) : Int)).take ((8 : Nat) : Int)).take ((1 : Nat) : Int) = (⟨r.l, r.at_ + 17, false⟩ : Rd) := by rw [c2, b2, a2]
      exact this
    have hl : (one ⟨n, x, y, false, v, q⟩).length = 17 := by rw [one_length]; rfl
    have hvq : v = 0 ∧ q = 0 := by simpa using g6
    rw [hl]
    refine ⟨?_, ?_⟩
    · unfold rdOne
      rw [ha, hb]
      simp only
      have hc1 : ¬ ((r.take 8).take 8).tell 1 = 1 := by
        have : ((r.take 8).take 8).tell 1 = 0 := c1
        omega
      rw [if_pos hlt, if_pos hlt, if_neg hc1, hfin, hvq.1, hvq.2]
      congr 2 <;> omega
    · rw [← hfin]; exact c3

theorem tell_pow (r : Rd) (n : Nat) : r.tell (n : Int) < 2 ^ n := by
  unfold Rd.tell
  split
  · have := val_lt (r.rest.take ((n : Int)).toNat)
    refine Nat.lt_of_lt_of_le this (Nat.pow_le_pow_right (by omega) ?_)
    rw [List.length_take]; simp; omega
  · exact Nat.pow_pos (by omega)
theorem rdOne_fail {r : Rd} {m : Nat} (h : (rdOne r m).2.fail = false) : r.fail = false := by
  unfold rdOne at h
  simp only at h
  split at h
  · exact Rd.fail_of (Rd.fail_of (Rd.fail_of (Rd.fail_of (Rd.fail_of h))))
  · exact Rd.fail_of (Rd.fail_of (Rd.fail_of h))
theorem rdN_fail {r : Rd} {m : Nat} : ∀ {k : Nat}, (rdN r m k).2.fail = false → r.fail = false
  | 0, h => h
  | k + 1, h => rdN_fail (k := k) (rdOne_fail h)
theorem rdN_fail_le {r : Rd} {m : Nat} {j : Nat} : ∀ {k : Nat}, j ≤ k → (rdN r m k).2.fail = false → (rdN r m j).2.fail = false
  | 0, hj, h => by obtain rfl : j = 0 := by omega
                   exact h
  | k + 1, hj, h => by
    by_cases e : j = k + 1
    · subst e; exact h
    · exact rdN_fail_le (k := k) (by omega) (rdOne_fail h)
theorem rdOne_l (r : Rd) (m : Nat) : (rdOne r m).2.l = r.l := by
  unfold rdOne
  simp only
  split <;> simp only [Rd.take_l]
theorem rdN_l (r : Rd) (m : Nat) : ∀ k, (rdN r m k).2.l = r.l
  | 0 => rfl
  | k + 1 => (rdOne_l _ _).trans (rdN_l r m k)
theorem rdOne_rwf {r : Rd} {m : Nat} (h : r.wf) : (rdOne r m).2.wf := by
  unfold rdOne
  simp only
  split
  · exact Rd.take_wf (Rd.take_wf (Rd.take_wf (Rd.take_wf (Rd.take_wf h))))
  · exact Rd.take_wf (Rd.take_wf (Rd.take_wf h))
theorem rdN_rwf {r : Rd} {m : Nat} (h : r.wf) : ∀ k, (rdN r m k).2.wf
  | 0 => h
  | k + 1 => rdOne_rwf (rdN_rwf h k)
theorem rdOne_wf (r : Rd) (m : Nat) (hm : m < 4294967296) : (rdOne r m).1.wf := by
  have h0 := tell_pow r 8
  have h1 := tell_pow (r.take 8) 8
  have h2 := tell_pow (((r.take 8).take 8).take 1) 32
  have h3 := tell_pow ((((r.take 8).take 8).take 1).take 32) 8
  have e0 : r.tell 8 < 256 := h0
  have e1 : (r.take 8).tell 8 < 256 := h1
  have e2 : (((r.take 8).take 8).take 1).tell 32 < 4294967296 := h2
  have e3 : ((((r.take 8).take 8).take 1).take 32).tell 8 < 256 := h3
  unfold rdOne C.wf
  simp only
  split <;> refine ⟨hm, ?_⟩ <;> simp only <;> split <;> omega
theorem rdN_wf (r : Rd) (m : Nat) : ∀ k, ∀ c ∈ (rdN r m k).1, c.wf
  | 0 => by intro c hc; cases hc
  | k + 1 => by
    intro c hc
    rcases List.mem_append.1 (show c ∈ (rdN r m k).1 ++ [_] from hc) with hc | hc
    · exact rdN_wf r m k c hc
    · simp at hc; subst hc; exact rdOne_wf _ _ (Nat.mod_lt _ (by omega))
/-- commands' bits come next: they are taken -/
theorem rdN_in {r : Rd} {l : List C} {t : List Bool} {m : Nat} (hf : r.fail = false) (hw : ∀ c ∈ l, c.wf) (hr : ∀ i c, l[i]? = some c → Formed c ∧ c.n = m + i) (h : r.rest = some_ l ++ t) :
    ∀ k, k ≤ l.length → rdN r m k = (l.take k, ⟨r.l, r.at_ + size (l.take k), false⟩) ∧ (rdN r m k).2.rest = some_ (l.drop k) ++ t
  | 0, _ => ⟨by show ([], r) = _; rw [List.take_zero]; show _ = (([] : List C), (⟨r.l, r.at_ + 0, false⟩ : Rd)); rw [Nat.add_zero, ← hf], h⟩
  | k + 1, hk => by
    obtain ⟨e1, e2⟩ := rdN_in hf hw hr h k (by omega)
    obtain ⟨c, hc⟩ : ∃ c, l[k]? = some c := ⟨_, List.getElem?_eq_getElem (by omega)⟩
    obtain ⟨g1, g2⟩ := hr k c hc
    have hn : (m + k) % 4294967296 = c.n := by rw [← g2]; exact Nat.mod_eq_of_lt (by have := g1.2.1; omega)
    have hd : l.drop k = c :: l.drop (k + 1) := by
      have hkl : k < l.length := by omega
      rw [List.drop_eq_getElem_cons hkl]
      rw [List.getElem?_eq_getElem hkl] at hc
      simp at hc
      rw [hc]
    have e3 : (rdN r m k).2.rest = one c ++ (some_ (l.drop (k + 1)) ++ t) := by rw [e2, hd]; simp [some_]
    have hf2 : (rdN r m k).2.fail = false := by rw [e1]
    obtain ⟨g3, g4⟩ := rdOne_in hf2 (hw c (List.mem_of_getElem? hc)) g1 e3
    have hs : r.at_ + size (l.take k) + (one c).length = r.at_ + size (l.take (k + 1)) := by rw [size_take hc, one_length]; omega
    have e4 : rdOne (rdN r m k).2 ((m + k) % 4294967296) = (c, ⟨r.l, r.at_ + size (l.take (k + 1)), false⟩) := by
      rw [hn, g3, e1]
      show (c, (⟨r.l, r.at_ + size (l.take k) + (one c).length, false⟩ : Rd)) = _
      rw [hs]
    refine ⟨?_, ?_⟩
    · show ((rdN r m k).1 ++ [(rdOne (rdN r m k).2 ((m + k) % 4294967296)).1], (rdOne (rdN r m k).2 ((m + k) % 4294967296)).2) = _
      rw [e4, e1, List.take_add_one, hc]
      rfl
    · show (rdOne (rdN r m k).2 ((m + k) % 4294967296)).2.rest = _
      rw [hn, g3]
      exact g4

/-- a whole row is taken, whatever comes -/
def rdRow (r : Rd) : List C × Rd := rdN ((r.take 3).take 32) ((r.take 3).tell 32) (r.tell 3 + 1)
/-- the bits of the row l come next -/
def Next (r : Rd) (l : List C) : Prop := r.fail = false ∧ row l = true ∧ (∀ c ∈ l, c.wf) ∧ ∃ t, r.rest = all l ++ t
theorem first_le {l : List C} (h : row l = true) : first l ≤ 2147483648 := by
  obtain ⟨h1, _, h3⟩ := (row_iff l).1 h
  cases l with
  | nil => simp at h1
  | cons c l => exact (h3 0 c rfl).1.2.1
theorem next_head {r : Rd} {l : List C} (h : Next r l) : r.tell 3 + 1 = l.length ∧ (r.take 3).tell 32 = first l ∧ (r.take 3).take 32 = ⟨r.l, r.at_ + 35, false⟩ ∧ ∃ t, ((r.take 3).take 32).rest = some_ l ++ t ∧ r.rest = all l ++ t := by
  obtain ⟨hf, hr, hw, t, ht⟩ := h
  obtain ⟨h1, h2, h3⟩ := (row_iff l).1 hr
  have hfl := first_le hr
  have ht' := ht
  unfold all at ht'
  rw [List.append_assoc, List.append_assoc] at ht'
  obtain ⟨a1, a2, a3⟩ := Rd.take_bits (n := 3) hf ht' (by omega) (by omega)
  have f1 : (r.take ((3 : Nat) : Int)).fail = false := by rw [a2]
  obtain ⟨b1, b2, b3⟩ := Rd.take_bits (n := 32) f1 a3 (by omega) (by omega)
  have ha : r.tell 3 = l.length - 1 := a1
  refine ⟨by omega, b1, ?_, t, b3, ht⟩
  have : (r.take ((3 : Nat) : Int)).take ((32 : Nat) : Int) = (⟨r.l, r.at_ + 35, false⟩ : Rd) := by rw [b2, a2]
  exact this
theorem next_states {r : Rd} {l : List C} (h : Next r l) : ∀ k, k ≤ l.length → rdN ((r.take 3).take 32) ((r.take 3).tell 32) k = (l.take k, ⟨r.l, r.at_ + 35 + size (l.take k), false⟩) := by
  obtain ⟨h1, h2, h3, t, h4, h5⟩ := next_head h
  obtain ⟨hf, hr, hw, _⟩ := h
  have hrow := ((row_iff l).1 hr).2.2
  intro k hk
  have := (rdN_in (r := (r.take 3).take 32) (m := (r.take 3).tell 32) (by rw [h3]) hw (by rw [h2]; exact hrow) h4 k hk).1
  rw [this, h3]
theorem next_read {r : Rd} {l : List C} (h : Next r l) : rdRow r = (l, ⟨r.l, r.at_ + (all l).length, false⟩) := by
  have h1 := (next_head h).1
  unfold rdRow
  rw [h1, next_states h l.length (Nat.le_refl _), List.take_length, all_length, Nat.add_assoc]
theorem next_uniq {r : Rd} {l l' : List C} (h : Next r l) (h' : Next r l') : l = l' := by
  have := (next_read h).symm.trans (next_read h')
  exact congrArg Prod.fst this
theorem rdRow_fail {r : Rd} (h : (rdRow r).2.fail = false) : r.fail = false := Rd.fail_of (Rd.fail_of (rdN_fail h))
theorem rdRow_wf (r : Rd) : ∀ c ∈ (rdRow r).1, c.wf := rdN_wf _ _ _
theorem rdRow_length (r : Rd) : (rdRow r).1.length = r.tell 3 + 1 := rdN_length _ _ _
/-- what was read, put again, is what came: the row comes next -/
theorem next_of_put {r : Rd} (hf : (rdRow r).2.fail = false) (hr : row (rdRow r).1 = true) (hb : ∃ t, r.rest = all (rdRow r).1 ++ t) : Next r (rdRow r).1 :=
  ⟨rdRow_fail hf, hr, rdRow_wf r, hb⟩
end Cm
end Go.Proofs.Ytodfgekhffeapaa

/- Entities: by how much the fields differ, as the program takes it: six flags at once. -/
import Derived.Test.YtjphcbcbaiifhaaEntPlain2
namespace Go.Proofs.Ytjphcbcbaiifhaa.En
open Bt Go.RowKit
set_option linter.unusedVariables false

/-- the differences behind k fields, and the reader: none, if one is told to be 0 -/
def td (f : Nat → Bool) (q : Rd) : Nat → Option (List Int × Rd)
  | 0 => some ([0, 0, 0, 0, 0, 0], q)
  | k + 1 => (td f q k).bind fun s => if f k then (if s.2.sTell = 0 then none else some (s.1.set k s.2.sTell, s.2.sTake)) else some s
/-- k fields are led on -/
def adds (e : E) (D : List Int) : Nat → E
  | 0 => e
  | k + 1 => put (adds e D k) k (wrap64 (field (adds e D k) k + D.getD k 0))
def f6 (r : Rd) (k : Nat) : Bool := r.tell 6 / 2 ^ k % 2 == 1
def six6 : List Int := [0, 0, 0, 0, 0, 0]

theorem put_self (e : E) : ∀ k, k < 6 → put e k (field e k) = e := by
  refine six ?_ ?_ ?_ ?_ ?_ ?_ <;> rfl
theorem wrap_self {x : Int} (h : I64 x) : wrap64 (x + 0) = x := by unfold I64 wrap64 at *; omega
theorem wrap_in (x : Int) : I64 (wrap64 x) := by unfold I64 wrap64; omega
theorem adds_wf {e : E} {D : List Int} (h : e.wf) : ∀ k, (adds e D k).wf
  | 0 => h
  | k + 1 => put_wf (adds_wf h k) (wrap_in _)
theorem adds_set {e : E} {D : List Int} {j : Nat} {x : Int} : ∀ k, k ≤ j → adds e (D.set j x) k = adds e D k
  | 0, _ => rfl
  | k + 1, h => by
    show put (adds e (D.set j x) k) k (wrap64 (field (adds e (D.set j x) k) k + (D.set j x).getD k 0)) = _
    rw [adds_set k (by omega), show (D.set j x).getD k 0 = D.getD k 0 by simp [List.getElem?_set]; split <;> first | omega | rfl]
    rfl
theorem td_some {f : Nat → Bool} {q : Rd} {k : Nat} {D : List Int} {s : Rd} (h : td f q (k + 1) = some (D, s)) : ∃ D0 s0, td f q k = some (D0, s0) := by
  have h' : (td f q k).bind (fun s => if f k then (if s.2.sTell = 0 then none else some (s.1.set k s.2.sTell, s.2.sTake)) else some s) = some (D, s) := h
  cases e : td f q k with
  | none => rw [e] at h'; cases h'
  | some t => exact ⟨t.1, t.2, rfl⟩
theorem td_next {f : Nat → Bool} {q : Rd} {k : Nat} {D : List Int} {s : Rd} (h : td f q k = some (D, s)) : td f q (k + 1) = if f k then (if s.sTell = 0 then none else some (D.set k s.sTell, s.sTake)) else some (D, s) := by
  show (td f q k).bind _ = _
  rw [h]
  rfl
theorem td_none {f : Nat → Bool} {q : Rd} {k : Nat} (h : td f q k = none) : td f q (k + 1) = none := by
  show (td f q k).bind _ = _
  rw [h]
  rfl
theorem td_none6 {f : Nat → Bool} {q : Rd} {j : Nat} (hj : j ≤ 6) (h : td f q j = none) : td f q 6 = none := by
  have : ∀ n, td f q (j + n) = none := by
    intro n
    induction n with
    | zero => exact h
    | succ n ih => exact td_none ih
  have := this (6 - j)
  rw [show j + (6 - j) = 6 by omega] at this
  exact this
theorem td_len {f : Nat → Bool} {q : Rd} : ∀ {k : Nat} {D : List Int} {s : Rd}, td f q k = some (D, s) → D.length = 6 ∧ (s.fail = false → q.fail = false) ∧ ∀ j, k ≤ j → D.getD j 0 = 0
  | 0, D, s, h => by
    have h' : some (([0, 0, 0, 0, 0, 0] : List Int), q) = some (D, s) := h
    simp at h'
    obtain ⟨rfl, rfl⟩ := h'
    refine ⟨rfl, id, fun j _ => ?_⟩
    by_cases hj : j < 6
    · exact six (P := fun j => ([0, 0, 0, 0, 0, 0] : List Int).getD j 0 = 0) rfl rfl rfl rfl rfl rfl j hj
    · simp [List.getD, List.getElem?_eq_none (show ([0, 0, 0, 0, 0, 0] : List Int).length ≤ j by simp; omega)]
  | k + 1, D, s, h => by
    obtain ⟨D0, s0, h0⟩ := td_some h
    obtain ⟨h1, h2, h3⟩ := td_len h0
    rw [td_next h0] at h
    split at h
    · split at h
      · cases h
      · simp at h
        obtain ⟨rfl, rfl⟩ := h
        refine ⟨by simpa using h1, fun hf => h2 (Rd.sfail_of hf), fun j hj => ?_⟩
        have := h3 j (by omega)
        simp only [List.getD] at this ⊢
        rw [List.getElem?_set_ne (by omega)]
        exact this
    · simp at h
      obtain ⟨rfl, rfl⟩ := h
      exact ⟨h1, h2, fun j hj => h3 j (by omega)⟩
/-- told as the one who takes flag by flag does -/
theorem td_rdS {r : Rd} {b : E} (hb : b.wf) {f : Nat → Bool} (hf : ∀ k, k < 6 → f k = fl r k) : ∀ k, k ≤ 6 →
    (td f (rdF r 6) k = none → rdS r b k = none) ∧ ∀ D s, td f (rdF r 6) k = some (D, s) → rdS r b k = some (adds b D k, s)
  | 0, _ => by
    refine ⟨(fun h => by cases h), fun D s h => ?_⟩
    have h' : some (([0, 0, 0, 0, 0, 0] : List Int), rdF r 6) = some (D, s) := h
    simp at h'
    obtain ⟨rfl, rfl⟩ := h'
    rfl
  | k + 1, hk => by
    obtain ⟨i1, i2⟩ := td_rdS hb hf k (by omega)
    have e0 : rdS r b (k + 1) = (rdS r b k).bind (step (fl r k) k) := rfl
    cases e : td f (rdF r 6) k with
    | none => exact ⟨fun _ => by rw [e0, i1 e]; rfl, fun D s h => by rw [td_none e] at h; cases h⟩
    | some t =>
      obtain ⟨D, s⟩ := t
      have hr := i2 D s e
      obtain ⟨h1, _, h3⟩ := td_len e
      have e1 : rdS r b (k + 1) = step (fl r k) k (adds b D k, s) := by rw [e0, hr]; rfl
      rw [td_next e, hf k (by omega), e1]
      unfold step
      cases fl r k with
      | false =>
        refine ⟨(fun h => by cases h), fun D' s' h => ?_⟩
        simp at h
        obtain ⟨rfl, rfl⟩ := h
        have hw := field_wf (adds_wf (D := D) hb k) k (by omega)
        have : adds b D (k + 1) = adds b D k := by
          show put (adds b D k) k (wrap64 (field (adds b D k) k + D.getD k 0)) = _
          rw [h3 k (by omega), wrap_self hw, put_self _ k (by omega)]
        rw [this]
        rfl
      | true =>
        by_cases h0 : s.sTell = 0
        · simp [h0]
        · refine ⟨fun h => by simp [h0] at h, fun D' s' h => ?_⟩
          simp [h0] at h
          obtain ⟨rfl, rfl⟩ := h
          have hg : (D.set k s.sTell).getD k 0 = s.sTell := by simp [List.getD, List.getElem?_set_self (show k < D.length by omega)]
          have : adds b (D.set k s.sTell) (k + 1) = put (adds b D k) k (wrap64 (field (adds b D k) k + s.sTell)) := by
            show put (adds b (D.set k s.sTell) k) k (wrap64 (field (adds b (D.set k s.sTell) k) k + (D.set k s.sTell).getD k 0)) = _
            rw [adds_set k (Nat.le_refl _), hg]
          rw [this]
          simp [h0]
/-- bits come next: they are the flags -/
theorem rdF_in {r : Rd} {L t : List Bool} (hf : r.fail = false) (h : r.rest = L ++ t) : ∀ k, k ≤ L.length → rdF r k = ⟨r.l, r.at_ + k, false⟩ ∧ (rdF r k).rest = L.drop k ++ t
  | 0, _ => ⟨by show r = _; rw [Nat.add_zero, ← hf], h⟩
  | k + 1, hk => by
    obtain ⟨e1, e2⟩ := rdF_in hf h k (by omega)
    have hlt : k < L.length := by omega
    rw [List.drop_eq_getElem_cons hlt, List.cons_append] at e2
    have hf2 : (rdF r k).fail = false := by rw [e1]
    obtain ⟨_, a2, a3⟩ := take_bit hf2 e2
    refine ⟨?_, a3⟩
    show (rdF r k).take 1 = _
    rw [a2, e1]
    rfl
theorem fl_in {r : Rd} {L t : List Bool} (hf : r.fail = false) (h : r.rest = L ++ t) {k : Nat} (hk : k < L.length) : fl r k = L[k] := by
  obtain ⟨e1, e2⟩ := rdF_in hf h k (by omega)
  rw [List.drop_eq_getElem_cons hk, List.cons_append] at e2
  have hf2 : (rdF r k).fail = false := by rw [e1]
  obtain ⟨a1, _, _⟩ := take_bit hf2 e2
  exact a1
theorem bits_at : ∀ (n x k : Nat) (h : k < (Bt.bits x n).length), (Bt.bits x n)[k] = (x / 2 ^ k % 2 == 1)
  | 0, x, k, h => absurd h (by simp [Bt.bits])
  | n + 1, x, 0, h => by show (x % 2 == 1) = _; simp
  | n + 1, x, k + 1, h => by
    have hk : k < (Bt.bits (x / 2) n).length := by rw [Bt.bits_length] at h ⊢; omega
    have := bits_at n (x / 2) k hk
    show (Bt.bits (x / 2) n)[k]'hk = _
    rw [this, Nat.div_div_eq_div_mul, Nat.pow_succ, Nat.mul_comm]
/-- six flags at once -/
theorem six_ok {r : Rd} (h : (r.take 6).fail = false) : r.take 6 = rdF r 6 ∧ ∀ k, k < 6 → f6 r k = fl r k := by
  obtain ⟨h1, _, _, h4, _, _, h7⟩ := Rd.take_ok (n := 6) h
  have h4' : r.take 6 = ⟨r.l, r.at_ + 6, false⟩ := h4
  have hL : (Bt.bits (r.tell 6) 6).length = 6 := Bt.bits_length _ _
  refine ⟨?_, fun k hk => ?_⟩
  · rw [h4', (rdF_in h1 h7 6 (by rw [Bt.bits_length]; omega)).1]
  · rw [fl_in h1 h7 (k := k) (by rw [Bt.bits_length]; omega), bits_at]
    rfl
theorem next_six {r : Rd} {b e : E} (h : Next r b e) : (r.take 6).fail = false := by
  obtain ⟨hf, _, _, _, t, ht⟩ := h
  unfold all at ht
  rw [List.append_assoc] at ht
  have hl := flags_len b e 6
  have hb := bits_val (flags b e 6)
  rw [hl] at hb
  have hv := val_lt (flags b e 6)
  rw [hl] at hv
  have := (Rd.take_bits (n := 6) hf (by rw [← hb] at ht; exact ht) hv (by omega)).2.1
  have h6 : r.take 6 = ⟨r.l, r.at_ + 6, false⟩ := this
  rw [h6]
/-- what the program takes -/
theorem td_none_of {r : Rd} {b : E} (hb : b.wf) (h : td (f6 r) (r.take 6) 6 = none) : ∀ e, ¬ Next r b e := by
  intro e hn
  obtain ⟨e1, e2⟩ := six_ok (next_six hn)
  rw [e1] at h
  exact none_of hb ((td_rdS hb e2 6 (by omega)).1 h) e hn
theorem td_none_fail {r q : Rd} {b : E} {D : List Int} (hb : b.wf) (h : td (f6 r) (r.take 6) 6 = some (D, q)) (hf : q.fail = true ∨ ¬ Formed (adds b D 6)) : ∀ e, ¬ Next r b e := by
  intro e hn
  obtain ⟨e1, e2⟩ := six_ok (next_six hn)
  rw [e1] at h
  exact none_fail hb ((td_rdS hb e2 6 (by omega)).2 D q h) hf e hn
theorem td_next_of {r q : Rd} {b : E} {D : List Int} (hb : b.wf) (h : td (f6 r) (r.take 6) 6 = some (D, q)) (hf : q.fail = false) (hfm : Formed (adds b D 6)) : Next r b (adds b D 6) ∧ q = ⟨r.l, r.at_ + (all b (adds b D 6)).length, false⟩ := by
  obtain ⟨e1, e2⟩ := six_ok ((td_len h).2.1 hf)
  rw [e1] at h
  exact next_of hb ((td_rdS hb e2 6 (by omega)).2 D q h) hf hfm
end Go.Proofs.Ytjphcbcbaiifhaa.En

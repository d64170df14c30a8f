/- Entities: what a reader takes, on a base: what comes is taken, what was taken came. -/
import Derived.Test.YtbfffgnalopfbaaEntPlain
import Derived.Test.YtbfffgnalopfbaaRdPlain
namespace Go.Proofs.Ytbfffgnalopfbaa.En
open Bt Go.RowKit
set_option linter.unusedVariables false

/-- behind k flags; the flag i -/
def rdF (r : Rd) : Nat → Rd
  | 0 => r
  | k + 1 => (rdF r k).take 1
def fl (r : Rd) (i : Nat) : Bool := (rdF r i).tell 1 == 1
/-- a field is taken, where it is told to be another one; none, if it isn't -/
def step (f : Bool) (k : Nat) (s : E × Rd) : Option (E × Rd) :=
  if f then (if s.2.sTell = 0 then none else some (put s.1 k (wrap64 (field s.1 k + s.2.sTell)), s.2.sTake)) else some s
/-- behind k fields -/
def rdS (r : Rd) (b : E) : Nat → Option (E × Rd)
  | 0 => some (b, rdF r 6)
  | k + 1 => (rdS r b k).bind (step (fl r k) k)
/-- the bits of the entity e come next, on the base b -/
def Next (r : Rd) (b e : E) : Prop := r.fail = false ∧ Formed e ∧ b.id = e.id ∧ b.kind = e.kind ∧ ∃ t, r.rest = all b e ++ t

theorem rdF_l (r : Rd) : ∀ k, (rdF r k).l = r.l
  | 0 => rfl
  | k + 1 => (Rd.take_l _ _).trans (rdF_l r k)
theorem rdF_fail {r : Rd} : ∀ {k : Nat}, (rdF r k).fail = false → r.fail = false
  | 0, h => h
  | k + 1, h => rdF_fail (k := k) (Rd.fail_of h)
theorem rdF_le {r : Rd} {j : Nat} : ∀ {k : Nat}, j ≤ k → (rdF r k).fail = false → (rdF r j).fail = false
  | 0, hj, h => by obtain rfl : j = 0 := by omega
                   exact h
  | k + 1, hj, h => by
    by_cases e : j = k + 1
    · subst e; exact h
    · exact rdF_le (k := k) (by omega) (Rd.fail_of h)
/-- a bit comes next -/
theorem take_bit {r : Rd} {x : Bool} {t : List Bool} (hf : r.fail = false) (h : r.rest = x :: t) : (r.tell 1 == 1) = x ∧ r.take 1 = ⟨r.l, r.at_ + 1, false⟩ ∧ (r.take 1).rest = t := by
  have h' : r.rest = Bt.bits (if x then 1 else 0) 1 ++ t := by rw [h]; cases x <;> rfl
  obtain ⟨a1, a2, a3⟩ := Rd.take_bits (n := 1) hf h' (by cases x <;> decide) (by omega)
  have a1' : r.tell 1 = if x then 1 else 0 := a1
  refine ⟨?_, a2, a3⟩
  rw [a1']; cases x <;> rfl
theorem bit_taken {r : Rd} (h : (r.take 1).fail = false) : r.rest = (r.tell 1 == 1) :: (r.take 1).rest := by
  obtain ⟨_, _, _, _, _, h6, h7⟩ := Rd.take_ok (n := 1) h
  have e6 : r.tell 1 < 2 := h6
  have e7 : r.rest = Bt.bits (r.tell 1) 1 ++ (r.take 1).rest := h7
  by_cases h1 : r.tell 1 = 1
  · rw [h1] at e7 ⊢; exact e7
  · have h0 : r.tell 1 = 0 := by omega
    rw [h0] at e7 ⊢; exact e7
/-- flags come next -/
theorem flags_in {r : Rd} {b e : E} {t : List Bool} (hf : r.fail = false) (h : r.rest = flags b e 6 ++ t) :
    ∀ k, k ≤ 6 → rdF r k = ⟨r.l, r.at_ + k, false⟩ ∧ (rdF r k).rest = (flags b e 6).drop k ++ t
  | 0, _ => ⟨by show r = _; rw [Nat.add_zero, ← hf], h⟩
  | k + 1, hk => by
    obtain ⟨e1, e2⟩ := flags_in hf h k (by omega)
    have hlt : k < (flags b e 6).length := by rw [flags_len]; omega
    rw [List.drop_eq_getElem_cons hlt, List.cons_append] at e2
    have hf2 : (rdF r k).fail = false := by rw [e1]
    obtain ⟨_, a2, a3⟩ := take_bit hf2 e2
    refine ⟨?_, a3⟩
    show (rdF r k).take 1 = _
    rw [a2, e1]
    rfl
theorem flag_in {r : Rd} {b e : E} {t : List Bool} (hf : r.fail = false) (h : r.rest = flags b e 6 ++ t) {k : Nat} (hk : k < 6) : fl r k = dif b e k := by
  obtain ⟨e1, e2⟩ := flags_in hf h k (by omega)
  have hlt : k < (flags b e 6).length := by rw [flags_len]; omega
  rw [List.drop_eq_getElem_cons hlt, List.cons_append] at e2
  have hf2 : (rdF r k).fail = false := by rw [e1]
  obtain ⟨a1, _, _⟩ := take_bit hf2 e2
  unfold fl
  rw [a1]
  simp [flags]

/-- the first k fields of e, the others of b -/
def mix (b e : E) : Nat → E
  | 0 => b
  | k + 1 => put (mix b e k) k (field e k)
theorem mix_id (b e : E) : ∀ k, (mix b e k).id = b.id ∧ (mix b e k).kind = b.kind
  | 0 => ⟨rfl, rfl⟩
  | k + 1 => by
    have h1 := put_id (mix b e k) k (field e k)
    have h2 := mix_id b e k
    exact ⟨h1.1.trans h2.1, h1.2.trans h2.2⟩
theorem mix_field (b e : E) : ∀ k, k ≤ 6 → ∀ j, j < 6 → field (mix b e k) j = if j < k then field e j else field b j
  | 0, _, j, _ => by rw [if_neg (by omega)]; rfl
  | k + 1, hk, j, hj => by
    show field (put (mix b e k) k (field e k)) j = _
    rw [field_put _ _ k (by omega) j hj]
    by_cases h : k = j
    · subst h; rw [if_pos rfl, if_pos (by omega)]
    · rw [if_neg h, mix_field b e k (by omega) j hj]
      by_cases h2 : j < k
      · rw [if_pos h2, if_pos (by omega)]
      · rw [if_neg h2, if_neg (by omega)]
theorem mix_all {b e : E} (hi : b.id = e.id) (hk : b.kind = e.kind) : mix b e 6 = e := by
  have h := mix_id b e 6
  refine ext (h.1.trans hi) (h.2.trans hk) ?_
  intro j hj
  rw [mix_field b e 6 (by omega) j hj, if_pos hj]
theorem wrap_back {x y : Int} (hx : I64 x) (hy : I64 y) : wrap64 (x + wrap64 (y - x)) = y := by unfold I64 wrap64 at *; omega
theorem wrap_zero {x y : Int} (hx : I64 x) (hy : I64 y) (h : wrap64 (y - x) = 0) : x = y := by unfold I64 wrap64 at *; omega
theorem wrap_diff {x d : Int} (hx : I64 x) (hd : I64 d) : wrap64 (wrap64 (x + d) - x) = d := by unfold I64 wrap64 at *; omega
theorem wrap_other {x d : Int} (hx : I64 x) (hd : I64 d) (h0 : d ≠ 0) : wrap64 (x + d) ≠ x := by unfold I64 wrap64 at *; omega
theorem formed_wf {e : E} (h : Formed e) : e.wf := by
  obtain ⟨h1, h2, h3, h4⟩ := h
  unfold E.wf I64
  omega
/-- the entity that comes next is taken -/
theorem rdS_in {r : Rd} {b e : E} (hb : b.wf) (h : Next r b e) : ∃ t, r.rest = all b e ++ t ∧ ∀ k, k ≤ 6 → ∃ rk, rdS r b k = some (mix b e k, rk) ∧ rk = ⟨r.l, r.at_ + 6 + (smalls b e k).length, false⟩ ∧ ∃ u, rk.rest = u ∧ smalls b e 6 ++ t = smalls b e k ++ u := by
  obtain ⟨hf, hfm, hi, hk, t, ht⟩ := h
  refine ⟨t, ht, ?_⟩
  have hw := formed_wf hfm
  unfold all at ht
  rw [List.append_assoc] at ht
  intro k
  induction k with
  | zero =>
    intro _
    obtain ⟨e1, e2⟩ := flags_in hf ht 6 (by omega)
    refine ⟨rdF r 6, rfl, ?_, (rdF r 6).rest, rfl, ?_⟩
    · rw [e1]; simp [smalls]
    · rw [e2]
      have : (flags b e 6).drop 6 = [] := by rw [List.drop_of_length_le (by rw [flags_len]; omega)]
      rw [this]; simp [smalls]
  | succ k ih =>
    intro hk6
    obtain ⟨rk, e1, e2, u, e3, e4⟩ := ih (by omega)
    have hfl := flag_in hf ht (k := k) (by omega)
    have hfk : rk.fail = false := by rw [e2]
    have hm := mix_field b e k (by omega) k (by omega)
    rw [if_neg (by omega)] at hm
    -- what is left begins with this field's
    have hsplit : ∀ n, k + 1 + n = 6 → ∃ z, smalls b e 6 = smalls b e k ++ (small1 b e k ++ z) := by
      intro n hn
      have : ∀ n, ∃ z, smalls b e (k + 1 + n) = smalls b e k ++ (small1 b e k ++ z) := by
        intro n
        induction n with
        | zero => exact ⟨[], by rw [Nat.add_zero, smalls_succ, List.append_nil]⟩
        | succ n ihn =>
          obtain ⟨z, hz⟩ := ihn
          refine ⟨z ++ small1 b e (k + 1 + n), ?_⟩
          rw [← Nat.add_assoc, smalls_succ, hz]
          simp only [List.append_assoc]
      obtain ⟨z, hz⟩ := this n
      rw [hn] at hz
      exact ⟨z, hz⟩
    obtain ⟨z, hz⟩ := hsplit (6 - (k + 1)) (by omega)
    have hu : u = small1 b e k ++ (z ++ t) := by
      rw [hz, List.append_assoc, List.append_assoc] at e4
      exact (List.append_cancel_left e4).symm
    have hr1 : rdS r b (k + 1) = step (fl r k) k (mix b e k, rk) := by
      show (rdS r b k).bind (step (fl r k) k) = _
      rw [e1]; rfl
    by_cases hd : dif b e k = true
    · have hne : field b k ≠ field e k := by unfold dif at hd; simpa using hd
      have hsm : small1 b e k = sm (zig (wrap64 (field e k - field b k))) := by unfold small1; rw [if_pos hd]
      have hI := w64_i (field e k - field b k)
      have hrest : rk.rest = sm (zig (wrap64 (field e k - field b k))) ++ (z ++ t) := by rw [e3, hu, hsm]
      obtain ⟨a1, a2, a3⟩ := Rd.sTake_bits hfk hrest (zig_lt hI.1 hI.2)
      have hd0 : ¬ rk.sTell = 0 := by
        rw [a1]
        exact fun h0 => hne (wrap_zero (field_wf hb k (by omega)) (field_wf hw k (by omega)) h0)
      refine ⟨rk.sTake, ?_, ?_, _, rfl, ?_⟩
      · rw [hr1, hfl, hd]
        unfold step
        rw [if_pos rfl, if_neg hd0]
        simp only
        rw [a1, hm, wrap_back (field_wf hb k (by omega)) (field_wf hw k (by omega))]
        rfl
      · rw [a2, e2, smalls_succ, List.length_append, hsm]
        show (⟨r.l, r.at_ + 6 + (smalls b e k).length + _, false⟩ : Rd) = _
        rw [Nat.add_assoc (r.at_ + 6)]
      · rw [a3, smalls_succ b e k, hz]; simp only [List.append_assoc]
    · have hd' : dif b e k = false := by simpa using hd
      have heq : field b k = field e k := by unfold dif at hd'; simpa using hd'
      have hsm : small1 b e k = [] := by unfold small1; rw [if_neg hd]
      refine ⟨rk, ?_, ?_, u, e3, ?_⟩
      · rw [hr1, hfl, hd']
        unfold step
        rw [if_neg (by decide)]
        have : mix b e (k + 1) = mix b e k := by
          show put (mix b e k) k (field e k) = _
          refine ext (put_id _ _ _).1 (put_id _ _ _).2 ?_
          intro j hj
          rw [field_put _ _ k (by omega) j hj]
          by_cases h : k = j
          · subst h; rw [if_pos rfl, hm, heq]
          · rw [if_neg h]
        rw [this]
      · rw [e2, smalls_succ, hsm, List.append_nil]
      · rw [smalls_succ b e k, hsm, List.append_nil]; exact e4
theorem next_read {r : Rd} {b e : E} (hb : b.wf) (h : Next r b e) : rdS r b 6 = some (e, ⟨r.l, r.at_ + (all b e).length, false⟩) := by
  obtain ⟨t, ht, hall⟩ := rdS_in hb h
  obtain ⟨rk, e1, e2, _⟩ := hall 6 (by omega)
  rw [e1, e2, mix_all h.2.2.1 h.2.2.2.1]
  unfold all
  rw [List.length_append, flags_len, Nat.add_assoc]
theorem next_uniq {r : Rd} {b e e' : E} (hb : b.wf) (h : Next r b e) (h' : Next r b e') : e = e' := by
  have := (next_read hb h).symm.trans (next_read hb h')
  simp at this
  exact this.1

/-- behind k fields: what was read so far -/
structure Sofar (r : Rd) (b : E) (k : Nat) (e : E) (rk : Rd) : Prop where
  id : e.id = b.id
  kind : e.kind = b.kind
  wf : e.wf
  same : ∀ j, k ≤ j → j < 6 → field e j = field b j
  told : ∀ j, j < k → j < 6 → dif b e j = fl r j
  bits : (rdF r 6).rest = smalls b e k ++ rk.rest
  len : rk.l = r.l
  at_ : rk.at_ = (rdF r 6).at_ + (smalls b e k).length
theorem small1_put {b e : E} {k j : Nat} {x : Int} (hk : k < 6) (hj : j < 6) (h : j ≠ k) : dif b (put e k x) j = dif b e j ∧ small1 b (put e k x) j = small1 b e j := by
  have hf := field_put e x k hk j hj
  rw [if_neg (by omega)] at hf
  have hd : dif b (put e k x) j = dif b e j := by unfold dif; rw [hf]
  refine ⟨hd, ?_⟩
  unfold small1
  rw [hd, hf]
theorem smalls_put {b e : E} {k : Nat} {x : Int} (hk : k < 6) : ∀ j, j ≤ k → smalls b (put e k x) j = smalls b e j
  | 0, _ => rfl
  | j + 1, hj => by rw [smalls_succ, smalls_succ, smalls_put hk j (by omega), (small1_put hk (by omega) (by omega)).2]
theorem put_wf {e : E} {k : Nat} {x : Int} (h : e.wf) (hx : I64 x) : (put e k x).wf := by
  obtain ⟨h0, h1, h2, h3, h4, h5, h6, h7⟩ := h
  unfold put
  split
  · exact ⟨h0, h1, hx, h3, h4, h5, h6, h7⟩
  · exact ⟨h0, h1, h2, hx, h4, h5, h6, h7⟩
  · exact ⟨h0, h1, h2, h3, hx, h5, h6, h7⟩
  · exact ⟨h0, h1, h2, h3, h4, hx, h6, h7⟩
  · exact ⟨h0, h1, h2, h3, h4, h5, hx, h7⟩
  · exact ⟨h0, h1, h2, h3, h4, h5, h6, hx⟩
  · exact ⟨h0, h1, h2, h3, h4, h5, h6, h7⟩
theorem step_fail {f : Bool} {k : Nat} {s s' : E × Rd} (h : step f k s = some s') (hf : s'.2.fail = false) : s.2.fail = false := by
  unfold step at h
  cases f with
  | false => simp at h; subst h; exact hf
  | true =>
    rw [if_pos rfl] at h
    split at h
    · cases h
    · simp at h; subst h; exact Rd.sfail_of hf
theorem sofar {r : Rd} {b : E} (hb : b.wf) : ∀ {k : Nat} {e : E} {rk : Rd}, k ≤ 6 → rdS r b k = some (e, rk) → rk.fail = false → Sofar r b k e rk
  | 0, e, rk, _, h, hf => by
    have h' : some (b, rdF r 6) = some (e, rk) := h
    simp at h'
    obtain ⟨rfl, rfl⟩ := h'
    exact ⟨rfl, rfl, hb, fun _ _ _ => rfl, fun j h => absurd h (by omega), rfl, rdF_l r 6, by simp [smalls]⟩
  | k + 1, e, rk, hk, h, hf => by
    have h' : (rdS r b k).bind (step (fl r k) k) = some (e, rk) := h
    cases hs : rdS r b k with
    | none => rw [hs] at h'; cases h'
    | some p =>
      obtain ⟨e0, r0⟩ := p
      rw [hs] at h'
      have hst : step (fl r k) k (e0, r0) = some (e, rk) := h'
      have hf0 : r0.fail = false := step_fail hst hf
      have S := sofar hb (by omega) hs hf0
      unfold step at hst
      cases hfl : fl r k with
      | false =>
        rw [hfl, if_neg (by decide)] at hst
        simp at hst
        obtain ⟨rfl, rfl⟩ := hst
        have hd : dif b e0 k = false := by unfold dif; rw [S.same k (by omega) (by omega)]; simp
        have hsm : small1 b e0 k = [] := by unfold small1; rw [hd, if_neg (by decide)]
        refine ⟨S.id, S.kind, S.wf, fun j h1 h2 => S.same j (by omega) h2, ?_, ?_, S.len, ?_⟩
        · intro j h1 h2
          by_cases e : j = k
          · subst e; rw [hd, hfl]
          · exact S.told j (by omega) h2
        · rw [smalls_succ, hsm, List.append_nil]; exact S.bits
        · rw [smalls_succ, hsm, List.append_nil]; exact S.at_
      | true =>
        rw [hfl, if_pos rfl] at hst
        by_cases hd0 : r0.sTell = 0
        · rw [if_pos hd0] at hst; cases hst
        · rw [if_neg hd0] at hst
          simp at hst
          obtain ⟨rfl, rfl⟩ := hst
          obtain ⟨z1, z2, z3⟩ := Rd.sTake_ok hf
          have hI : I64 r0.sTell := Rd.sTell_i64 r0
          have hbk := S.same k (by omega) (by omega)
          have hfb := field_wf hb k (by omega)
          have hfk := field_put e0 (wrap64 (field e0 k + r0.sTell)) k (by omega) k (by omega)
          rw [if_pos rfl, hbk] at hfk
          have hd : dif b (put e0 k (wrap64 (field e0 k + r0.sTell))) k = true := by
            unfold dif
            rw [hbk, hfk]
            have := wrap_other hfb hI hd0
            simp
            exact fun h => this h.symm
          have hsm : small1 b (put e0 k (wrap64 (field e0 k + r0.sTell))) k = sm (zig r0.sTell) := by
            unfold small1
            rw [hd, if_pos rfl]
            rw [hbk, hfk, wrap_diff hfb hI]
          have hp := put_id e0 k (wrap64 (field e0 k + r0.sTell))
          refine ⟨hp.1.trans S.id, hp.2.trans S.kind, put_wf S.wf (w64_i _), ?_, ?_, ?_, (Rd.sTake_l r0).trans S.len, ?_⟩
          · intro j h1 h2
            rw [field_put _ _ k (by omega) j h2, if_neg (by omega)]
            exact S.same j (by omega) h2
          · intro j h1 h2
            by_cases e : j = k
            · subst e; rw [hd, hfl]
            · rw [(small1_put (by omega) h2 e).1]; exact S.told j (by omega) h2
          · rw [smalls_succ, smalls_put (by omega) k (Nat.le_refl _), hsm, List.append_assoc, ← z2]; exact S.bits
          · rw [smalls_succ, smalls_put (by omega) k (Nat.le_refl _), hsm, List.length_append, z3]
            show r0.at_ + _ = _
            rw [S.at_]; omega
theorem rdS_fail {r : Rd} {b : E} : ∀ {k : Nat} {e : E} {rk : Rd}, rdS r b k = some (e, rk) → rk.fail = false → (rdF r 6).fail = false
  | 0, e, rk, h, hf => by
    have h' : some (b, rdF r 6) = some (e, rk) := h
    simp at h'
    rw [h'.2]; exact hf
  | k + 1, e, rk, h, hf => by
    have h' : (rdS r b k).bind (step (fl r k) k) = some (e, rk) := h
    cases hs : rdS r b k with
    | none => rw [hs] at h'; cases h'
    | some p =>
      obtain ⟨e0, r0⟩ := p
      rw [hs] at h'
      exact rdS_fail hs (step_fail (s := (e0, r0)) h' hf)
theorem flags_taken {r : Rd} : ∀ {k : Nat}, (rdF r k).fail = false → r.rest = (List.range k).map (fl r) ++ (rdF r k).rest ∧ (rdF r k).at_ = r.at_ + k
  | 0, _ => ⟨by simp [rdF], rfl⟩
  | k + 1, h => by
    obtain ⟨h1, h2⟩ := flags_taken (r := r) (k := k) (Rd.fail_of h)
    have h3 : (rdF r k).rest = fl r k :: (rdF r (k + 1)).rest := bit_taken h
    have h4 := (Rd.take_ok (n := 1) h).2.2.2.1
    refine ⟨?_, ?_⟩
    · rw [List.range_succ, List.map_append, List.append_assoc]
      show r.rest = (List.range k).map (fl r) ++ ([fl r k] ++ (rdF r (k + 1)).rest)
      rw [List.singleton_append, ← h3]; exact h1
    · have : (rdF r (k + 1)).at_ = (rdF r k).at_ + 1 := by
        show ((rdF r k).take ((1 : Nat) : Int)).at_ = _
        rw [h4]
      rw [this, h2]; omega
/-- what was read, and is formed, is what came -/
theorem next_of {r rk : Rd} {b e : E} (hb : b.wf) (h : rdS r b 6 = some (e, rk)) (hf : rk.fail = false) (hfm : Formed e) : Next r b e ∧ rk = ⟨r.l, r.at_ + (all b e).length, false⟩ := by
  have S := sofar hb (by omega) h hf
  have h6 := rdS_fail h hf
  obtain ⟨h1, h2⟩ := flags_taken h6
  have hfl : (List.range 6).map (fl r) = flags b e 6 := by
    unfold flags
    apply List.map_congr_left
    intro i hi
    rw [List.mem_range] at hi
    exact (S.told i hi hi).symm
  refine ⟨⟨rdF_fail h6, hfm, S.id.symm, S.kind.symm, rk.rest, ?_⟩, ?_⟩
  · unfold all
    rw [List.append_assoc, ← S.bits, ← hfl]; exact h1
  · have e1 := S.len
    have e2 := S.at_
    obtain ⟨l, a, f⟩ := rk
    simp only at e1 e2 hf
    subst e1 hf
    unfold all
    rw [List.length_append, flags_len]
    congr 1
    omega
theorem none_of {r : Rd} {b : E} (hb : b.wf) (h : rdS r b 6 = none) : ∀ e, ¬ Next r b e := by
  intro e hn
  rw [next_read hb hn] at h
  cases h
theorem none_fail {r rk : Rd} {b e : E} (hb : b.wf) (h : rdS r b 6 = some (e, rk)) (hf : rk.fail = true ∨ ¬ Formed e) : ∀ e, ¬ Next r b e := by
  intro e' hn
  rw [next_read hb hn] at h
  simp at h
  obtain ⟨rfl, rfl⟩ := h
  rcases hf with hf | hf
  · cases hf
  · exact hf hn.2.1
theorem rdS_none {r : Rd} {b : E} {j : Nat} (hj : j + 1 ≤ 6) (h : rdS r b (j + 1) = none) : rdS r b 6 = none := by
  have : ∀ n, rdS r b (j + 1 + n) = none := by
    intro n
    induction n with
    | zero => exact h
    | succ n ih =>
      show (rdS r b (j + 1 + n)).bind _ = none
      rw [ih]; rfl
  have := this (6 - (j + 1))
  rw [show j + 1 + (6 - (j + 1)) = 6 by omega] at this
  exact this
end Go.Proofs.Ytbfffgnalopfbaa.En

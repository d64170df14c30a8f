/- Rows of numbers: which are new, which are had (plain mathematics). -/
import Derived.Test.YtloobijdpchppaaSerTake
namespace Go.Proofs.Ytloobijdpchppaa.Sr
set_option linter.unusedVariables false
variable {l m n q : Int}

theorem ahead_steps (hq0 : 0 ≤ q) (hq : q < 65536) : ahead l (-(steps l q)) = q := by unfold ahead steps; omega
theorem steps_zero (hl0 : 0 ≤ l) (hl : l < 65536) (hq0 : 0 ≤ q) (hq : q < 65536) (h : steps l q = 0) : q = l := by unfold steps at h; omega
theorem steps_self (l : Int) : steps l l = 0 := by unfold steps; omega
theorem has_self (l m : Int) : has true l m l = true := by rw [has_ge (by rw [steps_self]; omega), steps_self]; rfl
theorem has_over (h : 0 < steps l q) : has true l m q = false := by rw [has_ge (by omega)]; simp; omega

/-- what is had behind a number that was new -/
theorem take_has (hl0 : 0 ≤ l) (hl : l < 65536) (hn0 : 0 ≤ n) (hn : n < 65536) (hm0 : 0 ≤ m) (hm : m < 4294967296) (hq0 : 0 ≤ q) (hq : q < 65536) (ho : ok true l m n = true)
    (h1 : -32 ≤ steps (last true l n) q) (h2 : steps (last true l n) q ≤ 0) :
    has true (last true l n) (mask true l m n) q = (decide (q = n) || has true l m q) := by
  have hL0 : 0 ≤ last true l n := last_lo hl0 hn0
  have hL : last true l n < 65536 := last_hi hl hn
  by_cases hz : steps (last true l n) q = 0
  · have e := steps_zero hL0 hL hq0 hq hz
    rw [has_ge (by omega), hz]
    by_cases hp : 0 < steps l n
    · rw [last_on hp] at e
      rw [decide_eq_true e]; rfl
    · rw [last_stay hp] at e
      rw [e, has_self]; simp
  · obtain ⟨t1, t2, t3, t4⟩ := take_bit hl0 hl hn0 hn hm0 hm ho (k := -(steps (last true l n) q)) (by omega) (by omega)
    rw [ahead_steps hq0 hq] at t1 t2 t3 t4
    rw [has_lt (by omega)]
    by_cases he : q = n
    · rw [t3 he, decide_eq_true he]; rfl
    · rw [decide_eq_false he, Bool.false_or]
      by_cases hs : 0 < steps l q
      · rw [(t2 hs).2, has_over hs]
      · exact t4 (by omega) he

/-- the number k on -/
def num (a : Int) (k : Nat) : Int := (a + k) % 65536
theorem num_lo (a : Int) (k : Nat) : 0 ≤ num a k := by unfold num; omega
theorem num_hi (a : Int) (k : Nat) : num a k < 65536 := by unfold num; omega
theorem steps_num {a : Int} {t k : Nat} (ht : t < 1000) (hk : k < 1000) : steps (num a t) (num a k) = k - t := by unfold steps num; omega
theorem num_inj {a : Int} {t k : Nat} (ht : t < 1000) (hk : k < 1000) : num a t = num a k ↔ t = k := by unfold num; omega

theorem ok_any {y : Bool} (ho : ok y l m n = false) : y = true := by
  cases y
  · rw [ok_none] at ho; cases ho
  · rfl

/-- of a row of numbers about a: those that were new, and the window behind -/
def Once (a : Int) (y : Bool) (l m : Int) (f : Nat → Bool) : Prop :=
  0 ≤ m ∧ m < 4294967296 ∧ (y = false → ∀ k, k < 1000 → f k = false) ∧
    (y = true → ∃ t : Nat, t < 1000 ∧ l = num a t ∧ ∀ k, k < 1000 → f k = true → k ≤ t ∧ (t ≤ k + 32 → has true l m (num a k) = true))
theorem Once.none (a : Int) : Once a false 0 0 (fun _ => false) :=
  ⟨by omega, by omega, fun _ _ _ => rfl, fun h => Bool.noConfusion h⟩
theorem Once.new {a : Int} {y : Bool} {l m : Int} {f : Nat → Bool} {k : Nat} (h : Once a y l m f) (hk : k < 1000) (ho : ok y l m (num a k) = true) :
    f k = false ∧ Once a true (last y l (num a k)) (mask y l m (num a k)) (fun i => if i = k then true else f i) ∧
      has true (last y l (num a k)) (mask y l m (num a k)) (num a k) = true ∧ (y = true → 0 ≤ steps l (last y l (num a k))) := by
  obtain ⟨hm0, hm, hn, hy⟩ := h
  have hM := mask_in (any := y) (l := l) (n := num a k) hm0 hm
  cases y
  · have hf := hn rfl
    refine ⟨hf k hk, ⟨hM.1, hM.2, fun h => Bool.noConfusion h, fun _ => ⟨k, hk, last_none, ?_⟩⟩, ?_, fun h => Bool.noConfusion h⟩
    · intro i hi hfi
      replace hfi : (if i = k then true else f i) = true := hfi
      by_cases hik : i = k
      · subst hik
        refine ⟨Nat.le_refl _, fun _ => ?_⟩
        rw [last_none]; exact has_self _ _
      · rw [if_neg hik, hf i hi] at hfi; cases hfi
    · rw [last_none]; exact has_self _ _
  · obtain ⟨t, ht, rfl, hs⟩ := hy rfl
    have b := steps_num (a := a) ht hk
    obtain ⟨hnot, hge⟩ := has_of_ok ho
    -- the latest behind
    obtain ⟨t', ht', eL, hle, hkt, hcase⟩ : ∃ t' : Nat, t' < 1000 ∧ last true (num a t) (num a k) = num a t' ∧ t ≤ t' ∧ k ≤ t' ∧ t' ≤ k + 32 := by
      by_cases hp : 0 < steps (num a t) (num a k)
      · exact ⟨k, hk, last_on hp, by omega, Nat.le_refl _, by omega⟩
      · exact ⟨t, ht, last_stay hp, Nat.le_refl _, by omega, by omega⟩
    have hT := fun (i : Nat) (hi : i < 1000) (h1 : i ≤ t') (h2 : t' ≤ i + 32) =>
      take_has (num_lo a t) (num_hi a t) (num_lo a k) (num_hi a k) hm0 hm (num_lo a i) (num_hi a i) ho
        (by rw [eL, steps_num ht' hi]; omega) (by rw [eL, steps_num ht' hi]; omega)
    refine ⟨?_, ⟨hM.1, hM.2, fun h => Bool.noConfusion h, fun _ => ⟨t', ht', eL, ?_⟩⟩, ?_, fun _ => ?_⟩
    · cases hfk : f k
      · rfl
      · obtain ⟨h1, h2⟩ := hs k hk hfk
        rw [h2 (by omega)] at hnot; cases hnot
    · intro i hi hfi
      replace hfi : (if i = k then true else f i) = true := hfi
      by_cases hik : i = k
      · subst hik
        refine ⟨hkt, fun h => ?_⟩
        rw [hT i hi hkt h]; simp
      · rw [if_neg hik] at hfi
        obtain ⟨h1, h2⟩ := hs i hi hfi
        refine ⟨by omega, fun h => ?_⟩
        rw [hT i hi (by omega) h, h2 (by omega)]; simp
    · rw [hT k hk hkt hcase]; simp
    · rw [eL, steps_num ht ht']; omega
theorem Once.same {a : Int} {y : Bool} {l m : Int} {f : Nat → Bool} {k : Nat} {v : Bool} (h : Once a y l m f) (hv : f k = v) : Once a y l m (fun i => if i = k then v else f i) := by
  have : (fun i => if i = k then v else f i) = f := by funext i; split; (rename_i e; rw [e, hv]); rfl
  rw [this]; exact h

/-- of 33 numbers from a on: those that were taken are had, the others are not -/
def Row (a : Int) (y : Bool) (l m : Int) (f : Nat → Bool) : Prop :=
  0 ≤ m ∧ m < 4294967296 ∧ (y = false → ∀ k, k < 33 → f k = false) ∧
    (y = true → ∃ t : Nat, t < 33 ∧ l = num a t ∧ ∀ k, k < 33 → has true l m (num a k) = f k)
theorem Row.none (a : Int) : Row a false 0 0 (fun _ => false) :=
  ⟨by omega, by omega, fun _ _ _ => rfl, fun h => Bool.noConfusion h⟩
theorem Row.had {a : Int} {y : Bool} {l m : Int} {f : Nat → Bool} {k : Nat} (h : Row a y l m f) (hk : k < 33) : has y l m (num a k) = f k := by
  obtain ⟨hm0, hm, hn, hy⟩ := h
  cases y
  · rw [hn rfl k hk]; rfl
  · obtain ⟨t, ht, rfl, hs⟩ := hy rfl
    exact hs k hk
theorem Row.isnew {a : Int} {y : Bool} {l m : Int} {f : Nat → Bool} {k : Nat} (h : Row a y l m f) (hk : k < 33) : ok y l m (num a k) = !f k := by
  have hh := h.had hk
  obtain ⟨hm0, hm, hn, hy⟩ := h
  cases y
  · rw [hn rfl k hk]; rfl
  · obtain ⟨t, ht, rfl, hs⟩ := hy rfl
    have b := steps_num (a := a) (t := t) (k := k) (by omega) (by omega)
    cases ho : ok true (num a t) m (num a k)
    · rw [has_of_not (by omega) ho] at hh; rw [← hh]; rfl
    · rw [(has_of_ok ho).1] at hh; rw [← hh]; rfl
theorem Row.next {a : Int} {y : Bool} {l m : Int} {f : Nat → Bool} {k : Nat} (h : Row a y l m f) (hk : k < 33) :
    Row a true (last y l (num a k)) (mask y l m (num a k)) (fun i => if i = k then true else f i) := by
  have hnew := h.isnew hk
  obtain ⟨hm0, hm, hn, hy⟩ := h
  have hM := mask_in (any := y) (l := l) (n := num a k) hm0 hm
  refine ⟨hM.1, hM.2, fun h => Bool.noConfusion h, fun _ => ?_⟩
  cases y
  · refine ⟨k, hk, last_none, fun i hi => ?_⟩
    show has true _ _ (num a i) = if i = k then true else f i
    rw [last_none, mask_none]
    have b := steps_num (a := a) (t := k) (k := i) (by omega) (by omega)
    by_cases hik : i = k
    · subst hik; rw [if_pos rfl]; exact has_self _ _
    · rw [if_neg hik, hn rfl i hi]
      by_cases hlt : k < i
      · exact has_over (by omega)
      · rw [has_lt (by omega)]; unfold tb; simp
  · obtain ⟨t, ht, rfl, hs⟩ := hy rfl
    have b := steps_num (a := a) (t := t) (k := k) (by omega) (by omega)
    cases ho : ok true (num a t) m (num a k)
    · have hp := not_on ho
      rw [last_stay hp, mask_stay hp ho]
      refine ⟨t, ht, rfl, fun i hi => ?_⟩
      show has true _ _ (num a i) = if i = k then true else f i
      rw [ho] at hnew
      by_cases hik : i = k
      · subst hik; rw [if_pos rfl, hs i hi]; simpa using hnew
      · rw [if_neg hik]; exact hs i hi
    · obtain ⟨t', ht', eL, hle, hkt⟩ : ∃ t' : Nat, t' < 33 ∧ last true (num a t) (num a k) = num a t' ∧ t ≤ t' ∧ k ≤ t' := by
        by_cases hp : 0 < steps (num a t) (num a k)
        · exact ⟨k, hk, last_on hp, by omega, Nat.le_refl _⟩
        · exact ⟨t, ht, last_stay hp, Nat.le_refl _, by omega⟩
      refine ⟨t', ht', eL, fun i hi => ?_⟩
      show has true _ _ (num a i) = if i = k then true else f i
      have b' := steps_num (a := a) (t := t') (k := i) (by omega) (by omega)
      have b2 := steps_num (a := a) (t := t) (k := i) (by omega) (by omega)
      by_cases hlt : t' < i
      · rw [eL, has_over (by omega), if_neg (by omega), ← hs i hi, has_over (by omega)]
      · rw [take_has (num_lo a t) (num_hi a t) (num_lo a k) (num_hi a k) hm0 hm (num_lo a i) (num_hi a i) ho (by rw [eL]; omega) (by rw [eL]; omega), hs i hi]
        by_cases hik : i = k
        · subst hik; simp
        · rw [if_neg hik, decide_eq_false (fun e => hik ((num_inj (by omega) (by omega)).1 e))]; simp
end Go.Proofs.Ytloobijdpchppaa.Sr

/- Commands, as the program reads them: what was laid on is taken off, and of 255 comes -128, which is not formed. -/
import Derived.Test.YtodfgekhffeapaaCmdPlain2
namespace Go.Proofs.Ytodfgekhffeapaa.Cm
open Bt
set_option linter.unusedVariables false

def off (a : Nat) : Int := if a < 255 then (a : Int) - 127 else -128
def pdOne (r : Rd) (m : Nat) : C × Rd :=
  if ((r.take 8).take 8).tell 1 = 1 then (⟨m, off (r.tell 8), off ((r.take 8).tell 8), true, (((r.take 8).take 8).take 1).tell 32, ((((r.take 8).take 8).take 1).take 32).tell 8⟩, ((((r.take 8).take 8).take 1).take 32).take 8)
  else (⟨m, off (r.tell 8), off ((r.take 8).tell 8), false, 0, 0⟩, ((r.take 8).take 8).take 1)
theorem pdOne_rd (r : Rd) (m : Nat) : (pdOne r m).2 = (rdOne r m).2 := by
  unfold pdOne rdOne
  simp only
  split <;> rfl
theorem pdOne_fits {r : Rd} {m : Nat} (h : Fits r) : pdOne r m = rdOne r m := by
  have h1 : off (r.tell 8) = (r.tell 8 : Int) - 127 := by unfold off; rw [if_pos h.1]
  have h2 : off ((r.take 8).tell 8) = ((r.take 8).tell 8 : Int) - 127 := by unfold off; rw [if_pos h.2]
  by_cases hc : ((r.take 8).take 8).tell 1 = 1
  · rw [rdOne_fire h hc]
    unfold pdOne
    rw [if_pos hc, h1, h2]
  · rw [rdOne_calm h hc]
    unfold pdOne
    rw [if_neg hc, h1, h2]
theorem pdOne_not {r : Rd} {m : Nat} (h : ¬ Fits r) : ¬ Formed (pdOne r m).1 := by
  have hx : (pdOne r m).1.x = off (r.tell 8) ∧ (pdOne r m).1.y = off ((r.take 8).tell 8) := by
    unfold pdOne
    split <;> exact ⟨rfl, rfl⟩
  rintro ⟨_, _, h3, h4, _⟩
  rw [hx.1] at h3
  rw [hx.2] at h4
  refine h ⟨?_, ?_⟩
  · unfold off at h3
    split at h3
    · assumption
    · omega
  · unfold off at h4
    split at h4
    · assumption
    · omega
theorem off_rng (a : Nat) : -128 ≤ off a ∧ off a < 128 := by
  unfold off
  split <;> omega
theorem pdOne_wf (r : Rd) (m : Nat) (hm : m < 4294967296) : (pdOne r m).1.wf := by
  have h2 := tell_pow (((r.take 8).take 8).take 1) 32
  have h3 := tell_pow ((((r.take 8).take 8).take 1).take 32) 8
  have e2 : (((r.take 8).take 8).take 1).tell 32 < 4294967296 := h2
  have e3 : ((((r.take 8).take 8).take 1).take 32).tell 8 < 256 := h3
  have h4 := off_rng (r.tell 8)
  have h5 := off_rng ((r.take 8).tell 8)
  unfold pdOne C.wf
  split
  · exact ⟨hm, h4.1, h4.2, h5.1, h5.2, e2, e3⟩
  · exact ⟨hm, h4.1, h4.2, h5.1, h5.2, by simp, by simp⟩
/-- k commands are taken -/
def pdN (r : Rd) (m : Nat) : Nat → List C × Rd
  | 0 => ([], r)
  | k + 1 => ((pdN r m k).1 ++ [(pdOne (pdN r m k).2 ((m + k) % 4294967296)).1], (pdOne (pdN r m k).2 ((m + k) % 4294967296)).2)
theorem pdN_length (r : Rd) (m : Nat) : ∀ k, (pdN r m k).1.length = k
  | 0 => rfl
  | k + 1 => by show ((pdN r m k).1 ++ [_]).length = k + 1; rw [List.length_append, pdN_length r m k]; rfl
theorem pdN_rd (r : Rd) (m : Nat) : ∀ k, (pdN r m k).2 = (rdN r m k).2
  | 0 => rfl
  | k + 1 => by
    show (pdOne (pdN r m k).2 ((m + k) % 4294967296)).2 = (rdOne (rdN r m k).2 ((m + k) % 4294967296)).2
    rw [pdOne_rd, pdN_rd r m k]
theorem pdN_fits {r : Rd} {m : Nat} : ∀ {k : Nat}, (∀ j, j < k → Fits (rdN r m j).2) → pdN r m k = rdN r m k
  | 0, _ => rfl
  | k + 1, h => by
    have h1 := pdN_fits (r := r) (m := m) (k := k) fun j hj => h j (by omega)
    show ((pdN r m k).1 ++ [(pdOne (pdN r m k).2 ((m + k) % 4294967296)).1], (pdOne (pdN r m k).2 ((m + k) % 4294967296)).2) = ((rdN r m k).1 ++ [(rdOne (rdN r m k).2 ((m + k) % 4294967296)).1], (rdOne (rdN r m k).2 ((m + k) % 4294967296)).2)
    rw [h1, pdOne_fits (h k (by omega))]
theorem pdN_at {r : Rd} {m j : Nat} : ∀ {k : Nat}, j < k → (pdN r m k).1[j]? = some (pdOne (rdN r m j).2 ((m + j) % 4294967296)).1
  | 0, h => absurd h (by omega)
  | k + 1, h => by
    show ((pdN r m k).1 ++ [(pdOne (pdN r m k).2 ((m + k) % 4294967296)).1])[j]? = _
    by_cases e : j = k
    · subst e
      rw [List.getElem?_append_right (by rw [pdN_length]; omega), pdN_length, Nat.sub_self, pdN_rd]
      rfl
    · rw [List.getElem?_append_left (by rw [pdN_length]; omega)]
      exact pdN_at (by omega)
theorem pdN_wf (r : Rd) (m : Nat) : ∀ k, ∀ c ∈ (pdN r m k).1, c.wf
  | 0 => by intro c hc; cases hc
  | k + 1 => by
    intro c hc
    rcases List.mem_append.1 (show c ∈ (pdN r m k).1 ++ [_] from hc) with hc | hc
    · exact pdN_wf r m k c hc
    · simp at hc; subst hc; exact pdOne_wf _ _ (Nat.mod_lt _ (by omega))
/-- a whole row is taken, whatever comes -/
def pdRow (r : Rd) : List C × Rd := pdN ((r.take 3).take 32) ((r.take 3).tell 32) (r.tell 3 + 1)
theorem pdRow_rd (r : Rd) : (pdRow r).2 = (rdRow r).2 := pdN_rd _ _ _
theorem pdRow_wf (r : Rd) : ∀ c ∈ (pdRow r).1, c.wf := pdN_wf _ _ _
theorem pdRow_length (r : Rd) : (pdRow r).1.length = r.tell 3 + 1 := pdN_length _ _ _
theorem pd_fits {r : Rd} (hr : row (pdRow r).1 = true) : ∀ j, j < r.tell 3 + 1 → Fits (rdN ((r.take 3).take 32) ((r.take 3).tell 32) j).2 := by
  intro j hj
  by_cases h : Fits (rdN ((r.take 3).take 32) ((r.take 3).tell 32) j).2
  · exact h
  · exact absurd (((row_iff _).1 hr).2.2 j _ (pdN_at hj)).1 (pdOne_not h)
theorem pd_same {r : Rd} (h : ∀ j, j < r.tell 3 + 1 → Fits (rdN ((r.take 3).take 32) ((r.take 3).tell 32) j).2) : pdRow r = rdRow r := pdN_fits h
theorem pd_next {r : Rd} (hf : (pdRow r).2.fail = false) (hr : row (pdRow r).1 = true) : Next r (pdRow r).1 ∧ (pdRow r).2 = ⟨r.l, r.at_ + (all (pdRow r).1).length, false⟩ := by
  have hx := pd_fits hr
  have e := pd_same hx
  rw [e] at hf hr ⊢
  have hn := next_of_fits hf hr hx
  exact ⟨hn, congrArg Prod.snd (next_read hn)⟩
theorem pd_fail {r : Rd} (h : (pdRow r).2.fail = true) : ∀ l, ¬ Next r l := none_fail (by rw [← pdRow_rd]; exact h)
theorem pd_none {r : Rd} (h : row (pdRow r).1 = false) : ∀ l, ¬ Next r l := by
  intro l hn
  have hl := (next_head hn).1
  have e := pd_same (r := r) fun j hj => next_fits hn j (by omega)
  rw [e, next_read hn, hn.2.1] at h
  cases h
theorem pd_cut {r : Rd} {l : List C} {s : List Bool} (hw : r.wf) (h : Next (r.on s) l) (hs : r.rest.length < (all l).length) : (pdRow r).2.fail = true := by
  rw [pdRow_rd]; exact cut_fails hw h hs
end Go.Proofs.Ytodfgekhffeapaa.Cm

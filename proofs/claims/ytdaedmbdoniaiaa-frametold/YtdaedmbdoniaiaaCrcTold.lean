/- Four bytes of a row laid over: what the row is then, and its sum. -/
import Derived.Test.YtdaedmbdoniaiaaCrcLaw
import Derived.ChangeKeysEq
import Derived.Laws.StructEq
namespace Go.Proofs.Ytdaedmbdoniaiaa
open Go.RowKit
set_option linter.unusedVariables false

namespace Cr
/-- the first j bytes of bs laid over l from k on -/
def upd (l : List Nat) (k : Nat) (bs : List Nat) : Nat → List Nat
  | 0 => l
  | j + 1 => (upd l k bs j).set (k + j) (l.getD (k + j) 0 ^^^ bs.getD j 0)
theorem upd_length (l : List Nat) (k : Nat) (bs : List Nat) : ∀ j, (upd l k bs j).length = l.length
  | 0 => rfl
  | j + 1 => by show (List.set _ _ _).length = _; rw [List.length_set]; exact upd_length l k bs j
theorem upd_past (l : List Nat) (k : Nat) (bs : List Nat) : ∀ j i, k + j ≤ i → (upd l k bs j).getD i 0 = l.getD i 0
  | 0, _, _ => rfl
  | j + 1, i, h => by
    show (List.set (upd l k bs j) (k + j) _).getD i 0 = _
    rw [← upd_past l k bs j i (by omega)]
    simp [List.getD, List.getElem?_set_ne (show k + j ≠ i by omega)]
theorem upd_lt {l bs : List Nat} (k : Nat) (hl : ∀ x ∈ l, x < 256) (hb : ∀ x ∈ bs, x < 256) : ∀ j, ∀ x ∈ upd l k bs j, x < 256
  | 0 => hl
  | j + 1 => by
    intro x hx
    rcases List.mem_or_eq_of_mem_set hx with h | rfl
    · exact upd_lt k hl hb j x h
    · exact Nat.xor_lt_two_pow (n := 8) (byte_at hl _) (byte_at hb _)
theorem parts {l : List Nat} {k : Nat} (h : k + 4 ≤ l.length) : ∃ pre x0 x1 x2 x3 post, l = pre ++ ([x0, x1, x2, x3] ++ post) ∧ pre.length = k := by
  refine ⟨l.take k, l[k], l[k + 1], l[k + 2], l[k + 3], l.drop (k + 4), ?_, by rw [List.length_take]; omega⟩
  have e0 := List.drop_eq_getElem_cons (show k < l.length by omega)
  have e1 := List.drop_eq_getElem_cons (show k + 1 < l.length by omega)
  have e2 := List.drop_eq_getElem_cons (show k + 2 < l.length by omega)
  have e3 := List.drop_eq_getElem_cons (show k + 3 < l.length by omega)
  have := List.take_append_drop k l
  rw [e0, e1, e2, e3] at this
  exact this.symm
theorem upd_four {l : List Nat} {k b0 b1 b2 b3 : Nat} (h : k + 4 ≤ l.length) (hl : ∀ x ∈ l, x < 256) (h0 : b0 < 256) (h1 : b1 < 256) (h2 : b2 < 256) (h3 : b3 < 256) :
    (sum (upd l k [b0, b1, b2, b3] 4) = sum l) ↔ (b0 = 0 ∧ b1 = 0 ∧ b2 = 0 ∧ b3 = 0) := by
  obtain ⟨pre, x0, x1, x2, x3, post, rfl, rfl⟩ := parts h
  have e : upd (pre ++ ([x0, x1, x2, x3] ++ post)) pre.length [b0, b1, b2, b3] 4 = pre ++ ([x0 ^^^ b0, x1 ^^^ b1, x2 ^^^ b2, x3 ^^^ b3] ++ post) := by
    simp [upd, List.set_append_right]
  rw [e]
  have lt8 : ∀ {a b : Nat}, a < 256 → b < 256 → a ^^^ b < 256 := fun ha hb => Nat.xor_lt_two_pow (n := 8) ha hb
  have y0 := hl x0 (by simp)
  have y1 := hl x1 (by simp)
  have y2 := hl x2 (by simp)
  have y3 := hl x3 (by simp)
  have z : ∀ {x b : Nat}, x ^^^ b = x → b = 0 := by
    intro x b hx
    have : x ^^^ (x ^^^ b) = x ^^^ x := by rw [hx]
    rw [← Nat.xor_assoc, Nat.xor_self, Nat.zero_xor] at this
    exact this
  constructor
  · intro hs
    obtain ⟨r0, r1, r2, r3⟩ := tells (fun b hb => hl b (by simp [hb])) (fun b hb => hl b (by simp [hb])) (lt8 y0 h0) (lt8 y1 h1) (lt8 y2 h2) (lt8 y3 h3) y0 y1 y2 y3 hs
    exact ⟨z r0, z r1, z r2, z r3⟩
  · rintro ⟨rfl, rfl, rfl, rfl⟩
    simp
end Cr
namespace CrL
/-- three rows laid over one another, as long as the first -/
def mix (la lb lc : List Nat) : List Nat := Cr.over (Cr.over la lb) lc
theorem over_at : ∀ {l r : List Nat} {j : Nat}, j < l.length → j < r.length → (Cr.over l r).getD j 0 = l.getD j 0 ^^^ r.getD j 0
  | a :: l, b :: r, 0, _, _ => rfl
  | a :: l, b :: r, j + 1, h, h' => by
    show (Cr.over l r).getD j 0 = l.getD j 0 ^^^ r.getD j 0
    exact over_at (by simpa using h) (by simpa using h')
  | [], _, _, h, _ => by simp at h
  | _ :: _, [], _, _, h => by simp at h
theorem over_len : ∀ {l r : List Nat}, l.length ≤ r.length → (Cr.over l r).length = l.length
  | [], _, _ => by simp [Cr.over]
  | a :: l, b :: r, h => by show (Cr.over l r).length + 1 = l.length + 1; rw [over_len (by simpa using h)]
  | _ :: _, [], h => by simp at h
theorem over_take : ∀ {l r : List Nat}, l.length ≤ r.length → Cr.over l r = Cr.over l (r.take l.length)
  | [], _, _ => by simp [Cr.over]
  | a :: l, b :: r, h => by show (a ^^^ b) :: Cr.over l r = (a ^^^ b) :: Cr.over l (r.take l.length); rw [over_take (by simpa using h)]
  | _ :: _, [], h => by simp at h
theorem mix_len {la lb lc : List Nat} (h : la.length ≤ lb.length) (h' : la.length ≤ lc.length) : (mix la lb lc).length = la.length := by
  unfold mix; rw [over_len (by rw [over_len h]; exact h'), over_len h]
theorem mix_next {la lb lc : List Nat} {j : Nat} (h : j < la.length) (h1 : la.length ≤ lb.length) (h2 : la.length ≤ lc.length) :
    (mix la lb lc).take j ++ [(la.getD j 0 ^^^ lb.getD j 0) ^^^ lc.getD j 0] = (mix la lb lc).take (j + 1) := by
  have hl : j < (mix la lb lc).length := by rw [mix_len h1 h2]; exact h
  have e : (mix la lb lc).getD j 0 = (la.getD j 0 ^^^ lb.getD j 0) ^^^ lc.getD j 0 := by
    unfold mix
    rw [over_at (by rw [over_len h1]; exact h) (by omega), over_at h (by omega)]
  rw [List.take_add_one, List.getElem?_eq_getElem hl, ← e]
  simp [List.getD, List.getElem?_eq_getElem hl]
theorem mix_lt {la lb lc : List Nat} (ha : ∀ x ∈ la, x < 256) (hb : ∀ x ∈ lb, x < 256) (hc : ∀ x ∈ lc, x < 256) : ∀ x ∈ mix la lb lc, x < 256 := Cr.over_lt (Cr.over_lt ha hb) hc
theorem mix_turns {la lb lc : List Nat} (h1 : la.length ≤ lb.length) (h2 : la.length ≤ lc.length) (ha : ∀ x ∈ la, x < 256) (hb : ∀ x ∈ lb, x < 256) (hc : ∀ x ∈ lc, x < 256) :
    ((Cr.sum la ^^^ Cr.sum (lb.take la.length)) ^^^ Cr.sum (lc.take la.length)) ^^^ Cr.sum (mix la lb lc) = 0 := by
  have e : mix la lb lc = Cr.over (Cr.over la (lb.take la.length)) (lc.take la.length) := by
    unfold mix
    rw [over_take h1, over_take (l := Cr.over la (lb.take la.length)) (by rw [over_len (by rw [List.length_take]; omega)]; exact h2), over_len (by rw [List.length_take]; omega)]
  rw [e]
  exact Cr.turns (by rw [List.length_take]; omega) (by rw [List.length_take]; omega) ha (Cr.take_lt hb _) (Cr.take_lt hc _)
end CrL

end Go.Proofs.Ytdaedmbdoniaiaa

/- Commands: what was read is what came; a row that is cut off fails the reader. -/
import Derived.Test.YtodfgekhffeapaaCmdPlain
namespace Go.Proofs.Ytodfgekhffeapaa.Cm
open Bt
set_option linter.unusedVariables false

/-- the two numbers of a command are none of eight bits that are all 1 -/
def Fits (r : Rd) : Prop := r.tell 8 < 255 ∧ (r.take 8).tell 8 < 255
theorem bit_of {r : Rd} (h : (r.take 1).fail = false) : r.rest = (if r.tell 1 = 1 then true else false) :: (r.take 1).rest := by
  obtain ⟨_, _, _, _, _, h6, h7⟩ := Rd.take_ok (n := 1) h
  have e6 : r.tell 1 < 2 := h6
  have e7 : r.rest = Bt.bits (r.tell 1) 1 ++ (r.take 1).rest := h7
  by_cases h1 : r.tell 1 = 1
  · rw [if_pos h1]; rw [h1] at e7; exact e7
  · rw [if_neg h1]
    have h0 : r.tell 1 = 0 := by omega
    rw [h0] at e7; exact e7
theorem bits_of {r : Rd} {n : Nat} (h : (r.take (n : Int)).fail = false) : r.rest = Bt.bits (r.tell (n : Int)) n ++ (r.take (n : Int)).rest := (Rd.take_ok h).2.2.2.2.2.2
theorem rdOne_fire {r : Rd} {m : Nat} (hx : Fits r) (hc : ((r.take 8).take 8).tell 1 = 1) :
    rdOne r m = (⟨m, (r.tell 8 : Int) - 127, ((r.take 8).tell 8 : Int) - 127, true, (((r.take 8).take 8).take 1).tell 32, ((((r.take 8).take 8).take 1).take 32).tell 8⟩, ((((r.take 8).take 8).take 1).take 32).take 8) := by
  have hx' : r.tell 8 < 255 ∧ (r.take 8).tell 8 < 255 := hx
  show (if ((r.take 8).take 8).tell 1 = 1 then _ else _) = _
  rw [if_pos hc]
  simp only [if_pos hx']
theorem rdOne_calm {r : Rd} {m : Nat} (hx : Fits r) (hc : ¬ ((r.take 8).take 8).tell 1 = 1) :
    rdOne r m = (⟨m, (r.tell 8 : Int) - 127, ((r.take 8).tell 8 : Int) - 127, false, 0, 0⟩, ((r.take 8).take 8).take 1) := by
  have hx' : r.tell 8 < 255 ∧ (r.take 8).tell 8 < 255 := hx
  show (if ((r.take 8).take 8).tell 1 = 1 then _ else _) = _
  rw [if_neg hc]
  simp only [if_pos hx']
theorem rdOne_off_fire {r : Rd} {m : Nat} (hx : ¬ Fits r) (hc : ((r.take 8).take 8).tell 1 = 1) :
    rdOne r m = (⟨m, 0, 0, true, (((r.take 8).take 8).take 1).tell 32, ((((r.take 8).take 8).take 1).take 32).tell 8⟩, ((((r.take 8).take 8).take 1).take 32).take 8) := by
  have hx' : ¬ (r.tell 8 < 255 ∧ (r.take 8).tell 8 < 255) := hx
  show (if ((r.take 8).take 8).tell 1 = 1 then _ else _) = _
  rw [if_pos hc]
  simp only [if_neg hx']
theorem rdOne_off_calm {r : Rd} {m : Nat} (hx : ¬ Fits r) (hc : ¬ ((r.take 8).take 8).tell 1 = 1) :
    rdOne r m = (⟨m, 0, 0, false, 0, 0⟩, ((r.take 8).take 8).take 1) := by
  have hx' : ¬ (r.tell 8 < 255 ∧ (r.take 8).tell 8 < 255) := hx
  show (if ((r.take 8).take 8).tell 1 = 1 then _ else _) = _
  rw [if_neg hc]
  simp only [if_neg hx']
/-- what was read of one command is what came -/
theorem rdOne_bits {r : Rd} {m : Nat} (h : (rdOne r m).2.fail = false) (hx : Fits r) : r.rest = one (rdOne r m).1 ++ (rdOne r m).2.rest := by
  have ea : ((r.tell 8 : Int) - 127 + 127).toNat = r.tell 8 := by omega
  have eb : (((r.take 8).tell 8 : Int) - 127 + 127).toNat = (r.take 8).tell 8 := by omega
  by_cases hc : ((r.take 8).take 8).tell 1 = 1
  · rw [rdOne_fire hx hc] at h ⊢
    have h' : (((((r.take 8).take 8).take 1).take 32).take 8).fail = false := h
    have f4 := Rd.fail_of h'
    have f3 := Rd.fail_of f4
    have f2 := Rd.fail_of f3
    have f1 := Rd.fail_of f2
    have e1 : r.rest = Bt.bits (r.tell 8) 8 ++ (r.take 8).rest := bits_of (n := 8) f1
    have e2 : (r.take 8).rest = Bt.bits ((r.take 8).tell 8) 8 ++ ((r.take 8).take 8).rest := bits_of (n := 8) f2
    have e3 := bit_of f3
    rw [if_pos hc] at e3
    have e4 : (((r.take 8).take 8).take 1).rest = Bt.bits ((((r.take 8).take 8).take 1).tell 32) 32 ++ ((((r.take 8).take 8).take 1).take 32).rest := bits_of (n := 32) f4
    have e5 : ((((r.take 8).take 8).take 1).take 32).rest = Bt.bits (((((r.take 8).take 8).take 1).take 32).tell 8) 8 ++ (((((r.take 8).take 8).take 1).take 32).take 8).rest := bits_of (n := 8) h'
    unfold one
    simp only
    rw [ea, eb, if_pos trivial]
    rw [e1, e2, e3, e4, e5]
    simp only [List.append_assoc, List.cons_append]
  · rw [rdOne_calm hx hc] at h ⊢
    have h' : (((r.take 8).take 8).take 1).fail = false := h
    have f2 := Rd.fail_of h'
    have f1 := Rd.fail_of f2
    have e1 : r.rest = Bt.bits (r.tell 8) 8 ++ (r.take 8).rest := bits_of (n := 8) f1
    have e2 : (r.take 8).rest = Bt.bits ((r.take 8).tell 8) 8 ++ ((r.take 8).take 8).rest := bits_of (n := 8) f2
    have e3 := bit_of h'
    rw [if_neg hc] at e3
    unfold one
    simp only
    rw [ea, eb, if_neg (by decide)]
    rw [e1, e2, e3]
    simp only [List.append_assoc, List.cons_append, List.nil_append]
theorem rdN_bits {r : Rd} {m : Nat} : ∀ {k : Nat}, (rdN r m k).2.fail = false → (∀ j, j < k → Fits (rdN r m j).2) → r.rest = some_ (rdN r m k).1 ++ (rdN r m k).2.rest
  | 0, _, _ => rfl
  | k + 1, h, hx => by
    have h1 := rdN_bits (r := r) (m := m) (k := k) (rdOne_fail h) fun j hj => hx j (by omega)
    have h2 := rdOne_bits (m := (m + k) % 4294967296) h (hx k (by omega))
    show r.rest = some_ ((rdN r m k).1 ++ [_]) ++ (rdOne (rdN r m k).2 ((m + k) % 4294967296)).2.rest
    rw [some_snoc, List.append_assoc, ← h2]
    exact h1
/-- what was read is a row: it is the one that came -/
theorem next_of_fits {r : Rd} (hf : (rdRow r).2.fail = false) (hr : row (rdRow r).1 = true) (hx : ∀ j, j < r.tell 3 + 1 → Fits (rdN ((r.take 3).take 32) ((r.take 3).tell 32) j).2) : Next r (rdRow r).1 := by
  refine next_of_put hf hr ⟨(rdRow r).2.rest, ?_⟩
  have f2 : ((r.take 3).take 32).fail = false := rdN_fail hf
  have f1 := Rd.fail_of f2
  have e1 : r.rest = Bt.bits (r.tell 3) 3 ++ (r.take 3).rest := bits_of (n := 3) f1
  have e2 : (r.take 3).rest = Bt.bits ((r.take 3).tell 32) 32 ++ ((r.take 3).take 32).rest := bits_of (n := 32) f2
  have e3 : ((r.take 3).take 32).rest = some_ (rdRow r).1 ++ (rdRow r).2.rest := rdN_bits hf hx
  obtain ⟨h1, h2, h3⟩ := (row_iff _).1 hr
  have e4 : first (rdRow r).1 = (r.take 3).tell 32 := by
    have hl := rdRow_length r
    obtain ⟨c, hc⟩ : ∃ c, (rdRow r).1[0]? = some c := ⟨_, List.getElem?_eq_getElem (by omega)⟩
    have hn : c.n = (r.take 3).tell 32 := by
      have : ∀ k, ∀ i d, (rdN ((r.take 3).take 32) ((r.take 3).tell 32) k).1[i]? = some d → d.n = ((r.take 3).tell 32 + i) % 4294967296 := by
        intro k
        induction k with
        | zero => intro i d hd; simp [rdN] at hd
        | succ k ih =>
          intro i d hd
          have hd' : ((rdN ((r.take 3).take 32) ((r.take 3).tell 32) k).1 ++ [(rdOne (rdN ((r.take 3).take 32) ((r.take 3).tell 32) k).2 (((r.take 3).tell 32 + k) % 4294967296)).1])[i]? = some d := hd
          by_cases hi : i < k
          · rw [List.getElem?_append_left (by rw [rdN_length]; exact hi)] at hd'
            exact ih i d hd'
          · rw [List.getElem?_append_right (by rw [rdN_length]; omega), rdN_length] at hd'
            have hik : i - k = 0 := by
              have := (List.getElem?_eq_some_iff.1 hd').1
              simp at this; omega
            rw [hik] at hd'
            simp at hd'
            subst hd'
            have : i = k := by omega
            subst this
            unfold rdOne
            simp only
            split <;> rfl
      have h0 := this (r.tell 3 + 1) 0 c hc
      rw [h0, Nat.add_zero]
      exact Nat.mod_eq_of_lt (tell_pow (r.take 3) 32)
    cases hl' : (rdRow r).1 with
    | nil => rw [hl'] at hc; simp at hc
    | cons d t => rw [hl'] at hc; simp at hc; subst hc; exact hn
  unfold all
  rw [e4, rdRow_length, show r.tell 3 + 1 - 1 = r.tell 3 by omega, List.append_assoc, List.append_assoc, ← e3, ← e2]
  exact e1
/-- a row that comes has no eight bits that are all 1 -/
theorem next_fits {r : Rd} {l : List C} (h : Next r l) : ∀ j, j < l.length → Fits (rdN ((r.take 3).take 32) ((r.take 3).tell 32) j).2 := by
  intro j hj
  obtain ⟨h1, h2, h3, t, h4, h5⟩ := next_head h
  obtain ⟨hf, hr, hw, _⟩ := h
  have hrow := ((row_iff l).1 hr).2.2
  obtain ⟨e1, e2⟩ := rdN_in (r := (r.take 3).take 32) (m := (r.take 3).tell 32) (by rw [h3]) hw (by rw [h2]; exact hrow) h4 j (by omega)
  have hc := List.getElem?_eq_getElem hj
  obtain ⟨g1, g2⟩ := hrow j _ hc
  have hwc := hw _ (List.mem_of_getElem? hc)
  rw [List.drop_eq_getElem_cons hj] at e2
  generalize l[j] = c at *
  have e3 : (rdN ((r.take 3).take 32) ((r.take 3).tell 32) j).2.rest = Bt.bits (c.x + 127).toNat 8 ++ (Bt.bits (c.y + 127).toNat 8 ++ ((if c.f then true :: (Bt.bits c.v 32 ++ Bt.bits c.q 8) else [false]) ++ (some_ (l.drop (j + 1)) ++ t))) := by
    rw [e2]; simp [some_, one]
  obtain ⟨_, w2, w3, w4, w5, _⟩ := hwc
  obtain ⟨_, _, g3, g4, _⟩ := g1
  have hf2 : (rdN ((r.take 3).take 32) ((r.take 3).tell 32) j).2.fail = false := by rw [e1]
  obtain ⟨a1, a2, a3⟩ := Rd.take_bits (n := 8) hf2 e3 (by omega) (by omega)
  have f1 : ((rdN ((r.take 3).take 32) ((r.take 3).tell 32) j).2.take ((8 : Nat) : Int)).fail = false := by rw [a2]
  obtain ⟨b1, b2, b3⟩ := Rd.take_bits (n := 8) f1 a3 (by omega) (by omega)
  have ha : (rdN ((r.take 3).take 32) ((r.take 3).tell 32) j).2.tell 8 = (c.x + 127).toNat := a1
  have hb : ((rdN ((r.take 3).take 32) ((r.take 3).tell 32) j).2.take 8).tell 8 = (c.y + 127).toNat := b1
  unfold Fits
  rw [ha, hb]
  omega

theorem on_rest {r : Rd} (s : List Bool) (h : r.wf) : (r.on s).rest = r.rest ++ s := by
  unfold Rd.on Rd.rest
  exact List.drop_append_of_le_length h
theorem rdOne_on {r : Rd} {m : Nat} (s : List Bool) (h : (rdOne r m).2.fail = false) : rdOne (r.on s) m = ((rdOne r m).1, (rdOne r m).2.on s) := by
  unfold rdOne at h ⊢
  simp only at h ⊢
  by_cases hc : ((r.take 8).take 8).tell 1 = 1
  · rw [if_pos hc] at h
    have f4 := Rd.fail_of h
    have f3 := Rd.fail_of f4
    have f2 := Rd.fail_of f3
    have f1 := Rd.fail_of f2
    have o1 := Rd.take_on (n := 8) s f1
    have o2 := Rd.take_on (n := 8) s f2
    have o3 := Rd.take_on (n := 1) s f3
    have o4 := Rd.take_on (n := 32) s f4
    have o5 := Rd.take_on (n := 8) s h
    simp only [Int.cast_ofNat_Int] at o1 o2 o3 o4 o5
    rw [o1.1, o1.2, o2.1, o2.2, o3.1, o3.2, if_pos hc, if_pos hc, o4.1, o4.2, o5.1, o5.2]
  · rw [if_neg hc] at h
    have f2 := Rd.fail_of h
    have f1 := Rd.fail_of f2
    have o1 := Rd.take_on (n := 8) s f1
    have o2 := Rd.take_on (n := 8) s f2
    have o3 := Rd.take_on (n := 1) s h
    simp only [Int.cast_ofNat_Int] at o1 o2 o3
    rw [o1.1, o1.2, o2.1, o2.2, o3.1, o3.2, if_neg hc, if_neg hc]
theorem rdN_on {r : Rd} {m : Nat} (s : List Bool) : ∀ {k : Nat}, (rdN r m k).2.fail = false → rdN (r.on s) m k = ((rdN r m k).1, (rdN r m k).2.on s)
  | 0, _ => rfl
  | k + 1, h => by
    have h1 := rdN_on (r := r) (m := m) s (k := k) (rdOne_fail h)
    have h2 := rdOne_on (m := (m + k) % 4294967296) s h
    show ((rdN (r.on s) m k).1 ++ [(rdOne (rdN (r.on s) m k).2 ((m + k) % 4294967296)).1], (rdOne (rdN (r.on s) m k).2 ((m + k) % 4294967296)).2) = _
    rw [h1]
    simp only
    rw [h2]
    rfl
/-- of bits that are cut off within a row: all is read alike till the reader fails -/
theorem cut_head {r : Rd} {l : List C} {s : List Bool} (h : Next (r.on s) l) : ((r.take 3).fail = false → r.tell 3 + 1 = l.length) ∧ (((r.take 3).take 32).fail = false → (r.take 3).tell 32 = first l) := by
  obtain ⟨h1, h2, h3, _⟩ := next_head h
  refine ⟨fun f1 => ?_, fun f2 => ?_⟩
  · have o1 := Rd.take_on (n := 3) s f1
    simp only [Int.cast_ofNat_Int] at o1
    rw [← o1.1]; exact h1
  · have f1 := Rd.fail_of f2
    have o1 := Rd.take_on (n := 3) s f1
    have o2 := Rd.take_on (n := 32) s f2
    simp only [Int.cast_ofNat_Int] at o1 o2
    rw [← o2.1, ← o1.2]; exact h2
theorem cut_fails {r : Rd} {l : List C} {s : List Bool} (hw : r.wf) (h : Next (r.on s) l) (hs : r.rest.length < (all l).length) : (rdRow r).2.fail = true := by
  cases hf : (rdRow r).2.fail with
  | true => rfl
  | false =>
    exfalso
    have f2 : ((r.take 3).take 32).fail = false := rdN_fail hf
    have f1 := Rd.fail_of f2
    have o1 := Rd.take_on (n := 3) s f1
    have o2 := Rd.take_on (n := 32) s f2
    simp only [Int.cast_ofNat_Int] at o1 o2
    have e : rdRow (r.on s) = ((rdRow r).1, (rdRow r).2.on s) := by
      unfold rdRow at hf ⊢
      rw [o1.1, o1.2, o2.1, o2.2]
      exact rdN_on s hf
    have e2 := (next_read h).symm.trans e
    have e3 := congrArg (fun p => p.2.at_) e2
    have e4 : r.at_ + (all l).length = (rdRow r).2.at_ := e3
    have hw2 : (rdRow r).2.wf := rdN_rwf (Rd.take_wf (Rd.take_wf hw)) _
    have hl2 : (rdRow r).2.l = r.l := (rdN_l _ _ _).trans ((Rd.take_l _ _).trans (Rd.take_l _ _))
    unfold Rd.wf at hw2 hw
    rw [hl2] at hw2
    rw [Rd.rest_length] at hs
    unfold Rd.left at hs
    omega

theorem take_at {r : Rd} {n : Nat} (h : (r.take (n : Int)).fail = false) : (r.take (n : Int)).at_ = r.at_ + n := by rw [(Rd.take_ok h).2.2.2.1]
theorem rdOne_at {r : Rd} {m : Nat} (h : (rdOne r m).2.fail = false) : (rdOne r m).2.at_ = r.at_ + (if (rdOne r m).1.f then 57 else 17) := by
  unfold rdOne at h ⊢
  simp only at h ⊢
  by_cases hc : ((r.take 8).take 8).tell 1 = 1
  · rw [if_pos hc] at h ⊢
    have f4 := Rd.fail_of h
    have f3 := Rd.fail_of f4
    have f2 := Rd.fail_of f3
    have f1 := Rd.fail_of f2
    have e1 := take_at (n := 8) f1
    have e2 := take_at (n := 8) f2
    have e3 := take_at (n := 1) f3
    have e4 := take_at (n := 32) f4
    have e5 := take_at (n := 8) h
    simp only [Int.cast_ofNat_Int] at e1 e2 e3 e4 e5
    show (((((r.take 8).take 8).take 1).take 32).take 8).at_ = r.at_ + (if true = true then 57 else 17)
    rw [if_pos rfl]
    omega
  · rw [if_neg hc] at h ⊢
    have f2 := Rd.fail_of h
    have f1 := Rd.fail_of f2
    have e1 := take_at (n := 8) f1
    have e2 := take_at (n := 8) f2
    have e3 := take_at (n := 1) h
    simp only [Int.cast_ofNat_Int] at e1 e2 e3
    show (((r.take 8).take 8).take 1).at_ = r.at_ + (if false = true then 57 else 17)
    rw [if_neg (by decide)]
    omega
theorem size_snoc : ∀ (l : List C) (c : C), size (l ++ [c]) = size l + (if c.f then 57 else 17)
  | [], c => by show (if c.f then 57 else 17) + 0 = 0 + _; omega
  | d :: l, c => by
    show (if d.f then 57 else 17) + size (l ++ [c]) = (if d.f then 57 else 17) + size l + _
    rw [size_snoc l c]; omega
theorem rdN_at {r : Rd} {m : Nat} : ∀ {k : Nat}, (rdN r m k).2.fail = false → (rdN r m k).2.at_ = r.at_ + size (rdN r m k).1
  | 0, _ => rfl
  | k + 1, h => by
    have h1 := rdN_at (r := r) (m := m) (k := k) (rdOne_fail h)
    have h2 := rdOne_at (m := (m + k) % 4294967296) h
    show (rdOne (rdN r m k).2 ((m + k) % 4294967296)).2.at_ = r.at_ + size ((rdN r m k).1 ++ [(rdOne (rdN r m k).2 ((m + k) % 4294967296)).1])
    rw [h2, h1, size_snoc]; omega
theorem rdRow_at {r : Rd} (h : (rdRow r).2.fail = false) : (rdRow r).2.at_ = r.at_ + (all (rdRow r).1).length := by
  have f2 : ((r.take 3).take 32).fail = false := rdN_fail h
  have f1 := Rd.fail_of f2
  have e1 := take_at (n := 3) f1
  have e2 := take_at (n := 32) f2
  have e3 : (rdRow r).2.at_ = _ := rdN_at h
  simp only [Int.cast_ofNat_Int] at e1 e2
  rw [e3, all_length]
  show ((r.take 3).take 32).at_ + size (rdRow r).1 = _
  omega
theorem rdRow_l (r : Rd) : (rdRow r).2.l = r.l := (rdN_l _ _ _).trans ((Rd.take_l _ _).trans (Rd.take_l _ _))
/-- none comes: the reader has failed; what was read is no row; a bit is another one -/
theorem none_fail {r : Rd} (h : (rdRow r).2.fail = true) : ∀ l, ¬ Next r l := by
  intro l hn
  rw [next_read hn] at h
  cases h
theorem none_row {r : Rd} (h : row (rdRow r).1 = false) : ∀ l, ¬ Next r l := by
  intro l hn
  rw [next_read hn, hn.2.1] at h
  cases h
theorem none_bit {r : Rd} {j : Nat} {a b : Bool} (ha : (all (rdRow r).1)[j]? = some a) (hb : r.l[r.at_ + j]? = some b) (h : a ≠ b) : ∀ l, ¬ Next r l := by
  intro l hn
  rw [next_read hn] at ha
  obtain ⟨_, _, _, t, ht⟩ := hn
  have hj : j < (all l).length := (List.getElem?_eq_some_iff.1 ha).1
  have e : r.rest[j]? = some b := by unfold Rd.rest; rw [List.getElem?_drop]; exact hb
  rw [ht, List.getElem?_append_left hj, ha] at e
  simp at e
  exact h e
/-- all that was read, put again, is what came -/
theorem next_of_bits {r : Rd} (hf : (rdRow r).2.fail = false) (hr : row (rdRow r).1 = true) (hb : (all (rdRow r).1).take (all (rdRow r).1).length = r.rest.take (all (rdRow r).1).length) : Next r (rdRow r).1 ∧ (rdRow r).2 = ⟨r.l, r.at_ + (all (rdRow r).1).length, false⟩ := by
  have hn := next_of_put hf hr ⟨r.rest.drop (all (rdRow r).1).length, by
    rw [List.take_length] at hb
    have := List.take_append_drop (all (rdRow r).1).length r.rest
    rw [← hb] at this
    exact this.symm⟩
  refine ⟨hn, ?_⟩
  have := congrArg Prod.snd (next_read hn)
  exact this
end Go.Proofs.Ytodfgekhffeapaa.Cm

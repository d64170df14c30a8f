/- Maps of tiles: a text's signs, how it is read, which maps there are. Plain functions, and their laws. -/
import Derived.Test.YtbfffgnalopfbaaRows
namespace Go.Proofs.Ytbfffgnalopfbaa.Ti
set_option linter.unusedVariables false

/-- a sign's bytes: 1 a wall, 2 a floor, 3 one to come in, 4 a line's end -/
def bs : Nat → List UInt8
  | 1 => [226, 150, 136]
  | 2 => [194, 183]
  | 3 => [226, 151, 142]
  | 4 => [10]
  | _ => []
/-- which sign stands ahead -/
def sg (l : List UInt8) : Nat :=
  if l.take 3 = [226, 150, 136] then 1 else if l.take 2 = [194, 183] then 2 else if l.take 3 = [226, 151, 142] then 3 else if l.take 1 = [10] then 4 else 0
def mid (x y : Nat) : Int × Int := ((x : Int) * 65536 + 32768, (y : Int) * 65536 + 32768)
/-- what was read: the column, and the map so far -/
structure S where
  x : Nat
  W : Nat
  H : Nat
  ws : List Bool
  sp : List (Int × Int)
def s0 : S := ⟨0, 0, 0, [], []⟩
abbrev bad (k : Nat) (s : S) : Prop := if k = 4 then s.x = 0 ∨ (0 < s.H ∧ s.x ≠ s.W) else k = 0 ∨ 32 ≤ s.H ∨ 32 ≤ s.x ∨ (0 < s.H ∧ s.W ≤ s.x)
def next (k : Nat) (s : S) : S := if k = 4 then ⟨0, s.x, s.H + 1, s.ws, s.sp⟩ else ⟨s.x + 1, s.W, s.H, s.ws ++ [k == 1], if k = 3 then s.sp ++ [mid s.x s.H] else s.sp⟩
def step (k : Nat) (s : S) : Option S := if bad k s then none else some (next k s)
def fin (at_ : Nat) (s : S) : Option S × Nat := if 0 < s.x ∨ s.sp = [] then (none, at_) else (some s, 0)
def run : Nat → List UInt8 → Nat → S → Option S × Nat
  | 0, _, a, s => fin a s
  | b + 1, l, a, s => if l = [] then fin a s else if bad (sg l) s then (none, a) else run b (l.drop (bs (sg l)).length) (a + (bs (sg l)).length) (next (sg l) s)
def read (l : List UInt8) : Option S × Nat := run l.length l 0 s0

theorem sg_cases (l : List UInt8) : sg l = 0 ∨ sg l = 1 ∨ sg l = 2 ∨ sg l = 3 ∨ sg l = 4 := by
  unfold sg
  split
  · exact .inr (.inl rfl)
  · split
    · exact .inr (.inr (.inl rfl))
    · split
      · exact .inr (.inr (.inr (.inl rfl)))
      · split
        · exact .inr (.inr (.inr (.inr rfl)))
        · exact .inl rfl
theorem sg_le (l : List UInt8) : sg l ≤ 4 := by rcases sg_cases l with h | h | h | h | h <;> omega
theorem bs_le (k : Nat) : (bs k).length ≤ 3 := by
  match k with
  | 0 => decide
  | 1 => decide
  | 2 => decide
  | 3 => decide
  | 4 => decide
  | k + 5 => simp [bs]
theorem bs_pos {k : Nat} (h0 : 0 < k) (h : k ≤ 4) : 0 < (bs k).length := by
  match k, h0, h with
  | 1, _, _ => decide
  | 2, _, _ => decide
  | 3, _, _ => decide
  | 4, _, _ => decide
/-- the sign that is put is the sign that stands there -/
theorem sg_bs {k : Nat} (h0 : 0 < k) (h : k ≤ 4) (t : List UInt8) : sg (bs k ++ t) = k := by
  match k, h0, h with
  | 1, _, _ => simp [sg, bs]
  | 2, _, _ => simp [sg, bs]
  | 3, _, _ => simp [sg, bs]
  | 4, _, _ => simp [sg, bs]
theorem take_drop_eq {l m : List UInt8} {n : Nat} (h : l.take n = m) : l = m ++ l.drop n := by
  have := List.take_append_drop n l
  rw [h] at this
  exact this.symm
theorem bs_sg {l : List UInt8} (h : sg l ≠ 0) : l = bs (sg l) ++ l.drop (bs (sg l)).length := by
  unfold sg at h ⊢
  split
  · rename_i e; exact take_drop_eq e
  · split
    · rename_i e; exact take_drop_eq e
    · split
      · rename_i e; exact take_drop_eq e
      · split
        · rename_i e; exact take_drop_eq e
        · rename_i h1 h2 h3 h4; rw [if_neg h1, if_neg h2, if_neg h3, if_neg h4] at h; exact absurd rfl h
theorem sg_nil : sg [] = 0 := by decide
theorem len_sg (l : List UInt8) : (bs (sg l)).length ≤ l.length := by
  by_cases h : sg l = 0
  · rw [h]; simp [bs]
  · have := congrArg List.length (bs_sg h)
    rw [List.length_append] at this
    omega

/-- more rounds than there are bytes change nothing -/
theorem run_more : ∀ (b : Nat) (l : List UInt8) (a : Nat) (s : S), l.length ≤ b → run (b + 1) l a s = run b l a s
  | 0, l, a, s, h => by
    have : l = [] := List.length_eq_zero_iff.1 (by omega)
    subst this
    rfl
  | b + 1, l, a, s, h => by
    show (if l = [] then fin a s else if bad (sg l) s then (none, a) else run (b + 1) (l.drop (bs (sg l)).length) (a + (bs (sg l)).length) (next (sg l) s)) = (if l = [] then fin a s else if bad (sg l) s then (none, a) else run b (l.drop (bs (sg l)).length) (a + (bs (sg l)).length) (next (sg l) s))
    by_cases hl : l = []
    · rw [if_pos hl, if_pos hl]
    · rw [if_neg hl, if_neg hl]
      by_cases hb : bad (sg l) s
      · rw [if_pos hb, if_pos hb]
      · rw [if_neg hb, if_neg hb]
        have h0 : sg l ≠ 0 := by intro e; apply hb; unfold bad; rw [e, if_neg (by decide)]; exact .inl rfl
        have hp := bs_pos (k := sg l) (by omega) (sg_le l)
        exact run_more b _ _ _ (by rw [List.length_drop]; omega)
theorem run_fuel (l : List UInt8) (a : Nat) (s : S) : ∀ (d b : Nat), l.length ≤ b → run (b + d) l a s = run b l a s
  | 0, b, h => rfl
  | d + 1, b, h => by rw [show b + (d + 1) = (b + d) + 1 by omega, run_more _ _ _ _ (by omega)]; exact run_fuel l a s d b h
theorem run_any {l : List UInt8} {a : Nat} {s : S} {b : Nat} (h : l.length ≤ b) : run b l a s = run l.length l a s := by
  have := run_fuel l a s (b - l.length) l.length (Nat.le_refl _)
  rw [show l.length + (b - l.length) = b by omega] at this
  exact this
theorem run_nil (b a : Nat) (s : S) : run b [] a s = fin a s := by cases b <;> rfl
theorem run_bad {l : List UInt8} {a b : Nat} {s : S} (hl : l ≠ []) (h : l.length ≤ b) (hb : bad (sg l) s) : run b l a s = (none, a) := by
  cases b with
  | zero => exact absurd (List.length_eq_zero_iff.1 (by omega)) hl
  | succ b => show (if l = [] then _ else if bad (sg l) s then _ else _) = _; rw [if_neg hl, if_pos hb]
theorem run_step {l : List UInt8} {a b : Nat} {s : S} (hl : l ≠ []) (h : l.length ≤ b) (hb : ¬ bad (sg l) s) : run b l a s = run l.length (l.drop (bs (sg l)).length) (a + (bs (sg l)).length) (next (sg l) s) := by
  have h0 : sg l ≠ 0 := by intro e; apply hb; unfold bad; rw [e, if_neg (by decide)]; exact .inl rfl
  have hp := bs_pos (k := sg l) (by omega) (sg_le l)
  cases b with
  | zero => exact absurd (List.length_eq_zero_iff.1 (by omega)) hl
  | succ b =>
    show (if l = [] then _ else if bad (sg l) s then _ else run b (l.drop (bs (sg l)).length) _ _) = _
    rw [if_neg hl, if_neg hb, run_any (b := b) (by rw [List.length_drop]; omega), run_any (b := l.length) (by rw [List.length_drop]; omega)]

/-- signs one by one -/
def go : List Nat → S → Option S
  | [], s => some s
  | k :: ks, s => if bad k s then none else go ks (next k s)
def flat (ks : List Nat) : List UInt8 := ks.flatMap bs
def Signs (ks : List Nat) : Prop := ∀ k ∈ ks, 0 < k ∧ k ≤ 4
theorem flat_cons (k : Nat) (ks : List Nat) : flat (k :: ks) = bs k ++ flat ks := rfl
theorem flat_append (a b : List Nat) : flat (a ++ b) = flat a ++ flat b := by simp [flat]
theorem go_append : ∀ (a b : List Nat) (s : S), go (a ++ b) s = (go a s).bind (go b)
  | [], b, s => rfl
  | k :: a, b, s => by
    show (if bad k s then none else go (a ++ b) (next k s)) = (if bad k s then none else go a (next k s)).bind (go b)
    split
    · rfl
    · exact go_append a b _
/-- what is read of signs, and of what stands behind them -/
theorem run_flat : ∀ (ks : List Nat) (t : List UInt8) (a : Nat) (s s' : S) (b : Nat), Signs ks → go ks s = some s' → (flat ks ++ t).length ≤ b → run b (flat ks ++ t) a s = run t.length t (a + (flat ks).length) s'
  | [], t, a, s, s', b, _, hg, hb => by
    have e : s = s' := by simpa [go] using hg
    subst e
    show run b t a s = run t.length t (a + 0) s
    rw [Nat.add_zero]
    exact run_any (by simpa [flat] using hb)
  | k :: ks, t, a, s, s', b, hs, hg, hb => by
    have hk := hs k (List.mem_cons_self ..)
    have hg' : (if bad k s then none else go ks (next k s)) = some s' := hg
    by_cases hbad : bad k s
    · rw [if_pos hbad] at hg'; cases hg'
    · rw [if_neg hbad] at hg'
      have e : flat (k :: ks) ++ t = bs k ++ (flat ks ++ t) := by rw [flat_cons, List.append_assoc]
      have hne : flat (k :: ks) ++ t ≠ [] := by
        rw [e]; intro h
        have := bs_pos hk.1 hk.2
        have h2 := congrArg List.length h
        rw [List.length_append, List.length_nil] at h2
        omega
      have hsg : sg (flat (k :: ks) ++ t) = k := by rw [e]; exact sg_bs hk.1 hk.2 _
      rw [run_step hne hb (by rw [hsg]; exact hbad), hsg]
      have hd : (flat (k :: ks) ++ t).drop (bs k).length = flat ks ++ t := by rw [e]; simp
      rw [hd, run_flat ks t (a + (bs k).length) (next k s) s' _ (fun x hx => hs x (List.mem_cons_of_mem _ hx)) hg' (by rw [e]; simp)]
      rw [show a + (bs k).length + (flat ks).length = a + (flat (k :: ks)).length by rw [flat_cons, List.length_append]; omega]
/-- a text that is read is a row of signs -/
theorem signs_of : ∀ (b : Nat) (l : List UInt8) (a : Nat) (s : S) (s' : S) (n : Nat), l.length ≤ b → run b l a s = (some s', n) → ∃ ks, Signs ks ∧ l = flat ks ∧ go ks s = some s' ∧ s'.x = 0 ∧ s'.sp ≠ [] ∧ n = 0
  | 0, l, a, s, s', n, h, hr => by
    have e : l = [] := List.length_eq_zero_iff.1 (by omega)
    subst e
    have hr' : fin a s = (some s', n) := hr
    unfold fin at hr'
    split at hr'
    · cases hr'
    · rename_i hc
      have h1 := congrArg Prod.fst hr'
      have h2 := congrArg Prod.snd hr'
      simp at h1 h2
      subst h1
      have h3 : ¬ 0 < s.x := fun h => hc (.inl h)
      exact ⟨[], (by intro k hk; cases hk), rfl, rfl, by omega, fun h => hc (.inr h), h2.symm⟩
  | b + 1, l, a, s, s', n, h, hr => by
    by_cases hl : l = []
    · subst hl
      rw [run_nil] at hr
      unfold fin at hr
      split at hr
      · cases hr
      · rename_i hc
        have h1 := congrArg Prod.fst hr
        have h2 := congrArg Prod.snd hr
        simp at h1 h2
        subst h1
        have h3 : ¬ 0 < s.x := fun h => hc (.inl h)
        exact ⟨[], (by intro k hk; cases hk), rfl, rfl, by omega, fun h => hc (.inr h), h2.symm⟩
    · by_cases hb : bad (sg l) s
      · rw [run_bad hl h hb] at hr
        cases hr
      · have h0 : sg l ≠ 0 := by intro e; apply hb; unfold bad; rw [e, if_neg (by decide)]; exact .inl rfl
        have hp := bs_pos (k := sg l) (by omega) (sg_le l)
        have hr' : run b (l.drop (bs (sg l)).length) (a + (bs (sg l)).length) (next (sg l) s) = (some s', n) := by
          have : run (b + 1) l a s = run b (l.drop (bs (sg l)).length) (a + (bs (sg l)).length) (next (sg l) s) := by
            show (if l = [] then _ else if bad (sg l) s then _ else run b _ _ _) = _
            rw [if_neg hl, if_neg hb]
          rw [← this]; exact hr
        obtain ⟨ks, k1, k2, k3, k4⟩ := signs_of b _ _ _ _ _ (by rw [List.length_drop]; omega) hr'
        refine ⟨sg l :: ks, ?_, ?_, ?_, k4⟩
        · intro k hk
          rcases List.mem_cons.1 hk with rfl | hk
          · exact ⟨by omega, sg_le l⟩
          · exact k1 k hk
        · rw [flat_cons, ← k2]; exact bs_sg h0
        · show (if bad (sg l) s then none else go ks (next (sg l) s)) = some s'
          rw [if_neg hb]; exact k3
end Go.Proofs.Ytbfffgnalopfbaa.Ti

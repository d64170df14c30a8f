/- Joined: TilPlain, TilPlain2, TilPlain3, Turned, Flat, Push, Kept, TilMem, TilRef, ByteMem, TilRead, TilRead2, TilPlain4, TilText, FixPlain, FixWalks, FixRoot, FixRef, VecPlain, VecWalks. -/
import Derived.Test.YtgabgkgokmeaeaaGreatRows
import Derived.WalkKit
import Derived.Below
import Derived.OwnWalk
import Derived.Maps.AppendAt
import Derived.Deep.RegionLaw
import Derived.ProofKit
import Derived.OpenShut
import Derived.ChangeOld
import Derived.ChangeSlices
import Derived.Deep.Slices
import Derived.Deep.Upon
import Derived.WalkSmall
import Derived.BigQuiet
import Derived.WalkSpells
import Derived.BigRegion
import Derived.Deep.QuietTactic
import Derived.Deep.RegionWith
import Derived.Laws.StructEq
/- Maps of tiles: a text's signs, how it is read, which maps there are. Plain functions, and their laws. -/
namespace Go.Proofs.YtgabgkgokmeaeaaGreat.Ti
set_option linter.unusedVariables false

/-- a sign's bytes: 1 a wall, 2 a floor, 3 one to come in, 4 a line's end -/
def bs : Nat → List UInt8
  | 1 => [226, 150, 136]
  | 2 => [194, 183]
  | 3 => [226, 151, 142]
  | 4 => [10]
  | _ => []
/-- which sign stands ahead -/
def sg (l : List UInt8) : Nat :=
  if l.take 3 = [226, 150, 136] then 1 else if l.take 2 = [194, 183] then 2 else if l.take 3 = [226, 151, 142] then 3 else if l.take 1 = [10] then 4 else 0
def mid (x y : Nat) : Int × Int := ((x : Int) * 65536 + 32768, (y : Int) * 65536 + 32768)
/-- what was read: the column, and the map so far -/
structure S where
  x : Nat
  W : Nat
  H : Nat
  ws : List Bool
  sp : List (Int × Int)
def s0 : S := ⟨0, 0, 0, [], []⟩
abbrev bad (k : Nat) (s : S) : Prop := if k = 4 then s.x = 0 ∨ (0 < s.H ∧ s.x ≠ s.W) else k = 0 ∨ 32 ≤ s.H ∨ 32 ≤ s.x ∨ (0 < s.H ∧ s.W ≤ s.x)
def next (k : Nat) (s : S) : S := if k = 4 then ⟨0, s.x, s.H + 1, s.ws, s.sp⟩ else ⟨s.x + 1, s.W, s.H, s.ws ++ [k == 1], if k = 3 then s.sp ++ [mid s.x s.H] else s.sp⟩
def step (k : Nat) (s : S) : Option S := if bad k s then none else some (next k s)
def fin (at_ : Nat) (s : S) : Option S × Nat := if 0 < s.x ∨ s.sp = [] then (none, at_) else (some s, 0)
def run : Nat → List UInt8 → Nat → S → Option S × Nat
  | 0, _, a, s => fin a s
  | b + 1, l, a, s => if l = [] then fin a s else if bad (sg l) s then (none, a) else run b (l.drop (bs (sg l)).length) (a + (bs (sg l)).length) (next (sg l) s)
def read (l : List UInt8) : Option S × Nat := run l.length l 0 s0

theorem sg_cases (l : List UInt8) : sg l = 0 ∨ sg l = 1 ∨ sg l = 2 ∨ sg l = 3 ∨ sg l = 4 := by
  unfold sg
  split
  · exact .inr (.inl rfl)
  · split
    · exact .inr (.inr (.inl rfl))
    · split
      · exact .inr (.inr (.inr (.inl rfl)))
      · split
        · exact .inr (.inr (.inr (.inr rfl)))
        · exact .inl rfl
theorem sg_le (l : List UInt8) : sg l ≤ 4 := by rcases sg_cases l with h | h | h | h | h <;> omega
theorem bs_le (k : Nat) : (bs k).length ≤ 3 := by
  match k with
  | 0 => decide
  | 1 => decide
  | 2 => decide
  | 3 => decide
  | 4 => decide
  | k + 5 => simp [bs]
theorem bs_pos {k : Nat} (h0 : 0 < k) (h : k ≤ 4) : 0 < (bs k).length := by
  match k, h0, h with
  | 1, _, _ => decide
  | 2, _, _ => decide
  | 3, _, _ => decide
  | 4, _, _ => decide
/-- the sign that is put is the sign that stands there -/
theorem sg_bs {k : Nat} (h0 : 0 < k) (h : k ≤ 4) (t : List UInt8) : sg (bs k ++ t) = k := by
  match k, h0, h with
  | 1, _, _ => simp [sg, bs]
  | 2, _, _ => simp [sg, bs]
  | 3, _, _ => simp [sg, bs]
  | 4, _, _ => simp [sg, bs]
theorem take_drop_eq {l m : List UInt8} {n : Nat} (h : l.take n = m) : l = m ++ l.drop n := by
  have := List.take_append_drop n l
  rw [h] at this
  exact this.symm
theorem bs_sg {l : List UInt8} (h : sg l ≠ 0) : l = bs (sg l) ++ l.drop (bs (sg l)).length := by
  unfold sg at h ⊢
  split
  · rename_i e; exact take_drop_eq e
  · split
    · rename_i e; exact take_drop_eq e
    · split
      · rename_i e; exact take_drop_eq e
      · split
        · rename_i e; exact take_drop_eq e
        · rename_i h1 h2 h3 h4; rw [if_neg h1, if_neg h2, if_neg h3, if_neg h4] at h; exact absurd rfl h
theorem sg_nil : sg [] = 0 := by decide
theorem len_sg (l : List UInt8) : (bs (sg l)).length ≤ l.length := by
  by_cases h : sg l = 0
  · rw [h]; simp [bs]
  · have := congrArg List.length (bs_sg h)
    rw [List.length_append] at this
    omega

/-- more rounds than there are bytes change nothing -/
theorem run_more : ∀ (b : Nat) (l : List UInt8) (a : Nat) (s : S), l.length ≤ b → run (b + 1) l a s = run b l a s
  | 0, l, a, s, h => by
    have : l = [] := List.length_eq_zero_iff.1 (by omega)
    subst this
    rfl
  | b + 1, l, a, s, h => by
    show (if l = [] then fin a s else if bad (sg l) s then (none, a) else run (b + 1) (l.drop (bs (sg l)).length) (a + (bs (sg l)).length) (next (sg l) s)) = (if l = [] then fin a s else if bad (sg l) s then (none, a) else run b (l.drop (bs (sg l)).length) (a + (bs (sg l)).length) (next (sg l) s))
    by_cases hl : l = []
    · rw [if_pos hl, if_pos hl]
    · rw [if_neg hl, if_neg hl]
      by_cases hb : bad (sg l) s
      · rw [if_pos hb, if_pos hb]
      · rw [if_neg hb, if_neg hb]
        have h0 : sg l ≠ 0 := by intro e; apply hb; unfold bad; rw [e, if_neg (by decide)]; exact .inl rfl
        have hp := bs_pos (k := sg l) (by omega) (sg_le l)
        exact run_more b _ _ _ (by rw [List.length_drop]; omega)
theorem run_fuel (l : List UInt8) (a : Nat) (s : S) : ∀ (d b : Nat), l.length ≤ b → run (b + d) l a s = run b l a s
  | 0, b, h => rfl
  | d + 1, b, h => by rw [show b + (d + 1) = (b + d) + 1 by omega, run_more _ _ _ _ (by omega)]; exact run_fuel l a s d b h
theorem run_any {l : List UInt8} {a : Nat} {s : S} {b : Nat} (h : l.length ≤ b) : run b l a s = run l.length l a s := by
  have := run_fuel l a s (b - l.length) l.length (Nat.le_refl _)
  rw [show l.length + (b - l.length) = b by omega] at this
  exact this
theorem run_nil (b a : Nat) (s : S) : run b [] a s = fin a s := by cases b <;> rfl
theorem run_bad {l : List UInt8} {a b : Nat} {s : S} (hl : l ≠ []) (h : l.length ≤ b) (hb : bad (sg l) s) : run b l a s = (none, a) := by
  cases b with
  | zero => exact absurd (List.length_eq_zero_iff.1 (by omega)) hl
  | succ b => show (if l = [] then _ else if bad (sg l) s then _ else _) = _; rw [if_neg hl, if_pos hb]
theorem run_step {l : List UInt8} {a b : Nat} {s : S} (hl : l ≠ []) (h : l.length ≤ b) (hb : ¬ bad (sg l) s) : run b l a s = run l.length (l.drop (bs (sg l)).length) (a + (bs (sg l)).length) (next (sg l) s) := by
  have h0 : sg l ≠ 0 := by intro e; apply hb; unfold bad; rw [e, if_neg (by decide)]; exact .inl rfl
  have hp := bs_pos (k := sg l) (by omega) (sg_le l)
  cases b with
  | zero => exact absurd (List.length_eq_zero_iff.1 (by omega)) hl
  | succ b =>
    show (if l = [] then _ else if bad (sg l) s then _ else run b (l.drop (bs (sg l)).length) _ _) = _
    rw [if_neg hl, if_neg hb, run_any (b := b) (by rw [List.length_drop]; omega), run_any (b := l.length) (by rw [List.length_drop]; omega)]

/-- signs one by one -/
def go : List Nat → S → Option S
  | [], s => some s
  | k :: ks, s => if bad k s then none else go ks (next k s)
def flat (ks : List Nat) : List UInt8 := ks.flatMap bs
def Signs (ks : List Nat) : Prop := ∀ k ∈ ks, 0 < k ∧ k ≤ 4
theorem flat_cons (k : Nat) (ks : List Nat) : flat (k :: ks) = bs k ++ flat ks := rfl
theorem flat_append (a b : List Nat) : flat (a ++ b) = flat a ++ flat b := by simp [flat]
theorem go_append : ∀ (a b : List Nat) (s : S), go (a ++ b) s = (go a s).bind (go b)
  | [], b, s => rfl
  | k :: a, b, s => by
    show (if bad k s then none else go (a ++ b) (next k s)) = (if bad k s then none else go a (next k s)).bind (go b)
    split
    · rfl
    · exact go_append a b _
/-- what is read of signs, and of what stands behind them -/
theorem run_flat : ∀ (ks : List Nat) (t : List UInt8) (a : Nat) (s s' : S) (b : Nat), Signs ks → go ks s = some s' → (flat ks ++ t).length ≤ b → run b (flat ks ++ t) a s = run t.length t (a + (flat ks).length) s'
  | [], t, a, s, s', b, _, hg, hb => by
    have e : s = s' := by simpa [go] using hg
    subst e
    show run b t a s = run t.length t (a + 0) s
    rw [Nat.add_zero]
    exact run_any (by simpa [flat] using hb)
  | k :: ks, t, a, s, s', b, hs, hg, hb => by
    have hk := hs k (List.mem_cons_self ..)
    have hg' : (if bad k s then none else go ks (next k s)) = some s' := hg
    by_cases hbad : bad k s
    · rw [if_pos hbad] at hg'; cases hg'
    · rw [if_neg hbad] at hg'
      have e : flat (k :: ks) ++ t = bs k ++ (flat ks ++ t) := by rw [flat_cons, List.append_assoc]
      have hne : flat (k :: ks) ++ t ≠ [] := by
        rw [e]; intro h
        have := bs_pos hk.1 hk.2
        have h2 := congrArg List.length h
        rw [List.length_append, List.length_nil] at h2
        omega
      have hsg : sg (flat (k :: ks) ++ t) = k := by rw [e]; exact sg_bs hk.1 hk.2 _
      rw [run_step hne hb (by rw [hsg]; exact hbad), hsg]
      have hd : (flat (k :: ks) ++ t).drop (bs k).length = flat ks ++ t := by rw [e]; simp
      rw [hd, run_flat ks t (a + (bs k).length) (next k s) s' _ (fun x hx => hs x (List.mem_cons_of_mem _ hx)) hg' (by rw [e]; simp)]
      rw [show a + (bs k).length + (flat ks).length = a + (flat (k :: ks)).length by rw [flat_cons, List.length_append]; omega]
/-- a text that is read is a row of signs -/
theorem signs_of : ∀ (b : Nat) (l : List UInt8) (a : Nat) (s : S) (s' : S) (n : Nat), l.length ≤ b → run b l a s = (some s', n) → ∃ ks, Signs ks ∧ l = flat ks ∧ go ks s = some s' ∧ s'.x = 0 ∧ s'.sp ≠ [] ∧ n = 0
  | 0, l, a, s, s', n, h, hr => by
    have e : l = [] := List.length_eq_zero_iff.1 (by omega)
    subst e
    have hr' : fin a s = (some s', n) := hr
    unfold fin at hr'
    split at hr'
    · cases hr'
    · rename_i hc
      have h1 := congrArg Prod.fst hr'
      have h2 := congrArg Prod.snd hr'
      simp at h1 h2
      subst h1
      have h3 : ¬ 0 < s.x := fun h => hc (.inl h)
      exact ⟨[], (by intro k hk; cases hk), rfl, rfl, by omega, fun h => hc (.inr h), h2.symm⟩
  | b + 1, l, a, s, s', n, h, hr => by
    by_cases hl : l = []
    · subst hl
      rw [run_nil] at hr
      unfold fin at hr
      split at hr
      · cases hr
      · rename_i hc
        have h1 := congrArg Prod.fst hr
        have h2 := congrArg Prod.snd hr
        simp at h1 h2
        subst h1
        have h3 : ¬ 0 < s.x := fun h => hc (.inl h)
        exact ⟨[], (by intro k hk; cases hk), rfl, rfl, by omega, fun h => hc (.inr h), h2.symm⟩
    · by_cases hb : bad (sg l) s
      · rw [run_bad hl h hb] at hr
        cases hr
      · have h0 : sg l ≠ 0 := by intro e; apply hb; unfold bad; rw [e, if_neg (by decide)]; exact .inl rfl
        have hp := bs_pos (k := sg l) (by omega) (sg_le l)
        have hr' : run b (l.drop (bs (sg l)).length) (a + (bs (sg l)).length) (next (sg l) s) = (some s', n) := by
          have : run (b + 1) l a s = run b (l.drop (bs (sg l)).length) (a + (bs (sg l)).length) (next (sg l) s) := by
            show (if l = [] then _ else if bad (sg l) s then _ else run b _ _ _) = _
            rw [if_neg hl, if_neg hb]
          rw [← this]; exact hr
        obtain ⟨ks, k1, k2, k3, k4⟩ := signs_of b _ _ _ _ _ (by rw [List.length_drop]; omega) hr'
        refine ⟨sg l :: ks, ?_, ?_, ?_, k4⟩
        · intro k hk
          rcases List.mem_cons.1 hk with rfl | hk
          · exact ⟨by omega, sg_le l⟩
          · exact k1 k hk
        · rw [flat_cons, ← k2]; exact bs_sg h0
        · show (if bad (sg l) s then none else go ks (next (sg l) s)) = some s'
          rw [if_neg hb]; exact k3
end Go.Proofs.YtgabgkgokmeaeaaGreat.Ti


/- Maps of tiles as lines of signs: what is read of them, and that it is theirs alone. -/
namespace Go.Proofs.YtgabgkgokmeaeaaGreat.Ti
set_option linter.unusedVariables false

/-- a map -/
structure M where
  W : Int
  H : Int
  ws : List Bool
  sp : List (Int × Int)
def zeroM : M := ⟨0, 0, [], []⟩
/-- where a line lets one come in -/
def spL (y : Nat) : Nat → List Nat → List (Int × Int)
  | _, [] => []
  | x, k :: c => (if k = 3 then [mid x y] else []) ++ spL y (x + 1) c
def spA : Nat → List (List Nat) → List (Int × Int)
  | _, [] => []
  | y, c :: L => spL y 0 c ++ spA (y + 1) L
def wsOf (c : List Nat) : List Bool := c.map (· == 1)
/-- lines of tiles, all of w of them -/
structure Lines (w : Nat) (L : List (List Nat)) : Prop where
  len : ∀ c ∈ L, c.length = w
  tile : ∀ c ∈ L, ∀ k ∈ c, 0 < k ∧ k ≤ 3
def toks (L : List (List Nat)) : List Nat := L.flatMap (· ++ [4])
theorem spL_append (y : Nat) : ∀ (c d : List Nat) (x : Nat), spL y x (c ++ d) = spL y x c ++ spL y (x + c.length) d
  | [], d, x => by simp [spL]
  | k :: c, d, x => by
    show (if k = 3 then [mid x y] else []) ++ spL y (x + 1) (c ++ d) = ((if k = 3 then [mid x y] else []) ++ spL y (x + 1) c) ++ spL y (x + (c.length + 1)) d
    rw [spL_append y c d (x + 1), List.append_assoc, show x + 1 + c.length = x + (c.length + 1) by omega]
theorem spA_append : ∀ (L K : List (List Nat)) (y : Nat), spA y (L ++ K) = spA y L ++ spA (y + L.length) K
  | [], K, y => by simp [spA]
  | c :: L, K, y => by
    show spL y 0 c ++ spA (y + 1) (L ++ K) = (spL y 0 c ++ spA (y + 1) L) ++ spA (y + (L.length + 1)) K
    rw [spA_append L K (y + 1), List.append_assoc, show y + 1 + L.length = y + (L.length + 1) by omega]
/-- what has been read behind the lines L and the signs c -/
def stOf (w : Nat) (L : List (List Nat)) (c : List Nat) : S := ⟨c.length, if L = [] then 0 else w, L.length, wsOf (L.flatten ++ c), spA 0 L ++ spL L.length 0 c⟩
theorem stOf_tile {w : Nat} {L : List (List Nat)} {c : List Nat} {k : Nat} (hk : k ≠ 4) : next k (stOf w L c) = stOf w L (c ++ [k]) := by
  unfold next stOf
  rw [if_neg hk]
  simp only [S.mk.injEq, true_and]
  refine ⟨by simp, by simp [wsOf], ?_⟩
  rw [spL_append]
  by_cases h3 : k = 3
  · subst h3; simp [spL, List.append_assoc]
  · rw [if_neg h3]; simp [spL, h3]
theorem stOf_end {w : Nat} {L : List (List Nat)} {c : List Nat} (hw : c.length = w) : next 4 (stOf w L c) = stOf w (L ++ [c]) [] := by
  unfold next stOf
  rw [if_pos rfl]
  simp only [S.mk.injEq]
  refine ⟨rfl, by simp [hw], by simp, by simp, ?_⟩
  rw [spA_append]
  simp [spA, spL]
/-- a line's tiles are read -/
theorem go_tiles {w : Nat} {L : List (List Nat)} (hL : L.length < 32) (hw : w ≤ 32) : ∀ (d c : List Nat), (∀ k ∈ d, 0 < k ∧ k ≤ 3) → c.length + d.length ≤ w → go d (stOf w L c) = some (stOf w L (c ++ d))
  | [], c, _, _ => by rw [List.append_nil]; rfl
  | k :: d, c, hk, hl => by
    have h1 := hk k (List.mem_cons_self ..)
    rw [List.length_cons] at hl
    have hb : ¬ bad k (stOf w L c) := by
      unfold bad
      rw [if_neg (by omega)]
      rintro (h | h | h | ⟨h, h2⟩)
      · omega
      · have : (stOf w L c).H = L.length := rfl
        omega
      · have : (stOf w L c).x = c.length := rfl
        omega
      · have e1 : (stOf w L c).x = c.length := rfl
        have e2 : (stOf w L c).W = if L = [] then 0 else w := rfl
        have e3 : (stOf w L c).H = L.length := rfl
        have : L ≠ [] := by intro e; subst e; simp [stOf] at h
        rw [if_neg this] at e2
        omega
    show (if bad k (stOf w L c) then none else go d (next k (stOf w L c))) = _
    rw [if_neg hb, stOf_tile (by omega), go_tiles hL hw d (c ++ [k]) (fun x hx => hk x (List.mem_cons_of_mem _ hx)) (by rw [List.length_append]; simp; omega)]
    rw [List.append_assoc]; rfl
/-- lines are read -/
theorem go_lines {w : Nat} (h0 : 0 < w) (hw : w ≤ 32) : ∀ (K L : List (List Nat)), Lines w K → L.length + K.length ≤ 32 → go (toks K) (stOf w L []) = some (stOf w (L ++ K) [])
  | [], L, _, _ => by rw [List.append_nil]; rfl
  | c :: K, L, hK, hl => by
    rw [List.length_cons] at hl
    have hc := hK.len c (List.mem_cons_self ..)
    have e : toks (c :: K) = c ++ ([4] ++ toks K) := by simp [toks]
    have h1 := go_tiles (w := w) (L := L) (by omega) hw c [] (hK.tile c (List.mem_cons_self ..)) (by simp; omega)
    rw [List.nil_append] at h1
    rw [e, go_append, h1]
    show go ([4] ++ toks K) (stOf w L c) = _
    have hb : ¬ bad 4 (stOf w L c) := by
      unfold bad
      rw [if_pos rfl]
      have e1 : (stOf w L c).x = c.length := rfl
      have e2 : (stOf w L c).W = if L = [] then 0 else w := rfl
      have e3 : (stOf w L c).H = L.length := rfl
      rintro (h | ⟨h, h2⟩)
      · omega
      · have : L ≠ [] := by intro e; subst e; simp [stOf] at h
        rw [if_neg this] at e2
        omega
    show (if bad 4 (stOf w L c) then none else go (toks K) (next 4 (stOf w L c))) = _
    rw [if_neg hb, stOf_end hc, go_lines h0 hw K (L ++ [c]) ⟨fun x hx => hK.len x (List.mem_cons_of_mem _ hx), fun x hx => hK.tile x (List.mem_cons_of_mem _ hx)⟩ (by rw [List.length_append]; simp; omega)]
    rw [List.append_assoc]; rfl
theorem signs_toks {w : Nat} {L : List (List Nat)} (h : Lines w L) : Signs (toks L) := by
  intro k hk
  obtain ⟨c, hc, hk⟩ := List.mem_flatMap.1 hk
  rcases List.mem_append.1 hk with hk | hk
  · have := h.tile c hc k hk; omega
  · simp at hk; omega
/-- signs that are read are lines -/
structure Are (w : Nat) (ks : List Nat) (s : S) (L : List (List Nat)) (c : List Nat) : Prop where
  lines : Lines w L
  tile : ∀ k ∈ c, 0 < k ∧ k ≤ 3
  is : ks = toks L ++ c
  st : s = stOf w L c
  h : L.length ≤ 32
  cl : c.length ≤ 32
  hc : 0 < c.length → L.length < 32
  wl : L ≠ [] → 0 < w ∧ w ≤ 32 ∧ c.length ≤ w
theorem lines_of : ∀ (ks : List Nat) (w : Nat) (s s' : S) (js : List Nat) (L : List (List Nat)) (c : List Nat), Signs ks → go ks s = some s' → Are w js s L c → ∃ w' L' c', Are w' (js ++ ks) s' L' c'
  | [], w, s, s', js, L, c, _, hg, hA => by
    have e : s = s' := by simpa [go] using hg
    subst e
    exact ⟨w, L, c, by rw [List.append_nil]; exact hA⟩
  | k :: ks, w, s, s', js, L, c, hs, hg, hA => by
    have hk := hs k (List.mem_cons_self ..)
    have hg' : (if bad k s then none else go ks (next k s)) = some s' := hg
    by_cases hb : bad k s
    · rw [if_pos hb] at hg'; cases hg'
    · rw [if_neg hb] at hg'
      have hs' : Signs ks := fun x hx => hs x (List.mem_cons_of_mem _ hx)
      have hst := hA.st
      rw [hst] at hb
      unfold bad at hb
      have e1 : (stOf w L c).x = c.length := rfl
      have e2 : (stOf w L c).W = if L = [] then 0 else w := rfl
      have e3 : (stOf w L c).H = L.length := rfl
      have ejs : js ++ k :: ks = (js ++ [k]) ++ ks := by simp
      rw [ejs]
      by_cases h4 : k = 4
      · subst h4
        rw [if_pos rfl] at hb
        have hx : 0 < c.length := by
          by_cases h : c.length = 0
          · exact absurd (.inl (by rw [e1]; exact h)) hb
          · omega
        by_cases hL : L = []
        · subst hL
          have hA0 : Are c.length js s [] c := ⟨⟨by simp, by simp⟩, hA.tile, hA.is, by rw [hst]; rfl, by simp, hA.cl, fun _ => by simp, fun h => absurd rfl h⟩
          refine lines_of ks c.length (next 4 s) s' (js ++ [4]) [c] [] hs' hg' ⟨⟨by simp, by simpa using hA.tile⟩, by simp, ?_, ?_, by simp, by simp, fun h => by simp at h, fun _ => ⟨hx, hA.cl, by simp⟩⟩
          · rw [hA.is]; simp [toks]
          · rw [hA0.st, stOf_end rfl]; rfl
        · have hw := hA.wl hL
          have hcw : c.length = w := by
            by_cases h : c.length = w
            · exact h
            · refine absurd (.inr ⟨?_, ?_⟩) hb
              · rw [e3]; exact List.length_pos_iff.2 hL
              · rw [e1, e2, if_neg hL]; exact h
          have hH := hA.hc hx
          refine lines_of ks w (next 4 s) s' (js ++ [4]) (L ++ [c]) [] hs' hg' ⟨⟨?_, ?_⟩, by simp, ?_, ?_, by rw [List.length_append]; simp; omega, by simp, fun h => by simp at h, fun _ => ⟨hw.1, hw.2.1, by simp⟩⟩
          · intro x hx'; rcases List.mem_append.1 hx' with h | h
            · exact hA.lines.len x h
            · simp at h; subst h; exact hcw
          · intro x hx'; rcases List.mem_append.1 hx' with h | h
            · exact hA.lines.tile x h
            · simp at h; subst h; exact hA.tile
          · rw [hA.is]; simp [toks]
          · rw [hst, stOf_end hcw]
      · rw [if_neg h4] at hb
        have hx : c.length < 32 := by
          by_cases h : c.length < 32
          · exact h
          · exact absurd (.inr (.inr (.inl (by rw [e1]; omega)))) hb
        have hH : L.length < 32 := by
          by_cases h : L.length < 32
          · exact h
          · exact absurd (.inr (.inl (by rw [e3]; omega))) hb
        refine lines_of ks w (next k s) s' (js ++ [k]) L (c ++ [k]) hs' hg' ⟨hA.lines, ?_, ?_, ?_, hA.h, by rw [List.length_append]; simp; omega, fun _ => hH, fun hL => ?_⟩
        · intro x hx'; rcases List.mem_append.1 hx' with h | h
          · exact hA.tile x h
          · simp at h; subst h; omega
        · rw [hA.is]; simp
        · rw [hst, stOf_tile h4]
        · have hw := hA.wl hL
          refine ⟨hw.1, hw.2.1, ?_⟩
          rw [List.length_append]
          by_cases h : w ≤ c.length
          · exact absurd (.inr (.inr (.inr ⟨by rw [e3]; exact List.length_pos_iff.2 hL, by rw [e1, e2, if_neg hL]; exact h⟩))) hb
          · simp; omega
/-- lines that a map may have -/
structure Good (L : List (List Nat)) : Prop where
  lines : Lines (L.headD []).length L
  h0 : 0 < L.length
  h : L.length ≤ 32
  w0 : 0 < (L.headD []).length
  w : (L.headD []).length ≤ 32
  some : spA 0 L ≠ []
def text (L : List (List Nat)) : List UInt8 := flat (toks L)
def mapOf (L : List (List Nat)) : M := ⟨((L.headD []).length : Int), (L.length : Int), wsOf L.flatten, spA 0 L⟩
def mOf (s : S) : M := ⟨(s.W : Int), (s.H : Int), s.ws, s.sp⟩
theorem good_read {L : List (List Nat)} (h : Good L) : read (text L) = (Option.some (stOf (L.headD []).length L []), 0) := by
  have hg := go_lines h.w0 h.w L [] h.lines (by simpa using h.h)
  rw [List.nil_append] at hg
  have hs0 : stOf (L.headD []).length [] [] = s0 := rfl
  rw [hs0] at hg
  have := run_flat (toks L) [] 0 s0 _ (text L).length (signs_toks h.lines) hg (by rw [List.append_nil]; exact Nat.le_refl _)
  rw [List.append_nil] at this
  unfold read
  rw [show text L = flat (toks L) from rfl] at this ⊢
  rw [this]
  show run 0 [] _ _ = _
  show fin _ _ = _
  unfold fin
  have h2 : ¬ (0 < (stOf (L.headD []).length L []).x ∨ (stOf (L.headD []).length L []).sp = []) := by
    rintro (h | h')
    · simp [stOf] at h
    · simp [stOf, spL] at h'; exact h.some h'
  rw [if_neg h2]
theorem mOf_stOf {L : List (List Nat)} (h : Good L) : mOf (stOf (L.headD []).length L []) = mapOf L := by
  have : L ≠ [] := List.length_pos_iff.1 h.h0
  simp [mOf, stOf, mapOf, this, spL]
theorem read_good {l : List UInt8} {s : S} {n : Nat} (h : read l = (Option.some s, n)) : ∃ L, Good L ∧ l = text L ∧ mOf s = mapOf L ∧ n = 0 := by
  obtain ⟨ks, h1, h2, h3, h4, h5, h6⟩ := signs_of _ _ _ _ _ _ (Nat.le_refl _) h
  have hA : Are 0 [] s0 [] [] := ⟨⟨by simp, by simp⟩, by simp, rfl, rfl, by simp, by simp, fun h => by simp at h, fun h => absurd rfl h⟩
  obtain ⟨w, L, c, hB⟩ := lines_of ks 0 s0 s [] [] [] h1 h3 hA
  rw [List.nil_append] at hB
  have hc : c = [] := by
    have := hB.st
    rw [this] at h4
    exact List.length_eq_zero_iff.1 h4
  subst hc
  have hL : L ≠ [] := by
    intro e
    subst e
    rw [hB.st] at h5
    exact h5 rfl
  have hw := hB.wl hL
  have hh : (L.headD []).length = w := by
    cases L with
    | nil => exact absurd rfl hL
    | cons c L => exact hB.lines.len c (List.mem_cons_self ..)
  have hG : Good L := ⟨by rw [hh]; exact hB.lines, List.length_pos_iff.2 hL, hB.h, by omega, by omega, by rw [hB.st] at h5; simpa [stOf, spL] using h5⟩
  refine ⟨L, hG, ?_, ?_, h6⟩
  · rw [h2, hB.is, List.append_nil]; rfl
  · rw [← mOf_stOf hG, hh, hB.st]
end Go.Proofs.YtgabgkgokmeaeaaGreat.Ti


/- Maps of tiles: a map's lines, whether it can be read, its text; texts that are cut; what is free. -/
namespace Go.Proofs.YtgabgkgokmeaeaaGreat.Ti
set_option linter.unusedVariables false

def wall (m : M) (x y : Nat) : Bool := m.ws.getD (y * m.W.toNat + x) false
def code (m : M) (x y : Nat) : Nat := if wall m x y then 1 else if mid x y ∈ m.sp then 3 else 2
def lineOf (m : M) (y : Nat) : List Nat := (List.range m.W.toNat).map fun x => code m x y
def linesOf (m : M) : List (List Nat) := (List.range m.H.toNat).map fun y => lineOf m y
/-- its numbers may be -/
def Dims (m : M) : Prop := 1 ≤ m.W ∧ m.W ≤ 32 ∧ 1 ≤ m.H ∧ m.H ≤ 32 ∧ (m.ws.length : Int) = m.W * m.H
def Formed (m : M) : Prop := Dims m ∧ m.sp ≠ [] ∧ spA 0 (linesOf m) = m.sp
abbrev decF (m : M) : Decidable (Formed m) := by unfold Formed Dims; exact inferInstance
def formedB (m : M) : Bool := @decide (Formed m) (decF m)
theorem formedB_iff {m : M} : formedB m = true ↔ Formed m := @decide_eq_true_iff (Formed m) (decF m)
theorem formedB_not {m : M} (h : ¬ Formed m) : formedB m = false := by
  cases hf : formedB m with
  | false => rfl
  | true => exact absurd (formedB_iff.1 hf) h
def textOf (m : M) : List UInt8 := text (linesOf m)

theorem mid_inj {x y x' y' : Nat} (h : mid x y = mid x' y') : x = x' ∧ y = y' := by
  have h1 := congrArg Prod.fst h
  have h2 := congrArg Prod.snd h
  simp only [mid] at h1 h2
  omega
theorem mem_spL {y : Nat} {p : Int × Int} : ∀ {c : List Nat} {x : Nat}, p ∈ spL y x c ↔ ∃ j, c[j]? = some 3 ∧ p = mid (x + j) y
  | [], x => by simp [spL]
  | k :: c, x => by
    show p ∈ (if k = 3 then [mid x y] else []) ++ spL y (x + 1) c ↔ _
    rw [List.mem_append, mem_spL (c := c) (x := x + 1)]
    constructor
    · rintro (h | ⟨j, h1, h2⟩)
      · by_cases hk : k = 3
        · rw [if_pos hk] at h
          simp at h
          exact ⟨0, by simp [hk], by simpa using h⟩
        · rw [if_neg hk] at h; cases h
      · exact ⟨j + 1, by simpa using h1, by rw [h2]; congr 1; omega⟩
    · rintro ⟨j, h1, h2⟩
      cases j with
      | zero =>
        simp at h1
        subst h1
        exact .inl (by simpa using h2)
      | succ j => exact .inr ⟨j, by simpa using h1, by rw [h2]; congr 1; omega⟩
theorem mem_spA {p : Int × Int} : ∀ {L : List (List Nat)} {y : Nat}, p ∈ spA y L ↔ ∃ j c x, L[j]? = some c ∧ c[x]? = some 3 ∧ p = mid x (y + j)
  | [], y => by simp [spA]
  | c :: L, y => by
    show p ∈ spL y 0 c ++ spA (y + 1) L ↔ _
    rw [List.mem_append, mem_spL, mem_spA (L := L) (y := y + 1)]
    constructor
    · rintro (⟨x, h1, h2⟩ | ⟨j, d, x, h1, h2, h3⟩)
      · exact ⟨0, c, x, rfl, h1, by rw [h2]; congr 1; omega⟩
      · exact ⟨j + 1, d, x, by simpa using h1, h2, by rw [h3]; congr 1; omega⟩
    · rintro ⟨j, d, x, h1, h2, h3⟩
      cases j with
      | zero =>
        simp at h1
        subst h1
        exact .inl ⟨x, h2, by rw [h3]; congr 1; omega⟩
      | succ j => exact .inr ⟨j, d, x, by simpa using h1, h2, by rw [h3]; congr 1; omega⟩
theorem flatten_at {α : Type} {w : Nat} : ∀ {L : List (List α)}, (∀ c ∈ L, c.length = w) → ∀ {y x : Nat} {c : List α}, L[y]? = some c → x < w → L.flatten[y * w + x]? = c[x]?
  | [], _, y, x, c, h, _ => by simp at h
  | d :: L, hl, y, x, c, h, hx => by
    have hd := hl d (List.mem_cons_self ..)
    rw [List.flatten_cons]
    cases y with
    | zero =>
      simp at h
      subst h
      rw [Nat.zero_mul, Nat.zero_add, List.getElem?_append_left (by omega)]
    | succ y =>
      rw [List.getElem?_append_right (by rw [Nat.add_mul]; omega), hd, show (y + 1) * w + x - w = y * w + x by rw [Nat.add_mul]; omega]
      exact flatten_at (fun c hc => hl c (List.mem_cons_of_mem _ hc)) (by simpa using h) hx
theorem flatten_len {α : Type} {w : Nat} : ∀ {L : List (List α)}, (∀ c ∈ L, c.length = w) → L.flatten.length = L.length * w
  | [], _ => by simp
  | d :: L, hl => by
    rw [List.flatten_cons, List.length_append, hl d (List.mem_cons_self ..), flatten_len (fun c hc => hl c (List.mem_cons_of_mem _ hc)), List.length_cons, Nat.add_mul]; omega

theorem code_rng (m : M) (x y : Nat) : 0 < code m x y ∧ code m x y ≤ 3 := by
  unfold code
  split
  · omega
  · split <;> omega
theorem line_len (m : M) (y : Nat) : (lineOf m y).length = m.W.toNat := by simp [lineOf]
theorem lines_len (m : M) : (linesOf m).length = m.H.toNat := by simp [linesOf]
theorem lines_lines (m : M) : Lines m.W.toNat (linesOf m) := by
  refine ⟨?_, ?_⟩
  · intro c hc
    obtain ⟨y, _, rfl⟩ := List.mem_map.1 hc
    exact line_len m y
  · intro c hc k hk
    obtain ⟨y, _, rfl⟩ := List.mem_map.1 hc
    obtain ⟨x, _, rfl⟩ := List.mem_map.1 hk
    exact code_rng m x y
theorem lines_at {m : M} {y : Nat} (h : y < m.H.toNat) : (linesOf m)[y]? = some (lineOf m y) := by simp [linesOf, h]
theorem line_at {m : M} {x y : Nat} (h : x < m.W.toNat) : (lineOf m y)[x]? = some (code m x y) := by simp [lineOf, h]
theorem head_len {m : M} (h : 0 < m.H.toNat) : ((linesOf m).headD []).length = m.W.toNat := by
  have h0 := lines_at h
  cases hl : linesOf m with
  | nil => rw [hl] at h0; simp at h0
  | cons c L => rw [hl] at h0; simp at h0; subst h0; exact line_len m 0
theorem wall_code (m : M) (x y : Nat) : (code m x y == 1) = wall m x y := by
  unfold code
  cases wall m x y with
  | true => rfl
  | false => simp only [Bool.false_eq_true, if_false]; split <;> rfl
theorem ws_lines {m : M} (h : Dims m) : wsOf (linesOf m).flatten = m.ws := by
  obtain ⟨h1, h2, h3, h4, h5⟩ := h
  have hW : (m.W.toNat : Int) = m.W := by omega
  have hH : (m.H.toNat : Int) = m.H := by omega
  have hlen : m.ws.length = m.H.toNat * m.W.toNat := by
    have : (m.ws.length : Int) = ((m.H.toNat * m.W.toNat : Nat) : Int) := by rw [h5, Int.natCast_mul, hW, hH, Int.mul_comm]
    omega
  have hfl := flatten_len (lines_lines m).len
  rw [lines_len] at hfl
  apply List.ext_getElem?
  intro i
  unfold wsOf
  rw [List.getElem?_map]
  by_cases hi : i < m.H.toNat * m.W.toNat
  · have hw0 : 0 < m.W.toNat := by omega
    have hq : i / m.W.toNat < m.H.toNat := by rw [Nat.div_lt_iff_lt_mul hw0]; exact hi
    have hr := Nat.mod_lt i hw0
    have e : i / m.W.toNat * m.W.toNat + i % m.W.toNat = i := by have := Nat.div_add_mod i m.W.toNat; rw [Nat.mul_comm] at this; exact this
    have h6 := flatten_at (lines_lines m).len (lines_at hq) hr
    rw [e, line_at hr] at h6
    rw [h6]
    show some (code m (i % m.W.toNat) (i / m.W.toNat) == 1) = _
    rw [wall_code]
    unfold wall
    rw [e, List.getElem?_eq_getElem (by omega)]
    simp [List.getD, List.getElem?_eq_getElem (show i < m.ws.length by omega)]
  · rw [List.getElem?_eq_none (by omega), List.getElem?_eq_none (by omega)]
    rfl
theorem mapOf_lines {m : M} (h : Dims m) : mapOf (linesOf m) = ⟨m.W, m.H, m.ws, spA 0 (linesOf m)⟩ := by
  have h' := h
  obtain ⟨h1, h2, h3, h4, h5⟩ := h
  unfold mapOf
  rw [head_len (by omega), lines_len, ws_lines h', show ((m.W.toNat : Nat) : Int) = m.W by omega, show ((m.H.toNat : Nat) : Int) = m.H by omega]
theorem good_lines {m : M} (h : Dims m) (hs : spA 0 (linesOf m) ≠ []) : Good (linesOf m) := by
  obtain ⟨h1, h2, h3, h4, h5⟩ := h
  refine ⟨by rw [head_len (by omega)]; exact lines_lines m, by rw [lines_len]; omega, by rw [lines_len]; omega, by rw [head_len (by omega)]; omega, by rw [head_len (by omega)]; omega, hs⟩
/-- a map that can be read: its lines -/
theorem formed_good {m : M} (h : Formed m) : Good (linesOf m) ∧ mapOf (linesOf m) = m := by
  obtain ⟨h1, h2, h3⟩ := h
  refine ⟨good_lines h1 (by rw [h3]; exact h2), ?_⟩
  rw [mapOf_lines h1, h3]
theorem linesOf_mapOf {L : List (List Nat)} (h : Good L) : linesOf (mapOf L) = L := by
  have hH : (mapOf L).H.toNat = L.length := by simp [mapOf]
  have hW : (mapOf L).W.toNat = (L.headD []).length := by simp [mapOf]
  apply List.ext_getElem?
  intro y
  by_cases hy : y < L.length
  · rw [lines_at (by omega)]
    obtain ⟨c, hc⟩ : ∃ c, L[y]? = some c := ⟨_, List.getElem?_eq_getElem hy⟩
    rw [hc]
    congr 1
    have hcm := List.mem_of_getElem? hc
    have hcl := h.lines.len c hcm
    apply List.ext_getElem?
    intro x
    by_cases hx : x < (L.headD []).length
    · rw [line_at (by omega)]
      obtain ⟨k, hk⟩ : ∃ k, c[x]? = some k := ⟨_, List.getElem?_eq_getElem (by omega)⟩
      rw [hk]
      congr 1
      have hkr := h.lines.tile c hcm k (List.mem_of_getElem? hk)
      have hw : wall (mapOf L) x y = (k == 1) := by
        unfold wall
        rw [hW]
        show (wsOf L.flatten).getD _ false = _
        unfold wsOf
        have := flatten_at h.lines.len hc hx
        rw [hk] at this
        rw [List.getD_eq_getElem?_getD, List.getElem?_map, this]
        rfl
      unfold code
      rw [hw]
      by_cases h1 : k = 1
      · subst h1; rfl
      · rw [show (k == 1) = false by simpa using h1]
        simp only [Bool.false_eq_true, if_false]
        by_cases h3 : k = 3
        · subst h3
          rw [if_pos]
          show mid x y ∈ spA 0 L
          rw [mem_spA]
          exact ⟨y, c, x, hc, hk, by rw [Nat.zero_add]⟩
        · rw [if_neg]
          · omega
          · intro hm
            have hm' : mid x y ∈ spA 0 L := hm
            rw [mem_spA] at hm'
            obtain ⟨j, d, x', e1, e2, e3⟩ := hm'
            rw [Nat.zero_add] at e3
            obtain ⟨rfl, rfl⟩ := mid_inj e3
            rw [hc] at e1
            simp at e1
            subst e1
            rw [hk] at e2
            simp at e2
            exact h3 e2
    · rw [List.getElem?_eq_none (by rw [line_len]; omega), List.getElem?_eq_none (by omega)]
  · rw [List.getElem?_eq_none (by rw [lines_len]; omega), List.getElem?_eq_none (by omega)]
theorem good_formed {L : List (List Nat)} (h : Good L) : Formed (mapOf L) := by
  have h0 := h.h0
  have h1 := h.h
  have h2 := h.w0
  have h3 := h.w
  refine ⟨⟨by show (1 : Int) ≤ ((L.headD []).length : Int); omega, by show ((L.headD []).length : Int) ≤ 32; omega, by show (1 : Int) ≤ (L.length : Int); omega, by show (L.length : Int) ≤ 32; omega, ?_⟩, h.some, by rw [linesOf_mapOf h]; rfl⟩
  show ((wsOf L.flatten).length : Int) = ((L.headD []).length : Int) * (L.length : Int)
  unfold wsOf
  rw [List.length_map, flatten_len h.lines.len, Int.natCast_mul, Int.mul_comm]
/-- what is read can be read, and from that text alone -/
theorem read_formed {l : List UInt8} {s : S} {n : Nat} (h : read l = (some s, n)) : Formed (mOf s) ∧ l = textOf (mOf s) ∧ n = 0 := by
  obtain ⟨L, hG, h1, h2, h3⟩ := read_good h
  rw [h2]
  refine ⟨good_formed hG, ?_, h3⟩
  unfold textOf
  rw [linesOf_mapOf hG]; exact h1
/-- a map that can be read is read from its text -/
theorem formed_read {m : M} (h : Formed m) : ∃ s, read (textOf m) = (some s, 0) ∧ mOf s = m := by
  obtain ⟨hG, hm⟩ := formed_good h
  exact ⟨_, good_read hG, by rw [mOf_stOf hG]; exact hm⟩
/-- of a map whose numbers may be, with none to come in by its lines: its text isn't read -/
theorem dims_read {m : M} (h : Dims m) : (spA 0 (linesOf m) ≠ [] ∧ ∃ s, read (textOf m) = (some s, 0) ∧ mOf s = ⟨m.W, m.H, m.ws, spA 0 (linesOf m)⟩) ∨ (spA 0 (linesOf m) = [] ∧ (read (textOf m)).1 = none) := by
  by_cases hs : spA 0 (linesOf m) = []
  · refine .inr ⟨hs, ?_⟩
    cases hr : (read (textOf m)).1 with
    | none => rfl
    | some s =>
      exfalso
      have hr' : read (textOf m) = (some s, (read (textOf m)).2) := by rw [← hr]
      obtain ⟨L, hG, h1, h2, h3⟩ := read_good hr'
      obtain ⟨h1', h2', h3', h4', h5'⟩ := h
      have hg := go_lines (w := m.W.toNat) (by omega) (by omega) (linesOf m) [] (lines_lines m) (by simp [lines_len]; omega)
      have hrun := run_flat (toks (linesOf m)) [] 0 s0 _ (textOf m).length (signs_toks (lines_lines m)) hg (by rw [List.append_nil]; exact Nat.le_refl _)
      rw [List.append_nil] at hrun
      have : read (textOf m) = fin _ _ := hrun
      rw [this] at hr'
      unfold fin at hr'
      rw [if_pos (.inr (by simp [stOf, spL, hs]))] at hr'
      cases hr'
  · have hG := good_lines h hs
    exact .inl ⟨hs, _, good_read hG, by rw [mOf_stOf hG]; exact mapOf_lines h⟩

/-- a beginning of a sign is none -/
theorem sg_part {k j : Nat} (hk : 0 < k ∧ k ≤ 4) (hj : j < (bs k).length) : sg ((bs k).take j) = 0 := by
  match k, hk with
  | 1, _ => match j, hj with
    | 0, _ => decide
    | 1, _ => decide
    | 2, _ => decide
  | 2, _ => match j, hj with
    | 0, _ => decide
    | 1, _ => decide
  | 3, _ => match j, hj with
    | 0, _ => decide
    | 1, _ => decide
    | 2, _ => decide
  | 4, _ => match j, hj with
    | 0, _ => decide
/-- signs that are cut: the whole ones, and a beginning of the next -/
theorem cut_signs : ∀ (ks : List Nat) (n : Nat), Signs ks → n < (flat ks).length → ∃ es k cs j, ks = es ++ k :: cs ∧ j < (bs k).length ∧ (flat ks).take n = flat es ++ (bs k).take j
  | [], n, _, h => by simp [flat] at h
  | k :: ks, n, hs, h => by
    by_cases hn : n < (bs k).length
    · refine ⟨[], k, ks, n, rfl, hn, ?_⟩
      rw [flat_cons, List.take_append_of_le_length (by omega)]; rfl
    · rw [flat_cons, List.length_append] at h
      obtain ⟨es, k', cs, j, e1, e2, e3⟩ := cut_signs ks (n - (bs k).length) (fun x hx => hs x (List.mem_cons_of_mem _ hx)) (by omega)
      refine ⟨k :: es, k', cs, j, by rw [e1]; rfl, e2, ?_⟩
      rw [flat_cons, List.take_append, e3, List.take_of_length_le (by omega), flat_cons, List.append_assoc]
theorem go_prefix {es bs' : List Nat} {s s' : S} (h : go (es ++ bs') s = some s') : ∃ s1, go es s = some s1 := by
  rw [go_append] at h
  cases hg : go es s with
  | none => rw [hg] at h; cases h
  | some s1 => exact ⟨s1, rfl⟩
theorem go_last : ∀ (es : List Nat) (s s' : S), Signs es → go es s = some s' → es ≠ [] → s'.x = 0 → ∃ cs, es = cs ++ [4]
  | [], s, s', _, _, h, _ => absurd rfl h
  | k :: es, s, s', hs, hg, _, hx => by
    have hg' : (if bad k s then none else go es (next k s)) = some s' := hg
    by_cases hb : bad k s
    · rw [if_pos hb] at hg'; cases hg'
    · rw [if_neg hb] at hg'
      by_cases ha : es = []
      · subst ha
        have e : next k s = s' := by simpa [go] using hg'
        by_cases h4 : k = 4
        · exact ⟨[], by rw [h4]; rfl⟩
        · exfalso
          rw [← e] at hx
          unfold next at hx
          rw [if_neg h4] at hx
          simp at hx
      · obtain ⟨cs, e⟩ := go_last es _ _ (fun x hx => hs x (List.mem_cons_of_mem _ hx)) hg' ha hx
        exact ⟨k :: cs, by rw [e]; rfl⟩
/-- a map's text that is cut: it is read only behind a line's end; else it is refused at its end, or at the sign that is cut -/
theorem read_cut {l : List UInt8} {s : S} {n k : Nat} (h : read l = (some s, n)) (hk : k < l.length) : (∃ s', (read (l.take k)).1 = some s' ∧ 0 < k ∧ l[k - 1]? = some 10) ∨ ((read (l.take k)).1 = none ∧ (read (l.take k)).2 ≤ k ∧ k < (read (l.take k)).2 + 4) := by
  obtain ⟨ks, h1, h2, h3, h4, h5, h6⟩ := signs_of _ _ _ _ _ _ (Nat.le_refl _) h
  subst h2
  obtain ⟨es, t, cs, j, e1, e2, e3⟩ := cut_signs ks k h1 hk
  have hA : Signs es := fun x hx => h1 x (by rw [e1]; exact List.mem_append_left _ hx)
  have ht : 0 < t ∧ t ≤ 4 := h1 t (by rw [e1]; simp)
  rw [e1] at h3
  obtain ⟨s1, hs1⟩ := go_prefix h3
  have hlen : k = (flat es).length + j := by
    have := congrArg List.length e3
    rw [List.length_take, List.length_append, List.length_take] at this
    omega
  have hr : read ((flat ks).take k) = run ((bs t).take j).length ((bs t).take j) (0 + (flat es).length) s1 := by
    unfold read
    rw [e3]
    exact run_flat es _ 0 s0 s1 _ hA hs1 (Nat.le_refl _)
  have hj3 := bs_le t
  by_cases hj : j = 0
  · subst hj
    rw [List.take_zero] at hr
    have hr' : read ((flat ks).take k) = fin (0 + (flat es).length) s1 := hr
    unfold fin at hr'
    by_cases hc : 0 < s1.x ∨ s1.sp = []
    · rw [if_pos hc] at hr'
      right
      rw [hr']
      exact ⟨rfl, by show 0 + (flat es).length ≤ k; omega, by show k < 0 + (flat es).length + 4; omega⟩
    · rw [if_neg hc] at hr'
      left
      have hx : s1.x = 0 := by
        by_cases hx : s1.x = 0
        · exact hx
        · exact absurd (.inl (by omega)) hc
      have hne : es ≠ [] := by
        intro e
        subst e
        have : s0 = s1 := by simpa [go] using hs1
        subst this
        exact hc (.inr rfl)
      obtain ⟨ds, e⟩ := go_last es _ _ hA hs1 hne hx
      refine ⟨s1, by rw [hr'], ?_, ?_⟩
      · rw [hlen, e, flat_append, List.length_append]; simp [flat, bs]
      · rw [e1, e, flat_append, flat_append, List.getElem?_append_left (by rw [hlen, e, flat_append, List.length_append]; simp [flat, bs]), List.getElem?_append_right (by rw [hlen, e, flat_append, List.length_append]; simp [flat, bs])]
        rw [hlen, e, flat_append, List.length_append]
        simp [flat, bs]
  · have hne : (bs t).take j ≠ [] := by
      intro e
      have := congrArg List.length e
      rw [List.length_take, List.length_nil] at this
      omega
    have hb : bad (sg ((bs t).take j)) s1 := by rw [sg_part ht e2]; unfold bad; rw [if_neg (by decide)]; exact .inl rfl
    rw [run_bad hne (Nat.le_refl _) hb] at hr
    right
    rw [hr]
    exact ⟨rfl, by show 0 + (flat es).length ≤ k; omega, by show k < 0 + (flat es).length + 4; omega⟩
end Go.Proofs.YtgabgkgokmeaeaaGreat.Ti


/- Which blocks a call may have turned: all that lay there lies as it lay but for those that are named. Slices of the call's own, told by a list, with the block in which they lie. Over any program. -/
namespace Go.Proofs.YtgabgkgokmeaeaaGreat
open Go.RowKit
set_option linter.unusedVariables false

/-- but for the blocks S all that lay in w lies in w' as it lay -/
structure Turned (S : List Nat) (w w' : World) : Prop where
  os : w'.os = w.os
  tape : w'.tape = w.tape
  output : w'.output = w.output
  size : w.heap.size ≤ w'.heap.size
  block : ∀ k, k < w.heap.size → k ∉ S → w'.heap[k]? = w.heap[k]?
namespace Turned
variable {S S' : List Nat} {w w' w'' : World}
theorem refl (S : List Nat) (w : World) : Turned S w w := ⟨rfl, rfl, rfl, Nat.le_refl _, fun _ _ _ => rfl⟩
theorem mono (h : Turned S w w') (hs : ∀ k ∈ S, k < w.heap.size → k ∈ S') : Turned S' w w' :=
  ⟨h.os, h.tape, h.output, h.size, fun k hk hn => h.block k hk fun hm => hn (hs k hm hk)⟩
theorem trans (h : Turned S w w') (h' : Turned S' w' w'') (hs : ∀ k ∈ S', k < w.heap.size → k ∈ S) : Turned S w w'' :=
  ⟨h'.os.trans h.os, h'.tape.trans h.tape, h'.output.trans h.output, Nat.le_trans h.size h'.size, fun k hk hn => (h'.block k (Nat.lt_of_lt_of_le hk h.size) fun hm => hn (hs k hm hk)).trans (h.block k hk hn)⟩
theorem drew (h : Turned S w w') : Turned S w w'.drew := ⟨h.os, h.tape, h.output, h.size, h.block⟩
theorem alloc (h : Turned S w w') (o : Obj) : Turned S w (w'.alloc o) :=
  h.trans (S' := []) ⟨rfl, rfl, rfl, by simp, fun k hk _ => Below.heap_alloc _ _ _ hk⟩ (by simp)
theorem setCell (h : Turned S w w') {p : Addr} (hp : p.block ∈ S ∨ w.heap.size ≤ p.block) (u : Value) : Turned S w (w'.setCell p u) :=
  h.trans (S' := [p.block]) ⟨rfl, rfl, rfl, by simp [World.setCell], fun k hk hn => Below.heap_setCell _ _ _ _ (by simpa using hn)⟩ (by
    intro k hk hl
    simp at hk
    subst hk
    rcases hp with h | h
    · exact h
    · omega)
theorem grown (h : Turned S w w') {row : Option Nat} (hg : w'.grownBy w'' row) (hr : ∀ k, row = some k → k ∈ S ∨ w.heap.size ≤ k) : Turned S w w'' :=
  h.trans (S' := row.toList) ⟨hg.os, hg.tape, hg.output, hg.size, fun k hk hn => hg.block k hk fun e => hn (by rw [← e]; simp)⟩ (by
    intro k hk hl
    have e : row = some k := by simpa using hk
    rcases hr k e with h | h
    · exact h
    · omega)
theorem ofBelow (h : Below w.heap.size w w') : Turned [] w w' := ⟨h.os, h.tape, h.output, h.size, fun k hk _ => h.block k hk⟩
theorem below {B : Nat} (h : Turned S w w') (hB : B ≤ w.heap.size) (hs : ∀ k ∈ S, B ≤ k) : Below B w w' :=
  ⟨h.os, h.tape, h.output, h.size, fun k hk => h.block k (Nat.lt_of_lt_of_le hk hB) fun hm => by have := hs k hm; omega⟩
theorem none (h : Turned [] w w') : Below w.heap.size w w' := h.below (Nat.le_refl _) (by simp)
theorem cell (h : Turned S w w') {p : Addr} (hl : p.block < w.heap.size) (hn : p.block ∉ S) : w'.cell? p = w.cell? p := World.cell?_of_block (w := w) (h.block p.block hl hn)
theorem frozen (h : Turned S w w') {p : Addr} (hl : p.block < w.heap.size) (hn : p.block ∉ S) : w'.frozen? p = w.frozen? p := World.frozen?_of_block (w := w) (h.block p.block hl hn)
end Turned

/-- the block of a slice of the call's own -/
def blk (v : Value) : List Nat := v.ownBlock.toList
/-- v owns the elements l, sz cells each -/
def OwnL {α : Type} (e : TypeId) (sz : Nat) (enc : α → List Value) (v : Value) (l : List α) (w : World) : Prop := w.ownsRow 0 e sz v l.length (l.flatMap enc)
/-- what the program's table says of a slice's type and its elements' -/
structure ElemOk (P : Program) (t e : TypeId) (z : Value) (sz bytes : Nat) : Prop where
  und : P.underlying t = some (.slice e)
  info : (P.info? e).map (fun i => (i.zero, i.size, i.bytes)) = some (some z, sz, bytes)
  zs : z.cells.size = sz
  pos : 0 < sz

section
variable {α : Type} {e : TypeId} {sz : Nat} {enc : α → List Value} {v : Value} {l : List α} {w w' : World} {S : List Nat}
theorem blk_nil : blk (.slice Option.none 0 0) = [] := rfl
theorem OwnL.nil (e : TypeId) (sz : Nat) (enc : α → List Value) (w : World) : OwnL e sz enc (.slice Option.none 0 0) [] w := World.ownsRow_nil _ _ _ _
theorem OwnL.lt (h : OwnL e sz enc v l w) : ∀ k ∈ blk v, k < w.heap.size := by
  intro k hk
  exact (World.ownsRow.lt h k (by simpa [blk] using hk)).2
theorem OwnL.keep (h : OwnL e sz enc v l w) (ht : Turned S w w') (hd : ∀ k ∈ blk v, k ∉ S) : OwnL e sz enc v l w' := by
  refine ⟨h.1, ?_⟩
  have hlt := h.lt
  rcases h.2 with hn | ⟨g, cap, cur, rfl, hg, hgg, rest⟩
  · exact .inl hn
  · refine .inr ⟨g, cap, cur, rfl, hg, ?_, rest⟩
    have hm : g ∈ blk (.slice (some ⟨g, 0, Option.none⟩) l.length cap) := by simp [blk, Value.ownBlock]
    rw [ht.block g (hlt g hm) (hd g hm)]
    exact hgg
theorem OwnL.form (h : OwnL e sz enc v l w) : ∃ oa cap, v = .slice oa l.length cap ∧ l.length ≤ cap ∧ cap ≤ maxLen := by
  rcases h.2 with ⟨rfl, hn⟩ | ⟨g, cap, cur, rfl, hg, hgg, h1, h2, _⟩
  · exact ⟨Option.none, 0, by rw [hn], by omega, by unfold maxLen; omega⟩
  · exact ⟨_, _, rfl, h1, h2⟩
theorem flat_at {f : α → List Value} (hf : ∀ a ∈ l, (f a).length = sz) {i j : Nat} {a : α} (hi : l[i]? = some a) (hj : j < sz) : (l.flatMap f)[i * sz + j]? = (f a)[j]? := by
  induction l generalizing i with
  | nil => simp at hi
  | cons b l ih =>
    rw [List.flatMap_cons]
    have hb := hf b (List.mem_cons_self ..)
    cases i with
    | zero =>
      simp at hi
      subst hi
      rw [Nat.zero_mul, Nat.zero_add, List.getElem?_append_left (by omega)]
    | succ i =>
      rw [Nat.add_mul, Nat.one_mul, List.getElem?_append_right (by omega), hb, show i * sz + sz + j - sz = i * sz + j by omega]
      exact ih (fun a ha => hf a (List.mem_cons_of_mem _ ha)) (by simpa using hi)
/-- an element's cells, where they lie -/
theorem OwnL.cell (h : OwnL e sz enc v l w) (hf : ∀ a ∈ l, (enc a).length = sz) {i : Nat} {a : α} (hi : l[i]? = some a) :
    ∃ g cap, v = .slice (some ⟨g, 0, Option.none⟩) l.length cap ∧ blk v = [g] ∧ g < w.heap.size ∧ ∀ j u, (enc a)[j]? = some u → w.cell? ⟨g, i * sz + j, Option.none⟩ = some u ∧ w.frozen? ⟨g, i * sz + j, Option.none⟩ = false := by
  have hil : i < l.length := (List.getElem?_eq_some_iff.1 hi).1
  have hcells := fun g hg => World.ownsRow.cells h (g := g) hg
  rcases h.2 with ⟨rfl, hn⟩ | ⟨g, cap, cur, rfl, hg, hgg, h1, h2, _⟩
  · omega
  · refine ⟨g, cap, rfl, rfl, (Array.getElem?_eq_some_iff.1 hgg).1, fun j u hu => ⟨?_, by simp [World.frozen?, hgg]⟩⟩
    have hj : j < sz := by rw [← hf a (List.mem_of_getElem? hi)]; exact (List.getElem?_eq_some_iff.1 hu).1
    have := hcells g rfl (i * sz + j) u (by rw [flat_at hf hi hj]; exact hu)
    rw [Addr.add_lit, Nat.zero_add] at this
    exact this
theorem flat_one {β : Type} (f : α → β) : ∀ l : List α, l.flatMap (fun a => [f a]) = l.map f
  | [] => rfl
  | a :: l => by rw [List.flatMap_cons, flat_one f l]; rfl
/-- an element of one cell is written -/
theorem OwnL.set {f : α → Value} (h : OwnL e 1 (fun a => [f a]) v l w) {g i : Nat} {oc : Nat} (hv : v = .slice (some ⟨g, 0, Option.none⟩) l.length oc) (hi : i < l.length) (a : α) :
    OwnL e 1 (fun a => [f a]) v (l.set i a) (w.setCell ⟨g, i, Option.none⟩ (f a)) := by
  rcases h.2 with ⟨rfl, hn⟩ | ⟨g', cap, cur, hv', hg, hgg, h1, h2, h3, h4⟩
  · omega
  · have heq : g' = g ∧ cap = oc := by rw [hv] at hv'; simp at hv'; exact ⟨hv'.1.symm, hv'.2.symm⟩
    obtain ⟨rfl, rfl⟩ := heq
    refine ⟨by rw [flat_one]; simp, .inr ⟨g', cap, cur.setIfInBounds i (f a), by rw [hv, List.length_set], hg, ?_, by rw [List.length_set]; exact h1, h2, by simpa using h3, ?_⟩⟩
    · have hlt := (Array.getElem?_eq_some_iff.1 hgg).1
      simp only [World.setCell, Array.getElem?_modify, if_true]
      rw [hgg]
      rfl
    · rw [Nat.mul_one] at h4 ⊢
      rw [List.length_set]
      rw [flat_one, List.map_set, ← flat_one f l, ← h4]
      simp [List.take_set]

/-- 'append(v, r...)' onto a slice of the call's own -/
theorem run_push {P : Program} {t : TypeId} {z : Value} {bytes : Nat} (E : ElemOk P t e z sz bytes) (ty : TypeId) (h : OwnL e sz enc v l w) (b off c : Nat) (r : List α)
    (hlen : ∀ a ∈ r, (enc a).length = sz) (hone : ∀ a ∈ r, ∀ u ∈ enc a, u.oneCell' = true) (hc : ∀ j u, (r.flatMap enc)[j]? = some u → w.cell? ⟨b, off + j, Option.none⟩ = some u)
    (h63 : l.length + r.length ≤ maxLen) (hb : (l.length + r.length) * bytes ≤ 140737488355328) :
    ∃ v' w', (Builtin.append_ #[t, t] ty #[v, .slice (some ⟨b, off, Option.none⟩) r.length c]).run P w = .ok v' w' ∧ OwnL e sz enc v' (l ++ r) w' ∧ Turned (blk v) w w' ∧ (blk v' = blk v ∨ blk v' = [w.heap.size]) := by
  obtain ⟨i0, hi, hz0, hz1, hz2⟩ := info_parts E.info
  have hfl : ∀ (r : List α), (∀ a ∈ r, (enc a).length = sz) → (r.flatMap enc).length = r.length * sz := by
    intro r
    induction r with
    | nil => intro _; simp
    | cons a r ih =>
      intro hl
      rw [List.flatMap_cons, List.length_append, hl a (List.mem_cons_self ..), ih fun x hx => hl x (List.mem_cons_of_mem _ hx), List.length_cons, Nat.add_mul]
      omega
  obtain ⟨v', w', h1, h2, h3, _, h5⟩ := run_append_own_at (P := P) w 0 t ty e i0 z sz bytes E.und hi hz0 hz1 hz2 E.zs E.pos v l.length (l.flatMap enc) h ⟨b, off, Option.none⟩ r.length c (r.flatMap enc) (hfl r hlen)
    (by intro j u hj; rw [Addr.add_lit]; exact hc j u hj)
    (by
      intro u hu
      obtain ⟨a, ha, hu⟩ := List.mem_flatMap.1 hu
      exact hone a ha u hu) h63 hb (Nat.zero_le _)
  refine ⟨v', w', h1, ?_, ⟨h3.os, h3.tape, h3.output, h3.size, fun k hk hn => h3.block k hk fun e => hn (by unfold blk; rw [← e]; simp)⟩, ?_⟩
  · unfold OwnL
    rw [List.length_append, List.flatMap_append]
    exact h2
  · rcases h5 with h | h
    · left; unfold blk; rw [h]
    · right; unfold blk; rw [h]; rfl
/-- the same, in a walk -/
theorem wp_push {P : Program} {t : TypeId} {z : Value} {bytes : Nat} (E : ElemOk P t e z sz bytes) {ops : Array Oper} {rest : List Oper} {o : Oper} {a : Act} {Q : Exit → Act → World → Prop} (hgd : o.guard = Option.none) (s x : Operand)
    (ho : o.op = .call { callee := .builtin .append, args := #[s, x], argTypes := #[t, t] })
    (hs : a.eval s = v) (h : OwnL e sz enc v l w) (b off n c : Nat) (r : List α) (hn : r.length = n) (hx : a.eval x = .slice (some ⟨b, off, Option.none⟩) n c)
    (hlen : ∀ a ∈ r, (enc a).length = sz) (hone : ∀ a ∈ r, ∀ u ∈ enc a, u.oneCell' = true) (hc : ∀ j u, (r.flatMap enc)[j]? = some u → w.cell? ⟨b, off + j, Option.none⟩ = some u)
    (h63 : l.length + n ≤ maxLen) (hb : (l.length + n) * bytes ≤ 140737488355328)
    (hk : ∀ v' w', OwnL e sz enc v' (l ++ r) w' → Turned (blk v) w w' → (blk v' = blk v ∨ blk v' = [w.heap.size]) → wpList P ops Q rest (a.put o.dst v') w') :
    wpList P ops Q (o :: rest) a w := by
  subst hn
  obtain ⟨v', w', hr, h2, h3, h4⟩ := run_push E o.type h b off c r hlen hone hc h63 hb
  refine wpList_plain hgd fun K hK => ?_
  unfold Oper.wp execOp
  simp only [ho, resolve, invoke, builtin, Sem.run_bind, Sem.run_pure, Result.andThen_ok, List.map_toArray, List.map_cons, List.map_nil, hs, hx, hr]
  exact hK _ _ (hk v' w' h2 h3 h4)
/-- the same, as a step of a region that draws its order -/
theorem step_push {P : Program} {t : TypeId} {z : Value} {bytes : Nat} (E : ElemOk P t e z sz bytes) {ops : Array Oper} {o : Oper} {a : Act} {K : Act → World → Prop} {Q : Exit → Act → World → Prop} {E' : Prop} (hgd : o.guard = Option.none) (s x : Operand)
    (ho : o.op = Op.call { callee := Callee.builtin Builtin.append, args := #[s, x], argTypes := #[t, t] })
    (hs : a.eval s = v) (h : OwnL e sz enc v l w) (b off n c : Nat) (r : List α) (hn : r.length = n) (hx : a.eval x = .slice (some ⟨b, off, Option.none⟩) n c)
    (hlen : ∀ a ∈ r, (enc a).length = sz) (hone : ∀ a ∈ r, ∀ u ∈ enc a, u.oneCell' = true) (hc : ∀ j u, (r.flatMap enc)[j]? = some u → w.cell? ⟨b, off + j, Option.none⟩ = some u)
    (h63 : l.length + n ≤ maxLen) (hb : (l.length + n) * bytes ≤ 140737488355328)
    (hk : ∀ v' w', OwnL e sz enc v' (l ++ r) w' → Turned (blk v) w w' → (blk v' = blk v ∨ blk v' = [w.heap.size]) → K (a.put o.dst v') w') :
    if Region.wanted o (yielded ops a.tmps) = true then Oper.wp P o a w K Q else E' := by
  subst hn
  have hw : Region.wanted o (yielded ops a.tmps) = true := by simp [Region.wanted, hgd]
  rw [if_pos hw]
  obtain ⟨v', w', hr, h2, h3, h4⟩ := run_push E o.type h b off c r hlen hone hc h63 hb
  unfold Oper.wp
  simp [execOp, ho, resolve, invoke, builtin, hs, hx, hr, Result.andThen]
  exact hk v' w' h2 h3 h4
end
end Go.Proofs.YtgabgkgokmeaeaaGreat


/- Parameters that are flat: integers, bools, structs and arrays of these, nested at will; and slices of them: their cells, one by one. Over any program. -/
namespace Go.Proofs.YtgabgkgokmeaeaaGreat
open Go.ChangeShapes Go.WideShapes Go.ChangeAt Go.RowKit
set_option linter.unusedVariables false

/-- a cell's kind -/
structure Leaf where
  kind : Option IntKind
def Leaf.int (k : IntKind) : Leaf := ⟨some k⟩
def Leaf.bool : Leaf := ⟨none⟩
def Leaf.ok (l : Leaf) (v : Value) : Prop :=
  match l.kind with
  | some k => ∃ z, v = .int k z ∧ (Lit.int k z).wf = true
  | none => ∃ b, v = .bool b
def AllOk : List Leaf → List Value → Prop
  | [], [] => True
  | k :: ks, v :: vs => k.ok v ∧ AllOk ks vs
  | _, _ => False
theorem AllOk.length : ∀ {ks : List Leaf} {cs : List Value}, AllOk ks cs → cs.length = ks.length
  | [], [], _ => rfl
  | _ :: ks, _ :: cs, h => by rw [List.length_cons, List.length_cons, AllOk.length h.2]
  | [], _ :: _, h => h.elim
  | _ :: _, [], h => h.elim
theorem AllOk.append : ∀ {ks ls : List Leaf} {cs ds : List Value}, AllOk ks cs → AllOk ls ds → AllOk (ks ++ ls) (cs ++ ds)
  | [], _, [], _, _, h => h
  | _ :: _, _, _ :: _, _, h, h' => ⟨h.1, AllOk.append h.2 h'⟩
  | [], _, _ :: _, _, h, _ => h.elim
  | _ :: _, _, [], _, h, _ => h.elim

/-- the fields' cells, one behind the other from o on -/
def flatFs (P : Program) (g : TypeId → Option (List Leaf)) : List Field → Nat → Option (List Leaf)
  | [], _ => some []
  | f :: r, o =>
    if f.offset = o then
      match g f.type with
      | none => none
      | some ks => if P.cellsOf f.type = ks.length then (match flatFs P g r (o + ks.length) with | none => none | some ls => some (ks ++ ls)) else none
    else none
def copies (ks : List Leaf) : Nat → List Leaf
  | 0 => []
  | n + 1 => ks ++ copies ks n
theorem copies_length (ks : List Leaf) : ∀ n, (copies ks n).length = n * ks.length
  | 0 => by simp [copies]
  | n + 1 => by simp [copies, copies_length ks n, Nat.add_mul]; omega
/-- a type's cells, if it is flat -/
def flat (P : Program) : Nat → TypeId → Option (List Leaf)
  | 0, _ => none
  | d + 1, t =>
    match P.underlying t with
    | some (.int k) => some [.int k]
    | some .bool => some [.bool]
    | some (.struct fs) =>
      match flatFs P (flat P d) fs.toList 0 with
      | none => none
      | some ks => if P.cellsOf t = ks.length then some ks else none
    | some (.array n e) =>
      match flat P d e with
      | none => none
      | some ks => if P.cellsOf e = ks.length ∧ P.cellsOf t = n * ks.length then some (copies ks n) else none
    | _ => none

section
variable {H : Type} {enc : TypeId × Value → H} {P : Program} {w : World} {base : Nat} {spare : Nat → Bool} {held : Bool}
theorem fields_ok {g : TypeId → Option (List Leaf)} {cs : List Value} : ∀ {fs : List Field} {o : Nat} {ks : List Leaf}, flatFs P g fs o = some ks →
    (∀ f ∈ fs, ∀ ls, g f.type = some ls → AllOk ls ((cs.drop f.offset).take (P.cellsOf f.type))) → AllOk ks ((cs.drop o).take ks.length)
  | [], o, ks, h, _ => by
    have : ks = [] := by simpa [flatFs] using h.symm
    subst this
    simp [AllOk]
  | f :: r, o, ks, h, hf => by
    unfold flatFs at h
    by_cases ho : f.offset = o
    · rw [if_pos ho] at h
      cases hg : g f.type with
      | none => rw [hg] at h; cases h
      | some ls =>
        rw [hg] at h
        simp only at h
        by_cases hc : P.cellsOf f.type = ls.length
        · rw [if_pos hc] at h
          cases hr : flatFs P g r (o + ls.length) with
          | none => rw [hr] at h; cases h
          | some ms =>
            rw [hr] at h
            simp at h
            subst h
            have h1 := hf f (List.mem_cons_self ..) ls hg
            rw [ho, hc] at h1
            have h2 := fields_ok (cs := cs) hr fun f' hf' => hf f' (List.mem_cons_of_mem _ hf')
            have := h1.append h2
            rw [List.length_append, List.take_add, List.drop_drop]
            exact this
        · rw [if_neg hc] at h; cases h
    · rw [if_neg ho] at h; cases h
theorem copies_ok {ks : List Leaf} {cs : List Value} : ∀ (n o : Nat), (∀ i, i < n → AllOk ks ((cs.drop (o + i * ks.length)).take ks.length)) → AllOk (copies ks n) ((cs.drop o).take (copies ks n).length)
  | 0, _, _ => by simp [copies, AllOk]
  | n + 1, o, h => by
    have h1 := h 0 (by omega)
    rw [Nat.zero_mul, Nat.add_zero] at h1
    have h2 := copies_ok n (o + ks.length) fun i hi => by
      have := h (i + 1) (by omega)
      rw [Nat.add_mul, Nat.one_mul, show o + (i * ks.length + ks.length) = o + ks.length + i * ks.length by omega] at this
      exact this
    have := h1.append h2
    show AllOk (ks ++ copies ks n) ((cs.drop o).take (ks ++ copies ks n).length)
    rw [List.length_append, List.take_add, List.drop_drop]
    exact this
theorem flat_ok : ∀ {d : Nat} {t : TypeId} {ks : List Leaf} {fuel : Nat} {cs : List Value} {x : DataW H × List MemPlace}, flat P d t = some ks → DataW.trod enc P w base spare held fuel t cs = some x → AllOk ks cs
  | 0, _, _, _, _, _, h, _ => by cases h
  | d + 1, t, ks, fuel, cs, x, h, hx => by
    unfold flat at h
    split at h
    · rename_i k hk
      simp at h
      subst h
      obtain ⟨n, rfl, _, hw⟩ := DataW.trod_int hk hx
      exact ⟨⟨n, rfl, hw⟩, trivial⟩
    · rename_i hk
      simp at h
      subst h
      obtain ⟨b, rfl, _⟩ := DataW.trod_bool hk hx
      exact ⟨⟨b, rfl⟩, trivial⟩
    · rename_i fs hk
      cases hg : flatFs P (flat P d) fs.toList 0 with
      | none => rw [hg] at h; cases h
      | some ls =>
        rw [hg] at h
        simp only at h
        by_cases hc : P.cellsOf t = ls.length
        · rw [if_pos hc] at h
          simp at h
          subst h
          obtain ⟨xs, n, _, _, hl, hlen, hf⟩ := DataW.trod_struct hk hx
          have := fields_ok (cs := cs) hg (by
            intro f hm ms hms
            obtain ⟨i, hi⟩ := List.getElem?_of_mem hm
            have hi' : fs[i]? = some f := by simpa using hi
            have hlt : i < fs.size := (Array.getElem?_eq_some_iff.1 hi').1
            have := hf i f hi'
            rw [List.getElem?_eq_getElem (by omega)] at this
            exact flat_ok hms this)
          rw [List.drop_zero, List.take_of_length_le (by omega)] at this
          exact this
        · rw [if_neg hc] at h; cases h
    · rename_i n e hk
      cases hg : flat P d e with
      | none => rw [hg] at h; cases h
      | some ls =>
        rw [hg] at h
        simp only at h
        by_cases hc : P.cellsOf e = ls.length ∧ P.cellsOf t = n * ls.length
        · rw [if_pos hc] at h
          simp at h
          subst h
          cases fuel with
          | zero => simp [DataW.trod] at hx
          | succ fuel =>
            unfold DataW.trod at hx
            rw [hk] at hx
            have hx' : (if cs.length = P.cellsOf t then ((List.range n).mapM fun i => DataW.trod enc P w base spare held fuel e ((cs.drop (i * P.cellsOf e)).take (P.cellsOf e))).map fun xs => (DataW.agg (xs.map (·.1)), xs.flatMap (·.2)) else none) = some x := hx
            by_cases hl : cs.length = P.cellsOf t
            · rw [if_pos hl] at hx'
              obtain ⟨xs, hm, _⟩ := Option.map_eq_some_iff.1 hx'
              have hlen := mapM_some_length hm
              rw [List.length_range] at hlen
              have := copies_ok (ks := ls) (cs := cs) n 0 (by
                intro i hi
                have := mapM_some_get hm i i (by simp [hi])
                rw [List.getElem?_eq_getElem (by omega), hc.1] at this
                rw [Nat.zero_add]
                exact flat_ok hg this)
              rw [List.drop_zero, List.take_of_length_le (by rw [copies_length]; omega)] at this
              exact this
            · rw [if_neg hl] at hx'; cases hx'
        · rw [if_neg hc] at h; cases h
    · cases h

/-- a struct or an array that is flat -/
theorem open_flat {t : TypeId} {d : Nat} {ks : List Leaf} {v : Value} {dd : DataW H} {p : List MemPlace} {r : Reach} {b0 : Nat}
    (ht : (∃ fs, P.underlying t = some (.struct fs)) ∨ ∃ n e, P.underlying t = some (.array n e)) (hf : flat P d t = some ks)
    (hval : Value.okWide P w r b0 t v) (h : DataW.Trod enc P w base spare held t v dd p) : ∃ cs : List Value, v = .agg cs.toArray ∧ AllOk ks cs := by
  obtain ⟨cs, rfl⟩ : ∃ cs : Array Value, v = .agg cs := by
    rcases ht with ⟨fs, ht⟩ | ⟨n, e, ht⟩
    · obtain ⟨cs, rfl, _⟩ := okWide_struct ht hval
      exact ⟨cs, rfl⟩
    · simp only [Value.okWide, ht] at hval
      obtain ⟨cs, rfl, _⟩ := hval
      exact ⟨cs, rfl⟩
  obtain ⟨fuel, hx⟩ := h
  exact ⟨cs.toList, by simp, flat_ok hf hx⟩

/-- a slice of elements of sz cells each, that is only read -/
def RowOf {α : Type} (sz : Nat) (f : α → List Value) (oa : Option Addr) (l : List α) (w : World) : Prop :=
  ∀ i a, l[i]? = some a → ∃ b off, oa = some ⟨b, off, none⟩ ∧ b < w.heap.size ∧ ∀ j u, (f a)[j]? = some u → w.cell? ⟨b, off + i * sz + j, none⟩ = some u
theorem RowOf.keep {α : Type} {sz : Nat} {f : α → List Value} {oa : Option Addr} {l : List α} {w u : World} (h : RowOf sz f oa l w) (hb : Below w.heap.size w u) : RowOf sz f oa l u := by
  intro i a hi
  obtain ⟨b, off, ho, hlt, hc⟩ := h i a hi
  exact ⟨b, off, ho, Nat.lt_of_lt_of_le hlt hb.size, fun j v hv => (hb.cell (p := ⟨b, off + i * sz + j, none⟩) hlt).trans (hc j v hv)⟩
/-- what each is one of, the list is a list of -/
theorem list_of {α : Type} (f : α → List Value) : ∀ {l : List (List Value)}, (∀ cs ∈ l, ∃ a, cs = f a) → ∃ l' : List α, l = l'.map f
  | [], _ => ⟨[], rfl⟩
  | c :: l, h => by
    obtain ⟨a, rfl⟩ := h c (List.mem_cons_self ..)
    obtain ⟨l', rfl⟩ := list_of f fun cs hc => h cs (List.mem_cons_of_mem _ hc)
    exact ⟨a :: l', rfl⟩
theorem open_flats {α : Type} {t e : TypeId} {d : Nat} {ks : List Leaf} {v : Value} {dd : DataW H} {p : List MemPlace} {r : Reach} {b0 : Nat} (f : α → List Value)
    (ht : P.underlying t = some (.slice e)) (hf : flat P d e = some ks) (hc : P.cellsOf e = ks.length) (hpos : 0 < ks.length) (hk : ∀ cs, AllOk ks cs → ∃ a, cs = f a)
    (hval : Value.okWide P w r b0 t v) (h : DataW.Trod enc P w base spare held t v dd p) :
    ∃ (oa : Option Addr) (len cap : Nat) (l : List α), v = .slice oa len cap ∧ len ≤ maxLen ∧ len ≤ cap ∧ l.length = len ∧ RowOf ks.length f oa l w ∧ ∀ a ∈ l, AllOk ks (f a) := by
  obtain ⟨oa, len, cap, rfl⟩ := okWide_slice ht hval
  obtain ⟨fuel, hx⟩ := h
  rcases Go.Deep.open_slice ht hx with ⟨hcs, _⟩ | ⟨a, len', cap', m, n, D, Pl, hcs, hb, hl, hm, hmm, _, hel⟩
  · simp [Value.cells] at hcs
    obtain ⟨rfl, rfl, rfl⟩ := hcs
    exact ⟨none, 0, 0, [], rfl, Nat.zero_le _, Nat.le_refl _, rfl, fun i a hi => by simp at hi, by simp⟩
  · simp [Value.cells] at hcs
    obtain ⟨rfl, rfl, rfl⟩ := hcs
    have hlm : len ≤ m := by rw [hmm]; split <;> omega
    have each : ∀ i, i < len → ∃ x : α, AllOk ks (f x) ∧ w.cells? base (a.add (i * ks.length)) ks.length = some (f x) := by
      intro i hi
      obtain ⟨cs', h1, h2⟩ := hel i (by omega)
      have ok := flat_ok hf h2
      obtain ⟨x, rfl⟩ := hk cs' ok
      rw [hc] at h1
      exact ⟨x, ok, h1⟩
    have all : ∀ k, k ≤ len → ∃ l : List α, l.length = k ∧ (∀ a ∈ l, AllOk ks (f a)) ∧ ∀ i x, l[i]? = some x → w.cells? base (a.add (i * ks.length)) ks.length = some (f x) := by
      intro k
      induction k with
      | zero => intro _; exact ⟨[], rfl, by simp, fun i x hi => by simp at hi⟩
      | succ k ih =>
        intro hk
        obtain ⟨l, hl, ho, hc⟩ := ih (by omega)
        obtain ⟨x, ox, hx⟩ := each k (by omega)
        refine ⟨l ++ [x], by simp [hl], ?_, ?_⟩
        · intro y hy
          rcases List.mem_append.1 hy with hy | hy
          · exact ho y hy
          · simp at hy; subst hy; exact ox
        · intro i y hi
          by_cases e : i < l.length
          · rw [List.getElem?_append_left e] at hi
            exact hc i y hi
          · rw [List.getElem?_append_right (by omega)] at hi
            have : i = k := by
              have := (List.getElem?_eq_some_iff.1 hi).1
              simp at this; omega
            subst this
            rw [hl, Nat.sub_self] at hi
            simp at hi
            subst hi
            exact hx
    obtain ⟨l, hll, ho, hcl⟩ := all len (Nat.le_refl _)
    refine ⟨some a, len, cap, l, rfl, by omega, hl, hll, ?_, ho⟩
    intro i x hi
    have hcells := hcl i x hi
    obtain ⟨_, hlen, hcell⟩ := World.cells?_some hcells
    have hlt := World.cells?_block hcells hpos
    obtain ⟨ab, ao, spot⟩ := a
    have hspot : spot = none := by
      have hl0 : 0 < l.length := Nat.lt_of_le_of_lt (Nat.zero_le _) (List.getElem?_eq_some_iff.1 hi).1
      have hc0 := hcl 0 l[0] (List.getElem?_eq_getElem hl0)
      obtain ⟨_, hn0, hcell0⟩ := World.cells?_some hc0
      have h0 := hcell0 0 hpos
      rw [List.getElem?_eq_getElem (by omega)] at h0
      have := World.cell?_spot h0
      simpa [Addr.add] using this
    subst hspot
    have hblk : ab < w.heap.size := by
      rw [Addr.add_lit] at hlt
      exact hlt
    refine ⟨ab, ao, rfl, hblk, fun j u hu => ?_⟩
    have hj : j < ks.length := by rw [← hlen]; exact (List.getElem?_eq_some_iff.1 hu).1
    have := hcell j hj
    rw [Addr.add_lit, Addr.add_lit, hu] at this
    exact this
end
end Go.Proofs.YtgabgkgokmeaeaaGreat


/- 'append(v, r...)' onto a slice of the call's own, from whatever slice r, nil and empty too; a struct of the call's own that holds such a slice. Over any program. -/
namespace Go.Proofs.YtgabgkgokmeaeaaGreat
open Go.RowKit
set_option linter.unusedVariables false

section
variable {P : Program} {α : Type} {t e : TypeId} {z : Value} {sz bytes : Nat} {enc : α → List Value} {v : Value} {l : List α} {w w' : World} {S : List Nat}
theorem run_pushAll (E : ElemOk P t e z sz bytes) (ty : TypeId) (h : OwnL e sz enc v l w) (oa : Option Addr) (n c : Nat) (r : List α) (hn : r.length = n) (hr : RowOf sz enc oa r w)
    (hlen : ∀ a ∈ r, (enc a).length = sz) (hone : ∀ a ∈ r, ∀ u ∈ enc a, u.oneCell' = true) (h63 : l.length + n ≤ maxLen) (hb : (l.length + n) * bytes ≤ 140737488355328) :
    ∃ v' w', (Builtin.append_ #[t, t] ty #[v, .slice oa n c]).run P w = .ok v' w' ∧ OwnL e sz enc v' (l ++ r) w' ∧ Turned (blk v) w w' ∧ (blk v' = blk v ∨ blk v' = [w.heap.size]) := by
  subst hn
  by_cases hr0 : r = []
  · subst hr0
    obtain ⟨i0, hi, hz0, hz1, hz2⟩ := info_parts E.info
    obtain ⟨ob, cap, hv, hle, _⟩ := h.form
    refine ⟨v, w, ?_, by rw [List.append_nil]; exact h, Turned.refl _ _, .inl rfl⟩
    rw [hv]
    cases oa with
    | none => exact run_append_nothing w t t ty e i0 E.und hi ob l.length cap hle _ (Src.ofNil w E.und c)
    | some a => exact run_append_nothing w t t ty e i0 E.und hi ob l.length cap hle _ (Src.ofSlice w E.und a 0 c [] (by simp) (by simp) (by simp))
  · obtain ⟨a0, hr0⟩ : ∃ a0, r[0]? = some a0 := by
      cases r with
      | nil => exact absurd rfl hr0
      | cons a r => exact ⟨a, rfl⟩
    obtain ⟨b, off, rfl, _, _⟩ := hr 0 a0 hr0
    refine run_push E ty h b off c r hlen hone ?_ h63 hb
    intro j u hj
    have hjl : j < (r.flatMap enc).length := (List.getElem?_eq_some_iff.1 hj).1
    have hfl : ∀ (r : List α), (∀ a ∈ r, (enc a).length = sz) → (r.flatMap enc).length = r.length * sz := by
      intro r
      induction r with
      | nil => intro _; simp
      | cons a r ih =>
        intro hl
        rw [List.flatMap_cons, List.length_append, hl a (List.mem_cons_self ..), ih fun x hx => hl x (List.mem_cons_of_mem _ hx), List.length_cons, Nat.add_mul]
        omega
    rw [hfl r hlen] at hjl
    have hpos := E.pos
    have hi : j / sz < r.length := by rw [Nat.div_lt_iff_lt_mul hpos]; exact hjl
    have hm : j % sz < sz := Nat.mod_lt _ hpos
    have hd : j / sz * sz + j % sz = j := by rw [Nat.mul_comm]; exact Nat.div_add_mod j sz
    obtain ⟨b', off', ho, _, hc'⟩ := hr (j / sz) r[j / sz] (List.getElem?_eq_getElem hi)
    simp at ho
    obtain ⟨rfl, rfl⟩ := ho
    have e1 := flat_at hlen (List.getElem?_eq_getElem hi) hm
    rw [hd, hj] at e1
    have := hc' (j % sz) u e1.symm
    rw [Nat.add_assoc, hd] at this
    exact this
theorem wp_pushAll (E : ElemOk P t e z sz bytes) {ops : Array Oper} {rest : List Oper} {o : Oper} {a : Act} {Q : Exit → Act → World → Prop} (hgd : o.guard = Option.none) (s x : Operand)
    (ho : o.op = .call { callee := .builtin .append, args := #[s, x], argTypes := #[t, t] })
    (hs : a.eval s = v) (h : OwnL e sz enc v l w) (oa : Option Addr) (n c : Nat) (r : List α) (hn : r.length = n) (hx : a.eval x = .slice oa n c) (hr : RowOf sz enc oa r w)
    (hlen : ∀ a ∈ r, (enc a).length = sz) (hone : ∀ a ∈ r, ∀ u ∈ enc a, u.oneCell' = true)
    (h63 : l.length + n ≤ maxLen) (hb : (l.length + n) * bytes ≤ 140737488355328)
    (hk : ∀ v' w', OwnL e sz enc v' (l ++ r) w' → Turned (blk v) w w' → (blk v' = blk v ∨ blk v' = [w.heap.size]) → wpList P ops Q rest (a.put o.dst v') w') :
    wpList P ops Q (o :: rest) a w := by
  obtain ⟨v', w', hrun, h2, h3, h4⟩ := run_pushAll E o.type h oa n c r hn hr hlen hone h63 hb
  refine wpList_plain hgd fun K hK => ?_
  unfold Oper.wp execOp
  simp only [ho, resolve, invoke, builtin, Sem.run_bind, Sem.run_pure, Result.andThen_ok, List.map_toArray, List.map_cons, List.map_nil, hs, hx, hrun]
  exact hK _ _ (hk v' w' h2 h3 h4)
theorem step_pushAll (E : ElemOk P t e z sz bytes) {ops : Array Oper} {o : Oper} {a : Act} {K : Act → World → Prop} {Q : Exit → Act → World → Prop} {E' : Prop} (hgd : o.guard = Option.none) (s x : Operand)
    (ho : o.op = Op.call { callee := Callee.builtin Builtin.append, args := #[s, x], argTypes := #[t, t] })
    (hs : a.eval s = v) (h : OwnL e sz enc v l w) (oa : Option Addr) (n c : Nat) (r : List α) (hn : r.length = n) (hx : a.eval x = .slice oa n c) (hr : RowOf sz enc oa r w)
    (hlen : ∀ a ∈ r, (enc a).length = sz) (hone : ∀ a ∈ r, ∀ u ∈ enc a, u.oneCell' = true)
    (h63 : l.length + n ≤ maxLen) (hb : (l.length + n) * bytes ≤ 140737488355328)
    (hk : ∀ v' w', OwnL e sz enc v' (l ++ r) w' → Turned (blk v) w w' → (blk v' = blk v ∨ blk v' = [w.heap.size]) → K (a.put o.dst v') w') :
    if Region.wanted o (yielded ops a.tmps) = true then Oper.wp P o a w K Q else E' := by
  have hw : Region.wanted o (yielded ops a.tmps) = true := by simp [Region.wanted, hgd]
  rw [if_pos hw]
  obtain ⟨v', w', hrun, h2, h3, h4⟩ := run_pushAll E o.type h oa n c r hn hr hlen hone h63 hb
  unfold Oper.wp
  simp [execOp, ho, resolve, invoke, builtin, hs, hx, hrun, Result.andThen]
  exact hk v' w' h2 h3 h4
/-- a row of the call's own, as one that is read -/
theorem OwnL.rowOf (h : OwnL e sz enc v l w) (hlen : ∀ a ∈ l, (enc a).length = sz) : ∃ oa cap, v = .slice oa l.length cap ∧ l.length ≤ cap ∧ l.length ≤ maxLen ∧ RowOf sz enc oa l w ∧ ∀ a, oa = some a → a.spot = Option.none := by
  have hcell := fun i a hi => h.cell hlen (i := i) (a := a) hi
  have hown := h
  rcases h.2 with ⟨rfl, hn⟩ | ⟨g, cap, cur, rfl, hg, hgg, h1, h2, _⟩
  · refine ⟨Option.none, 0, by rw [hn], by omega, by omega, ?_, by simp⟩
    intro i a hi
    have := (List.getElem?_eq_some_iff.1 hi).1
    omega
  · refine ⟨_, cap, rfl, h1, by omega, ?_, by simp⟩
    intro i a hi
    obtain ⟨g', cap', hv, _, hlt, hc⟩ := hcell i a hi
    simp at hv
    obtain ⟨rfl, rfl⟩ := hv
    refine ⟨g, 0, rfl, hlt, fun j u hu => ?_⟩
    rw [Nat.zero_add]
    exact (hc j u hu).1
theorem RowOf.turned {oa : Option Addr} (h : RowOf sz enc oa l w) (ht : Turned S w w') (hd : ∀ a, oa = some a → a.block ∉ S) : RowOf sz enc oa l w' := by
  intro i a hi
  obtain ⟨b, off, ho, hlt, hc⟩ := h i a hi
  exact ⟨b, off, ho, Nat.lt_of_lt_of_le hlt ht.size, fun j u hu => (ht.cell (p := ⟨b, off + i * sz + j, Option.none⟩) hlt (hd ⟨b, off, Option.none⟩ ho)).trans (hc j u hu)⟩
end

/-- a block of the call's own holds these cells -/
def Struct (p : Nat) (cs : List Value) (w : World) : Prop :=
  p < w.heap.size ∧ ∀ j u, cs[j]? = some u → w.cell? ⟨p, j, none⟩ = some u ∧ w.frozen? ⟨p, j, none⟩ = false
theorem Struct.keep {p : Nat} {cs : List Value} {w w' : World} {S : List Nat} (h : Struct p cs w) (ht : Turned S w w') (hd : p ∉ S) : Struct p cs w' :=
  ⟨Nat.lt_of_lt_of_le h.1 ht.size, fun j u hu => ⟨(ht.cell (p := ⟨p, j, none⟩) h.1 hd).trans (h.2 j u hu).1, (ht.frozen (p := ⟨p, j, none⟩) h.1 hd).trans (h.2 j u hu).2⟩⟩
theorem Struct.new (w : World) (cs : List Value) (t : TypeId) : Struct w.heap.size cs (w.alloc (.cells cs.toArray t)) := by
  refine ⟨by simp, fun j u hu => ⟨?_, by simp⟩⟩
  simp [go_sem, hu]
theorem Struct.set {p i : Nat} {cs : List Value} {w : World} (h : Struct p cs w) (hi : i < cs.length) (v : Value) : Struct p (cs.set i v) (w.setCell ⟨p, i, none⟩ v) := by
  refine ⟨by simpa using h.1, fun j u hu => ?_⟩
  have hj : j < cs.length := by have := (List.getElem?_eq_some_iff.1 hu).1; simpa using this
  have h0 := h.2 j cs[j] (List.getElem?_eq_getElem hj)
  refine ⟨?_, by rw [World.frozen?_setCell]; exact h0.2⟩
  by_cases e : i = j
  · subst e
    rw [List.getElem?_set_self hi] at hu
    simp at hu
    subst hu
    simp [World.cell?_setCell_same', h0.1]
  · rw [List.getElem?_set_ne e] at hu
    rw [World.cell?_setCell_other]
    · exact (h.2 j u hu).1
    · simp
end Go.Proofs.YtgabgkgokmeaeaaGreat


/- A region that draws its order, whose operations only read and whose callees write nothing old: walked once, in the order of the text. The class of worlds: those in which all that lay there at the region's beginning lies as it lay. -/
namespace Go.Proofs.YtgabgkgokmeaeaaGreat
open Go.RowKit
set_option linter.unusedVariables false

/-- a world in which all that lay in W lies as it lay -/
structure KeptW (W : World) where
  u : World
  h : Below W.heap.size W u

theorem KeptW.one (W : World) : Nonempty (KeptW W) := ⟨⟨W, Below.refl _ _⟩⟩
theorem KeptW.at {W : World} {b o : Nat} {v : Value} (hb : b < W.heap.size) (hv : W.cell? ⟨b, o, none⟩ = some v) (x : KeptW W) : x.u.cell? ⟨b, o, none⟩ = some v :=
  (x.h.cell (p := ⟨b, o, none⟩) hb).trans hv
theorem KeptW.unfrozen {W : World} {b o : Nat} (hb : b < W.heap.size) (hv : W.frozen? ⟨b, o, none⟩ = false) (x : KeptW W) : x.u.frozen? ⟨b, o, none⟩ = false :=
  (x.h.frozen (p := ⟨b, o, none⟩) hb).trans hv

theorem kept_call {P : Program} {f : FuncId} {args : Array Value} {W : World} {x : KeptW W} {v : Value}
    (h : Calls P f args x.u fun e w' => e = .returned v ∧ Below x.u.heap.size x.u w') : Calls P f args x.u fun e w'' => e = .returned v ∧ ∃ y : KeptW W, w'' = y.u :=
  h.mono fun _ w' ⟨he, hb⟩ => ⟨he, ⟨w', x.h.trans (hb.mono x.h.size)⟩, rfl⟩
theorem kept_same {P : Program} {f : FuncId} {args : Array Value} {W : World} {x : KeptW W} {v : Value}
    (h : Calls P f args x.u fun e w' => e = .returned v ∧ w' = x.u) : Calls P f args x.u fun e w'' => e = .returned v ∧ ∃ y : KeptW W, w'' = y.u :=
  h.mono fun _ w' ⟨he, hw⟩ => ⟨he, x, hw⟩

theorem wp_region_kept {P : Program} {id : Nat} {Q : Exit → Act → World → Prop} {a : Act} {w : World} {l : List Oper} (hm : P.follows .mixedOrders = true) (hB : Region.lexB .any l.toArray = true)
    (h : wpQuiet P l.toArray (fun w' => ∃ x : KeptW w, w' = x.u) (fun a' => ∀ w', (∃ x : KeptW w, w' = x.u) → Q .normal a' w') l a) : (Code.region id l.toArray true).wp P Q a w :=
  wp_region_quiet (C := fun w' => ∃ x : KeptW w, w' = x.u) hm hB ⟨⟨_, (Below.refl _ w).drew⟩, rfl⟩ (by simpa using h)
end Go.Proofs.YtgabgkgokmeaeaaGreat


/- Maps of tiles in memory: their cells, rows of walls and of places. -/
namespace Go.Proofs.YtgabgkgokmeaeaaGreat
open Go.RowKit
set_option linter.unusedVariables false

def tbEnc (b : Bool) : List Value := [.bool b]
def tvEnc (p : Int × Int) : List Value := [.int .i64 p.1, .int .i64 p.2]
theorem tbEnc_len {l : List Bool} : ∀ a ∈ l, (tbEnc a).length = 1 := fun _ _ => rfl
theorem tvEnc_len {l : List (Int × Int)} : ∀ a ∈ l, (tvEnc a).length = 2 := fun _ _ => rfl
theorem tbEnc_one {l : List Bool} : ∀ a ∈ l, ∀ u ∈ tbEnc a, u.oneCell' = true := by
  intro a _ u hu
  simp [tbEnc] at hu
  subst hu
  rfl
theorem tvEnc_one {l : List (Int × Int)} : ∀ a ∈ l, ∀ u ∈ tvEnc a, u.oneCell' = true := by
  intro a _ u hu
  simp [tvEnc] at hu
  rcases hu with rfl | rfl <;> rfl
/-- a map's cells -/
abbrev mapEnc (m : Ti.M) (oa : Option Addr) (ca : Nat) (ob : Option Addr) (cb : Nat) : List Value := [.int .i64 m.W, .int .i64 m.H, .slice oa m.ws.length ca, .slice ob m.sp.length cb]
abbrev mapVal (m : Ti.M) (oa : Option Addr) (ca : Nat) (ob : Option Addr) (cb : Nat) : Value := .agg #[.int .i64 m.W, .int .i64 m.H, .slice oa m.ws.length ca, .slice ob m.sp.length cb]
/-- a map whose rows lie there -/
structure MapAt (m : Ti.M) (oa ob : Option Addr) (w : World) : Prop where
  ws : RowOf 1 tbEnc oa m.ws w
  sp : RowOf 2 tvEnc ob m.sp w
  lw : m.ws.length ≤ 1100
  ls : m.sp.length ≤ 1100
  wW : -9223372036854775808 ≤ m.W ∧ m.W < 9223372036854775808
  wH : -9223372036854775808 ≤ m.H ∧ m.H < 9223372036854775808
theorem MapAt.turned {m : Ti.M} {oa ob : Option Addr} {w w' : World} {S : List Nat} (h : MapAt m oa ob w) (ht : Turned S w w') (ha : ∀ a, oa = some a → a.block ∉ S) (hb : ∀ a, ob = some a → a.block ∉ S) : MapAt m oa ob w' :=
  ⟨h.ws.turned ht ha, h.sp.turned ht hb, h.lw, h.ls, h.wW, h.wH⟩
theorem MapAt.calm {m : Ti.M} {oa ob : Option Addr} {w w' : World} (h : MapAt m oa ob w) (ht : Turned [] w w') : MapAt m oa ob w' := h.turned ht (by simp) (by simp)
theorem wall_at {oa : Option Addr} {l : List Bool} {w : World} (h : RowOf 1 tbEnc oa l w) {k : Nat} {b : Bool} (hk : l[k]? = some b) :
    ∃ g off, oa = some ⟨g, off, none⟩ ∧ g < w.heap.size ∧ w.cell? ⟨g, off + k, none⟩ = some (.bool b) := by
  obtain ⟨g, off, ho, hlt, hc⟩ := h k _ hk
  have := hc 0 _ rfl
  rw [Nat.mul_one, Nat.add_zero] at this
  exact ⟨g, off, ho, hlt, this⟩
theorem place_at {oa : Option Addr} {l : List (Int × Int)} {w : World} (h : RowOf 2 tvEnc oa l w) {k : Nat} {b : Int × Int} (hk : l[k]? = some b) :
    ∃ g off, oa = some ⟨g, off, none⟩ ∧ g < w.heap.size ∧ w.cell? ⟨g, off + k * 2, none⟩ = some (.int .i64 b.1) ∧ w.cell? ⟨g, off + k * 2 + 1, none⟩ = some (.int .i64 b.2) := by
  obtain ⟨g, off, ho, hlt, hc⟩ := h k _ hk
  exact ⟨g, off, ho, hlt, hc 0 _ rfl, hc 1 _ rfl⟩
theorem ti_bool {a b : Bool} {p : Prop} (h : a = b) (hp : p) : Ending.returned (.bool a) = .returned (.bool b) ∧ p := by rw [h]; exact ⟨rfl, hp⟩
/-- a string's bytes from a place on -/
def from_ (s : ByteArray) (k : Nat) : List UInt8 := s.data.toList.drop k
theorem from_len (s : ByteArray) (k : Nat) : (from_ s k).length = s.size - k := by unfold from_; rw [List.length_drop]; rfl
theorem cut_eq (s : ByteArray) (k n : Nat) : (s.extract k (k + n)).toList = (from_ s k).take n := by
  rw [ByteArray.toList_eq, ByteArray.data_extract, Array.toList_extract]
  unfold from_
  rw [List.extract_eq_take_drop]
  congr 1
  omega

namespace Ti
theorem sg_of {l : List UInt8} {k : Nat} (h0 : 1 ≤ k) (h4 : k ≤ 4) (hno : ∀ j, 1 ≤ j → j < k → ¬ l.take (bs j).length = bs j) (hm : l.take (bs k).length = bs k) : sg l = k := by
  unfold sg
  have n1 : 1 < k → ¬ l.take 3 = [226, 150, 136] := fun h => hno 1 (by omega) h
  have n2 : 2 < k → ¬ l.take 2 = [194, 183] := fun h => hno 2 (by omega) h
  have n3 : 3 < k → ¬ l.take 3 = [226, 151, 142] := fun h => hno 3 (by omega) h
  match k, h0, h4 with
  | 1, _, _ => exact if_pos hm
  | 2, _, _ => rw [if_neg (n1 (by omega))]; exact if_pos hm
  | 3, _, _ => rw [if_neg (n1 (by omega)), if_neg (n2 (by omega))]; exact if_pos hm
  | 4, _, _ => rw [if_neg (n1 (by omega)), if_neg (n2 (by omega)), if_neg (n3 (by omega))]; exact if_pos hm
theorem sg_no {l : List UInt8} (hno : ∀ j, 1 ≤ j → j ≤ 4 → ¬ l.take (bs j).length = bs j) : sg l = 0 := by
  unfold sg
  have n1 : ¬ l.take 3 = [226, 150, 136] := hno 1 (by omega) (by omega)
  have n2 : ¬ l.take 2 = [194, 183] := hno 2 (by omega) (by omega)
  have n3 : ¬ l.take 3 = [226, 151, 142] := hno 3 (by omega) (by omega)
  have n4 : ¬ l.take 1 = [10] := hno 4 (by omega) (by omega)
  rw [if_neg n1, if_neg n2, if_neg n3, if_neg n4]
theorem no_more {l : List UInt8} {k : Nat} (hno : ∀ j, 1 ≤ j → j ≤ k → ¬ l.take (bs j).length = bs j) (h : ¬ l.take (bs (k + 1)).length = bs (k + 1)) : ∀ j, 1 ≤ j → j ≤ k + 1 → ¬ l.take (bs j).length = bs j := by
  intro j h1 h2
  by_cases e : j = k + 1
  · rw [e]; exact h
  · exact hno j h1 (by omega)
end Ti

namespace TiR
end TiR
end Go.Proofs.YtgabgkgokmeaeaaGreat

/- Middles of tiles, whether a place is one to come in, whether two maps are the same: the reference's (TiR). -/
namespace Go.Proofs.YtgabgkgokmeaeaaGreat
open Go.RowKit
set_option linter.unusedVariables false
set_option linter.unusedSimpArgs false

abbrev vecVal (p : Int × Int) : Value := .agg #[.int .i64 p.1, .int .i64 p.2]
theorem tv_eql (ax ay bx b_y : Int) (w : World) : (binOp .eql 49 (.agg #[.int .i64 ax, .int .i64 ay]) (.agg #[.int .i64 bx, .int .i64 b_y])).run Tryz.prog w = .ok (.bool ((ax == bx) && (ay == b_y))) w := by
  rw [run_eql_struct, run_equalIn_agg (d := 9999) (ht := by kernel_rfl) (hp := by kernel_rfl)]
  simp [go_sem]
  by_cases h : ax = bx <;> by_cases h' : ay = b_y <;> simp [h, h']
theorem tv_neq (ax ay bx b_y : Int) (w : World) : (binOp .neq 49 (.agg #[.int .i64 ax, .int .i64 ay]) (.agg #[.int .i64 bx, .int .i64 b_y])).run Tryz.prog w = .ok (.bool (!((ax == bx) && (ay == b_y)))) w := by
  rw [run_neq_struct, run_equalIn_agg (d := 9999) (ht := by kernel_rfl) (hp := by kernel_rfl)]
  simp [go_sem]
  by_cases h : ax = bx <;> by_cases h' : ay = b_y <;> simp [h, h']
theorem tv_is (p q : Int × Int) : ((p.1 == q.1) && (p.2 == q.2)) = decide (p = q) := by
  obtain ⟨a, b⟩ := p
  obtain ⟨c, d⟩ := q
  rw [Bool.eq_iff_iff]
  simp

namespace TiR

/-- whether two maps are the same -/
def sameB (a b : Ti.M) : Bool := decide (a.W = b.W) && decide (a.H = b.H) && decide (a.ws = b.ws) && decide (a.sp = b.sp)
theorem sameB_iff {a b : Ti.M} : sameB a b = true ↔ a = b := by
  obtain ⟨a1, a2, a3, a4⟩ := a
  obtain ⟨b1, b2, b3, b4⟩ := b
  simp [sameB, and_assoc]
theorem sameB_not {a b : Ti.M} (h : ¬ a = b) : sameB a b = false := by
  cases hs : sameB a b with
  | false => rfl
  | true => exact absurd (sameB_iff.1 hs) h

end TiR
end Go.Proofs.YtgabgkgokmeaeaaGreat

/- Bytes, as slices of the call's own have them; which blocks were written. -/
namespace Go.Proofs.YtgabgkgokmeaeaaGreat
open Go.RowKit
set_option linter.unusedVariables false

/-- the blocks F were written, and are F' now: what came is new -/
def Moved (F F' : List Nat) (w w' : World) : Prop := Turned F w w' ∧ ∀ k ∈ F', k ∈ F ∨ w.heap.size ≤ k
namespace Moved
variable {F F' F'' G : List Nat} {w w' w'' : World}
theorem refl (F : List Nat) (w : World) : Moved F F w w := ⟨Turned.refl _ _, fun k hk => .inl hk⟩
theorem trans (h : Moved F F' w w') (h' : Moved F' F'' w' w'') : Moved F F'' w w'' := by
  have hs := h.1.size
  refine ⟨h.1.trans h'.1 ?_, ?_⟩
  · intro k hk hl
    rcases h.2 k hk with h | h
    · exact h
    · omega
  · intro k hk
    rcases h'.2 k hk with h1 | h1
    · exact h.2 k h1
    · exact .inr (by omega)
theorem apart (h : Moved F F' w w') (hl : ∀ k ∈ G, k < w.heap.size) (hd : ∀ k ∈ G, k ∉ F) : ∀ k ∈ G, k ∉ F' := by
  intro k hk hm
  rcases h.2 k hm with h1 | h1
  · exact hd k hk h1
  · have := hl k hk; omega
/-- all that was written came since -/
theorem below {B : Nat} {w0 : World} (h : Moved F F' w w') (h0 : Below B w0 w) (hB : B ≤ w.heap.size) (hF : ∀ k ∈ F, B ≤ k) : Below B w0 w' := h0.trans (h.1.below hB hF)
theorem ge {B : Nat} (h : Moved F F' w w') (hB : B ≤ w.heap.size) (hF : ∀ k ∈ F, B ≤ k) : ∀ k ∈ F', B ≤ k := by
  intro k hk
  rcases h.2 k hk with h1 | h1
  · exact hF k h1
  · omega
theorem size (h : Moved F F' w w') : w.heap.size ≤ w'.heap.size := h.1.size
end Moved

theorem one_cell {α : Type} {enc : α → List Value} {a : α} {x : Value} (he : enc a = [x]) (w : World) (t : TypeId) : ∀ j u, ([a].flatMap enc)[j]? = some u → (w.alloc (.cells #[x] t)).cell? ⟨w.heap.size, 0 + j, none⟩ = some u := by
  intro j u hj
  rw [show [a].flatMap enc = [x] by simp [he]] at hj
  match j, hj with
  | 0, hj => simp at hj; subst hj; simp [go_sem]

/-- behind 'x.f = append(x.f, a)', the element laid in a block of its own: the slice, the struct at p whose first cell it is, and what has turned -/
theorem push_one {α : Type} {e : TypeId} {enc : α → List Value} {v v' : Value} {cs : List Value} {l : List α} {a : α} {p : Nat} {w w1 : World} {o : Obj}
    (hlen : ∀ b ∈ l ++ [a], (enc b).length = 1) (hs : Struct p (v :: cs) w) (hn : p ∉ blk v) (ho1 : OwnL e 1 enc v' (l ++ [a]) w1) (ht : Turned (blk v) (w.alloc o) w1) (hb : blk v' = blk v ∨ blk v' = [(w.alloc o).heap.size]) :
    ∃ g cap, v' = .slice (some ⟨g, 0, none⟩) (l.length + 1) cap ∧ g ≠ p ∧ w1.cell? ⟨p, 0, none⟩ = some v ∧ w1.frozen? ⟨p, 0, none⟩ = false ∧
      ∀ W2, W2 = w1.setCell ⟨p, 0, none⟩ v' → Struct p (v' :: cs) W2 ∧ OwnL e 1 enc v' (l ++ [a]) W2 ∧ Turned (p :: blk v) w W2 ∧ blk v' = [g] ∧ (blk v = [g] ∨ w.heap.size ≤ g) := by
  have hs1 := (hs.keep ((Turned.refl [] w).alloc o) (by simp)).keep ht hn
  obtain ⟨g, cap, rfl, hbk, hg, hc⟩ := ho1.cell hlen (i := l.length) (a := a) (by simp)
  have hgp : g ≠ p := by
    rintro rfl
    rcases hb with h | h
    · rw [hbk] at h; exact hn (by rw [← h]; simp)
    · rw [hbk] at h; simp at h; have := hs.1; omega
  refine ⟨g, cap, by simp, hgp, (hs1.2 0 _ rfl).1, (hs1.2 0 _ rfl).2, ?_⟩
  rintro W2 rfl
  refine ⟨hs1.set (i := 0) (by simp) _, ?_, ?_, hbk, ?_⟩
  · refine ho1.keep (S := [p]) ((Turned.refl [p] w1).setCell (.inl (by simp)) _) ?_
    intro k hk hm
    rw [hbk] at hk
    simp at hk hm
    omega
  · have h0 : Turned (blk v) w w1 := ((Turned.refl (blk v) w).alloc o).trans ht fun k hk _ => hk
    have h1 : Turned (p :: blk v) w w1 := h0.mono fun k hk _ => List.mem_cons_of_mem _ hk
    exact h1.setCell (p := ⟨p, 0, none⟩) (.inl (by simp)) _
  · rcases hb with h | h
    · left; rw [← h, hbk]
    · right; rw [hbk] at h; simp at h; omega

/-- an element of the slice is written, then the struct's second cell -/
theorem put_fin {α : Type} {e : TypeId} {f : α → Value} {V n m : Value} {l : List α} {a : α} {g p i cap : Nat} {S : List Nat} {w W : World} (hV : V = .slice (some ⟨g, 0, none⟩) l.length cap) (hs : Struct p [V, n] W) (ho : OwnL e 1 (fun a => [f a]) V l W) (hgp : g ≠ p) (hi : i < l.length)
    (ht : Turned S w W) (hp : p ∈ S) (hg : g ∈ S ∨ w.heap.size ≤ g) {W' : World} (hW : W' = ((W.setCell ⟨g, i, none⟩ (f a)).setCell ⟨p, 1, none⟩ m).drew) :
    Struct p [V, m] W' ∧ OwnL e 1 (fun a => [f a]) V (l.set i a) W' ∧ Turned S w W' := by
  subst hW
  refine ⟨?_, ?_, ?_⟩
  · have h1 : Struct p [V, n] (W.setCell ⟨g, i, none⟩ (f a)) := hs.keep (S := [g]) ((Turned.refl [g] W).setCell (p := ⟨g, i, none⟩) (.inl (by simp)) _) (by simp; omega)
    exact h1.set (i := 1) (by simp) m
  · have h1 := ho.set hV hi a
    have h2 := h1.keep (S := [p]) ((Turned.refl [p] _).setCell (p := ⟨p, 1, none⟩) (.inl (by simp)) m) (by
      intro k hk hm
      rw [hV] at hk
      simp [blk, Value.ownBlock] at hk hm
      omega)
    exact h2
  · exact ((ht.setCell (p := ⟨g, i, none⟩) hg _).setCell (p := ⟨p, 1, none⟩) (.inl hp) _).drew
end Go.Proofs.YtgabgkgokmeaeaaGreat


/- A text is read as a map: the reference's (TiR). -/
namespace Go.Proofs.YtgabgkgokmeaeaaGreat
open Go.RowKit
set_option linter.unusedVariables false
set_option linter.unusedSimpArgs false

theorem elem_tb : ElemOk Tryz.prog 22 4 (.bool false) 1 1 := ⟨by kernel_rfl, by kernel_rfl, rfl, by decide⟩
theorem elem_tv : ElemOk Tryz.prog 23 49 (.agg #[.int .i64 0, .int .i64 0]) 2 16 := ⟨by kernel_rfl, by kernel_rfl, rfl, by decide⟩
namespace Ti
/-- what is answered: the map, the place, the error -/
def ansM (r : Option S × Nat) : M := match r.1 with | some s => mOf s | none => zeroM
def ansN (r : Option S × Nat) : Nat := match r.1 with | some _ => 0 | none => r.2
def ansE (r : Option S × Nat) : Int := match r.1 with | some _ => 0 | none => 2
/-- what stays as it is read -/
structure Inv (a : Nat) (s : S) : Prop where
  x : s.x ≤ 32
  h : s.H ≤ 32
  hx : 0 < s.x → s.H < 32
  w : s.W ≤ 32
  ws : s.ws.length ≤ a
  sp : s.sp.length ≤ s.ws.length
theorem inv0 : Inv 0 s0 := ⟨by decide, by decide, by decide, by decide, by decide, by decide⟩
theorem Inv.next {a : Nat} {s : S} {k n : Nat} (h : Inv a s) (hb : ¬ bad k s) (hn : 0 < n) : Inv (a + n) (Ti.next k s) := by
  obtain ⟨h1, h2, h3, h4, h5, h6⟩ := h
  unfold bad at hb
  unfold Ti.next
  by_cases hk : k = 4
  · rw [if_pos hk] at hb ⊢
    have : 0 < s.x := by
      by_cases e : s.x = 0
      · exact absurd (.inl e) hb
      · omega
    have := h3 this
    exact ⟨by simp, by show s.H + 1 ≤ 32; omega, by simp, h1, by show s.ws.length ≤ a + n; omega, h6⟩
  · rw [if_neg hk] at hb ⊢
    have e1 : s.H < 32 := by
      by_cases e : s.H < 32
      · exact e
      · exact absurd (.inr (.inl (by omega))) hb
    have e2 : s.x < 32 := by
      by_cases e : s.x < 32
      · exact e
      · exact absurd (.inr (.inr (.inl (by omega)))) hb
    refine ⟨by show s.x + 1 ≤ 32; omega, h2, fun _ => e1, h4, by simp; omega, ?_⟩
    simp only
    split <;> simp <;> omega
end Ti

namespace TiR
def zeroCells : List Value := [.int .i64 0, .int .i64 0, .slice none 0 0, .slice none 0 0]
/-- a map's cells are stored whole -/
abbrev put4 (w : World) (p : Nat) (a b c d : Value) : World := (((w.setCell ⟨p, 0, none⟩ a).setCell ⟨p, 1, none⟩ b).setCell ⟨p, 2, none⟩ c).setCell ⟨p, 3, none⟩ d
theorem set4 {p : Nat} {cs : List Value} {w : World} (hl : cs.length = 4) (h : Struct p cs w) (a b c d : Value) : Struct p [a, b, c, d] (put4 w p a b c d) := by
  obtain ⟨x0, x1, x2, x3, rfl⟩ : ∃ x0 x1 x2 x3, cs = [x0, x1, x2, x3] := by
    match cs, hl with
    | [x0, x1, x2, x3], _ => exact ⟨x0, x1, x2, x3, rfl⟩
  exact (((h.set (i := 0) (by simp) a).set (i := 1) (by simp) b).set (i := 2) (by simp) c).set (i := 3) (by simp) d
theorem turned4 {S : List Nat} {w w' : World} {p : Nat} (h : Turned S w w') (hp : p ∈ S ∨ w.heap.size ≤ p) (a b c d : Value) : Turned S w (put4 w' p a b c d) :=
  (((h.setCell (p := ⟨p, 0, none⟩) hp _).setCell (p := ⟨p, 1, none⟩) hp _).setCell (p := ⟨p, 2, none⟩) hp _).setCell (p := ⟨p, 3, none⟩) hp _
/-- a text that is being read: the answer's block A, the map's B, its rows -/
structure RS (A B : Nat) (w : World) (st : Ti.S) (va vb : Value) (wr : World) : Prop where
  res : Struct A zeroCells wr
  own : Struct B [.int .i64 (st.W : Int), .int .i64 (st.H : Int), va, vb] wr
  ws : OwnL 4 1 tbEnc va st.ws wr
  sp : OwnL 49 2 tvEnc vb st.sp wr
  na : ∀ k ∈ blk va, w.heap.size ≤ k ∧ k ≠ A ∧ k ≠ B
  nb : ∀ k ∈ blk vb, w.heap.size ≤ k ∧ k ≠ A ∧ k ≠ B
  dis : ∀ k ∈ blk va, k ∉ blk vb
  turned : Turned [] w wr
section
variable {A B : Nat} {w wr : World} {st : Ti.S} {va vb : Value}
theorem RS.keep {u : World} (h : RS A B w st va vb wr) (ht : Turned [] wr u) : RS A B w st va vb u :=
  ⟨h.res.keep ht (by simp), h.own.keep ht (by simp), h.ws.keep ht (by simp), h.sp.keep ht (by simp), h.na, h.nb, h.dis, h.turned.trans ht (by simp)⟩
/-- a cell of the map's block is written -/
theorem RS.line (h : RS A B w st va vb wr) (hAB : A ≠ B) (hB : w.heap.size ≤ B) (x H : Nat) : RS A B w ⟨0, x, H, st.ws, st.sp⟩ va vb ((wr.setCell ⟨B, 0, none⟩ (.int .i64 (x : Int))).setCell ⟨B, 1, none⟩ (.int .i64 (H : Int))) := by
  have ht : Turned [B] wr ((wr.setCell ⟨B, 0, none⟩ (.int .i64 (x : Int))).setCell ⟨B, 1, none⟩ (.int .i64 (H : Int))) := ((Turned.refl [B] wr).setCell (p := ⟨B, 0, none⟩) (.inl (by simp)) _).setCell (p := ⟨B, 1, none⟩) (.inl (by simp)) _
  refine ⟨h.res.keep ht (by simpa using hAB), (h.own.set (i := 0) (by simp) _).set (i := 1) (by simp) _, h.ws.keep ht (fun k hk => by simpa using (h.na k hk).2.2), h.sp.keep ht (fun k hk => by simpa using (h.nb k hk).2.2), h.na, h.nb, h.dis, ?_⟩
  exact (h.turned.setCell (p := ⟨B, 0, none⟩) (.inr hB) _).setCell (p := ⟨B, 1, none⟩) (.inr hB) _
/-- behind an append of a wall, ahead of the store -/
theorem RS.mid {o : Obj} {w1 : World} (h : RS A B w st va vb wr) (ht : Turned (blk va) (wr.alloc o) w1) : Struct A zeroCells w1 ∧ Struct B [.int .i64 (st.W : Int), .int .i64 (st.H : Int), va, vb] w1 ∧ OwnL 49 2 tvEnc vb st.sp w1 ∧ Turned [] w w1 := by
  have ha := (Turned.refl [] wr).alloc o
  refine ⟨(h.res.keep ha (by simp)).keep ht (fun hk => (h.na A hk).2.1 rfl), (h.own.keep ha (by simp)).keep ht (fun hk => (h.na B hk).2.2 rfl), (h.sp.keep ha (by simp)).keep ht (fun k hk hm => h.dis k hm hk), ?_⟩
  exact (h.turned.trans ha (by simp)).trans ht (fun k hk hl => by have := (h.na k hk).1; omega)
theorem RS.push {o : Obj} {w1 : World} {b : Bool} {v' : Value} {x : Nat} (h : RS A B w st va vb wr) (hAB : A ≠ B) (hB : w.heap.size ≤ B) (ho1 : OwnL 4 1 tbEnc v' (st.ws ++ [b]) w1) (ht : Turned (blk va) (wr.alloc o) w1) (hb : blk v' = blk va ∨ blk v' = [(wr.alloc o).heap.size]) : RS A B w ⟨x, st.W, st.H, st.ws ++ [b], st.sp⟩ v' vb (w1.setCell ⟨B, 2, none⟩ v') := by
  obtain ⟨m1, m2, m3, m4⟩ := h.mid ht
  have hs : (wr.alloc o).heap.size = wr.heap.size + 1 := by simp
  have hna : ∀ k ∈ blk v', w.heap.size ≤ k ∧ k ≠ A ∧ k ≠ B := by
    intro k hk
    rcases hb with e | e
    · rw [e] at hk; exact h.na k hk
    · rw [e, hs] at hk; simp at hk; subst hk
      have := h.res.1; have := h.own.1; have := h.turned.size
      exact ⟨by omega, by omega, by omega⟩
  have hdis : ∀ k ∈ blk v', k ∉ blk vb := by
    intro k hk hm
    rcases hb with e | e
    · rw [e] at hk; exact h.dis k hk hm
    · rw [e, hs] at hk; simp at hk; subst hk
      have := h.sp.lt _ hm; omega
  have hT : Turned [B] w1 (w1.setCell ⟨B, 2, none⟩ v') := (Turned.refl [B] w1).setCell (p := ⟨B, 2, none⟩) (.inl (by simp)) _
  exact ⟨m1.keep hT (by simpa using hAB), m2.set (i := 2) (by simp) _, ho1.keep hT (fun k hk => by simpa using (hna k hk).2.2), m3.keep hT (fun k hk => by simpa using (h.nb k hk).2.2), hna, h.nb, hdis, m4.setCell (p := ⟨B, 2, none⟩) (.inr hB) _⟩
/-- behind an append of a place, ahead of the store -/
theorem RS.mid2 {o : Obj} {w1 : World} (h : RS A B w st va vb wr) (ht : Turned (blk vb) (wr.alloc o) w1) : Struct A zeroCells w1 ∧ Struct B [.int .i64 (st.W : Int), .int .i64 (st.H : Int), va, vb] w1 ∧ OwnL 4 1 tbEnc va st.ws w1 ∧ Turned [] w w1 := by
  have ha := (Turned.refl [] wr).alloc o
  refine ⟨(h.res.keep ha (by simp)).keep ht (fun hk => (h.nb A hk).2.1 rfl), (h.own.keep ha (by simp)).keep ht (fun hk => (h.nb B hk).2.2 rfl), (h.ws.keep ha (by simp)).keep ht (fun k hk hm => h.dis k hk hm), ?_⟩
  exact (h.turned.trans ha (by simp)).trans ht (fun k hk hl => by have := (h.nb k hk).1; omega)
theorem RS.push2 {o : Obj} {w1 : World} {b : Int × Int} {v' : Value} {x : Nat} (h : RS A B w st va vb wr) (hAB : A ≠ B) (hB : w.heap.size ≤ B) (ho1 : OwnL 49 2 tvEnc v' (st.sp ++ [b]) w1) (ht : Turned (blk vb) (wr.alloc o) w1) (hb : blk v' = blk vb ∨ blk v' = [(wr.alloc o).heap.size]) : RS A B w ⟨x, st.W, st.H, st.ws, st.sp ++ [b]⟩ va v' (w1.setCell ⟨B, 3, none⟩ v') := by
  obtain ⟨m1, m2, m3, m4⟩ := h.mid2 ht
  have hs : (wr.alloc o).heap.size = wr.heap.size + 1 := by simp
  have hnb : ∀ k ∈ blk v', w.heap.size ≤ k ∧ k ≠ A ∧ k ≠ B := by
    intro k hk
    rcases hb with e | e
    · rw [e] at hk; exact h.nb k hk
    · rw [e, hs] at hk; simp at hk; subst hk
      have := h.res.1; have := h.own.1; have := h.turned.size
      exact ⟨by omega, by omega, by omega⟩
  have hdis : ∀ k ∈ blk va, k ∉ blk v' := by
    intro k hk hm
    rcases hb with e | e
    · rw [e] at hm; exact h.dis k hk hm
    · rw [e, hs] at hm; simp at hm; subst hm
      have := h.ws.lt _ hk; omega
  have hT : Turned [B] w1 (w1.setCell ⟨B, 3, none⟩ v') := (Turned.refl [B] w1).setCell (p := ⟨B, 3, none⟩) (.inl (by simp)) _
  exact ⟨m1.keep hT (by simpa using hAB), m2.set (i := 3) (by simp) _, m3.keep hT (fun k hk => by simpa using (h.na k hk).2.2), ho1.keep hT (fun k hk => by simpa using (hnb k hk).2.2), h.na, hnb, hdis, m4.setCell (p := ⟨B, 3, none⟩) (.inr hB) _⟩
end
/-- what Read answers of a text -/
def Answers (l : List UInt8) (w : World) (e : Ending) (w' : World) : Prop :=
  ∃ oa ca ob cb, e = .returned (.tuple #[mapVal (Ti.ansM (Ti.read l)) oa ca ob cb, .int .i64 ((Ti.ansN (Ti.read l) : Nat) : Int), .int .i64 (Ti.ansE (Ti.read l))]) ∧ MapAt (Ti.ansM (Ti.read l)) oa ob w' ∧ (∀ a, oa = some a → w.heap.size ≤ a.block) ∧ (∀ a, ob = some a → w.heap.size ≤ a.block) ∧ Turned [] w w'
end TiR
end Go.Proofs.YtgabgkgokmeaeaaGreat


/- A text is read as a map: the reference's Read (TiR). -/
namespace Go.Proofs.YtgabgkgokmeaeaaGreat
open Go.RowKit
set_option linter.unusedVariables false
set_option linter.unusedSimpArgs false

namespace Ti
theorem from_zero (s : ByteArray) : from_ s 0 = s.data.toList := rfl
theorem from_next (s : ByteArray) (a n : Nat) : (from_ s a).drop n = from_ s (a + n) := by unfold from_; rw [List.drop_drop]
end Ti
namespace TiR
/-- behind some signs -/
structure At (A B : Nat) (s : ByteArray) (w : World) (a : Nat) (st : Ti.S) (va vb : Value) (wr : World) : Prop where
  le : a ≤ s.size
  run : Ti.run (from_ s a).length (from_ s a) a st = Ti.read s.data.toList
  inv : Ti.Inv a st
  rs : RS A B w st va vb wr
theorem At.bad {A B a : Nat} {s : ByteArray} {w wr : World} {st : Ti.S} {va vb : Value} (h : At A B s w a st va vb wr) (ha : a < s.size) (hb : Ti.bad (Ti.sg (from_ s a)) st) : Ti.read s.data.toList = (none, a) := by
  rw [← h.run]
  exact Ti.run_bad (by intro e; have := from_len s a; rw [e] at this; simp at this; omega) (Nat.le_refl _) hb
theorem At.next {A B a : Nat} {s : ByteArray} {w wr u : World} {st : Ti.S} {va vb va' vb' : Value} (h : At A B s w a st va vb wr) (ha : a < s.size) (hb : ¬ Ti.bad (Ti.sg (from_ s a)) st) (hr : RS A B w (Ti.next (Ti.sg (from_ s a)) st) va' vb' u) : At A B s w (a + (Ti.bs (Ti.sg (from_ s a))).length) (Ti.next (Ti.sg (from_ s a)) st) va' vb' u := by
  have hne : from_ s a ≠ [] := by intro e; have := from_len s a; rw [e] at this; simp at this; omega
  have h0 : Ti.sg (from_ s a) ≠ 0 := by intro e; apply hb; unfold Ti.bad; rw [e, if_neg (by decide)]; exact .inl rfl
  have hp := Ti.bs_pos (k := Ti.sg (from_ s a)) (by omega) (Ti.sg_le _)
  have hl := Ti.len_sg (from_ s a)
  rw [from_len] at hl
  refine ⟨by omega, ?_, h.inv.next hb hp, hr⟩
  rw [← h.run, Ti.run_step hne (Nat.le_refl _) hb, Ti.from_next]
  exact (Ti.run_any (by rw [from_len, from_len]; omega)).symm
theorem At.fin {A B : Nat} {s : ByteArray} {w wr : World} {st : Ti.S} {va vb : Value} {a : Nat} (h : At A B s w a st va vb wr) (ha : ¬ a < s.size) : Ti.read s.data.toList = Ti.fin s.size st := by
  have : a = s.size := by have := h.le; omega
  rw [← h.run]
  have e : from_ s a = [] := List.length_eq_zero_iff.1 (by rw [from_len]; omega)
  rw [e, this]
  rfl
/-- a refusal's answer -/
theorem no_answer {l : List UInt8} {n : Nat} {w w' : World} (h : Ti.read l = (none, n)) (ht : Turned [] w w') : Answers l w (.returned (.tuple #[.agg #[.int .i64 0, .int .i64 0, .slice none 0 0, .slice none 0 0], .int .i64 (n : Int), .int .i64 2])) w' := by
  unfold Answers
  rw [h]
  refine ⟨none, 0, none, 0, rfl, ⟨?_, ?_, Nat.zero_le _, Nat.zero_le _, ⟨by show (-9223372036854775808 : Int) ≤ 0; decide, by show (0 : Int) < 9223372036854775808; decide⟩, ⟨by show (-9223372036854775808 : Int) ≤ 0; decide, by show (0 : Int) < 9223372036854775808; decide⟩⟩, by simp, by simp, ht⟩
  · intro i a hi; simp [Ti.ansM, Ti.zeroM] at hi
  · intro i a hi; simp [Ti.ansM, Ti.zeroM] at hi

theorem two_cells {p : Int × Int} (w : World) (t : TypeId) : ∀ j u, ([p].flatMap tvEnc)[j]? = some u → (w.alloc (.cells #[.int .i64 p.1, .int .i64 p.2] t)).cell? ⟨w.heap.size, 0 + j, none⟩ = some u := by
  intro j u hj
  rw [Nat.zero_add]
  exact ((Struct.new w [.int .i64 p.1, .int .i64 p.2] t).2 j u (by simpa [tvEnc] using hj)).1

end TiR
end Go.Proofs.YtgabgkgokmeaeaaGreat

/- Maps of tiles: their texts, line by line, as they are written; walls; what is free. -/
namespace Go.Proofs.YtgabgkgokmeaeaaGreat.Ti
set_option linter.unusedVariables false

def str (l : List UInt8) : ByteArray := ⟨l.toArray⟩
theorem str_list (l : List UInt8) : (str l).data.toList = l := rfl
theorem str_size (l : List UInt8) : (str l).size = l.length := rfl
theorem str_add (l k : List UInt8) : str l ++ str k = str (l ++ k) := ByteArray.mk_append_mk l k
theorem str_inj {l k : List UInt8} (h : str l = str k) : l = k := by
  have := congrArg (fun b => b.data.toList) h
  exact this
/-- behind y lines, and x signs of the next -/
def tx (m : M) (y x : Nat) : List UInt8 := flat (toks ((linesOf m).take y)) ++ flat ((lineOf m y).take x)
theorem tx_start (m : M) : tx m 0 0 = [] := by simp [tx, toks, flat]
theorem tx_sign {m : M} {y x : Nat} (h : x < m.W.toNat) : tx m y (x + 1) = tx m y x ++ bs (code m x y) := by
  unfold tx
  rw [List.take_add_one, line_at h, flat_append, List.append_assoc]
  congr 2
  simp [flat]
theorem tx_line {m : M} {y x : Nat} (hy : y < m.H.toNat) (hx : x = m.W.toNat) : tx m (y + 1) 0 = tx m y x ++ [10] := by
  unfold tx
  have h1 : (lineOf m y).take x = lineOf m y := List.take_of_length_le (by rw [line_len]; omega)
  rw [List.take_add_one, lines_at hy, h1]
  simp [toks, flat, bs]
theorem tx_end {m : M} {y : Nat} (hy : y = m.H.toNat) : tx m y 0 = textOf m := by
  unfold tx textOf text
  rw [List.take_of_length_le (by rw [lines_len]; omega)]
  simp [flat]
theorem flat_le : ∀ (ks : List Nat), (flat ks).length ≤ 3 * ks.length
  | [] => by simp [flat]
  | k :: ks => by
    have := flat_le ks
    have h := bs_le k
    rw [flat_cons, List.length_append, List.length_cons]; omega
theorem toks_le {w : Nat} : ∀ {L : List (List Nat)}, (∀ c ∈ L, c.length ≤ w) → (toks L).length ≤ L.length * (w + 1)
  | [], _ => by simp [toks]
  | c :: L, h => by
    have h1 := toks_le (L := L) fun d hd => h d (List.mem_cons_of_mem _ hd)
    have h2 := h c (List.mem_cons_self ..)
    have e : toks (c :: L) = c ++ [4] ++ toks L := by simp [toks]
    have e2 : (c :: L).length * (w + 1) = L.length * (w + 1) + (w + 1) := by rw [List.length_cons, Nat.add_mul, Nat.one_mul]
    have e3 : ([4] : List Nat).length = 1 := rfl
    rw [e, List.length_append, List.length_append, e2, e3]
    omega
theorem tx_le {m : M} {y x : Nat} (h : Dims m) : (tx m y x).length ≤ 3264 := by
  obtain ⟨h1, h2, h3, h4, _⟩ := h
  unfold tx
  have a1 := flat_le (toks ((linesOf m).take y))
  have a2 := flat_le ((lineOf m y).take x)
  have a3 := toks_le (w := 32) (L := (linesOf m).take y) (fun c hc => by rw [(lines_lines m).len c (List.mem_of_mem_take hc)]; omega)
  have a4 : ((linesOf m).take y).length ≤ 32 := by rw [List.length_take, lines_len]; omega
  have a5 : ((lineOf m y).take x).length ≤ 32 := by rw [List.length_take, line_len]; omega
  have a6 : ((linesOf m).take y).length * (32 + 1) ≤ 32 * 33 := Nat.mul_le_mul a4 (by omega)
  rw [List.length_append]
  omega
theorem code_wall {m : M} {x y : Nat} (h : wall m x y = true) : code m x y = 1 := by unfold code; rw [h]; rfl
theorem code_in {m : M} {x y : Nat} (h : wall m x y = false) (hs : mid x y ∈ m.sp) : code m x y = 3 := by unfold code; rw [h, if_neg (by decide), if_pos hs]
theorem code_floor {m : M} {x y : Nat} (h : wall m x y = false) (hs : ¬ mid x y ∈ m.sp) : code m x y = 2 := by unfold code; rw [h, if_neg (by decide), if_neg hs]
/-- what Text answers -/
def ansT (m : M) : List UInt8 := if formedB m = true then textOf m else []
def ansF (m : M) : Int := if formedB m = true then 0 else 1
theorem ansT_pos {m : M} (h : Formed m) : ansT m = textOf m := if_pos (formedB_iff.2 h)
theorem ansF_pos {m : M} (h : Formed m) : ansF m = 0 := if_pos (formedB_iff.2 h)
theorem ansT_neg {m : M} (h : ¬ Formed m) : ansT m = [] := if_neg (by rw [formedB_not h]; decide)
theorem ansF_neg {m : M} (h : ¬ Formed m) : ansF m = 1 := if_neg (by rw [formedB_not h]; decide)
theorem dims_ws {m : M} (h : Dims m) {x y : Nat} (hx : x < m.W.toNat) (hy : y < m.H.toNat) : y * m.W.toNat + x < m.ws.length ∧ m.ws[y * m.W.toNat + x]? = some (wall m x y) := by
  obtain ⟨h1, h2, h3, h4, h5⟩ := h
  have hlen : m.ws.length = m.H.toNat * m.W.toNat := by
    have hW : (m.W.toNat : Int) = m.W := by omega
    have hH : (m.H.toNat : Int) = m.H := by omega
    have : (m.ws.length : Int) = ((m.H.toNat * m.W.toNat : Nat) : Int) := by rw [h5, Int.natCast_mul, hW, hH, Int.mul_comm]
    omega
  have hlt : y * m.W.toNat + x < m.ws.length := by
    rw [hlen]
    have : (y + 1) * m.W.toNat ≤ m.H.toNat * m.W.toNat := Nat.mul_le_mul_right _ (by omega)
    rw [Nat.add_mul] at this
    omega
  refine ⟨hlt, ?_⟩
  unfold wall
  rw [List.getD_eq_getElem?_getD, List.getElem?_eq_getElem hlt]
  rfl
/-- a box: least and most of both directions -/
structure Bx where
  lx : Int
  ly : Int
  mx : Int
  my : Int
def Over (x y : Nat) (b : Bx) : Prop := (x : Int) * 65536 < b.mx ∧ b.lx < (x : Int) * 65536 + 65536 ∧ (y : Int) * 65536 < b.my ∧ b.ly < (y : Int) * 65536 + 65536
def Within (m : M) (b : Bx) : Prop := b.lx ≤ b.mx ∧ b.ly ≤ b.my ∧ 0 ≤ b.lx ∧ 0 ≤ b.ly ∧ b.mx ≤ m.W * 65536 ∧ b.my ≤ m.H * 65536
def Free (m : M) (b : Bx) : Prop := Formed m ∧ Within m b ∧ ∀ x y, x < m.W.toNat → y < m.H.toNat → wall m x y = true → ¬ Over x y b
/-- a tile that is a wall, or none -/
def WallAt (m : M) (x y : Int) : Prop := ¬ Formed m ∨ x < 0 ∨ m.W ≤ x ∨ y < 0 ∨ m.H ≤ y ∨ wall m x.toNat y.toNat = true
def wallB (m : M) (x y : Int) : Bool := !formedB m || (decide (x < 0) || (decide (m.W ≤ x) || (decide (y < 0) || (decide (m.H ≤ y) || wall m x.toNat y.toNat))))
theorem wallB_iff {m : M} {x y : Int} : wallB m x y = true ↔ WallAt m x y := by
  unfold wallB WallAt
  rw [Bool.or_eq_true, Bool.or_eq_true, Bool.or_eq_true, Bool.or_eq_true, Bool.or_eq_true, decide_eq_true_iff, decide_eq_true_iff, decide_eq_true_iff, decide_eq_true_iff, Bool.not_eq_true', ← Bool.not_eq_true, formedB_iff]
theorem free_less {m : M} {b c : Bx} (h : Free m b) (h1 : b.lx ≤ c.lx) (h2 : c.lx ≤ c.mx) (h3 : c.mx ≤ b.mx) (h4 : b.ly ≤ c.ly) (h5 : c.ly ≤ c.my) (h6 : c.my ≤ b.my) : Free m c := by
  obtain ⟨f1, ⟨w1, w2, w3, w4, w5, w6⟩, f3⟩ := h
  refine ⟨f1, ⟨h2, h5, by omega, by omega, by omega, by omega⟩, fun x y hx hy hw ho => f3 x y hx hy hw ?_⟩
  obtain ⟨o1, o2, o3, o4⟩ := ho
  exact ⟨by omega, by omega, by omega, by omega⟩
end Go.Proofs.YtgabgkgokmeaeaaGreat.Ti


/- A map's text, and whether it can be read: the reference's (TiR). -/
namespace Go.Proofs.YtgabgkgokmeaeaaGreat
open Go.RowKit
set_option linter.unusedVariables false
set_option linter.unusedSimpArgs false

namespace TiR
theorem add_str (l : List UInt8) (k : List UInt8) : Ti.str l ++ (⟨k.toArray⟩ : ByteArray) = Ti.str (l ++ k) := Ti.str_add l k

end TiR
end Go.Proofs.YtgabgkgokmeaeaaGreat

/- The plain functions of layer 1 (numbers in fixed point) and what follows of them; no Go in sight. -/
namespace Go.Proofs.YtgabgkgokmeaeaaGreat
set_option linter.unusedVariables false
namespace Fx

/-- a number, held -/
def hold (x : Int) : Int := if x < -2147483648 then -2147483648 else if 2147483647 < x then 2147483647 else x

theorem hold_lo (x : Int) : -2147483648 ≤ hold x := by unfold hold; split <;> (try split) <;> omega
theorem hold_hi (x : Int) : hold x ≤ 2147483647 := by unfold hold; split <;> (try split) <;> omega
theorem hold_of {x : Int} (h1 : -2147483648 ≤ x) (h2 : x ≤ 2147483647) : hold x = x := by
  unfold hold; rw [if_neg (by omega), if_neg (by omega)]
theorem hold_below {x : Int} (h : x < -2147483648) : hold x = -2147483648 := by
  unfold hold; rw [if_pos h]
theorem hold_above {x : Int} (h : 2147483647 < x) : hold x = 2147483647 := by
  unfold hold; rw [if_neg (by omega), if_pos h]
theorem hold_mono {x y : Int} (h : x ≤ y) : hold x ≤ hold y := by
  unfold hold; repeat' split
  all_goals omega
theorem hold_hold (x : Int) : hold (hold x) = hold x := hold_of (hold_lo x) (hold_hi x)

def ofI (n : Int) : Int := hold (hold n * 65536)
def add (a b : Int) : Int := hold (hold a + hold b)
def sub (a b : Int) : Int := hold (hold a - hold b)
def mul (a b : Int) : Int := hold (hold a * hold b / 65536)
def outer (a : Int) : Int := if 0 < a then 2147483647 else if a < 0 then -2147483648 else 0
def div (a b : Int) : Int := if b = 0 then outer a else hold ((hold a * 65536).fdiv (hold b))
def floor (a : Int) : Int := hold a / 65536
def betw (a b p : Int) : Int := hold (hold a + (hold b - hold a) * p / 256)

/-- the root of n, bit by bit from 2^(k-1) on, begun at r -/
def rootFrom (n : Int) : Nat → Int → Int
  | 0, r => r
  | k + 1, r => rootFrom n k (if (r + 2 ^ k) * (r + 2 ^ k) ≤ n then r + 2 ^ k else r)
def root (n : Int) : Int := rootFrom n 24 0
def sqrt (a : Int) : Int := if a ≤ 0 then 0 else root (hold a * 65536)

/-! ### products -/
theorem mul_le_of {x y : Int} {m : Int} (h1 : -m ≤ x) (h2 : x ≤ m) (h3 : -m ≤ y) (h4 : y ≤ m) : -(m * m) ≤ x * y ∧ x * y ≤ m * m := by
  have hm : 0 ≤ m := by omega
  have a1 : 0 ≤ (m - x) * (m + y) := Int.mul_nonneg (by omega) (by omega)
  have a2 : 0 ≤ (m + x) * (m - y) := Int.mul_nonneg (by omega) (by omega)
  have a3 : 0 ≤ (m - x) * (m - y) := Int.mul_nonneg (by omega) (by omega)
  have a4 : 0 ≤ (m + x) * (m + y) := Int.mul_nonneg (by omega) (by omega)
  rw [Int.sub_mul, Int.mul_add, Int.mul_add] at a1
  rw [Int.add_mul, Int.mul_sub, Int.mul_sub] at a2
  rw [Int.sub_mul, Int.mul_sub, Int.mul_sub] at a3
  rw [Int.add_mul, Int.mul_add, Int.mul_add] at a4
  constructor <;> omega
theorem hold_mul (a b : Int) : -4611686018427387904 ≤ hold a * hold b ∧ hold a * hold b ≤ 4611686018427387904 := by
  have := hold_lo a; have := hold_hi a; have := hold_lo b; have := hold_hi b
  exact mul_le_of (m := 2147483648) (by omega) (by omega) (by omega) (by omega)
theorem part_mul {x p : Int} (h1 : -4294967295 ≤ x) (h2 : x ≤ 4294967295) (h3 : 0 ≤ p) (h4 : p ≤ 255) : -1095216660225 ≤ x * p ∧ x * p ≤ 1095216660225 := by
  have a1 : 0 ≤ (4294967295 - x) * p := Int.mul_nonneg (by omega) (by omega)
  have a2 : 0 ≤ (4294967295 + x) * p := Int.mul_nonneg (by omega) (by omega)
  rw [Int.sub_mul] at a1; rw [Int.add_mul] at a2
  constructor <;> omega

/-! ### all answers are numbers -/
theorem ofI_lo (n : Int) : -2147483648 ≤ ofI n := hold_lo _
theorem ofI_hi (n : Int) : ofI n ≤ 2147483647 := hold_hi _
theorem add_lo (a b : Int) : -2147483648 ≤ add a b := hold_lo _
theorem add_hi (a b : Int) : add a b ≤ 2147483647 := hold_hi _
theorem sub_lo (a b : Int) : -2147483648 ≤ sub a b := hold_lo _
theorem sub_hi (a b : Int) : sub a b ≤ 2147483647 := hold_hi _
theorem mul_lo (a b : Int) : -2147483648 ≤ mul a b := hold_lo _
theorem mul_hi (a b : Int) : mul a b ≤ 2147483647 := hold_hi _
theorem betw_lo (a b p : Int) : -2147483648 ≤ betw a b p := hold_lo _
theorem betw_hi (a b p : Int) : betw a b p ≤ 2147483647 := hold_hi _
theorem outer_lo (a : Int) : -2147483648 ≤ outer a := by unfold outer; split <;> (try split) <;> omega
theorem outer_hi (a : Int) : outer a ≤ 2147483647 := by unfold outer; split <;> (try split) <;> omega
theorem div_lo (a b : Int) : -2147483648 ≤ div a b := by
  unfold div; split
  · exact outer_lo a
  · exact hold_lo _
theorem div_hi (a b : Int) : div a b ≤ 2147483647 := by
  unfold div; split
  · exact outer_hi a
  · exact hold_hi _

/-! ### which stands first -/
theorem add_comm' (a b : Int) : add a b = add b a := by unfold add; rw [Int.add_comm]
theorem mul_comm' (a b : Int) : mul a b = mul b a := by unfold mul; rw [Int.mul_comm]

/-! ### division, rounded down -/
theorem fdiv_zero_mod {n d : Int} (h : n.tmod d = 0) : n.tdiv d = n.fdiv d := by
  rw [Int.fdiv_eq_tdiv]
  rw [if_pos (Int.dvd_of_tmod_eq_zero h)]; omega
theorem fdiv_other {n d : Int} (hd0 : d ≠ 0) (h : ¬ n.tmod d = 0) (s : (!decide (n < 0) == decide (d < 0)) = true) : n.tdiv d - 1 = n.fdiv d := by
  rw [Int.fdiv_eq_tdiv, if_neg (fun hd => h (Int.tmod_eq_zero_of_dvd hd))]
  have s1 : 0 < d → d.sign = 1 := Int.sign_eq_one_of_pos
  have s2 : d < 0 → d.sign = -1 := Int.sign_eq_neg_one_of_neg
  by_cases h1 : n < 0 <;> by_cases h2 : d < 0 <;> simp [h1, h2] at s ⊢ <;> omega
theorem fdiv_same {n d : Int} (hd0 : d ≠ 0) (h : ¬ n.tmod d = 0) (s : (!decide (n < 0) == decide (d < 0)) = false) : n.tdiv d = n.fdiv d := by
  rw [Int.fdiv_eq_tdiv, if_neg (fun hd => h (Int.tmod_eq_zero_of_dvd hd))]
  have s1 : 0 < d → d.sign = 1 := Int.sign_eq_one_of_pos
  have s2 : d < 0 → d.sign = -1 := Int.sign_eq_neg_one_of_neg
  by_cases h1 : n < 0 <;> by_cases h2 : d < 0 <;> simp [h1, h2] at s ⊢ <;> omega
theorem tdiv_bd {n d m : Int} (h1 : -m ≤ n) (h2 : n ≤ m) : -m ≤ n.tdiv d ∧ n.tdiv d ≤ m := by
  have h := Int.natAbs_tdiv_le_natAbs n d
  omega

/-! ### roots -/
theorem sq_mono {x y : Int} (h0 : 0 ≤ x) (h : x ≤ y) : x * x ≤ y * y := Int.mul_le_mul h h h0 (by omega)
theorem root_unique {n r s : Int} (hr0 : 0 ≤ r) (hs0 : 0 ≤ s) (hr : r * r ≤ n) (hr' : n < (r + 1) * (r + 1)) (hs : s * s ≤ n) (hs' : n < (s + 1) * (s + 1)) : r = s := by
  by_cases h1 : r < s
  · have := sq_mono (x := r + 1) (y := s) (by omega) (by omega); omega
  · by_cases h2 : s < r
    · have := sq_mono (x := s + 1) (y := r) (by omega) (by omega); omega
    · omega
theorem rootFrom_ok (n : Int) (k : Nat) (r : Int) (h0 : 0 ≤ r) (h1 : r * r ≤ n) (h2 : n < (r + 2 ^ k) * (r + 2 ^ k)) :
    0 ≤ rootFrom n k r ∧ rootFrom n k r * rootFrom n k r ≤ n ∧ n < (rootFrom n k r + 1) * (rootFrom n k r + 1) := by
  induction k generalizing r with
  | zero => exact ⟨h0, h1, by simpa [rootFrom] using h2⟩
  | succ k ih =>
    have hp : (0 : Int) < 2 ^ k := Int.pow_pos (by omega)
    have e : (2 : Int) ^ (k + 1) = 2 ^ k + 2 ^ k := by rw [Int.pow_succ]; omega
    unfold rootFrom
    by_cases hc : (r + 2 ^ k) * (r + 2 ^ k) ≤ n
    · rw [if_pos hc]
      exact ih _ (by omega) hc (by rw [e, ← Int.add_assoc] at h2; exact h2)
    · rw [if_neg hc]
      exact ih _ h0 h1 (by omega)
theorem root_ok {n : Int} (h0 : 0 ≤ n) (h : n < 281474976710656) : 0 ≤ root n ∧ root n * root n ≤ n ∧ n < (root n + 1) * (root n + 1) :=
  rootFrom_ok n 24 0 (by omega) (by omega) (by simpa using h)
theorem root_eq {n r : Int} (hn : n < 281474976710656) (hr0 : 0 ≤ r) (hr : r * r ≤ n) (hr' : n < (r + 1) * (r + 1)) : r = root n := by
  have h0 : 0 ≤ r * r := Int.mul_nonneg hr0 hr0
  obtain ⟨a, b, c⟩ := root_ok (n := n) (by omega) hn
  exact root_unique hr0 a hr hr' b c
theorem root_hi {n : Int} (h0 : 0 ≤ n) (h : n < 281474976710656) : root n ≤ 16777215 := by
  obtain ⟨a, b, c⟩ := root_ok h0 h
  by_cases hh : 16777216 ≤ root n
  · have := sq_mono (x := 16777216) (y := root n) (by omega) hh; omega
  · omega
theorem sqrt_lo (a : Int) : 0 ≤ sqrt a := by
  unfold sqrt; split
  · omega
  · have := hold_hi a
    have : 0 ≤ hold a := by have := hold_mono (x := 0) (y := a) (by omega); simpa [hold] using this
    exact (root_ok (by omega) (by omega)).1
theorem sqrt_hi (a : Int) : sqrt a ≤ 16777215 := by
  unfold sqrt; split
  · omega
  · have := hold_hi a
    have : 0 ≤ hold a := by have := hold_mono (x := 0) (y := a) (by omega); simpa [hold] using this
    exact root_hi (by omega) (by omega)
theorem hold_pos {a : Int} (h : 0 < a) : 0 < hold a := by
  have := hold_mono (x := 1) (y := a) (by omega)
  rw [hold_of (by omega) (by omega)] at this; omega
theorem hold_neg {a : Int} (h : a < 0) : hold a < 0 := by
  have := hold_mono (x := a) (y := -1) (by omega)
  rw [hold_of (x := -1) (by omega) (by omega)] at this; omega
theorem hold_zero {a : Int} : hold a = 0 ↔ a = 0 := by
  constructor
  · intro h
    by_cases h1 : 0 < a
    · have := hold_pos h1; omega
    · by_cases h2 : a < 0
      · have := hold_neg h2; omega
      · omega
  · rintro rfl; rfl
/-- a positive number's root -/
theorem sqrt_ok {a : Int} (h : 0 ≤ a) : sqrt a * sqrt a ≤ hold a * 65536 ∧ hold a * 65536 < (sqrt a + 1) * (sqrt a + 1) := by
  unfold sqrt; split
  · have : a = 0 := by omega
    subst this; decide
  · have := hold_hi a
    have := hold_pos (a := a) (by omega)
    exact (root_ok (by omega) (by omega)).2
theorem sqrt_mono {a b : Int} (h : a ≤ b) : sqrt a ≤ sqrt b := by
  by_cases h0 : a ≤ 0
  · have : sqrt a = 0 := by unfold sqrt; rw [if_pos h0]
    have := sqrt_lo b; omega
  · obtain ⟨a1, a2⟩ := sqrt_ok (a := a) (by omega)
    obtain ⟨b1, b2⟩ := sqrt_ok (a := b) (by omega)
    have := hold_mono h
    by_cases hc : sqrt b < sqrt a
    · have := sq_mono (x := sqrt b + 1) (y := sqrt a) (by have := sqrt_lo b; omega) (by omega); omega
    · omega
end Fx
end Go.Proofs.YtgabgkgokmeaeaaGreat


/- What each function of layer 1 answers, as a call: contracts of the program's functions. -/
namespace Go.Proofs.YtgabgkgokmeaeaaGreat
open Go.RowKit
set_option linter.unusedVariables false
namespace FxW

theorem ret_int {k : IntKind} {a b : Int} {w : World} (h : a = b) : Ending.returned (.int k a) = .returned (.int k b) ∧ w = w := by rw [h]; exact ⟨rfl, rfl⟩

set_option maxHeartbeats 400000 in
theorem hold_any (x : Int) (w : World) :
    Calls Tryz.prog 100 #[.int .i64 x] w fun e w' => e = .returned (.int .i64 (Fx.hold x)) ∧ w' = w := by
  by_cases h1 : x < -2147483648
  · rw [Fx.hold_below h1]
    go_enter Tryz.func100, Tryz.ntmps100
    go_wp2
    go_ret
    exact ⟨rfl, rfl⟩
  · by_cases h2 : 2147483647 < x
    · rw [Fx.hold_above h2]
      go_enter Tryz.func100, Tryz.ntmps100
      go_wp2
      go_ret
      exact ⟨rfl, rfl⟩
    · rw [Fx.hold_of (by omega) (by omega)]
      go_enter Tryz.func100, Tryz.ntmps100
      go_wp2
      go_ret
      exact ⟨rfl, rfl⟩

set_option maxHeartbeats 400000 in
theorem held_any (x : Int) (w : World) :
    Calls Tryz.prog 77 #[.int .i64 x] w fun e w' => e = .returned (.int .i64 (Fx.hold x)) ∧ w' = w := by
  have b1 := Fx.hold_lo x
  have b2 := Fx.hold_hi x
  go_enter Tryz.func77, Tryz.ntmps77
  go_wp2_with (go_at_call 100; refine (hold_any _ _).mono ?_; rintro e w' ⟨rfl, rfl⟩)
  go_ret
  exact ⟨rfl, rfl⟩

set_option maxHeartbeats 400000 in
theorem of_any (n : Int) (w : World) :
    Calls Tryz.prog 94 #[.int .i64 n] w fun e w' => e = .returned (.int .i64 (Fx.ofI n)) ∧ w' = w := by
  unfold Fx.ofI
  have b1 := Fx.hold_lo n
  have b2 := Fx.hold_hi n
  go_enter Tryz.func94, Tryz.ntmps94
  go_wp2_with (go_at_call 100; refine (hold_any _ _).mono ?_; rintro e w' ⟨rfl, rfl⟩)
  go_ret
  exact ⟨rfl, rfl⟩

set_option maxHeartbeats 400000 in
theorem add_any (a b : Int) (w : World) :
    Calls Tryz.prog 84 #[.int .i64 a, .int .i64 b] w fun e w' => e = .returned (.int .i64 (Fx.add a b)) ∧ w' = w := by
  unfold Fx.add
  have b1 := Fx.hold_lo a
  have b2 := Fx.hold_hi a
  have b3 := Fx.hold_lo b
  have b4 := Fx.hold_hi b
  go_enter Tryz.func84, Tryz.ntmps84
  go_wp2_with (first | (go_at_call 77; refine (held_any _ _).mono ?_; rintro e w' ⟨rfl, rfl⟩) | (go_at_call 100; refine (hold_any _ _).mono ?_; rintro e w' ⟨rfl, rfl⟩))
  go_ret
  exact ⟨rfl, rfl⟩

set_option maxHeartbeats 400000 in
theorem sub_any (a b : Int) (w : World) :
    Calls Tryz.prog 83 #[.int .i64 a, .int .i64 b] w fun e w' => e = .returned (.int .i64 (Fx.sub a b)) ∧ w' = w := by
  unfold Fx.sub
  have b1 := Fx.hold_lo a
  have b2 := Fx.hold_hi a
  have b3 := Fx.hold_lo b
  have b4 := Fx.hold_hi b
  go_enter Tryz.func83, Tryz.ntmps83
  go_wp2_with (first | (go_at_call 77; refine (held_any _ _).mono ?_; rintro e w' ⟨rfl, rfl⟩) | (go_at_call 100; refine (hold_any _ _).mono ?_; rintro e w' ⟨rfl, rfl⟩))
  go_ret
  exact ⟨rfl, rfl⟩

set_option maxHeartbeats 400000 in
theorem floor_any (a : Int) (w : World) :
    Calls Tryz.prog 51 #[.int .i64 a] w fun e w' => e = .returned (.int .i64 (Fx.floor a)) ∧ w' = w := by
  unfold Fx.floor
  have b1 := Fx.hold_lo a
  have b2 := Fx.hold_hi a
  go_enter Tryz.func51, Tryz.ntmps51
  go_wp2_with (first | (go_at_call 77; refine (held_any _ _).mono ?_; rintro e w' ⟨rfl, rfl⟩) | (go_at_call 100; refine (hold_any _ _).mono ?_; rintro e w' ⟨rfl, rfl⟩))
  go_ret
  exact ⟨rfl, rfl⟩

set_option maxHeartbeats 400000 in
theorem outer_any (a : Int) (w : World) :
    Calls Tryz.prog 108 #[.int .i64 a] w fun e w' => e = .returned (.int .i64 (Fx.outer a)) ∧ w' = w := by
  by_cases h1 : 0 < a
  · have e1 : Fx.outer a = 2147483647 := by unfold Fx.outer; rw [if_pos h1]
    rw [e1]; clear e1
    go_enter Tryz.func108, Tryz.ntmps108
    go_wp2
    go_ret
    exact ⟨rfl, rfl⟩
  · by_cases h2 : a < 0
    · have e1 : Fx.outer a = -2147483648 := by unfold Fx.outer; rw [if_neg h1, if_pos h2]
      rw [e1]; clear e1
      go_enter Tryz.func108, Tryz.ntmps108
      go_wp2
      go_ret
      exact ⟨rfl, rfl⟩
    · have e1 : Fx.outer a = 0 := by unfold Fx.outer; rw [if_neg h1, if_neg h2]
      rw [e1]; clear e1
      go_enter Tryz.func108, Tryz.ntmps108
      go_wp2
      go_ret
      exact ⟨rfl, rfl⟩

set_option maxHeartbeats 400000 in
theorem ddown_any (n d : Int) (h : (d == 0) = false) (h1 : -4611686018427387904 ≤ n) (h2 : n ≤ 4611686018427387904) (w : World) :
    Calls Tryz.prog 109 #[.int .i64 n, .int .i64 d] w fun e w' => e = .returned (.int .i64 (n.fdiv d)) ∧ w' = w := by
  have hd : d ≠ 0 := by simpa using h
  obtain ⟨b1, b2⟩ := Fx.tdiv_bd (n := n) (d := d) (m := 4611686018427387904) (by omega) (by omega)
  by_cases c1 : n.tmod d = 0
  · have e1 := Fx.fdiv_zero_mod c1
    rw [← e1]; clear e1
    have c1' : (n.tmod d != 0) = false := by simp [c1]
    clear c1
    go_enter Tryz.func109, Tryz.ntmps109
    go_wp2
    go_ret
    exact ⟨rfl, rfl⟩
  · have c1' : (n.tmod d != 0) = true := by simp [c1]
    by_cases c2 : (!decide (n < 0) == decide (d < 0)) = true
    · have e1 := Fx.fdiv_other hd c1 c2
      rw [← e1]; clear e1 c1
      go_enter Tryz.func109, Tryz.ntmps109
      go_wp2
      go_ret
      exact ⟨rfl, rfl⟩
    · have c3 : (!decide (n < 0) == decide (d < 0)) = false := by simpa using c2
      have e1 := Fx.fdiv_same hd c1 c3
      rw [← e1]; clear e1 c1 c2
      go_enter Tryz.func109, Tryz.ntmps109
      go_wp2
      go_ret
      exact ⟨rfl, rfl⟩

set_option maxHeartbeats 400000 in
theorem div_any (a b : Int) (w : World) :
    Calls Tryz.prog 93 #[.int .i64 a, .int .i64 b] w fun e w' => e = .returned (.int .i64 (Fx.div a b)) ∧ w' = w := by
  by_cases h : b = 0
  · have e1 : Fx.div a b = Fx.outer a := by unfold Fx.div; rw [if_pos h]
    rw [e1]; clear e1; subst h
    go_enter Tryz.func93, Tryz.ntmps93
    go_wp2_with (go_at_call 108; refine (outer_any _ _).mono ?_; rintro e w' ⟨rfl, rfl⟩)
    go_ret
    exact ⟨rfl, rfl⟩
  · have e1 : Fx.div a b = Fx.hold ((Fx.hold a * 65536).fdiv (Fx.hold b)) := by unfold Fx.div; rw [if_neg h]
    rw [e1]; clear e1
    have hb : (b == 0) = false := by simp [h]
    have hb' : (Fx.hold b == 0) = false := by simp [Fx.hold_zero, h]
    clear h
    have b1 := Fx.hold_lo a
    have b2 := Fx.hold_hi a
    go_enter Tryz.func93, Tryz.ntmps93
    go_wp2_with (first | (go_at_call 77; refine (held_any _ _).mono ?_; rintro e w' ⟨rfl, rfl⟩) | (go_at_call 100; refine (hold_any _ _).mono ?_; rintro e w' ⟨rfl, rfl⟩) | (go_at_call 109; refine (ddown_any _ _ hb' (by omega) (by omega) _).mono ?_; rintro e w' ⟨rfl, rfl⟩))
    go_ret
    exact ⟨rfl, rfl⟩
end FxW
end Go.Proofs.YtgabgkgokmeaeaaGreat


/- What the root of layer 1 answers, as a call: the loop over the bits. -/
namespace Go.Proofs.YtgabgkgokmeaeaaGreat
open Go.RowKit
set_option linter.unusedVariables false
namespace FxW

theorem half_pow (k : Nat) : (2 : Int) ^ (k + 1) / 2 = 2 ^ k := by rw [Int.pow_succ]; omega
/-- the bit that stands at k: 2^(k-1), or 0 -/
def bitAt : Nat → Int
  | 0 => 0
  | k + 1 => 2 ^ k

end FxW
end Go.Proofs.YtgabgkgokmeaeaaGreat

/- What each function of the document's own answers of layer 1 gives, as a call. -/
namespace Go.Proofs.YtgabgkgokmeaeaaGreat
open Go.RowKit
set_option linter.unusedVariables false
namespace FxR
open FxW (ret_int)

theorem ofI_above {n : Int} (h : 40000 < n) : Fx.ofI n = Fx.hold 2621440000 := by
  unfold Fx.ofI Fx.hold; repeat' split
  all_goals omega
theorem ofI_below {n : Int} (h : n < -40000) : Fx.ofI n = Fx.hold (-2621440000) := by
  unfold Fx.ofI Fx.hold; repeat' split
  all_goals omega
theorem ofI_in {n : Int} (h1 : -40000 ≤ n) (h2 : n ≤ 40000) : Fx.ofI n = Fx.hold (n * 65536) := by
  unfold Fx.ofI; rw [Fx.hold_of (x := n) (by omega) (by omega)]

theorem down_much {n d : Int} (h : 0 < d) (c : n < n.tdiv d * d) : n.tdiv d - 1 = n / d := by
  have e := Int.tdiv_eq_ediv (a := n) (b := d)
  rw [Int.sign_eq_one_of_pos h] at e
  split at e
  · rw [e] at c
    have h1 := Int.mul_ediv_add_emod n d
    have h2 := Int.emod_nonneg n (b := d) (by omega)
    rw [Int.add_zero, Int.mul_comm] at c
    omega
  · omega
theorem down_fits {n d : Int} (h : 0 < d) (c : n.tdiv d * d ≤ n) : n.tdiv d = n / d := by
  have e := Int.tdiv_eq_ediv (a := n) (b := d)
  rw [Int.sign_eq_one_of_pos h] at e
  split at e
  · omega
  · rw [e, Int.add_mul, Int.mul_comm] at c
    have h1 := Int.mul_ediv_add_emod n d
    have h3 := Int.emod_lt_of_pos n h
    omega
theorem tdiv_mul_bd {n d m : Int} (h1 : -m ≤ n) (h2 : n ≤ m) : -m ≤ n.tdiv d * d ∧ n.tdiv d * d ≤ m := by
  have h : (n.tdiv d * d).natAbs ≤ n.natAbs := by
    rw [Int.natAbs_mul, Int.natAbs_tdiv]; exact Nat.div_mul_le_self _ _
  omega

theorem betw_eq (a b p : Int) : Fx.betw a b p = Fx.hold ((Fx.hold a * 256 + (Fx.hold b - Fx.hold a) * p) / 256) := by
  unfold Fx.betw; congr 1; omega

theorem div_zero (a b : Int) (h : b = 0) (r : Int) (h1 : Fx.hold a = 0 → r = 0) (h2 : 0 < Fx.hold a → r = 2147483647) (h3 : Fx.hold a < 0 → r = -2147483648) : Fx.div a b = r := by
  unfold Fx.div Fx.outer; rw [if_pos h]
  split
  · exact (h2 (Fx.hold_pos ‹_›)).symm
  · split
    · exact (h3 (Fx.hold_neg ‹_›)).symm
    · exact (h1 (Fx.hold_zero.2 (by omega))).symm
theorem div_pos (a b : Int) (h : 0 < Fx.hold b) : Fx.div a b = Fx.hold (Fx.hold a * 65536 / Fx.hold b) := by
  unfold Fx.div; rw [if_neg (fun e => by rw [← Fx.hold_zero] at e; omega), Int.fdiv_eq_ediv_of_nonneg _ (by omega)]
theorem div_neg (a b : Int) (h : Fx.hold b < 0) : Fx.div a b = Fx.hold (-Fx.hold a * 65536 / -Fx.hold b) := by
  unfold Fx.div; rw [if_neg (fun e => by rw [← Fx.hold_zero] at e; omega), ← Int.fdiv_eq_ediv_of_nonneg _ (by omega : 0 ≤ -Fx.hold b), Int.neg_mul, Int.neg_fdiv_neg]

end FxR
end Go.Proofs.YtgabgkgokmeaeaaGreat

/- The plain functions of layer 2 (places and ways) and what follows of them; no Go in sight. -/
namespace Go.Proofs.YtgabgkgokmeaeaaGreat
set_option linter.unusedVariables false
namespace Vc

/-- the square of a number, held -/
def sq (x : Int) : Int := Fx.hold x * Fx.hold x
/-- the root of n, rounded down, n below 2^64 -/
def root (n : Int) : Int := Fx.rootFrom n 32 0
def len (x y : Int) : Int := Fx.hold (root (sq x + sq y))
def dot (ax ay bx b_y : Int) : Int := Fx.add (Fx.mul ax bx) (Fx.mul ay b_y)
/-- a number that a place may have, nearest to a -/
def within (a : Int) : Int := if a < -134217728 then -134217728 else if 134217728 < a then 134217728 else a
/-- may a place have it? -/
def inL (a : Int) : Bool := decide (-134217728 ≤ a) && decide (a ≤ 134217728)
def formedB (x y : Int) : Bool := inL x && inL y

theorem sq_lo (x : Int) : 0 ≤ sq x := by
  unfold sq
  by_cases h : 0 ≤ Fx.hold x
  · exact Int.mul_nonneg h h
  · have := Int.mul_nonneg (a := -Fx.hold x) (b := -Fx.hold x) (by omega) (by omega)
    rwa [Int.neg_mul_neg] at this
theorem sq_hi (x : Int) : sq x ≤ 4611686018427387904 := (Fx.hold_mul x x).2

theorem root_ok {n : Int} (h0 : 0 ≤ n) (h : n < 18446744073709551616) : 0 ≤ root n ∧ root n * root n ≤ n ∧ n < (root n + 1) * (root n + 1) :=
  Fx.rootFrom_ok n 32 0 (by omega) (by omega) (by simpa using h)
theorem root_eq {n r : Int} (hn : n < 18446744073709551616) (hr0 : 0 ≤ r) (hr : r * r ≤ n) (hr' : n < (r + 1) * (r + 1)) : r = root n := by
  have h0 : 0 ≤ r * r := Int.mul_nonneg hr0 hr0
  obtain ⟨a, b, c⟩ := root_ok (n := n) (by omega) hn
  exact Fx.root_unique hr0 a hr hr' b c
theorem root_hi {n : Int} (h0 : 0 ≤ n) (h : n < 18446744073709551616) : root n ≤ 4294967295 := by
  obtain ⟨a, b, c⟩ := root_ok h0 h
  by_cases hh : 4294967296 ≤ root n
  · have := Fx.sq_mono (x := 4294967296) (y := root n) (by omega) hh; omega
  · omega
theorem len_lo (x y : Int) : -2147483648 ≤ len x y := Fx.hold_lo _
theorem len_hi (x y : Int) : len x y ≤ 2147483647 := Fx.hold_hi _

theorem within_in {a : Int} (h1 : -134217728 ≤ a) (h2 : a ≤ 134217728) : within a = a := by
  unfold within; rw [if_neg (by omega), if_neg (by omega)]
theorem within_below {a : Int} (h : a < -134217728) : within a = -134217728 := by
  unfold within; rw [if_pos h]
theorem within_above {a : Int} (h : 134217728 < a) : within a = 134217728 := by
  unfold within; rw [if_neg (by omega), if_pos h]
theorem inL_of {a : Int} (h1 : -134217728 ≤ a) (h2 : a ≤ 134217728) : inL a = true := by simp [inL, h1, h2]
theorem inL_iff {a : Int} : inL a = true ↔ -134217728 ≤ a ∧ a ≤ 134217728 := by simp [inL]
theorem within_eq (a : Int) : (a == within a) = inL a := by
  rw [Bool.eq_iff_iff, inL_iff, beq_iff_eq]; unfold within
  repeat' split
  all_goals omega
theorem formedB_iff {x y : Int} : formedB x y = true ↔ (-134217728 ≤ x ∧ x ≤ 134217728) ∧ (-134217728 ≤ y ∧ y ≤ 134217728) := by
  simp only [formedB, Bool.and_eq_true, inL_iff]
end Vc
end Go.Proofs.YtgabgkgokmeaeaaGreat


/- What the small functions of layer 2 answer, as a call: squares, roots, what a place may have. -/
namespace Go.Proofs.YtgabgkgokmeaeaaGreat
open Go.RowKit
set_option linter.unusedVariables false
namespace VcW
open FxW (ret_int half_pow bitAt)

set_option maxHeartbeats 400000 in
theorem within_any (a : Int) (w : World) :
    Calls Tryz.prog 98 #[.int .i64 a] w fun e w' => e = .returned (.int .i64 (Vc.within a)) ∧ w' = w := by
  rcases Int.lt_trichotomy a (-134217728) with h | h | h
  · rw [Vc.within_below h]
    go_enter Tryz.func98, Tryz.ntmps98
    go_wp2
    go_ret
    exact ⟨rfl, rfl⟩
  · subst h
    go_enter Tryz.func98, Tryz.ntmps98
    go_wp2
    go_ret
    exact ⟨rfl, rfl⟩
  · rcases Int.lt_trichotomy a 134217728 with g | g | g
    · rw [Vc.within_in (by omega) (by omega)]
      go_enter Tryz.func98, Tryz.ntmps98
      go_wp2
      go_ret
      exact ⟨rfl, rfl⟩
    · subst g
      go_enter Tryz.func98, Tryz.ntmps98
      go_wp2
      go_ret
      exact ⟨rfl, rfl⟩
    · rw [Vc.within_above g]
      go_enter Tryz.func98, Tryz.ntmps98
      go_wp2
      go_ret
      exact ⟨rfl, rfl⟩
end VcW
end Go.Proofs.YtgabgkgokmeaeaaGreat

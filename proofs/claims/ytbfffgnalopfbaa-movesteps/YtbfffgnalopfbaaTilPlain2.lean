/- Maps of tiles as lines of signs: what is read of them, and that it is theirs alone. -/
import Derived.Test.YtbfffgnalopfbaaTilPlain
namespace Go.Proofs.Ytbfffgnalopfbaa.Ti
set_option linter.unusedVariables false

/-- a map -/
structure M where
  W : Int
  H : Int
  ws : List Bool
  sp : List (Int × Int)
def zeroM : M := ⟨0, 0, [], []⟩
/-- where a line lets one come in -/
def spL (y : Nat) : Nat → List Nat → List (Int × Int)
  | _, [] => []
  | x, k :: c => (if k = 3 then [mid x y] else []) ++ spL y (x + 1) c
def spA : Nat → List (List Nat) → List (Int × Int)
  | _, [] => []
  | y, c :: L => spL y 0 c ++ spA (y + 1) L
def wsOf (c : List Nat) : List Bool := c.map (· == 1)
/-- lines of tiles, all of w of them -/
structure Lines (w : Nat) (L : List (List Nat)) : Prop where
  len : ∀ c ∈ L, c.length = w
  tile : ∀ c ∈ L, ∀ k ∈ c, 0 < k ∧ k ≤ 3
def toks (L : List (List Nat)) : List Nat := L.flatMap (· ++ [4])
theorem spL_append (y : Nat) : ∀ (c d : List Nat) (x : Nat), spL y x (c ++ d) = spL y x c ++ spL y (x + c.length) d
  | [], d, x => by simp [spL]
  | k :: c, d, x => by
    show (if k = 3 then [mid x y] else []) ++ spL y (x + 1) (c ++ d) = ((if k = 3 then [mid x y] else []) ++ spL y (x + 1) c) ++ spL y (x + (c.length + 1)) d
    rw [spL_append y c d (x + 1), List.append_assoc, show x + 1 + c.length = x + (c.length + 1) by omega]
theorem spA_append : ∀ (L K : List (List Nat)) (y : Nat), spA y (L ++ K) = spA y L ++ spA (y + L.length) K
  | [], K, y => by simp [spA]
  | c :: L, K, y => by
    show spL y 0 c ++ spA (y + 1) (L ++ K) = (spL y 0 c ++ spA (y + 1) L) ++ spA (y + (L.length + 1)) K
    rw [spA_append L K (y + 1), List.append_assoc, show y + 1 + L.length = y + (L.length + 1) by omega]
/-- what has been read behind the lines L and the signs c -/
def stOf (w : Nat) (L : List (List Nat)) (c : List Nat) : S := ⟨c.length, if L = [] then 0 else w, L.length, wsOf (L.flatten ++ c), spA 0 L ++ spL L.length 0 c⟩
theorem stOf_tile {w : Nat} {L : List (List Nat)} {c : List Nat} {k : Nat} (hk : k ≠ 4) : next k (stOf w L c) = stOf w L (c ++ [k]) := by
  unfold next stOf
  rw [if_neg hk]
  simp only [S.mk.injEq, true_and]
  refine ⟨by simp, by simp [wsOf], ?_⟩
  rw [spL_append]
  by_cases h3 : k = 3
  · subst h3; simp [spL, List.append_assoc]
  · rw [if_neg h3]; simp [spL, h3]
theorem stOf_end {w : Nat} {L : List (List Nat)} {c : List Nat} (hw : c.length = w) : next 4 (stOf w L c) = stOf w (L ++ [c]) [] := by
  unfold next stOf
  rw [if_pos rfl]
  simp only [S.mk.injEq]
  refine ⟨rfl, by simp [hw], by simp, by simp, ?_⟩
  rw [spA_append]
  simp [spA, spL]
/-- a line's tiles are read -/
theorem go_tiles {w : Nat} {L : List (List Nat)} (hL : L.length < 32) (hw : w ≤ 32) : ∀ (d c : List Nat), (∀ k ∈ d, 0 < k ∧ k ≤ 3) → c.length + d.length ≤ w → go d (stOf w L c) = some (stOf w L (c ++ d))
  | [], c, _, _ => by rw [List.append_nil]; rfl
  | k :: d, c, hk, hl => by
    have h1 := hk k (List.mem_cons_self ..)
    rw [List.length_cons] at hl
    have hb : ¬ bad k (stOf w L c) := by
      unfold bad
      rw [if_neg (by omega)]
      rintro (h | h | h | ⟨h, h2⟩)
      · omega
      · have : (stOf w L c).H = L.length := rfl
        omega
      · have : (stOf w L c).x = c.length := rfl
        omega
      · have e1 : (stOf w L c).x = c.length := rfl
        have e2 : (stOf w L c).W = if L = [] then 0 else w := rfl
        have e3 : (stOf w L c).H = L.length := rfl
        have : L ≠ [] := by intro e; subst e; simp [stOf] at h
        rw [if_neg this] at e2
        omega
    show (if bad k (stOf w L c) then none else go d (next k (stOf w L c))) = _
    rw [if_neg hb, stOf_tile (by omega), go_tiles hL hw d (c ++ [k]) (fun x hx => hk x (List.mem_cons_of_mem _ hx)) (by rw [List.length_append]; simp; omega)]
    rw [List.append_assoc]; rfl
/-- lines are read -/
theorem go_lines {w : Nat} (h0 : 0 < w) (hw : w ≤ 32) : ∀ (K L : List (List Nat)), Lines w K → L.length + K.length ≤ 32 → go (toks K) (stOf w L []) = some (stOf w (L ++ K) [])
  | [], L, _, _ => by rw [List.append_nil]; rfl
  | c :: K, L, hK, hl => by
    rw [List.length_cons] at hl
    have hc := hK.len c (List.mem_cons_self ..)
    have e : toks (c :: K) = c ++ ([4] ++ toks K) := by simp [toks]
    have h1 := go_tiles (w := w) (L := L) (by omega) hw c [] (hK.tile c (List.mem_cons_self ..)) (by simp; omega)
    rw [List.nil_append] at h1
    rw [e, go_append, h1]
    show go ([4] ++ toks K) (stOf w L c) = _
    have hb : ¬ bad 4 (stOf w L c) := by
      unfold bad
      rw [if_pos rfl]
      have e1 : (stOf w L c).x = c.length := rfl
      have e2 : (stOf w L c).W = if L = [] then 0 else w := rfl
      have e3 : (stOf w L c).H = L.length := rfl
      rintro (h | ⟨h, h2⟩)
      · omega
      · have : L ≠ [] := by intro e; subst e; simp [stOf] at h
        rw [if_neg this] at e2
        omega
    show (if bad 4 (stOf w L c) then none else go (toks K) (next 4 (stOf w L c))) = _
    rw [if_neg hb, stOf_end hc, go_lines h0 hw K (L ++ [c]) ⟨fun x hx => hK.len x (List.mem_cons_of_mem _ hx), fun x hx => hK.tile x (List.mem_cons_of_mem _ hx)⟩ (by rw [List.length_append]; simp; omega)]
    rw [List.append_assoc]; rfl
theorem signs_toks {w : Nat} {L : List (List Nat)} (h : Lines w L) : Signs (toks L) := by
  intro k hk
  obtain ⟨c, hc, hk⟩ := List.mem_flatMap.1 hk
  rcases List.mem_append.1 hk with hk | hk
  · have := h.tile c hc k hk; omega
  · simp at hk; omega
/-- signs that are read are lines -/
structure Are (w : Nat) (ks : List Nat) (s : S) (L : List (List Nat)) (c : List Nat) : Prop where
  lines : Lines w L
  tile : ∀ k ∈ c, 0 < k ∧ k ≤ 3
  is : ks = toks L ++ c
  st : s = stOf w L c
  h : L.length ≤ 32
  cl : c.length ≤ 32
  hc : 0 < c.length → L.length < 32
  wl : L ≠ [] → 0 < w ∧ w ≤ 32 ∧ c.length ≤ w
theorem lines_of : ∀ (ks : List Nat) (w : Nat) (s s' : S) (js : List Nat) (L : List (List Nat)) (c : List Nat), Signs ks → go ks s = some s' → Are w js s L c → ∃ w' L' c', Are w' (js ++ ks) s' L' c'
  | [], w, s, s', js, L, c, _, hg, hA => by
    have e : s = s' := by simpa [go] using hg
    subst e
    exact ⟨w, L, c, by rw [List.append_nil]; exact hA⟩
  | k :: ks, w, s, s', js, L, c, hs, hg, hA => by
    have hk := hs k (List.mem_cons_self ..)
    have hg' : (if bad k s then none else go ks (next k s)) = some s' := hg
    by_cases hb : bad k s
    · rw [if_pos hb] at hg'; cases hg'
    · rw [if_neg hb] at hg'
      have hs' : Signs ks := fun x hx => hs x (List.mem_cons_of_mem _ hx)
      have hst := hA.st
      rw [hst] at hb
      unfold bad at hb
      have e1 : (stOf w L c).x = c.length := rfl
      have e2 : (stOf w L c).W = if L = [] then 0 else w := rfl
      have e3 : (stOf w L c).H = L.length := rfl
      have ejs : js ++ k :: ks = (js ++ [k]) ++ ks := by simp
      rw [ejs]
      by_cases h4 : k = 4
      · subst h4
        rw [if_pos rfl] at hb
        have hx : 0 < c.length := by
          by_cases h : c.length = 0
          · exact absurd (.inl (by rw [e1]; exact h)) hb
          · omega
        by_cases hL : L = []
        · subst hL
          have hA0 : Are c.length js s [] c := ⟨⟨by simp, by simp⟩, hA.tile, hA.is, by rw [hst]; rfl, by simp, hA.cl, fun _ => by simp, fun h => absurd rfl h⟩
          refine lines_of ks c.length (next 4 s) s' (js ++ [4]) [c] [] hs' hg' ⟨⟨by simp, by simpa using hA.tile⟩, by simp, ?_, ?_, by simp, by simp, fun h => by simp at h, fun _ => ⟨hx, hA.cl, by simp⟩⟩
          · rw [hA.is]; simp [toks]
          · rw [hA0.st, stOf_end rfl]; rfl
        · have hw := hA.wl hL
          have hcw : c.length = w := by
            by_cases h : c.length = w
            · exact h
            · refine absurd (.inr ⟨?_, ?_⟩) hb
              · rw [e3]; exact List.length_pos_iff.2 hL
              · rw [e1, e2, if_neg hL]; exact h
          have hH := hA.hc hx
          refine lines_of ks w (next 4 s) s' (js ++ [4]) (L ++ [c]) [] hs' hg' ⟨⟨?_, ?_⟩, by simp, ?_, ?_, by rw [List.length_append]; simp; omega, by simp, fun h => by simp at h, fun _ => ⟨hw.1, hw.2.1, by simp⟩⟩
          · intro x hx'; rcases List.mem_append.1 hx' with h | h
            · exact hA.lines.len x h
            · simp at h; subst h; exact hcw
          · intro x hx'; rcases List.mem_append.1 hx' with h | h
            · exact hA.lines.tile x h
            · simp at h; subst h; exact hA.tile
          · rw [hA.is]; simp [toks]
          · rw [hst, stOf_end hcw]
      · rw [if_neg h4] at hb
        have hx : c.length < 32 := by
          by_cases h : c.length < 32
          · exact h
          · exact absurd (.inr (.inr (.inl (by rw [e1]; omega)))) hb
        have hH : L.length < 32 := by
          by_cases h : L.length < 32
          · exact h
          · exact absurd (.inr (.inl (by rw [e3]; omega))) hb
        refine lines_of ks w (next k s) s' (js ++ [k]) L (c ++ [k]) hs' hg' ⟨hA.lines, ?_, ?_, ?_, hA.h, by rw [List.length_append]; simp; omega, fun _ => hH, fun hL => ?_⟩
        · intro x hx'; rcases List.mem_append.1 hx' with h | h
          · exact hA.tile x h
          · simp at h; subst h; omega
        · rw [hA.is]; simp
        · rw [hst, stOf_tile h4]
        · have hw := hA.wl hL
          refine ⟨hw.1, hw.2.1, ?_⟩
          rw [List.length_append]
          by_cases h : w ≤ c.length
          · exact absurd (.inr (.inr (.inr ⟨by rw [e3]; exact List.length_pos_iff.2 hL, by rw [e1, e2, if_neg hL]; exact h⟩))) hb
          · simp; omega
/-- lines that a map may have -/
structure Good (L : List (List Nat)) : Prop where
  lines : Lines (L.headD []).length L
  h0 : 0 < L.length
  h : L.length ≤ 32
  w0 : 0 < (L.headD []).length
  w : (L.headD []).length ≤ 32
  some : spA 0 L ≠ []
def text (L : List (List Nat)) : List UInt8 := flat (toks L)
def mapOf (L : List (List Nat)) : M := ⟨((L.headD []).length : Int), (L.length : Int), wsOf L.flatten, spA 0 L⟩
def mOf (s : S) : M := ⟨(s.W : Int), (s.H : Int), s.ws, s.sp⟩
theorem good_read {L : List (List Nat)} (h : Good L) : read (text L) = (Option.some (stOf (L.headD []).length L []), 0) := by
  have hg := go_lines h.w0 h.w L [] h.lines (by simpa using h.h)
  rw [List.nil_append] at hg
  have hs0 : stOf (L.headD []).length [] [] = s0 := rfl
  rw [hs0] at hg
  have := run_flat (toks L) [] 0 s0 _ (text L).length (signs_toks h.lines) hg (by rw [List.append_nil]; exact Nat.le_refl _)
  rw [List.append_nil] at this
  unfold read
  rw [show text L = flat (toks L) from rfl] at this ⊢
  rw [this]
  show run 0 [] _ _ = _
  show fin _ _ = _
  unfold fin
  have h2 : ¬ (0 < (stOf (L.headD []).length L []).x ∨ (stOf (L.headD []).length L []).sp = []) := by
    rintro (h | h')
    · simp [stOf] at h
    · simp [stOf, spL] at h'; exact h.some h'
  rw [if_neg h2]
theorem mOf_stOf {L : List (List Nat)} (h : Good L) : mOf (stOf (L.headD []).length L []) = mapOf L := by
  have : L ≠ [] := List.length_pos_iff.1 h.h0
  simp [mOf, stOf, mapOf, this, spL]
theorem read_good {l : List UInt8} {s : S} {n : Nat} (h : read l = (Option.some s, n)) : ∃ L, Good L ∧ l = text L ∧ mOf s = mapOf L ∧ n = 0 := by
  obtain ⟨ks, h1, h2, h3, h4, h5, h6⟩ := signs_of _ _ _ _ _ _ (Nat.le_refl _) h
  have hA : Are 0 [] s0 [] [] := ⟨⟨by simp, by simp⟩, by simp, rfl, rfl, by simp, by simp, fun h => by simp at h, fun h => absurd rfl h⟩
  obtain ⟨w, L, c, hB⟩ := lines_of ks 0 s0 s [] [] [] h1 h3 hA
  rw [List.nil_append] at hB
  have hc : c = [] := by
    have := hB.st
    rw [this] at h4
    exact List.length_eq_zero_iff.1 h4
  subst hc
  have hL : L ≠ [] := by
    intro e
    subst e
    rw [hB.st] at h5
    exact h5 rfl
  have hw := hB.wl hL
  have hh : (L.headD []).length = w := by
    cases L with
    | nil => exact absurd rfl hL
    | cons c L => exact hB.lines.len c (List.mem_cons_self ..)
  have hG : Good L := ⟨by rw [hh]; exact hB.lines, List.length_pos_iff.2 hL, hB.h, by omega, by omega, by rw [hB.st] at h5; simpa [stOf, spL] using h5⟩
  refine ⟨L, hG, ?_, ?_, h6⟩
  · rw [h2, hB.is, List.append_nil]; rfl
  · rw [← mOf_stOf hG, hh, hB.st]
end Go.Proofs.Ytbfffgnalopfbaa.Ti

/- Maps of tiles: a map's lines, whether it can be read, its text; texts that are cut; what is free. -/
import Derived.Test.YtbfffgnalopfbaaTilPlain2
namespace Go.Proofs.Ytbfffgnalopfbaa.Ti
set_option linter.unusedVariables false

def wall (m : M) (x y : Nat) : Bool := m.ws.getD (y * m.W.toNat + x) false
def code (m : M) (x y : Nat) : Nat := if wall m x y then 1 else if mid x y ∈ m.sp then 3 else 2
def lineOf (m : M) (y : Nat) : List Nat := (List.range m.W.toNat).map fun x => code m x y
def linesOf (m : M) : List (List Nat) := (List.range m.H.toNat).map fun y => lineOf m y
/-- its numbers may be -/
def Dims (m : M) : Prop := 1 ≤ m.W ∧ m.W ≤ 32 ∧ 1 ≤ m.H ∧ m.H ≤ 32 ∧ (m.ws.length : Int) = m.W * m.H
def Formed (m : M) : Prop := Dims m ∧ m.sp ≠ [] ∧ spA 0 (linesOf m) = m.sp
abbrev decF (m : M) : Decidable (Formed m) := by unfold Formed Dims; exact inferInstance
def formedB (m : M) : Bool := @decide (Formed m) (decF m)
theorem formedB_iff {m : M} : formedB m = true ↔ Formed m := @decide_eq_true_iff (Formed m) (decF m)
theorem formedB_not {m : M} (h : ¬ Formed m) : formedB m = false := by
  cases hf : formedB m with
  | false => rfl
  | true => exact absurd (formedB_iff.1 hf) h
def textOf (m : M) : List UInt8 := text (linesOf m)

theorem mid_inj {x y x' y' : Nat} (h : mid x y = mid x' y') : x = x' ∧ y = y' := by
  have h1 := congrArg Prod.fst h
  have h2 := congrArg Prod.snd h
  simp only [mid] at h1 h2
  omega
theorem mem_spL {y : Nat} {p : Int × Int} : ∀ {c : List Nat} {x : Nat}, p ∈ spL y x c ↔ ∃ j, c[j]? = some 3 ∧ p = mid (x + j) y
  | [], x => by simp [spL]
  | k :: c, x => by
    show p ∈ (if k = 3 then [mid x y] else []) ++ spL y (x + 1) c ↔ _
    rw [List.mem_append, mem_spL (c := c) (x := x + 1)]
    constructor
    · rintro (h | ⟨j, h1, h2⟩)
      · by_cases hk : k = 3
        · rw [if_pos hk] at h
          simp at h
          exact ⟨0, by simp [hk], by simpa using h⟩
        · rw [if_neg hk] at h; cases h
      · exact ⟨j + 1, by simpa using h1, by rw [h2]; congr 1; omega⟩
    · rintro ⟨j, h1, h2⟩
      cases j with
      | zero =>
        simp at h1
        subst h1
        exact .inl (by simpa using h2)
      | succ j => exact .inr ⟨j, by simpa using h1, by rw [h2]; congr 1; omega⟩
theorem mem_spA {p : Int × Int} : ∀ {L : List (List Nat)} {y : Nat}, p ∈ spA y L ↔ ∃ j c x, L[j]? = some c ∧ c[x]? = some 3 ∧ p = mid x (y + j)
  | [], y => by simp [spA]
  | c :: L, y => by
    show p ∈ spL y 0 c ++ spA (y + 1) L ↔ _
    rw [List.mem_append, mem_spL, mem_spA (L := L) (y := y + 1)]
    constructor
    · rintro (⟨x, h1, h2⟩ | ⟨j, d, x, h1, h2, h3⟩)
      · exact ⟨0, c, x, rfl, h1, by rw [h2]; congr 1; omega⟩
      · exact ⟨j + 1, d, x, by simpa using h1, h2, by rw [h3]; congr 1; omega⟩
    · rintro ⟨j, d, x, h1, h2, h3⟩
      cases j with
      | zero =>
        simp at h1
        subst h1
        exact .inl ⟨x, h2, by rw [h3]; congr 1; omega⟩
      | succ j => exact .inr ⟨j, d, x, by simpa using h1, h2, by rw [h3]; congr 1; omega⟩
theorem flatten_at {α : Type} {w : Nat} : ∀ {L : List (List α)}, (∀ c ∈ L, c.length = w) → ∀ {y x : Nat} {c : List α}, L[y]? = some c → x < w → L.flatten[y * w + x]? = c[x]?
  | [], _, y, x, c, h, _ => by simp at h
  | d :: L, hl, y, x, c, h, hx => by
    have hd := hl d (List.mem_cons_self ..)
    rw [List.flatten_cons]
    cases y with
    | zero =>
      simp at h
      subst h
      rw [Nat.zero_mul, Nat.zero_add, List.getElem?_append_left (by omega)]
    | succ y =>
      rw [List.getElem?_append_right (by rw [Nat.add_mul]; omega), hd, show (y + 1) * w + x - w = y * w + x by rw [Nat.add_mul]; omega]
      exact flatten_at (fun c hc => hl c (List.mem_cons_of_mem _ hc)) (by simpa using h) hx
theorem flatten_len {α : Type} {w : Nat} : ∀ {L : List (List α)}, (∀ c ∈ L, c.length = w) → L.flatten.length = L.length * w
  | [], _ => by simp
  | d :: L, hl => by
    rw [List.flatten_cons, List.length_append, hl d (List.mem_cons_self ..), flatten_len (fun c hc => hl c (List.mem_cons_of_mem _ hc)), List.length_cons, Nat.add_mul]; omega

theorem code_rng (m : M) (x y : Nat) : 0 < code m x y ∧ code m x y ≤ 3 := by
  unfold code
  split
  · omega
  · split <;> omega
theorem line_len (m : M) (y : Nat) : (lineOf m y).length = m.W.toNat := by simp [lineOf]
theorem lines_len (m : M) : (linesOf m).length = m.H.toNat := by simp [linesOf]
theorem lines_lines (m : M) : Lines m.W.toNat (linesOf m) := by
  refine ⟨?_, ?_⟩
  · intro c hc
    obtain ⟨y, _, rfl⟩ := List.mem_map.1 hc
    exact line_len m y
  · intro c hc k hk
    obtain ⟨y, _, rfl⟩ := List.mem_map.1 hc
    obtain ⟨x, _, rfl⟩ := List.mem_map.1 hk
    exact code_rng m x y
theorem lines_at {m : M} {y : Nat} (h : y < m.H.toNat) : (linesOf m)[y]? = some (lineOf m y) := by simp [linesOf, h]
theorem line_at {m : M} {x y : Nat} (h : x < m.W.toNat) : (lineOf m y)[x]? = some (code m x y) := by simp [lineOf, h]
theorem head_len {m : M} (h : 0 < m.H.toNat) : ((linesOf m).headD []).length = m.W.toNat := by
  have h0 := lines_at h
  cases hl : linesOf m with
  | nil => rw [hl] at h0; simp at h0
  | cons c L => rw [hl] at h0; simp at h0; subst h0; exact line_len m 0
theorem wall_code (m : M) (x y : Nat) : (code m x y == 1) = wall m x y := by
  unfold code
  cases wall m x y with
  | true => rfl
  | false => simp only [Bool.false_eq_true, if_false]; split <;> rfl
theorem ws_lines {m : M} (h : Dims m) : wsOf (linesOf m).flatten = m.ws := by
  obtain ⟨h1, h2, h3, h4, h5⟩ := h
  have hW : (m.W.toNat : Int) = m.W := by omega
  have hH : (m.H.toNat : Int) = m.H := by omega
  have hlen : m.ws.length = m.H.toNat * m.W.toNat := by
    have : (m.ws.length : Int) = ((m.H.toNat * m.W.toNat : Nat) : Int) := by rw [h5, Int.natCast_mul, hW, hH, Int.mul_comm]
    omega
  have hfl := flatten_len (lines_lines m).len
  rw [lines_len] at hfl
  apply List.ext_getElem?
  intro i
  unfold wsOf
  rw [List.getElem?_map]
  by_cases hi : i < m.H.toNat * m.W.toNat
  · have hw0 : 0 < m.W.toNat := by omega
    have hq : i / m.W.toNat < m.H.toNat := by rw [Nat.div_lt_iff_lt_mul hw0]; exact hi
    have hr := Nat.mod_lt i hw0
    have e : i / m.W.toNat * m.W.toNat + i % m.W.toNat = i := by have := Nat.div_add_mod i m.W.toNat; rw [Nat.mul_comm] at this; exact this
    have h6 := flatten_at (lines_lines m).len (lines_at hq) hr
    rw [e, line_at hr] at h6
    rw [h6]
    show some (code m (i % m.W.toNat) (i / m.W.toNat) == 1) = _
    rw [wall_code]
    unfold wall
    rw [e, List.getElem?_eq_getElem (by omega)]
    simp [List.getD, List.getElem?_eq_getElem (show i < m.ws.length by omega)]
  · rw [List.getElem?_eq_none (by omega), List.getElem?_eq_none (by omega)]
    rfl
theorem mapOf_lines {m : M} (h : Dims m) : mapOf (linesOf m) = ⟨m.W, m.H, m.ws, spA 0 (linesOf m)⟩ := by
  have h' := h
  obtain ⟨h1, h2, h3, h4, h5⟩ := h
  unfold mapOf
  rw [head_len (by omega), lines_len, ws_lines h', show ((m.W.toNat : Nat) : Int) = m.W by omega, show ((m.H.toNat : Nat) : Int) = m.H by omega]
theorem good_lines {m : M} (h : Dims m) (hs : spA 0 (linesOf m) ≠ []) : Good (linesOf m) := by
  obtain ⟨h1, h2, h3, h4, h5⟩ := h
  refine ⟨by rw [head_len (by omega)]; exact lines_lines m, by rw [lines_len]; omega, by rw [lines_len]; omega, by rw [head_len (by omega)]; omega, by rw [head_len (by omega)]; omega, hs⟩
/-- a map that can be read: its lines -/
theorem formed_good {m : M} (h : Formed m) : Good (linesOf m) ∧ mapOf (linesOf m) = m := by
  obtain ⟨h1, h2, h3⟩ := h
  refine ⟨good_lines h1 (by rw [h3]; exact h2), ?_⟩
  rw [mapOf_lines h1, h3]
theorem linesOf_mapOf {L : List (List Nat)} (h : Good L) : linesOf (mapOf L) = L := by
  have hH : (mapOf L).H.toNat = L.length := by simp [mapOf]
  have hW : (mapOf L).W.toNat = (L.headD []).length := by simp [mapOf]
  apply List.ext_getElem?
  intro y
  by_cases hy : y < L.length
  · rw [lines_at (by omega)]
    obtain ⟨c, hc⟩ : ∃ c, L[y]? = some c := ⟨_, List.getElem?_eq_getElem hy⟩
    rw [hc]
    congr 1
    have hcm := List.mem_of_getElem? hc
    have hcl := h.lines.len c hcm
    apply List.ext_getElem?
    intro x
    by_cases hx : x < (L.headD []).length
    · rw [line_at (by omega)]
      obtain ⟨k, hk⟩ : ∃ k, c[x]? = some k := ⟨_, List.getElem?_eq_getElem (by omega)⟩
      rw [hk]
      congr 1
      have hkr := h.lines.tile c hcm k (List.mem_of_getElem? hk)
      have hw : wall (mapOf L) x y = (k == 1) := by
        unfold wall
        rw [hW]
        show (wsOf L.flatten).getD _ false = _
        unfold wsOf
        have := flatten_at h.lines.len hc hx
        rw [hk] at this
        rw [List.getD_eq_getElem?_getD, List.getElem?_map, this]
        rfl
      unfold code
      rw [hw]
      by_cases h1 : k = 1
      · subst h1; rfl
      · rw [show (k == 1) = false by simpa using h1]
        simp only [Bool.false_eq_true, if_false]
        by_cases h3 : k = 3
        · subst h3
          rw [if_pos]
          show mid x y ∈ spA 0 L
          rw [mem_spA]
          exact ⟨y, c, x, hc, hk, by rw [Nat.zero_add]⟩
        · rw [if_neg]
          · omega
          · intro hm
            have hm' : mid x y ∈ spA 0 L := hm
            rw [mem_spA] at hm'
            obtain ⟨j, d, x', e1, e2, e3⟩ := hm'
            rw [Nat.zero_add] at e3
            obtain ⟨rfl, rfl⟩ := mid_inj e3
            rw [hc] at e1
            simp at e1
            subst e1
            rw [hk] at e2
            simp at e2
            exact h3 e2
    · rw [List.getElem?_eq_none (by rw [line_len]; omega), List.getElem?_eq_none (by omega)]
  · rw [List.getElem?_eq_none (by rw [lines_len]; omega), List.getElem?_eq_none (by omega)]
theorem good_formed {L : List (List Nat)} (h : Good L) : Formed (mapOf L) := by
  have h0 := h.h0
  have h1 := h.h
  have h2 := h.w0
  have h3 := h.w
  refine ⟨⟨by show (1 : Int) ≤ ((L.headD []).length : Int); omega, by show ((L.headD []).length : Int) ≤ 32; omega, by show (1 : Int) ≤ (L.length : Int); omega, by show (L.length : Int) ≤ 32; omega, ?_⟩, h.some, by rw [linesOf_mapOf h]; rfl⟩
  show ((wsOf L.flatten).length : Int) = ((L.headD []).length : Int) * (L.length : Int)
  unfold wsOf
  rw [List.length_map, flatten_len h.lines.len, Int.natCast_mul, Int.mul_comm]
/-- what is read can be read, and from that text alone -/
theorem read_formed {l : List UInt8} {s : S} {n : Nat} (h : read l = (some s, n)) : Formed (mOf s) ∧ l = textOf (mOf s) ∧ n = 0 := by
  obtain ⟨L, hG, h1, h2, h3⟩ := read_good h
  rw [h2]
  refine ⟨good_formed hG, ?_, h3⟩
  unfold textOf
  rw [linesOf_mapOf hG]; exact h1
/-- a map that can be read is read from its text -/
theorem formed_read {m : M} (h : Formed m) : ∃ s, read (textOf m) = (some s, 0) ∧ mOf s = m := by
  obtain ⟨hG, hm⟩ := formed_good h
  exact ⟨_, good_read hG, by rw [mOf_stOf hG]; exact hm⟩
/-- of a map whose numbers may be, with none to come in by its lines: its text isn't read -/
theorem dims_read {m : M} (h : Dims m) : (spA 0 (linesOf m) ≠ [] ∧ ∃ s, read (textOf m) = (some s, 0) ∧ mOf s = ⟨m.W, m.H, m.ws, spA 0 (linesOf m)⟩) ∨ (spA 0 (linesOf m) = [] ∧ (read (textOf m)).1 = none) := by
  by_cases hs : spA 0 (linesOf m) = []
  · refine .inr ⟨hs, ?_⟩
    cases hr : (read (textOf m)).1 with
    | none => rfl
    | some s =>
      exfalso
      have hr' : read (textOf m) = (some s, (read (textOf m)).2) := by rw [← hr]
      obtain ⟨L, hG, h1, h2, h3⟩ := read_good hr'
      obtain ⟨h1', h2', h3', h4', h5'⟩ := h
      have hg := go_lines (w := m.W.toNat) (by omega) (by omega) (linesOf m) [] (lines_lines m) (by simp [lines_len]; omega)
      have hrun := run_flat (toks (linesOf m)) [] 0 s0 _ (textOf m).length (signs_toks (lines_lines m)) hg (by rw [List.append_nil]; exact Nat.le_refl _)
      rw [List.append_nil] at hrun
      have : read (textOf m) = fin _ _ := hrun
      rw [this] at hr'
      unfold fin at hr'
      rw [if_pos (.inr (by simp [stOf, spL, hs]))] at hr'
      cases hr'
  · have hG := good_lines h hs
    exact .inl ⟨hs, _, good_read hG, by rw [mOf_stOf hG]; exact mapOf_lines h⟩

/-- a beginning of a sign is none -/
theorem sg_part {k j : Nat} (hk : 0 < k ∧ k ≤ 4) (hj : j < (bs k).length) : sg ((bs k).take j) = 0 := by
  match k, hk with
  | 1, _ => match j, hj with
    | 0, _ => decide
    | 1, _ => decide
    | 2, _ => decide
  | 2, _ => match j, hj with
    | 0, _ => decide
    | 1, _ => decide
  | 3, _ => match j, hj with
    | 0, _ => decide
    | 1, _ => decide
    | 2, _ => decide
  | 4, _ => match j, hj with
    | 0, _ => decide
/-- signs that are cut: the whole ones, and a beginning of the next -/
theorem cut_signs : ∀ (ks : List Nat) (n : Nat), Signs ks → n < (flat ks).length → ∃ es k cs j, ks = es ++ k :: cs ∧ j < (bs k).length ∧ (flat ks).take n = flat es ++ (bs k).take j
  | [], n, _, h => by simp [flat] at h
  | k :: ks, n, hs, h => by
    by_cases hn : n < (bs k).length
    · refine ⟨[], k, ks, n, rfl, hn, ?_⟩
      rw [flat_cons, List.take_append_of_le_length (by omega)]; rfl
    · rw [flat_cons, List.length_append] at h
      obtain ⟨es, k', cs, j, e1, e2, e3⟩ := cut_signs ks (n - (bs k).length) (fun x hx => hs x (List.mem_cons_of_mem _ hx)) (by omega)
      refine ⟨k :: es, k', cs, j, by rw [e1]; rfl, e2, ?_⟩
      rw [flat_cons, List.take_append, e3, List.take_of_length_le (by omega), flat_cons, List.append_assoc]
theorem go_prefix {es bs' : List Nat} {s s' : S} (h : go (es ++ bs') s = some s') : ∃ s1, go es s = some s1 := by
  rw [go_append] at h
  cases hg : go es s with
  | none => rw [hg] at h; cases h
  | some s1 => exact ⟨s1, rfl⟩
theorem go_last : ∀ (es : List Nat) (s s' : S), Signs es → go es s = some s' → es ≠ [] → s'.x = 0 → ∃ cs, es = cs ++ [4]
  | [], s, s', _, _, h, _ => absurd rfl h
  | k :: es, s, s', hs, hg, _, hx => by
    have hg' : (if bad k s then none else go es (next k s)) = some s' := hg
    by_cases hb : bad k s
    · rw [if_pos hb] at hg'; cases hg'
    · rw [if_neg hb] at hg'
      by_cases ha : es = []
      · subst ha
        have e : next k s = s' := by simpa [go] using hg'
        by_cases h4 : k = 4
        · exact ⟨[], by rw [h4]; rfl⟩
        · exfalso
          rw [← e] at hx
          unfold next at hx
          rw [if_neg h4] at hx
          simp at hx
      · obtain ⟨cs, e⟩ := go_last es _ _ (fun x hx => hs x (List.mem_cons_of_mem _ hx)) hg' ha hx
        exact ⟨k :: cs, by rw [e]; rfl⟩
/-- a map's text that is cut: it is read only behind a line's end; else it is refused at its end, or at the sign that is cut -/
theorem read_cut {l : List UInt8} {s : S} {n k : Nat} (h : read l = (some s, n)) (hk : k < l.length) : (∃ s', (read (l.take k)).1 = some s' ∧ 0 < k ∧ l[k - 1]? = some 10) ∨ ((read (l.take k)).1 = none ∧ (read (l.take k)).2 ≤ k ∧ k < (read (l.take k)).2 + 4) := by
  obtain ⟨ks, h1, h2, h3, h4, h5, h6⟩ := signs_of _ _ _ _ _ _ (Nat.le_refl _) h
  subst h2
  obtain ⟨es, t, cs, j, e1, e2, e3⟩ := cut_signs ks k h1 hk
  have hA : Signs es := fun x hx => h1 x (by rw [e1]; exact List.mem_append_left _ hx)
  have ht : 0 < t ∧ t ≤ 4 := h1 t (by rw [e1]; simp)
  rw [e1] at h3
  obtain ⟨s1, hs1⟩ := go_prefix h3
  have hlen : k = (flat es).length + j := by
    have := congrArg List.length e3
    rw [List.length_take, List.length_append, List.length_take] at this
    omega
  have hr : read ((flat ks).take k) = run ((bs t).take j).length ((bs t).take j) (0 + (flat es).length) s1 := by
    unfold read
    rw [e3]
    exact run_flat es _ 0 s0 s1 _ hA hs1 (Nat.le_refl _)
  have hj3 := bs_le t
  by_cases hj : j = 0
  · subst hj
    rw [List.take_zero] at hr
    have hr' : read ((flat ks).take k) = fin (0 + (flat es).length) s1 := hr
    unfold fin at hr'
    by_cases hc : 0 < s1.x ∨ s1.sp = []
    · rw [if_pos hc] at hr'
      right
      rw [hr']
      exact ⟨rfl, by show 0 + (flat es).length ≤ k; omega, by show k < 0 + (flat es).length + 4; omega⟩
    · rw [if_neg hc] at hr'
      left
      have hx : s1.x = 0 := by
        by_cases hx : s1.x = 0
        · exact hx
        · exact absurd (.inl (by omega)) hc
      have hne : es ≠ [] := by
        intro e
        subst e
        have : s0 = s1 := by simpa [go] using hs1
        subst this
        exact hc (.inr rfl)
      obtain ⟨ds, e⟩ := go_last es _ _ hA hs1 hne hx
      refine ⟨s1, by rw [hr'], ?_, ?_⟩
      · rw [hlen, e, flat_append, List.length_append]; simp [flat, bs]
      · rw [e1, e, flat_append, flat_append, List.getElem?_append_left (by rw [hlen, e, flat_append, List.length_append]; simp [flat, bs]), List.getElem?_append_right (by rw [hlen, e, flat_append, List.length_append]; simp [flat, bs])]
        rw [hlen, e, flat_append, List.length_append]
        simp [flat, bs]
  · have hne : (bs t).take j ≠ [] := by
      intro e
      have := congrArg List.length e
      rw [List.length_take, List.length_nil] at this
      omega
    have hb : bad (sg ((bs t).take j)) s1 := by rw [sg_part ht e2]; unfold bad; rw [if_neg (by decide)]; exact .inl rfl
    rw [run_bad hne (Nat.le_refl _) hb] at hr
    right
    rw [hr]
    exact ⟨rfl, by show 0 + (flat es).length ≤ k; omega, by show k < 0 + (flat es).length + 4; omega⟩
end Go.Proofs.Ytbfffgnalopfbaa.Ti

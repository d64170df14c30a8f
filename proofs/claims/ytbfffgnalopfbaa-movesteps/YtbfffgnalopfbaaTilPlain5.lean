/- Where a place lies in a map, the order of its spawns, the signs of its tiles. -/
import Derived.Test.YtbfffgnalopfbaaTilPlain4
namespace Go.Proofs.Ytbfffgnalopfbaa
set_option linter.unusedVariables false

namespace Ti
/-- where among the walls the tile lies whose middle this is -/
def spotOf (m : M) (p : Int × Int) : Option Nat :=
  if 0 ≤ p.1 / 65536 ∧ p.1 / 65536 < m.W ∧ 0 ≤ p.2 / 65536 ∧ p.2 / 65536 < m.H ∧ p = mid (p.1 / 65536).toNat (p.2 / 65536).toNat then some ((p.2 / 65536).toNat * m.W.toNat + (p.1 / 65536).toNat) else none
theorem mid_div (x y : Nat) : (mid x y).1 / 65536 = (x : Int) ∧ (mid x y).2 / 65536 = (y : Int) := by
  unfold mid
  exact ⟨by show ((x : Int) * 65536 + 32768) / 65536 = x; omega, by show ((y : Int) * 65536 + 32768) / 65536 = y; omega⟩
theorem spot_mid {m : M} {x y : Nat} (hx : x < m.W.toNat) (hy : y < m.H.toNat) : spotOf m (mid x y) = some (y * m.W.toNat + x) := by
  obtain ⟨e1, e2⟩ := mid_div x y
  unfold spotOf
  rw [e1, e2, if_pos ⟨by omega, by omega, by omega, by omega, by simp⟩]
  simp
theorem spot_some {m : M} {p : Int × Int} {i : Nat} (h : spotOf m p = some i) : ∃ x y, x < m.W.toNat ∧ y < m.H.toNat ∧ p = mid x y ∧ i = y * m.W.toNat + x := by
  unfold spotOf at h
  split at h
  · rename_i hc
    exact ⟨(p.1 / 65536).toNat, (p.2 / 65536).toNat, by omega, by omega, hc.2.2.2.2, by simpa using h.symm⟩
  · simp at h
/-- the spawns, one by one: each a floor's middle, behind the last one -/
def scan (m : M) : Int → List (Int × Int) → Option Int
  | last, [] => some last
  | last, p :: t => match spotOf m p with
    | some i => if last < (i : Int) ∧ m.ws.getD i false = false then scan m i t else none
    | none => none
def key (m : M) (p : Int × Int) : Nat := (spotOf m p).getD 0
theorem scan_of {m : M} : ∀ (l : List (Int × Int)) (last z : Int), scan m last l = some z → (∀ p ∈ l, ∃ i, spotOf m p = some i ∧ last < (i : Int) ∧ m.ws.getD i false = false) ∧ l.Pairwise (fun p q => key m p < key m q) ∧ ((l = [] ∧ z = last) ∨ (l ≠ [] ∧ 0 ≤ z))
  | [], last, z, h => by
    simp [scan] at h
    exact ⟨by simp, List.Pairwise.nil, .inl ⟨rfl, h.symm⟩⟩
  | p :: t, last, z, h => by
    unfold scan at h
    cases hs : spotOf m p with
    | none => rw [hs] at h; simp at h
    | some i =>
      rw [hs] at h
      simp only at h
      split at h
      · rename_i hc
        obtain ⟨h1, h2, h3⟩ := scan_of t i z h
        refine ⟨?_, ?_, .inr ⟨by simp, ?_⟩⟩
        · intro q hq
          rcases List.mem_cons.1 hq with rfl | hq
          · exact ⟨i, hs, hc.1, hc.2⟩
          · obtain ⟨j, e1, e2, e3⟩ := h1 q hq
            exact ⟨j, e1, by omega, e3⟩
        · refine List.Pairwise.cons ?_ h2
          intro q hq
          obtain ⟨j, e1, e2, e3⟩ := h1 q hq
          unfold key
          rw [hs, e1]
          show i < j
          omega
        · rcases h3 with ⟨_, rfl⟩ | ⟨_, h⟩
          · omega
          · exact h
      · simp at h
theorem scan_to {m : M} : ∀ (l : List (Int × Int)) (last : Int), (∀ p ∈ l, ∃ i, spotOf m p = some i ∧ last < (i : Int) ∧ m.ws.getD i false = false) → l.Pairwise (fun p q => key m p < key m q) → ∃ z, scan m last l = some z
  | [], last, _, _ => ⟨last, rfl⟩
  | p :: t, last, h1, h2 => by
    obtain ⟨i, e1, e2, e3⟩ := h1 p (by simp)
    unfold scan
    rw [e1]
    simp only
    rw [if_pos ⟨e2, e3⟩]
    refine scan_to t i ?_ (List.pairwise_cons.1 h2).2
    intro q hq
    obtain ⟨j, f1, f2, f3⟩ := h1 q (List.mem_cons_of_mem _ hq)
    refine ⟨j, f1, ?_, f3⟩
    have := (List.pairwise_cons.1 h2).1 q hq
    unfold key at this
    rw [e1, f1] at this
    have : i < j := this
    omega
theorem sorted_ext {α : Type} {k : α → Nat} : ∀ {l l' : List α}, l.Pairwise (fun a b => k a < k b) → l'.Pairwise (fun a b => k a < k b) → (∀ a, a ∈ l ↔ a ∈ l') → l = l'
  | [], l', _, _, h => by
    cases l' with
    | nil => rfl
    | cons b t => exact absurd ((h b).2 (by simp)) (by simp)
  | a :: t, l', h1, h2, h => by
    cases l' with
    | nil => exact absurd ((h a).1 (by simp)) (by simp)
    | cons b t' =>
      have p1 := List.pairwise_cons.1 h1
      have p2 := List.pairwise_cons.1 h2
      have hab : a = b := by
        rcases List.mem_cons.1 ((h a).1 (by simp)) with e | e
        · exact e
        · rcases List.mem_cons.1 ((h b).2 (by simp)) with e' | e'
          · exact e'.symm
          · have := p2.1 a e; have := p1.1 b e'; omega
      subst hab
      congr 1
      refine sorted_ext p1.2 p2.2 ?_
      intro c
      constructor
      · intro hc
        rcases List.mem_cons.1 ((h c).1 (List.mem_cons_of_mem _ hc)) with e | e
        · subst e; have := p1.1 c hc; omega
        · exact e
      · intro hc
        rcases List.mem_cons.1 ((h c).2 (List.mem_cons_of_mem _ hc)) with e | e
        · subst e; have := p2.1 c hc; omega
        · exact e
theorem spL_sorted {m : M} {y : Nat} (hy : y < m.H.toNat) : ∀ (c : List Nat) (x : Nat), x + c.length ≤ m.W.toNat → (spL y x c).Pairwise (fun p q => key m p < key m q)
  | [], x, _ => List.Pairwise.nil
  | k :: c, x, h => by
    have h' : x + (c.length + 1) ≤ m.W.toNat := h
    have ih := spL_sorted hy c (x + 1) (by omega)
    show ((if k = 3 then [mid x y] else []) ++ spL y (x + 1) c).Pairwise _
    by_cases hk : k = 3
    · rw [if_pos hk]
      refine List.Pairwise.cons ?_ ih
      intro q hq
      obtain ⟨j, hj, rfl⟩ := mem_spL.1 hq
      have hjl := (List.getElem?_eq_some_iff.1 hj).1
      unfold key
      rw [spot_mid (by omega) hy, spot_mid (by omega) hy]
      show y * m.W.toNat + x < y * m.W.toNat + (x + 1 + j)
      omega
    · rw [if_neg hk]; exact ih
theorem spA_sorted {m : M} : ∀ (K : List (List Nat)) (y : Nat), (∀ c ∈ K, c.length = m.W.toNat) → y + K.length ≤ m.H.toNat → (spA y K).Pairwise (fun p q => key m p < key m q)
  | [], y, _, _ => List.Pairwise.nil
  | c :: K, y, h, hl => by
    have hl' : y + (K.length + 1) ≤ m.H.toNat := hl
    have hc := h c (by simp)
    have ih := spA_sorted K (y + 1) (fun c hc => h c (List.mem_cons_of_mem _ hc)) (by omega)
    show (spL y 0 c ++ spA (y + 1) K).Pairwise _
    refine List.pairwise_append.2 ⟨spL_sorted (by omega) c 0 (by omega), ih, ?_⟩
    intro p hp q hq
    obtain ⟨j, hj, rfl⟩ := mem_spL.1 hp
    obtain ⟨i, d, x, hd, hx, rfl⟩ := mem_spA.1 hq
    have hjl := (List.getElem?_eq_some_iff.1 hj).1
    have hil := (List.getElem?_eq_some_iff.1 hd).1
    have hxl := (List.getElem?_eq_some_iff.1 hx).1
    have hdl := h d (List.mem_cons_of_mem _ (List.mem_of_getElem? hd))
    unfold key
    rw [spot_mid (by omega) (by omega), spot_mid (by omega) (by omega)]
    show y * m.W.toNat + (0 + j) < (y + 1 + i) * m.W.toNat + x
    have e : (y + 1) * m.W.toNat ≤ (y + 1 + i) * m.W.toNat := Nat.mul_le_mul_right _ (by omega)
    rw [Nat.add_mul, Nat.one_mul] at e
    omega
theorem lines_sorted (m : M) : (spA 0 (linesOf m)).Pairwise (fun p q => key m p < key m q) :=
  spA_sorted (linesOf m) 0 (fun c hc => (lines_lines m).len c hc) (by rw [lines_len]; omega)
theorem mem_lines {m : M} {p : Int × Int} : p ∈ spA 0 (linesOf m) ↔ ∃ x y, x < m.W.toNat ∧ y < m.H.toNat ∧ p = mid x y ∧ wall m x y = false ∧ p ∈ m.sp := by
  rw [mem_spA]
  constructor
  · rintro ⟨j, c, x, hj, hx, rfl⟩
    have hjl : j < m.H.toNat := by have := (List.getElem?_eq_some_iff.1 hj).1; rwa [lines_len] at this
    rw [lines_at hjl] at hj
    obtain rfl := Option.some.inj hj
    have hxl : x < m.W.toNat := by have := (List.getElem?_eq_some_iff.1 hx).1; rwa [line_len] at this
    rw [line_at hxl] at hx
    have hc := Option.some.inj hx
    unfold code at hc
    rw [Nat.zero_add]
    refine ⟨x, j, hxl, hjl, rfl, ?_⟩
    split at hc
    · omega
    · rename_i hw
      split at hc
      · rename_i hm
        exact ⟨by simpa using hw, hm⟩
      · omega
  · rintro ⟨x, y, hx, hy, rfl, hw, hm⟩
    exact ⟨y, lineOf m y, x, lines_at hy, by rw [line_at hx, code_in hw hm], by rw [Nat.zero_add]⟩
theorem scan_formed {m : M} (hD : Dims m) : (∃ z, scan m (-1) m.sp = some z ∧ z ≠ -1) ↔ Formed m := by
  constructor
  · rintro ⟨z, hz, hn⟩
    obtain ⟨h1, h2, h3⟩ := scan_of _ _ _ hz
    refine ⟨hD, ?_, ?_⟩
    · rcases h3 with ⟨_, e⟩ | ⟨h, _⟩
      · exact absurd e hn
      · exact h
    · refine sorted_ext (lines_sorted m) h2 ?_
      intro p
      rw [mem_lines]
      constructor
      · rintro ⟨_, _, _, _, _, _, h⟩; exact h
      · intro hp
        obtain ⟨i, e1, e2, e3⟩ := h1 p hp
        obtain ⟨x, y, hx, hy, rfl, rfl⟩ := spot_some e1
        exact ⟨x, y, hx, hy, rfl, e3, hp⟩
  · rintro ⟨_, hne, he⟩
    have hs := lines_sorted m
    rw [he] at hs
    obtain ⟨z, hz⟩ := scan_to m.sp (-1) (by
      intro p hp
      rw [← he] at hp
      obtain ⟨x, y, hx, hy, rfl, hw, _⟩ := mem_lines.1 hp
      exact ⟨_, spot_mid hx hy, by omega, hw⟩) hs
    refine ⟨z, hz, ?_⟩
    obtain ⟨_, _, h3⟩ := scan_of _ _ _ hz
    rcases h3 with ⟨h, _⟩ | ⟨_, h⟩
    · exact absurd h hne
    · omega
/-- the rune of a sign -/
def rn : Nat → Int
  | 1 => 9608
  | 3 => 9678
  | _ => 183
def base (m : M) : List Int := m.ws.map fun b => if b then 9608 else 183
def mark (m : M) (l : List Int) (p : Int × Int) : List Int := match spotOf m p with
  | some i => l.set i 9678
  | none => l
def marks (m : M) (ps : List (Int × Int)) : List Int := ps.foldl (mark m) (base m)
theorem mark_len (m : M) (l : List Int) (p : Int × Int) : (mark m l p).length = l.length := by
  unfold mark; split <;> simp
theorem marks_next (m : M) (ps : List (Int × Int)) (p : Int × Int) : marks m (ps ++ [p]) = mark m (marks m ps) p := by
  unfold marks; rw [List.foldl_append]; rfl
theorem fold_len (m : M) : ∀ (ps : List (Int × Int)) (l : List Int), (ps.foldl (mark m) l).length = l.length
  | [], l => rfl
  | p :: t, l => by show (t.foldl (mark m) (mark m l p)).length = _; rw [fold_len m t, mark_len]
theorem marks_len (m : M) (ps : List (Int × Int)) : (marks m ps).length = m.ws.length := by
  unfold marks; rw [fold_len]; simp [base]
theorem fold_at (m : M) (i : Nat) : ∀ (ps : List (Int × Int)) (l : List Int), i < l.length → (ps.foldl (mark m) l)[i]? = if ∃ p ∈ ps, spotOf m p = some i then some 9678 else l[i]?
  | [], l, _ => by simp
  | p :: t, l, hi => by
    show (t.foldl (mark m) (mark m l p))[i]? = _
    rw [fold_at m i t _ (by rw [mark_len]; exact hi)]
    by_cases h1 : ∃ q ∈ t, spotOf m q = some i
    · obtain ⟨q, hq, e⟩ := h1
      rw [if_pos ⟨q, hq, e⟩, if_pos ⟨q, List.mem_cons_of_mem _ hq, e⟩]
    · rw [if_neg h1]
      unfold mark
      cases hs : spotOf m p with
      | none =>
        rw [if_neg]
        rintro ⟨q, hq, e⟩
        rcases List.mem_cons.1 hq with rfl | hq
        · rw [hs] at e; cases e
        · exact h1 ⟨q, hq, e⟩
      | some j =>
        simp only
        by_cases hj : j = i
        · subst hj
          rw [if_pos ⟨p, by simp, hs⟩]
          simp [hi]
        · rw [List.getElem?_set_ne hj, if_neg]
          rintro ⟨q, hq, e⟩
          rcases List.mem_cons.1 hq with rfl | hq
          · rw [hs] at e; exact hj (Option.some.inj e)
          · exact h1 ⟨q, hq, e⟩
/-- the signs of a map that can be read -/
theorem marks_lines {m : M} (h : Formed m) : marks m m.sp = (linesOf m).flatten.map rn := by
  have hlen : (linesOf m).flatten.length = m.H.toNat * m.W.toNat := by rw [flatten_len (lines_lines m).len, lines_len]
  obtain ⟨d1, d2, d3, d4, d5⟩ := h.1
  have hwl : m.ws.length = m.H.toNat * m.W.toNat := by
    have e : (m.ws.length : Int) = ((m.H.toNat * m.W.toNat : Nat) : Int) := by
      rw [d5, Int.natCast_mul, Int.toNat_of_nonneg (by omega), Int.toNat_of_nonneg (by omega), Int.mul_comm]
    omega
  apply List.ext_getElem?
  intro i
  by_cases hi : i < m.ws.length
  · have hW : 0 < m.W.toNat := by omega
    obtain ⟨x, y, hx, hy, rfl⟩ : ∃ x y, x < m.W.toNat ∧ y < m.H.toNat ∧ i = y * m.W.toNat + x := by
      refine ⟨i % m.W.toNat, i / m.W.toNat, Nat.mod_lt _ hW, ?_, ?_⟩
      · exact Nat.div_lt_of_lt_mul (by rw [Nat.mul_comm]; omega)
      · have := Nat.div_add_mod i m.W.toNat; rw [Nat.mul_comm] at this; omega
    unfold marks
    rw [fold_at m _ _ _ (by simp [base]; omega), List.getElem?_map, flatten_at (lines_lines m).len (lines_at hy) hx, line_at hx]
    have hb : (base m)[y * m.W.toNat + x]? = some (if wall m x y then 9608 else 183) := by
      unfold base
      rw [List.getElem?_map, (dims_ws h.1 hx hy).2]
      rfl
    by_cases hs : mid x y ∈ m.sp
    · have hw : wall m x y = false := by
        have := hs
        rw [← h.2.2] at this
        obtain ⟨x', y', _, _, e, hw, _⟩ := mem_lines.1 this
        obtain ⟨rfl, rfl⟩ := mid_inj e
        exact hw
      rw [if_pos ⟨mid x y, hs, spot_mid hx hy⟩, code_in hw hs]
      rfl
    · rw [if_neg, hb]
      · cases hw : wall m x y with
        | true => rw [code_wall hw]; rfl
        | false => rw [code_floor hw hs]; rfl
      · rintro ⟨p, hp, e⟩
        obtain ⟨x', y', hx', hy', rfl, e'⟩ := spot_some e
        have e1 : mid x' y' = mid x y := by
          have q1 : (y * m.W.toNat + x) % m.W.toNat = x := by rw [Nat.add_comm, Nat.add_mul_mod_self_right, Nat.mod_eq_of_lt hx]
          have q2 : (y' * m.W.toNat + x') % m.W.toNat = x' := by rw [Nat.add_comm, Nat.add_mul_mod_self_right, Nat.mod_eq_of_lt hx']
          have q3 : (y * m.W.toNat + x) / m.W.toNat = y := by rw [Nat.add_comm, Nat.add_mul_div_right _ _ hW, Nat.div_eq_of_lt hx, Nat.zero_add]
          have q4 : (y' * m.W.toNat + x') / m.W.toNat = y' := by rw [Nat.add_comm, Nat.add_mul_div_right _ _ hW, Nat.div_eq_of_lt hx', Nat.zero_add]
          rw [e'] at q1 q3
          rw [q2] at q1
          rw [q4] at q3
          rw [q1, q3]
        rw [e1] at hp
        exact hs hp
  · rw [List.getElem?_eq_none (by rw [marks_len]; omega), List.getElem?_eq_none (by rw [List.length_map, hlen]; omega)]
end Ti
end Go.Proofs.Ytbfffgnalopfbaa

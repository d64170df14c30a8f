/- Parameters that are flat: integers, bools, structs and arrays of these, nested at will; and slices of them: their cells, one by one. Over any program. -/
import Derived.WalkKit
import Derived.ProofKit
import Derived.OpenShut
import Derived.ChangeOld
import Derived.ChangeSlices
import Derived.Deep.Slices
import Derived.Below
namespace Go.Proofs.Ytloobijdpchppaa
open Go.ChangeShapes Go.WideShapes Go.ChangeAt Go.RowKit
set_option linter.unusedVariables false

/-- a cell's kind -/
structure Leaf where
  kind : Option IntKind
def Leaf.int (k : IntKind) : Leaf := ⟨some k⟩
def Leaf.bool : Leaf := ⟨none⟩
def Leaf.ok (l : Leaf) (v : Value) : Prop :=
  match l.kind with
  | some k => ∃ z, v = .int k z ∧ (Lit.int k z).wf = true
  | none => ∃ b, v = .bool b
def AllOk : List Leaf → List Value → Prop
  | [], [] => True
  | k :: ks, v :: vs => k.ok v ∧ AllOk ks vs
  | _, _ => False
theorem AllOk.length : ∀ {ks : List Leaf} {cs : List Value}, AllOk ks cs → cs.length = ks.length
  | [], [], _ => rfl
  | _ :: ks, _ :: cs, h => by rw [List.length_cons, List.length_cons, AllOk.length h.2]
  | [], _ :: _, h => h.elim
  | _ :: _, [], h => h.elim
theorem AllOk.append : ∀ {ks ls : List Leaf} {cs ds : List Value}, AllOk ks cs → AllOk ls ds → AllOk (ks ++ ls) (cs ++ ds)
  | [], _, [], _, _, h => h
  | _ :: _, _, _ :: _, _, h, h' => ⟨h.1, AllOk.append h.2 h'⟩
  | [], _, _ :: _, _, h, _ => h.elim
  | _ :: _, _, [], _, h, _ => h.elim

/-- the fields' cells, one behind the other from o on -/
def flatFs (P : Program) (g : TypeId → Option (List Leaf)) : List Field → Nat → Option (List Leaf)
  | [], _ => some []
  | f :: r, o =>
    if f.offset = o then
      match g f.type with
      | none => none
      | some ks => if P.cellsOf f.type = ks.length then (match flatFs P g r (o + ks.length) with | none => none | some ls => some (ks ++ ls)) else none
    else none
def copies (ks : List Leaf) : Nat → List Leaf
  | 0 => []
  | n + 1 => ks ++ copies ks n
theorem copies_length (ks : List Leaf) : ∀ n, (copies ks n).length = n * ks.length
  | 0 => by simp [copies]
  | n + 1 => by simp [copies, copies_length ks n, Nat.add_mul]; omega
/-- a type's cells, if it is flat -/
def flat (P : Program) : Nat → TypeId → Option (List Leaf)
  | 0, _ => none
  | d + 1, t =>
    match P.underlying t with
    | some (.int k) => some [.int k]
    | some .bool => some [.bool]
    | some (.struct fs) =>
      match flatFs P (flat P d) fs.toList 0 with
      | none => none
      | some ks => if P.cellsOf t = ks.length then some ks else none
    | some (.array n e) =>
      match flat P d e with
      | none => none
      | some ks => if P.cellsOf e = ks.length ∧ P.cellsOf t = n * ks.length then some (copies ks n) else none
    | _ => none

section
variable {H : Type} {enc : TypeId × Value → H} {P : Program} {w : World} {base : Nat} {spare : Nat → Bool} {held : Bool}
theorem fields_ok {g : TypeId → Option (List Leaf)} {cs : List Value} : ∀ {fs : List Field} {o : Nat} {ks : List Leaf}, flatFs P g fs o = some ks →
    (∀ f ∈ fs, ∀ ls, g f.type = some ls → AllOk ls ((cs.drop f.offset).take (P.cellsOf f.type))) → AllOk ks ((cs.drop o).take ks.length)
  | [], o, ks, h, _ => by
    have : ks = [] := by simpa [flatFs] using h.symm
    subst this
    simp [AllOk]
  | f :: r, o, ks, h, hf => by
    unfold flatFs at h
    by_cases ho : f.offset = o
    · rw [if_pos ho] at h
      cases hg : g f.type with
      | none => rw [hg] at h; cases h
      | some ls =>
        rw [hg] at h
        simp only at h
        by_cases hc : P.cellsOf f.type = ls.length
        · rw [if_pos hc] at h
          cases hr : flatFs P g r (o + ls.length) with
          | none => rw [hr] at h; cases h
          | some ms =>
            rw [hr] at h
            simp at h
            subst h
            have h1 := hf f (List.mem_cons_self ..) ls hg
            rw [ho, hc] at h1
            have h2 := fields_ok (cs := cs) hr fun f' hf' => hf f' (List.mem_cons_of_mem _ hf')
            have := h1.append h2
            rw [List.length_append, List.take_add, List.drop_drop]
            exact this
        · rw [if_neg hc] at h; cases h
    · rw [if_neg ho] at h; cases h
theorem copies_ok {ks : List Leaf} {cs : List Value} : ∀ (n o : Nat), (∀ i, i < n → AllOk ks ((cs.drop (o + i * ks.length)).take ks.length)) → AllOk (copies ks n) ((cs.drop o).take (copies ks n).length)
  | 0, _, _ => by simp [copies, AllOk]
  | n + 1, o, h => by
    have h1 := h 0 (by omega)
    rw [Nat.zero_mul, Nat.add_zero] at h1
    have h2 := copies_ok n (o + ks.length) fun i hi => by
      have := h (i + 1) (by omega)
      rw [Nat.add_mul, Nat.one_mul, show o + (i * ks.length + ks.length) = o + ks.length + i * ks.length by omega] at this
      exact this
    have := h1.append h2
    show AllOk (ks ++ copies ks n) ((cs.drop o).take (ks ++ copies ks n).length)
    rw [List.length_append, List.take_add, List.drop_drop]
    exact this
theorem flat_ok : ∀ {d : Nat} {t : TypeId} {ks : List Leaf} {fuel : Nat} {cs : List Value} {x : DataW H × List MemPlace}, flat P d t = some ks → DataW.trod enc P w base spare held fuel t cs = some x → AllOk ks cs
  | 0, _, _, _, _, _, h, _ => by cases h
  | d + 1, t, ks, fuel, cs, x, h, hx => by
    unfold flat at h
    split at h
    · rename_i k hk
      simp at h
      subst h
      obtain ⟨n, rfl, _, hw⟩ := DataW.trod_int hk hx
      exact ⟨⟨n, rfl, hw⟩, trivial⟩
    · rename_i hk
      simp at h
      subst h
      obtain ⟨b, rfl, _⟩ := DataW.trod_bool hk hx
      exact ⟨⟨b, rfl⟩, trivial⟩
    · rename_i fs hk
      cases hg : flatFs P (flat P d) fs.toList 0 with
      | none => rw [hg] at h; cases h
      | some ls =>
        rw [hg] at h
        simp only at h
        by_cases hc : P.cellsOf t = ls.length
        · rw [if_pos hc] at h
          simp at h
          subst h
          obtain ⟨xs, n, _, _, hl, hlen, hf⟩ := DataW.trod_struct hk hx
          have := fields_ok (cs := cs) hg (by
            intro f hm ms hms
            obtain ⟨i, hi⟩ := List.getElem?_of_mem hm
            have hi' : fs[i]? = some f := by simpa using hi
            have hlt : i < fs.size := (Array.getElem?_eq_some_iff.1 hi').1
            have := hf i f hi'
            rw [List.getElem?_eq_getElem (by omega)] at this
            exact flat_ok hms this)
          rw [List.drop_zero, List.take_of_length_le (by omega)] at this
          exact this
        · rw [if_neg hc] at h; cases h
    · rename_i n e hk
      cases hg : flat P d e with
      | none => rw [hg] at h; cases h
      | some ls =>
        rw [hg] at h
        simp only at h
        by_cases hc : P.cellsOf e = ls.length ∧ P.cellsOf t = n * ls.length
        · rw [if_pos hc] at h
          simp at h
          subst h
          cases fuel with
          | zero => simp [DataW.trod] at hx
          | succ fuel =>
            unfold DataW.trod at hx
            rw [hk] at hx
            have hx' : (if cs.length = P.cellsOf t then ((List.range n).mapM fun i => DataW.trod enc P w base spare held fuel e ((cs.drop (i * P.cellsOf e)).take (P.cellsOf e))).map fun xs => (DataW.agg (xs.map (·.1)), xs.flatMap (·.2)) else none) = some x := hx
            by_cases hl : cs.length = P.cellsOf t
            · rw [if_pos hl] at hx'
              obtain ⟨xs, hm, _⟩ := Option.map_eq_some_iff.1 hx'
              have hlen := mapM_some_length hm
              rw [List.length_range] at hlen
              have := copies_ok (ks := ls) (cs := cs) n 0 (by
                intro i hi
                have := mapM_some_get hm i i (by simp [hi])
                rw [List.getElem?_eq_getElem (by omega), hc.1] at this
                rw [Nat.zero_add]
                exact flat_ok hg this)
              rw [List.drop_zero, List.take_of_length_le (by rw [copies_length]; omega)] at this
              exact this
            · rw [if_neg hl] at hx'; cases hx'
        · rw [if_neg hc] at h; cases h
    · cases h

/-- a struct or an array that is flat -/
theorem open_flat {t : TypeId} {d : Nat} {ks : List Leaf} {v : Value} {dd : DataW H} {p : List MemPlace} {r : Reach} {b0 : Nat}
    (ht : (∃ fs, P.underlying t = some (.struct fs)) ∨ ∃ n e, P.underlying t = some (.array n e)) (hf : flat P d t = some ks)
    (hval : Value.okWide P w r b0 t v) (h : DataW.Trod enc P w base spare held t v dd p) : ∃ cs : List Value, v = .agg cs.toArray ∧ AllOk ks cs := by
  obtain ⟨cs, rfl⟩ : ∃ cs : Array Value, v = .agg cs := by
    rcases ht with ⟨fs, ht⟩ | ⟨n, e, ht⟩
    · obtain ⟨cs, rfl, _⟩ := okWide_struct ht hval
      exact ⟨cs, rfl⟩
    · simp only [Value.okWide, ht] at hval
      obtain ⟨cs, rfl, _⟩ := hval
      exact ⟨cs, rfl⟩
  obtain ⟨fuel, hx⟩ := h
  exact ⟨cs.toList, by simp, flat_ok hf hx⟩

/-- a slice of elements of sz cells each, that is only read -/
def RowOf {α : Type} (sz : Nat) (f : α → List Value) (oa : Option Addr) (l : List α) (w : World) : Prop :=
  ∀ i a, l[i]? = some a → ∃ b off, oa = some ⟨b, off, none⟩ ∧ b < w.heap.size ∧ ∀ j u, (f a)[j]? = some u → w.cell? ⟨b, off + i * sz + j, none⟩ = some u
theorem RowOf.keep {α : Type} {sz : Nat} {f : α → List Value} {oa : Option Addr} {l : List α} {w u : World} (h : RowOf sz f oa l w) (hb : Below w.heap.size w u) : RowOf sz f oa l u := by
  intro i a hi
  obtain ⟨b, off, ho, hlt, hc⟩ := h i a hi
  exact ⟨b, off, ho, Nat.lt_of_lt_of_le hlt hb.size, fun j v hv => (hb.cell (p := ⟨b, off + i * sz + j, none⟩) hlt).trans (hc j v hv)⟩
/-- what each is one of, the list is a list of -/
theorem list_of {α : Type} (f : α → List Value) : ∀ {l : List (List Value)}, (∀ cs ∈ l, ∃ a, cs = f a) → ∃ l' : List α, l = l'.map f
  | [], _ => ⟨[], rfl⟩
  | c :: l, h => by
    obtain ⟨a, rfl⟩ := h c (List.mem_cons_self ..)
    obtain ⟨l', rfl⟩ := list_of f fun cs hc => h cs (List.mem_cons_of_mem _ hc)
    exact ⟨a :: l', rfl⟩
theorem open_flats {α : Type} {t e : TypeId} {d : Nat} {ks : List Leaf} {v : Value} {dd : DataW H} {p : List MemPlace} {r : Reach} {b0 : Nat} (f : α → List Value)
    (ht : P.underlying t = some (.slice e)) (hf : flat P d e = some ks) (hc : P.cellsOf e = ks.length) (hpos : 0 < ks.length) (hk : ∀ cs, AllOk ks cs → ∃ a, cs = f a)
    (hval : Value.okWide P w r b0 t v) (h : DataW.Trod enc P w base spare held t v dd p) :
    ∃ (oa : Option Addr) (len cap : Nat) (l : List α), v = .slice oa len cap ∧ len ≤ maxLen ∧ len ≤ cap ∧ l.length = len ∧ RowOf ks.length f oa l w ∧ ∀ a ∈ l, AllOk ks (f a) := by
  obtain ⟨oa, len, cap, rfl⟩ := okWide_slice ht hval
  obtain ⟨fuel, hx⟩ := h
  rcases Go.Deep.open_slice ht hx with ⟨hcs, _⟩ | ⟨a, len', cap', m, n, D, Pl, hcs, hb, hl, hm, hmm, _, hel⟩
  · simp [Value.cells] at hcs
    obtain ⟨rfl, rfl, rfl⟩ := hcs
    exact ⟨none, 0, 0, [], rfl, Nat.zero_le _, Nat.le_refl _, rfl, fun i a hi => by simp at hi, by simp⟩
  · simp [Value.cells] at hcs
    obtain ⟨rfl, rfl, rfl⟩ := hcs
    have hlm : len ≤ m := by rw [hmm]; split <;> omega
    have each : ∀ i, i < len → ∃ x : α, AllOk ks (f x) ∧ w.cells? base (a.add (i * ks.length)) ks.length = some (f x) := by
      intro i hi
      obtain ⟨cs', h1, h2⟩ := hel i (by omega)
      have ok := flat_ok hf h2
      obtain ⟨x, rfl⟩ := hk cs' ok
      rw [hc] at h1
      exact ⟨x, ok, h1⟩
    have all : ∀ k, k ≤ len → ∃ l : List α, l.length = k ∧ (∀ a ∈ l, AllOk ks (f a)) ∧ ∀ i x, l[i]? = some x → w.cells? base (a.add (i * ks.length)) ks.length = some (f x) := by
      intro k
      induction k with
      | zero => intro _; exact ⟨[], rfl, by simp, fun i x hi => by simp at hi⟩
      | succ k ih =>
        intro hk
        obtain ⟨l, hl, ho, hc⟩ := ih (by omega)
        obtain ⟨x, ox, hx⟩ := each k (by omega)
        refine ⟨l ++ [x], by simp [hl], ?_, ?_⟩
        · intro y hy
          rcases List.mem_append.1 hy with hy | hy
          · exact ho y hy
          · simp at hy; subst hy; exact ox
        · intro i y hi
          by_cases e : i < l.length
          · rw [List.getElem?_append_left e] at hi
            exact hc i y hi
          · rw [List.getElem?_append_right (by omega)] at hi
            have : i = k := by
              have := (List.getElem?_eq_some_iff.1 hi).1
              simp at this; omega
            subst this
            rw [hl, Nat.sub_self] at hi
            simp at hi
            subst hi
            exact hx
    obtain ⟨l, hll, ho, hcl⟩ := all len (Nat.le_refl _)
    refine ⟨some a, len, cap, l, rfl, by omega, hl, hll, ?_, ho⟩
    intro i x hi
    have hcells := hcl i x hi
    obtain ⟨_, hlen, hcell⟩ := World.cells?_some hcells
    have hlt := World.cells?_block hcells hpos
    obtain ⟨ab, ao, spot⟩ := a
    have hspot : spot = none := by
      have hl0 : 0 < l.length := Nat.lt_of_le_of_lt (Nat.zero_le _) (List.getElem?_eq_some_iff.1 hi).1
      have hc0 := hcl 0 l[0] (List.getElem?_eq_getElem hl0)
      obtain ⟨_, hn0, hcell0⟩ := World.cells?_some hc0
      have h0 := hcell0 0 hpos
      rw [List.getElem?_eq_getElem (by omega)] at h0
      have := World.cell?_spot h0
      simpa [Addr.add] using this
    subst hspot
    have hblk : ab < w.heap.size := by
      rw [Addr.add_lit] at hlt
      exact hlt
    refine ⟨ab, ao, rfl, hblk, fun j u hu => ?_⟩
    have hj : j < ks.length := by rw [← hlen]; exact (List.getElem?_eq_some_iff.1 hu).1
    have := hcell j hj
    rw [Addr.add_lit, Addr.add_lit, hu] at this
    exact this
end
end Go.Proofs.Ytloobijdpchppaa

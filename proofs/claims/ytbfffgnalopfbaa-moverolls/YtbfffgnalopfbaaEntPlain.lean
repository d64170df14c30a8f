/- Entities: formed ones, lists, their bits on a base; what a reader takes. Plain functions, and their laws. -/
import Derived.Test.YtbfffgnalopfbaaBitPlain2
import Derived.RowKit
namespace Go.Proofs.Ytbfffgnalopfbaa.En
open Bt Go.RowKit
set_option linter.unusedVariables false

structure E where
  id : Int
  kind : Int
  ax : Int
  ay : Int
  vx : Int
  vy : Int
  h : Int
  t : Int
def I64 (x : Int) : Prop := -9223372036854775808 ≤ x ∧ x < 9223372036854775808
def E.wf (e : E) : Prop := I64 e.id ∧ I64 e.kind ∧ I64 e.ax ∧ I64 e.ay ∧ I64 e.vx ∧ I64 e.vy ∧ I64 e.h ∧ I64 e.t
abbrev Formed (e : E) : Prop :=
  ((e.kind = 1 ∧ 1 ≤ e.id ∧ e.id ≤ 8 ∧ ((0 < e.h ∧ e.t = 0) ∨ (e.h = 0 ∧ 0 < e.t))) ∨ (e.kind = 2 ∧ 9 ≤ e.id ∧ e.id ≤ 16 ∧ e.h = 100 ∧ e.t = 0)) ∧
  (-134217728 ≤ e.ax ∧ e.ax ≤ 134217728 ∧ -134217728 ≤ e.ay ∧ e.ay ≤ 134217728) ∧ (-65536 ≤ e.vx ∧ e.vx ≤ 65536 ∧ -65536 ≤ e.vy ∧ e.vy ≤ 65536) ∧ (0 ≤ e.h ∧ e.h ≤ 100 ∧ 0 ≤ e.t ∧ e.t ≤ 20)
/-- a list: each is formed, and the IDs rise -/
def rises : Option Int → List E → Bool
  | _, [] => true
  | o, e :: l => decide (Formed e) && (match o with | none => true | some i => decide (i < e.id)) && rises (some e.id) l
def list (l : List E) : Bool := rises none l
theorem rises_iff : ∀ (l : List E) (o : Option Int), rises o l = true ↔ (∀ i, o = some i → ∀ e, l[0]? = some e → i < e.id) ∧ ∀ i e, l[i]? = some e → Formed e ∧ ∀ d, 0 < i → l[i - 1]? = some d → d.id < e.id
  | [], o => by simp [rises]
  | e :: l, o => by
    have e1 : rises o (e :: l) = (decide (Formed e) && (match o with | none => true | some i => decide (i < e.id)) && rises (some e.id) l) := by cases o <;> rfl
    rw [e1, Bool.and_eq_true, Bool.and_eq_true, decide_eq_true_iff, rises_iff l]
    constructor
    · rintro ⟨⟨h1, h2⟩, h3, h4⟩
      refine ⟨?_, ?_⟩
      · rintro i rfl d hd
        simp at hd
        subst hd
        simpa using h2
      · intro i d hi
        cases i with
        | zero => simp at hi; subst hi; exact ⟨h1, fun _ h => absurd h (by omega)⟩
        | succ i =>
          rw [List.getElem?_cons_succ] at hi
          refine ⟨(h4 i d hi).1, ?_⟩
          intro c _ hc
          cases i with
          | zero => simp at hc; subst hc; exact h3 _ rfl d hi
          | succ i =>
            rw [show i + 1 + 1 - 1 = i + 1 by omega, List.getElem?_cons_succ] at hc
            exact (h4 (i + 1) d hi).2 c (by omega) hc
    · rintro ⟨h1, h2⟩
      refine ⟨⟨(h2 0 e rfl).1, ?_⟩, ?_, ?_⟩
      · cases o with
        | none => rfl
        | some i => simpa using h1 i rfl e rfl
      · rintro i hi d hd
        simp at hi
        subst hi
        exact (h2 1 d (by rw [List.getElem?_cons_succ]; exact hd)).2 e (by omega) rfl
      · intro i d hi
        have := h2 (i + 1) d (by rw [List.getElem?_cons_succ]; exact hi)
        refine ⟨this.1, fun c h0 hc => this.2 c (by omega) ?_⟩
        obtain ⟨j, rfl⟩ : ∃ j, i = j + 1 := ⟨i - 1, by omega⟩
        rw [show j + 1 + 1 - 1 = j + 1 by omega, List.getElem?_cons_succ]
        rw [show j + 1 - 1 = j by omega] at hc
        exact hc
theorem list_iff (l : List E) : list l = true ↔ ∀ i e, l[i]? = some e → Formed e ∧ ∀ d, 0 < i → l[i - 1]? = some d → d.id < e.id := by
  unfold list
  rw [rises_iff]
  simp
theorem list_not {l : List E} {i : Nat} {e : E} (hi : l[i]? = some e) (h : ¬ (Formed e ∧ ∀ d, 0 < i → l[i - 1]? = some d → d.id < e.id)) : list l = false := by
  cases hr : list l with
  | false => rfl
  | true => exact absurd ((list_iff l).1 hr i e hi) h
/-- where an ID stands -/
def find (l : List E) (id : Int) : Int := match l.findIdx? (fun e => e.id == id) with | none => -1 | some k => (k : Int)
theorem find_at {l : List E} {k : Nat} {e : E} {id : Int} (hk : l[k]? = some e) (he : e.id = id) (hb : ∀ (j : Nat) (d : E), j < k → l[j]? = some d → d.id ≠ id) : find l id = (k : Int) := by
  have hl := (List.getElem?_eq_some_iff.1 hk).1
  have : l.findIdx? (fun e => e.id == id) = some k := by
    rw [List.findIdx?_eq_some_iff_getElem]
    refine ⟨hl, ?_, ?_⟩
    · have : l[k] = e := by rw [List.getElem?_eq_getElem hl] at hk; simpa using hk
      simp [this, he]
    · intro j hj
      have := hb j l[j] hj (List.getElem?_eq_getElem (by omega))
      simpa using this
  unfold find
  rw [this]
theorem find_no {l : List E} {id : Int} (hb : ∀ (j : Nat) (d : E), l[j]? = some d → d.id ≠ id) : find l id = -1 := by
  have : l.findIdx? (fun e => e.id == id) = none := by
    rw [List.findIdx?_eq_none_iff]
    intro x hx
    obtain ⟨j, hj⟩ := List.mem_iff_getElem?.1 hx
    simpa using hb j x hj
  unfold find
  rw [this]

/-- an entity's fields -/
def field (e : E) : Nat → Int
  | 0 => e.ax
  | 1 => e.ay
  | 2 => e.vx
  | 3 => e.vy
  | 4 => e.h
  | _ => e.t
def put (e : E) (i : Nat) (x : Int) : E :=
  match i with
  | 0 => { e with ax := x }
  | 1 => { e with ay := x }
  | 2 => { e with vx := x }
  | 3 => { e with vy := x }
  | 4 => { e with h := x }
  | 5 => { e with t := x }
  | _ => e
theorem six {P : Nat → Prop} (h0 : P 0) (h1 : P 1) (h2 : P 2) (h3 : P 3) (h4 : P 4) (h5 : P 5) : ∀ i, i < 6 → P i := by
  intro i hi
  match i, hi with
  | 0, _ => exact h0
  | 1, _ => exact h1
  | 2, _ => exact h2
  | 3, _ => exact h3
  | 4, _ => exact h4
  | 5, _ => exact h5
theorem field_put (e : E) (x : Int) : ∀ i, i < 6 → ∀ j, j < 6 → field (put e i x) j = if i = j then x else field e j := by
  refine six ?_ ?_ ?_ ?_ ?_ ?_ <;> refine six ?_ ?_ ?_ ?_ ?_ ?_ <;> rfl
theorem put_id (e : E) (i : Nat) (x : Int) : (put e i x).id = e.id ∧ (put e i x).kind = e.kind := by
  unfold put
  split <;> exact ⟨rfl, rfl⟩
theorem ext {a b : E} (hi : a.id = b.id) (hk : a.kind = b.kind) (h : ∀ j, j < 6 → field a j = field b j) : a = b := by
  cases a; cases b
  have h0 := h 0 (by omega)
  have h1 := h 1 (by omega)
  have h2 := h 2 (by omega)
  have h3 := h 3 (by omega)
  have h4 := h 4 (by omega)
  have h5 := h 5 (by omega)
  simp only [field] at h0 h1 h2 h3 h4 h5 hi hk
  subst h0 h1 h2 h3 h4 h5 hi hk
  rfl
theorem field_wf {e : E} (h : e.wf) : ∀ j, j < 6 → I64 (field e j) := by
  obtain ⟨_, _, h2, h3, h4, h5, h6, h7⟩ := h
  exact six h2 h3 h4 h5 h6 h7
/-- whether a field is another one; the difference -/
def dif (b e : E) (i : Nat) : Bool := !(field b i == field e i)
def flags (b e : E) (k : Nat) : List Bool := (List.range k).map (dif b e)
def small1 (b e : E) (i : Nat) : List Bool := if dif b e i then sm (zig (wrap64 (field e i - field b i))) else []
def smalls (b e : E) (k : Nat) : List Bool := (List.range k).flatMap (small1 b e)
/-- an entity's bits on a base -/
def all (b e : E) : List Bool := flags b e 6 ++ smalls b e 6
theorem flags_succ (b e : E) (k : Nat) : flags b e (k + 1) = flags b e k ++ [dif b e k] := by unfold flags; rw [List.range_succ, List.map_append]; rfl
theorem smalls_succ (b e : E) (k : Nat) : smalls b e (k + 1) = smalls b e k ++ small1 b e k := by unfold smalls; rw [List.range_succ, List.flatMap_append]; simp
theorem flags_len (b e : E) (k : Nat) : (flags b e k).length = k := by unfold flags; simp
theorem w64_i (z : Int) : I64 (wrap64 z) := by unfold I64 wrap64; omega
theorem small1_len (b e : E) (i : Nat) : (small1 b e i).length ≤ 80 := by
  unfold small1
  split
  · have := eights_ten (zig_lt (w64_i (field e i - field b i)).1 (w64_i (field e i - field b i)).2)
    rw [sm_length]; omega
  · simp
theorem smalls_len (b e : E) : ∀ k, (smalls b e k).length ≤ 80 * k
  | 0 => by simp [smalls]
  | k + 1 => by rw [smalls_succ, List.length_append]; have := smalls_len b e k; have := small1_len b e k; omega
theorem all_len (b e : E) : (all b e).length ≤ 486 := by
  unfold all
  rw [List.length_append, flags_len]; have := smalls_len b e 6; omega
end Go.Proofs.Ytbfffgnalopfbaa.En

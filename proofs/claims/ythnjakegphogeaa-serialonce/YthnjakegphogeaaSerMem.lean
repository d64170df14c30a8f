/- A block of bools (an array of the call's own), told by a function; a row that came in and is only read; an array of 1000 bools, laid. -/
import Derived.Test.YthnjakegphogeaaSerLaw
import Derived.Test.YthnjakegphogeaaSerRows
import Derived.Test.YthnjakegphogeaaInts
namespace Go.Proofs.Ythnjakegphogeaa
open Go.RowKit
set_option linter.unusedVariables false

/-- block b holds the bools f 0, .., f (N - 1), and may be written -/
def Seen (b N : Nat) (f : Nat → Bool) (u : World) : Prop :=
  b < u.heap.size ∧ ∀ k, k < N → u.cell? ⟨b, k, none⟩ = some (.bool (f k)) ∧ u.frozen? ⟨b, k, none⟩ = false
theorem Seen.keep {b N : Nat} {f : Nat → Bool} {u u' : World} (h : Seen b N f u) (hb : Below u.heap.size u u') : Seen b N f u' :=
  ⟨Nat.lt_of_lt_of_le h.1 hb.size, fun k hk => ⟨(hb.cell (p := ⟨b, k, none⟩) h.1).trans (h.2 k hk).1, (hb.frozen (p := ⟨b, k, none⟩) h.1).trans (h.2 k hk).2⟩⟩
theorem Seen.alloc {b N : Nat} {f : Nat → Bool} {u : World} (h : Seen b N f u) (o : Obj) : Seen b N f (u.alloc o) := h.keep ((Below.refl _ _).alloc (Nat.le_refl _) o)
theorem Seen.far {b N : Nat} {f : Nat → Bool} {u : World} {c i : Nat} {v : Value} (h : Seen b N f u) (hne : b ≠ c) : Seen b N f (u.setCell ⟨c, i, none⟩ v) :=
  ⟨by simpa using h.1, fun k hk => ⟨(World.cell?_of_block (w := u) (Below.heap_setCell u ⟨c, i, none⟩ v b hne)).trans (h.2 k hk).1, by rw [World.frozen?_setCell]; exact (h.2 k hk).2⟩⟩
theorem Seen.far3 {b N : Nat} {f : Nat → Bool} {u : World} {c : Nat} {v0 v1 v2 : Value} (h : Seen b N f u) (hne : b ≠ c) :
    Seen b N f (((u.setCell ⟨c, 0, none⟩ v0).setCell ⟨c, 1, none⟩ v1).setCell ⟨c, 2, none⟩ v2) := ((h.far hne).far hne).far hne
theorem Seen.put {b N : Nat} {f : Nat → Bool} {u : World} {i : Nat} (h : Seen b N f u) (hi : i < N) (v : Bool) : Seen b N (fun k => if k = i then v else f k) (u.setCell ⟨b, i, none⟩ (.bool v)) := by
  refine ⟨by simpa using h.1, fun k hk => ⟨?_, by rw [World.frozen?_setCell]; exact (h.2 k hk).2⟩⟩
  by_cases e : k = i
  · subst e
    have := (h.2 k hk).1
    simp [World.cell?_setCell_same', this]
  · rw [World.cell?_setCell_other]
    · simp [e, (h.2 k hk).1]
    · simp
/-- laid just now, all false -/
theorem Seen.new {w : World} (o : Obj) (t : TypeId) (N : Nat) : Seen (w.heap.size + 1) N (fun _ => false) ((w.alloc o).alloc (.cells (Array.replicate N (.bool false)) t)) :=
  ⟨by simp, fun k hk => ⟨by rw [World.cell?_alloc2_new]; simp [hk], by simp⟩⟩
/-- an array of 1000 bools, all false -/
def zeros : Array Value := Array.replicate 1000 (.bool false)
theorem zeros_run (t : TypeId) (ht : (Try.prog.info? t).bind (fun i => i.zero) = some (.agg zeros)) (w : World) : Sem.run Try.prog (zeroValue t) w = .ok (.agg zeros) w := by
  cases hi : Try.prog.info? t with
  | none => rw [hi] at ht; cases ht
  | some i =>
    rw [hi] at ht
    have hz : i.zero = some (.agg zeros) := ht
    simp [zeroValue, typeInfo, hi, hz]
/-- the window's block is written whole -/
theorem Keep.set3 {w u : World} {bs : List (Nat × List Value)} {c : Nat} {x0 x1 x2 v0 v1 v2 : Value} (h : Keep w ((c, [x0, x1, x2]) :: bs) u) (hm : w.heap.size ≤ c) (hf : ∀ b ∈ bs, b.1 ≠ c) :
    Keep w ((c, [v0, v1, v2]) :: bs) (((u.setCell ⟨c, 0, none⟩ v0).setCell ⟨c, 1, none⟩ v1).setCell ⟨c, 2, none⟩ v2) := by
  refine (((h.less.far hm hf).far hm hf).far hm hf).more ?_
  have hz : LieAt c 0 [x0, x1, x2] u := h.1.1
  simp only [LieAt, Nat.reduceAdd] at hz ⊢
  obtain ⟨z0, y0, z1, y1, z2, y2, hl⟩ := hz
  simp [World.cell?_setCell_same', World.cell?_setCell_other, z0, z1, z2, y0, y1, y2, hl]

/-- what a slice of numbers that came in gives: each number, where it lies -/
def Lies (k : IntKind) (hi : Nat) (oa : Option Addr) (len : Nat) (w : World) : Prop :=
  ∀ i : Nat, i < len → ∃ b off z : Nat, oa = some ⟨b, off, none⟩ ∧ b < w.heap.size ∧ w.cell? ⟨b, off + i, none⟩ = some (.int k (z : Int)) ∧ z < hi
theorem lies_u8 {oa : Option Addr} {len : Nat} {w : World} (h : Ints .u8 oa len w) : Lies .u8 256 oa len w := by
  intro i hi
  obtain ⟨b, off, z, ho, hb, hc, hz⟩ := h i hi
  simp [Lit.wf, IntKind.min, IntKind.max, IntKind.bits, IntKind.signed] at hz
  exact ⟨b, off, z.toNat, ho, hb, by rw [hc, Int.toNat_of_nonneg hz.1], by omega⟩
theorem lies_u16 {oa : Option Addr} {len : Nat} {w : World} (h : Ints .u16 oa len w) : Lies .u16 65536 oa len w := by
  intro i hi
  obtain ⟨b, off, z, ho, hb, hc, hz⟩ := h i hi
  simp [Lit.wf, IntKind.min, IntKind.max, IntKind.bits, IntKind.signed] at hz
  exact ⟨b, off, z.toNat, ho, hb, by rw [hc, Int.toNat_of_nonneg hz.1], by omega⟩
end Go.Proofs.Ythnjakegphogeaa

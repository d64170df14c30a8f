/- Where a call's own blocks lie: block n holds these cells, and may be written; nothing that lay there before the call has turned. Callees that write nothing old leave it so. -/
import Derived.WalkKit
import Derived.Below
import Derived.WalkSmall
import Derived.Laws.NewBlocks
namespace Go.Proofs.Ytloobijdpchppaa
open Go.RowKit
set_option linter.unusedVariables false

/-- the cells of block n from place o on -/
def LieAt (n : Nat) : Nat → List Value → World → Prop
  | _, [], u => n < u.heap.size
  | o, v :: vs, u => u.cell? ⟨n, o, none⟩ = some v ∧ u.frozen? ⟨n, o, none⟩ = false ∧ LieAt n (o + 1) vs u
/-- the blocks that are named -/
def Lie : List (Nat × List Value) → World → Prop
  | [], _ => True
  | b :: bs, u => LieAt b.1 0 b.2 u ∧ Lie bs u
/-- beside a world: the blocks that came since -/
def Keep (w : World) (bs : List (Nat × List Value)) (u : World) : Prop := Lie bs u ∧ w.heap.size ≤ u.heap.size ∧ Below w.heap.size w u

theorem LieAt.lt {n : Nat} {u : World} : ∀ {o : Nat} {vs : List Value}, LieAt n o vs u → n < u.heap.size
  | _, [], h => h
  | o, _ :: vs, h => LieAt.lt (o := o + 1) (vs := vs) h.2.2
theorem LieAt.keep {n : Nat} {u u' : World} (hb : Below u.heap.size u u') : ∀ {o : Nat} {vs : List Value}, LieAt n o vs u → LieAt n o vs u'
  | _, [], h => Nat.lt_of_lt_of_le h hb.size
  | o, v :: vs, h => ⟨(hb.cell (p := ⟨n, o, none⟩) (LieAt.lt h.2.2)).trans h.1, (hb.frozen (p := ⟨n, o, none⟩) (LieAt.lt h.2.2)).trans h.2.1, LieAt.keep hb h.2.2⟩
theorem Lie.keep {u u' : World} (hb : Below u.heap.size u u') : ∀ {bs : List (Nat × List Value)}, Lie bs u → Lie bs u'
  | [], _ => trivial
  | b :: bs, h => ⟨LieAt.keep hb h.1, Lie.keep hb h.2⟩
theorem Keep.on {w u u' : World} {bs : List (Nat × List Value)} (h : Keep w bs u) (hb : Below u.heap.size u u') : Keep w bs u' :=
  ⟨h.1.keep hb, Nat.le_trans h.2.1 hb.size, h.2.2.trans (hb.mono h.2.1)⟩
theorem Keep.drew {w u : World} {bs : List (Nat × List Value)} (h : Keep w bs u) : Keep w bs u.drew := h.on (Below.refl _ _).drew
theorem Keep.alloc {w u : World} {bs : List (Nat × List Value)} (h : Keep w bs u) (o : Obj) : Keep w bs (u.alloc o) := h.on ((Below.refl _ _).alloc (Nat.le_refl _) o)
/-- one block more -/
theorem Keep.more {w u : World} {bs : List (Nat × List Value)} {n : Nat} {vs : List Value} (h : Keep w bs u) (hn : LieAt n 0 vs u) : Keep w ((n, vs) :: bs) u :=
  ⟨⟨hn, h.1⟩, h.2⟩
theorem Keep.less {w u : World} {bs : List (Nat × List Value)} {b : Nat × List Value} (h : Keep w (b :: bs) u) : Keep w bs u := ⟨h.1.2, h.2⟩
/-- the block that was laid just ahead of a call that writes nothing old -/
theorem LieAt.new4 {u u' : World} {v0 v1 v2 v3 : Value} {t : TypeId} (hb : Below (u.alloc (.cells #[v0, v1, v2, v3] t)).heap.size (u.alloc (.cells #[v0, v1, v2, v3] t)) u') : LieAt u.heap.size 0 [v0, v1, v2, v3] u' :=
  LieAt.keep hb (by simp [LieAt, go_sem])
theorem LieAt.new4d {u u' : World} {v0 v1 v2 v3 : Value} {t : TypeId} (hb : Below (u.alloc (.cells #[v0, v1, v2, v3] t)).drew.heap.size (u.alloc (.cells #[v0, v1, v2, v3] t)).drew u') : LieAt u.heap.size 0 [v0, v1, v2, v3] u' :=
  LieAt.keep hb (by simp [LieAt, go_sem])
theorem LieAt.new2 {u u' : World} {v0 v1 : Value} {t : TypeId} (hb : Below (u.alloc (.cells #[v0, v1] t)).heap.size (u.alloc (.cells #[v0, v1] t)) u') : LieAt u.heap.size 0 [v0, v1] u' :=
  LieAt.keep hb (by simp [LieAt, go_sem])

theorem LieAt.new2d {u u' : World} {v0 v1 : Value} {t : TypeId} (hb : Below (u.alloc (.cells #[v0, v1] t)).drew.heap.size (u.alloc (.cells #[v0, v1] t)).drew u') : LieAt u.heap.size 0 [v0, v1] u' :=
  LieAt.keep hb (by simp [LieAt, go_sem])

/-- a cell of another block is written -/
theorem LieAt.far {u : World} {n m i : Nat} {v : Value} (h : n ≠ m) : ∀ {o : Nat} {vs : List Value}, LieAt n o vs u → LieAt n o vs (u.setCell ⟨m, i, none⟩ v)
  | _, [], hl => by simpa [LieAt] using hl
  | o, x :: vs, hl => ⟨(World.cell?_of_block (w := u) (Below.heap_setCell u ⟨m, i, none⟩ v n h)).trans hl.1, by rw [World.frozen?_setCell]; exact hl.2.1, LieAt.far h hl.2.2⟩
theorem Lie.far {u : World} {m i : Nat} {v : Value} : ∀ {bs : List (Nat × List Value)}, (∀ b ∈ bs, b.1 ≠ m) → Lie bs u → Lie bs (u.setCell ⟨m, i, none⟩ v)
  | [], _, _ => trivial
  | b :: bs, h, hl => ⟨LieAt.far (h b (List.mem_cons_self ..)) hl.1, Lie.far (fun c hc => h c (List.mem_cons_of_mem _ hc)) hl.2⟩
theorem Keep.far {w u : World} {bs : List (Nat × List Value)} {m i : Nat} {v : Value} (h : Keep w bs u) (hm : w.heap.size ≤ m) (hf : ∀ b ∈ bs, b.1 ≠ m) : Keep w bs (u.setCell ⟨m, i, none⟩ v) :=
  ⟨h.1.far hf, by simpa using h.2.1, h.2.2.setCell hm v⟩
theorem Lie.lt {u : World} : ∀ {bs : List (Nat × List Value)}, Lie bs u → ∀ b ∈ bs, b.1 < u.heap.size
  | [], _, _, hb => by cases hb
  | c :: bs, h, b, hb => by
    rcases List.mem_cons.1 hb with rfl | hb
    · exact LieAt.lt h.1
    · exact Lie.lt h.2 b hb
/-- a block that came later is written -/
theorem Keep.far4 {w u u0 : World} {bs : List (Nat × List Value)} {v0 v1 v2 v3 : Value} (h : Keep w bs u) (h0 : Keep w bs u0) :
    Keep w bs ((((u.setCell ⟨u0.heap.size, 0, none⟩ v0).setCell ⟨u0.heap.size, 1, none⟩ v1).setCell ⟨u0.heap.size, 2, none⟩ v2).setCell ⟨u0.heap.size, 3, none⟩ v3) := by
  have hm := h0.2.1
  have hf : ∀ b ∈ bs, b.1 ≠ u0.heap.size := fun b hb => Nat.ne_of_lt (Lie.lt h0.1 b hb)
  exact (((h.far hm hf).far hm hf).far hm hf).far hm hf
theorem Keep.far4' {w u : World} {bs : List (Nat × List Value)} {m : Nat} {v0 v1 v2 v3 : Value} (h : Keep w bs u) (hm : w.heap.size ≤ m) (hf : ∀ b ∈ bs, b.1 ≠ m) :
    Keep w bs ((((u.setCell ⟨m, 0, none⟩ v0).setCell ⟨m, 1, none⟩ v1).setCell ⟨m, 2, none⟩ v2).setCell ⟨m, 3, none⟩ v3) :=
  (((h.far hm hf).far hm hf).far hm hf).far hm hf
/-- the later block is named too: laid just now -/
theorem Keep.name4 {w u : World} {bs : List (Nat × List Value)} {v0 v1 v2 v3 : Value} {t : TypeId} (h : Keep w bs u) : Keep w ((u.heap.size, [v0, v1, v2, v3]) :: bs) (u.alloc (.cells #[v0, v1, v2, v3] t)) :=
  (h.alloc _).more (by simp [LieAt, go_sem])
theorem Keep.name2 {w u : World} {bs : List (Nat × List Value)} {v0 v1 : Value} {t : TypeId} (h : Keep w bs u) : Keep w ((u.heap.size, [v0, v1]) :: bs) (u.alloc (.cells #[v0, v1] t)) :=
  (h.alloc _).more (by simp [LieAt, go_sem])
/-- a block that came later is written -/
theorem Keep.far2 {w u u0 : World} {bs : List (Nat × List Value)} {v0 v1 : Value} (h : Keep w bs u) (h0 : Keep w bs u0) :
    Keep w bs ((u.setCell ⟨u0.heap.size, 0, none⟩ v0).setCell ⟨u0.heap.size, 1, none⟩ v1) := by
  have hm := h0.2.1
  have hf : ∀ b ∈ bs, b.1 ≠ u0.heap.size := fun b hb => Nat.ne_of_lt (Lie.lt h0.1 b hb)
  exact (h.far hm hf).far hm hf
theorem Keep.nameSet2 {w u u0 : World} {bs : List (Nat × List Value)} {x0 x1 v0 v1 : Value} (h : Keep w bs u) (h0 : Keep w bs u0) (hz : LieAt u0.heap.size 0 [x0, x1] u) :
    Keep w ((u0.heap.size, [v0, v1]) :: bs) ((u.setCell ⟨u0.heap.size, 0, none⟩ v0).setCell ⟨u0.heap.size, 1, none⟩ v1) := by
  refine (h.far2 h0).more ?_
  simp only [LieAt, Nat.reduceAdd] at hz ⊢
  obtain ⟨z0, y0, z1, y1, hl⟩ := hz
  simp [World.cell?_setCell_same', World.cell?_setCell_other, z0, z1, y0, y1, hl]
/-- or written just now -/
theorem Keep.nameSet4 {w u u0 : World} {bs : List (Nat × List Value)} {x0 x1 x2 x3 v0 v1 v2 v3 : Value} (h : Keep w bs u) (h0 : Keep w bs u0) (hz : LieAt u0.heap.size 0 [x0, x1, x2, x3] u) :
    Keep w ((u0.heap.size, [v0, v1, v2, v3]) :: bs) ((((u.setCell ⟨u0.heap.size, 0, none⟩ v0).setCell ⟨u0.heap.size, 1, none⟩ v1).setCell ⟨u0.heap.size, 2, none⟩ v2).setCell ⟨u0.heap.size, 3, none⟩ v3) := by
  refine (h.far4 h0).more ?_
  simp only [LieAt, Nat.reduceAdd] at hz ⊢
  obtain ⟨z0, y0, z1, y1, z2, y2, z3, y3, hl⟩ := hz
  simp [World.cell?_setCell_same', World.cell?_setCell_other, z0, z1, z2, z3, y0, y1, y2, y3, hl]
end Go.Proofs.Ytloobijdpchppaa

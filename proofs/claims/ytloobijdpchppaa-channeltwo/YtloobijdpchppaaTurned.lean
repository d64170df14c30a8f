/- Which blocks a call may have turned: all that lay there lies as it lay but for those that are named. Slices of the call's own, told by a list, with the block in which they lie. Over any program. -/
import Derived.WalkKit
import Derived.Below
import Derived.OwnWalk
import Derived.Maps.AppendAt
import Derived.Deep.RegionLaw
namespace Go.Proofs.Ytloobijdpchppaa
open Go.RowKit
set_option linter.unusedVariables false

/-- but for the blocks S all that lay in w lies in w' as it lay -/
structure Turned (S : List Nat) (w w' : World) : Prop where
  os : w'.os = w.os
  tape : w'.tape = w.tape
  output : w'.output = w.output
  size : w.heap.size ≤ w'.heap.size
  block : ∀ k, k < w.heap.size → k ∉ S → w'.heap[k]? = w.heap[k]?
namespace Turned
variable {S S' : List Nat} {w w' w'' : World}
theorem refl (S : List Nat) (w : World) : Turned S w w := ⟨rfl, rfl, rfl, Nat.le_refl _, fun _ _ _ => rfl⟩
theorem mono (h : Turned S w w') (hs : ∀ k ∈ S, k < w.heap.size → k ∈ S') : Turned S' w w' :=
  ⟨h.os, h.tape, h.output, h.size, fun k hk hn => h.block k hk fun hm => hn (hs k hm hk)⟩
theorem trans (h : Turned S w w') (h' : Turned S' w' w'') (hs : ∀ k ∈ S', k < w.heap.size → k ∈ S) : Turned S w w'' :=
  ⟨h'.os.trans h.os, h'.tape.trans h.tape, h'.output.trans h.output, Nat.le_trans h.size h'.size, fun k hk hn => (h'.block k (Nat.lt_of_lt_of_le hk h.size) fun hm => hn (hs k hm hk)).trans (h.block k hk hn)⟩
theorem drew (h : Turned S w w') : Turned S w w'.drew := ⟨h.os, h.tape, h.output, h.size, h.block⟩
theorem alloc (h : Turned S w w') (o : Obj) : Turned S w (w'.alloc o) :=
  h.trans (S' := []) ⟨rfl, rfl, rfl, by simp, fun k hk _ => Below.heap_alloc _ _ _ hk⟩ (by simp)
theorem setCell (h : Turned S w w') {p : Addr} (hp : p.block ∈ S ∨ w.heap.size ≤ p.block) (u : Value) : Turned S w (w'.setCell p u) :=
  h.trans (S' := [p.block]) ⟨rfl, rfl, rfl, by simp [World.setCell], fun k hk hn => Below.heap_setCell _ _ _ _ (by simpa using hn)⟩ (by
    intro k hk hl
    simp at hk
    subst hk
    rcases hp with h | h
    · exact h
    · omega)
theorem grown (h : Turned S w w') {row : Option Nat} (hg : w'.grownBy w'' row) (hr : ∀ k, row = some k → k ∈ S ∨ w.heap.size ≤ k) : Turned S w w'' :=
  h.trans (S' := row.toList) ⟨hg.os, hg.tape, hg.output, hg.size, fun k hk hn => hg.block k hk fun e => hn (by rw [← e]; simp)⟩ (by
    intro k hk hl
    have e : row = some k := by simpa using hk
    rcases hr k e with h | h
    · exact h
    · omega)
theorem ofBelow (h : Below w.heap.size w w') : Turned [] w w' := ⟨h.os, h.tape, h.output, h.size, fun k hk _ => h.block k hk⟩
theorem below {B : Nat} (h : Turned S w w') (hB : B ≤ w.heap.size) (hs : ∀ k ∈ S, B ≤ k) : Below B w w' :=
  ⟨h.os, h.tape, h.output, h.size, fun k hk => h.block k (Nat.lt_of_lt_of_le hk hB) fun hm => by have := hs k hm; omega⟩
theorem none (h : Turned [] w w') : Below w.heap.size w w' := h.below (Nat.le_refl _) (by simp)
theorem cell (h : Turned S w w') {p : Addr} (hl : p.block < w.heap.size) (hn : p.block ∉ S) : w'.cell? p = w.cell? p := World.cell?_of_block (w := w) (h.block p.block hl hn)
theorem frozen (h : Turned S w w') {p : Addr} (hl : p.block < w.heap.size) (hn : p.block ∉ S) : w'.frozen? p = w.frozen? p := World.frozen?_of_block (w := w) (h.block p.block hl hn)
end Turned

/-- the block of a slice of the call's own -/
def blk (v : Value) : List Nat := v.ownBlock.toList
/-- v owns the elements l, sz cells each -/
def OwnL {α : Type} (e : TypeId) (sz : Nat) (enc : α → List Value) (v : Value) (l : List α) (w : World) : Prop := w.ownsRow 0 e sz v l.length (l.flatMap enc)
/-- what the program's table says of a slice's type and its elements' -/
structure ElemOk (P : Program) (t e : TypeId) (z : Value) (sz bytes : Nat) : Prop where
  und : P.underlying t = some (.slice e)
  info : (P.info? e).map (fun i => (i.zero, i.size, i.bytes)) = some (some z, sz, bytes)
  zs : z.cells.size = sz
  pos : 0 < sz

section
variable {α : Type} {e : TypeId} {sz : Nat} {enc : α → List Value} {v : Value} {l : List α} {w w' : World} {S : List Nat}
theorem blk_nil : blk (.slice Option.none 0 0) = [] := rfl
theorem OwnL.nil (e : TypeId) (sz : Nat) (enc : α → List Value) (w : World) : OwnL e sz enc (.slice Option.none 0 0) [] w := World.ownsRow_nil _ _ _ _
theorem OwnL.lt (h : OwnL e sz enc v l w) : ∀ k ∈ blk v, k < w.heap.size := by
  intro k hk
  exact (World.ownsRow.lt h k (by simpa [blk] using hk)).2
theorem OwnL.keep (h : OwnL e sz enc v l w) (ht : Turned S w w') (hd : ∀ k ∈ blk v, k ∉ S) : OwnL e sz enc v l w' := by
  refine ⟨h.1, ?_⟩
  have hlt := h.lt
  rcases h.2 with hn | ⟨g, cap, cur, rfl, hg, hgg, rest⟩
  · exact .inl hn
  · refine .inr ⟨g, cap, cur, rfl, hg, ?_, rest⟩
    have hm : g ∈ blk (.slice (some ⟨g, 0, Option.none⟩) l.length cap) := by simp [blk, Value.ownBlock]
    rw [ht.block g (hlt g hm) (hd g hm)]
    exact hgg
theorem OwnL.form (h : OwnL e sz enc v l w) : ∃ oa cap, v = .slice oa l.length cap ∧ l.length ≤ cap ∧ cap ≤ maxLen := by
  rcases h.2 with ⟨rfl, hn⟩ | ⟨g, cap, cur, rfl, hg, hgg, h1, h2, _⟩
  · exact ⟨Option.none, 0, by rw [hn], by omega, by unfold maxLen; omega⟩
  · exact ⟨_, _, rfl, h1, h2⟩
theorem flat_at {f : α → List Value} (hf : ∀ a ∈ l, (f a).length = sz) {i j : Nat} {a : α} (hi : l[i]? = some a) (hj : j < sz) : (l.flatMap f)[i * sz + j]? = (f a)[j]? := by
  induction l generalizing i with
  | nil => simp at hi
  | cons b l ih =>
    rw [List.flatMap_cons]
    have hb := hf b (List.mem_cons_self ..)
    cases i with
    | zero =>
      simp at hi
      subst hi
      rw [Nat.zero_mul, Nat.zero_add, List.getElem?_append_left (by omega)]
    | succ i =>
      rw [Nat.add_mul, Nat.one_mul, List.getElem?_append_right (by omega), hb, show i * sz + sz + j - sz = i * sz + j by omega]
      exact ih (fun a ha => hf a (List.mem_cons_of_mem _ ha)) (by simpa using hi)
/-- an element's cells, where they lie -/
theorem OwnL.cell (h : OwnL e sz enc v l w) (hf : ∀ a ∈ l, (enc a).length = sz) {i : Nat} {a : α} (hi : l[i]? = some a) :
    ∃ g cap, v = .slice (some ⟨g, 0, Option.none⟩) l.length cap ∧ blk v = [g] ∧ g < w.heap.size ∧ ∀ j u, (enc a)[j]? = some u → w.cell? ⟨g, i * sz + j, Option.none⟩ = some u ∧ w.frozen? ⟨g, i * sz + j, Option.none⟩ = false := by
  have hil : i < l.length := (List.getElem?_eq_some_iff.1 hi).1
  have hcells := fun g hg => World.ownsRow.cells h (g := g) hg
  rcases h.2 with ⟨rfl, hn⟩ | ⟨g, cap, cur, rfl, hg, hgg, h1, h2, _⟩
  · omega
  · refine ⟨g, cap, rfl, rfl, (Array.getElem?_eq_some_iff.1 hgg).1, fun j u hu => ⟨?_, by simp [World.frozen?, hgg]⟩⟩
    have hj : j < sz := by rw [← hf a (List.mem_of_getElem? hi)]; exact (List.getElem?_eq_some_iff.1 hu).1
    have := hcells g rfl (i * sz + j) u (by rw [flat_at hf hi hj]; exact hu)
    rw [Addr.add_lit, Nat.zero_add] at this
    exact this
theorem flat_one {β : Type} (f : α → β) : ∀ l : List α, l.flatMap (fun a => [f a]) = l.map f
  | [] => rfl
  | a :: l => by rw [List.flatMap_cons, flat_one f l]; rfl
/-- an element of one cell is written -/
theorem OwnL.set {f : α → Value} (h : OwnL e 1 (fun a => [f a]) v l w) {g i : Nat} {oc : Nat} (hv : v = .slice (some ⟨g, 0, Option.none⟩) l.length oc) (hi : i < l.length) (a : α) :
    OwnL e 1 (fun a => [f a]) v (l.set i a) (w.setCell ⟨g, i, Option.none⟩ (f a)) := by
  rcases h.2 with ⟨rfl, hn⟩ | ⟨g', cap, cur, hv', hg, hgg, h1, h2, h3, h4⟩
  · omega
  · have heq : g' = g ∧ cap = oc := by rw [hv] at hv'; simp at hv'; exact ⟨hv'.1.symm, hv'.2.symm⟩
    obtain ⟨rfl, rfl⟩ := heq
    refine ⟨by rw [flat_one]; simp, .inr ⟨g', cap, cur.setIfInBounds i (f a), by rw [hv, List.length_set], hg, ?_, by rw [List.length_set]; exact h1, h2, by simpa using h3, ?_⟩⟩
    · have hlt := (Array.getElem?_eq_some_iff.1 hgg).1
      simp only [World.setCell, Array.getElem?_modify, if_true]
      rw [hgg]
      rfl
    · rw [Nat.mul_one] at h4 ⊢
      rw [List.length_set]
      rw [flat_one, List.map_set, ← flat_one f l, ← h4]
      simp [List.take_set]

/-- 'append(v, r...)' onto a slice of the call's own -/
theorem run_push {P : Program} {t : TypeId} {z : Value} {bytes : Nat} (E : ElemOk P t e z sz bytes) (ty : TypeId) (h : OwnL e sz enc v l w) (b off c : Nat) (r : List α)
    (hlen : ∀ a ∈ r, (enc a).length = sz) (hone : ∀ a ∈ r, ∀ u ∈ enc a, u.oneCell' = true) (hc : ∀ j u, (r.flatMap enc)[j]? = some u → w.cell? ⟨b, off + j, Option.none⟩ = some u)
    (h63 : l.length + r.length ≤ maxLen) (hb : (l.length + r.length) * bytes ≤ 140737488355328) :
    ∃ v' w', (Builtin.append_ #[t, t] ty #[v, .slice (some ⟨b, off, Option.none⟩) r.length c]).run P w = .ok v' w' ∧ OwnL e sz enc v' (l ++ r) w' ∧ Turned (blk v) w w' ∧ (blk v' = blk v ∨ blk v' = [w.heap.size]) := by
  obtain ⟨i0, hi, hz0, hz1, hz2⟩ := info_parts E.info
  have hfl : ∀ (r : List α), (∀ a ∈ r, (enc a).length = sz) → (r.flatMap enc).length = r.length * sz := by
    intro r
    induction r with
    | nil => intro _; simp
    | cons a r ih =>
      intro hl
      rw [List.flatMap_cons, List.length_append, hl a (List.mem_cons_self ..), ih fun x hx => hl x (List.mem_cons_of_mem _ hx), List.length_cons, Nat.add_mul]
      omega
  obtain ⟨v', w', h1, h2, h3, _, h5⟩ := run_append_own_at (P := P) w 0 t ty e i0 z sz bytes E.und hi hz0 hz1 hz2 E.zs E.pos v l.length (l.flatMap enc) h ⟨b, off, Option.none⟩ r.length c (r.flatMap enc) (hfl r hlen)
    (by intro j u hj; rw [Addr.add_lit]; exact hc j u hj)
    (by
      intro u hu
      obtain ⟨a, ha, hu⟩ := List.mem_flatMap.1 hu
      exact hone a ha u hu) h63 hb (Nat.zero_le _)
  refine ⟨v', w', h1, ?_, ⟨h3.os, h3.tape, h3.output, h3.size, fun k hk hn => h3.block k hk fun e => hn (by unfold blk; rw [← e]; simp)⟩, ?_⟩
  · unfold OwnL
    rw [List.length_append, List.flatMap_append]
    exact h2
  · rcases h5 with h | h
    · left; unfold blk; rw [h]
    · right; unfold blk; rw [h]; rfl
/-- the same, in a walk -/
theorem wp_push {P : Program} {t : TypeId} {z : Value} {bytes : Nat} (E : ElemOk P t e z sz bytes) {ops : Array Oper} {rest : List Oper} {o : Oper} {a : Act} {Q : Exit → Act → World → Prop} (hgd : o.guard = Option.none) (s x : Operand)
    (ho : o.op = .call { callee := .builtin .append, args := #[s, x], argTypes := #[t, t] })
    (hs : a.eval s = v) (h : OwnL e sz enc v l w) (b off n c : Nat) (r : List α) (hn : r.length = n) (hx : a.eval x = .slice (some ⟨b, off, Option.none⟩) n c)
    (hlen : ∀ a ∈ r, (enc a).length = sz) (hone : ∀ a ∈ r, ∀ u ∈ enc a, u.oneCell' = true) (hc : ∀ j u, (r.flatMap enc)[j]? = some u → w.cell? ⟨b, off + j, Option.none⟩ = some u)
    (h63 : l.length + n ≤ maxLen) (hb : (l.length + n) * bytes ≤ 140737488355328)
    (hk : ∀ v' w', OwnL e sz enc v' (l ++ r) w' → Turned (blk v) w w' → (blk v' = blk v ∨ blk v' = [w.heap.size]) → wpList P ops Q rest (a.put o.dst v') w') :
    wpList P ops Q (o :: rest) a w := by
  subst hn
  obtain ⟨v', w', hr, h2, h3, h4⟩ := run_push E o.type h b off c r hlen hone hc h63 hb
  refine wpList_plain hgd fun K hK => ?_
  unfold Oper.wp execOp
  simp only [ho, resolve, invoke, builtin, Sem.run_bind, Sem.run_pure, Result.andThen_ok, List.map_toArray, List.map_cons, List.map_nil, hs, hx, hr]
  exact hK _ _ (hk v' w' h2 h3 h4)
/-- the same, as a step of a region that draws its order -/
theorem step_push {P : Program} {t : TypeId} {z : Value} {bytes : Nat} (E : ElemOk P t e z sz bytes) {ops : Array Oper} {o : Oper} {a : Act} {K : Act → World → Prop} {Q : Exit → Act → World → Prop} {E' : Prop} (hgd : o.guard = Option.none) (s x : Operand)
    (ho : o.op = Op.call { callee := Callee.builtin Builtin.append, args := #[s, x], argTypes := #[t, t] })
    (hs : a.eval s = v) (h : OwnL e sz enc v l w) (b off n c : Nat) (r : List α) (hn : r.length = n) (hx : a.eval x = .slice (some ⟨b, off, Option.none⟩) n c)
    (hlen : ∀ a ∈ r, (enc a).length = sz) (hone : ∀ a ∈ r, ∀ u ∈ enc a, u.oneCell' = true) (hc : ∀ j u, (r.flatMap enc)[j]? = some u → w.cell? ⟨b, off + j, Option.none⟩ = some u)
    (h63 : l.length + n ≤ maxLen) (hb : (l.length + n) * bytes ≤ 140737488355328)
    (hk : ∀ v' w', OwnL e sz enc v' (l ++ r) w' → Turned (blk v) w w' → (blk v' = blk v ∨ blk v' = [w.heap.size]) → K (a.put o.dst v') w') :
    if Region.wanted o (yielded ops a.tmps) = true then Oper.wp P o a w K Q else E' := by
  subst hn
  have hw : Region.wanted o (yielded ops a.tmps) = true := by simp [Region.wanted, hgd]
  rw [if_pos hw]
  obtain ⟨v', w', hr, h2, h3, h4⟩ := run_push E o.type h b off c r hlen hone hc h63 hb
  unfold Oper.wp
  simp [execOp, ho, resolve, invoke, builtin, hs, hx, hr, Result.andThen]
  exact hk v' w' h2 h3 h4
end
end Go.Proofs.Ytloobijdpchppaa

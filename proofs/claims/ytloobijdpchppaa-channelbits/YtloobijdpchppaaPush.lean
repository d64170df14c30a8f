/- 'append(v, r...)' onto a slice of the call's own, from whatever slice r, nil and empty too; a struct of the call's own that holds such a slice. Over any program. -/
import Derived.Test.YtloobijdpchppaaTurned
import Derived.Test.YtloobijdpchppaaFlat
import Derived.Deep.Upon
namespace Go.Proofs.Ytloobijdpchppaa
open Go.RowKit
set_option linter.unusedVariables false

section
variable {P : Program} {α : Type} {t e : TypeId} {z : Value} {sz bytes : Nat} {enc : α → List Value} {v : Value} {l : List α} {w w' : World} {S : List Nat}
theorem run_pushAll (E : ElemOk P t e z sz bytes) (ty : TypeId) (h : OwnL e sz enc v l w) (oa : Option Addr) (n c : Nat) (r : List α) (hn : r.length = n) (hr : RowOf sz enc oa r w)
    (hlen : ∀ a ∈ r, (enc a).length = sz) (hone : ∀ a ∈ r, ∀ u ∈ enc a, u.oneCell' = true) (h63 : l.length + n ≤ maxLen) (hb : (l.length + n) * bytes ≤ 140737488355328) :
    ∃ v' w', (Builtin.append_ #[t, t] ty #[v, .slice oa n c]).run P w = .ok v' w' ∧ OwnL e sz enc v' (l ++ r) w' ∧ Turned (blk v) w w' ∧ (blk v' = blk v ∨ blk v' = [w.heap.size]) := by
  subst hn
  by_cases hr0 : r = []
  · subst hr0
    obtain ⟨i0, hi, hz0, hz1, hz2⟩ := info_parts E.info
    obtain ⟨ob, cap, hv, hle, _⟩ := h.form
    refine ⟨v, w, ?_, by rw [List.append_nil]; exact h, Turned.refl _ _, .inl rfl⟩
    rw [hv]
    cases oa with
    | none => exact run_append_nothing w t t ty e i0 E.und hi ob l.length cap hle _ (Src.ofNil w E.und c)
    | some a => exact run_append_nothing w t t ty e i0 E.und hi ob l.length cap hle _ (Src.ofSlice w E.und a 0 c [] (by simp) (by simp) (by simp))
  · obtain ⟨a0, hr0⟩ : ∃ a0, r[0]? = some a0 := by
      cases r with
      | nil => exact absurd rfl hr0
      | cons a r => exact ⟨a, rfl⟩
    obtain ⟨b, off, rfl, _, _⟩ := hr 0 a0 hr0
    refine run_push E ty h b off c r hlen hone ?_ h63 hb
    intro j u hj
    have hjl : j < (r.flatMap enc).length := (List.getElem?_eq_some_iff.1 hj).1
    have hfl : ∀ (r : List α), (∀ a ∈ r, (enc a).length = sz) → (r.flatMap enc).length = r.length * sz := by
      intro r
      induction r with
      | nil => intro _; simp
      | cons a r ih =>
        intro hl
        rw [List.flatMap_cons, List.length_append, hl a (List.mem_cons_self ..), ih fun x hx => hl x (List.mem_cons_of_mem _ hx), List.length_cons, Nat.add_mul]
        omega
    rw [hfl r hlen] at hjl
    have hpos := E.pos
    have hi : j / sz < r.length := by rw [Nat.div_lt_iff_lt_mul hpos]; exact hjl
    have hm : j % sz < sz := Nat.mod_lt _ hpos
    have hd : j / sz * sz + j % sz = j := by rw [Nat.mul_comm]; exact Nat.div_add_mod j sz
    obtain ⟨b', off', ho, _, hc'⟩ := hr (j / sz) r[j / sz] (List.getElem?_eq_getElem hi)
    simp at ho
    obtain ⟨rfl, rfl⟩ := ho
    have e1 := flat_at hlen (List.getElem?_eq_getElem hi) hm
    rw [hd, hj] at e1
    have := hc' (j % sz) u e1.symm
    rw [Nat.add_assoc, hd] at this
    exact this
theorem wp_pushAll (E : ElemOk P t e z sz bytes) {ops : Array Oper} {rest : List Oper} {o : Oper} {a : Act} {Q : Exit → Act → World → Prop} (hgd : o.guard = Option.none) (s x : Operand)
    (ho : o.op = .call { callee := .builtin .append, args := #[s, x], argTypes := #[t, t] })
    (hs : a.eval s = v) (h : OwnL e sz enc v l w) (oa : Option Addr) (n c : Nat) (r : List α) (hn : r.length = n) (hx : a.eval x = .slice oa n c) (hr : RowOf sz enc oa r w)
    (hlen : ∀ a ∈ r, (enc a).length = sz) (hone : ∀ a ∈ r, ∀ u ∈ enc a, u.oneCell' = true)
    (h63 : l.length + n ≤ maxLen) (hb : (l.length + n) * bytes ≤ 140737488355328)
    (hk : ∀ v' w', OwnL e sz enc v' (l ++ r) w' → Turned (blk v) w w' → (blk v' = blk v ∨ blk v' = [w.heap.size]) → wpList P ops Q rest (a.put o.dst v') w') :
    wpList P ops Q (o :: rest) a w := by
  obtain ⟨v', w', hrun, h2, h3, h4⟩ := run_pushAll E o.type h oa n c r hn hr hlen hone h63 hb
  refine wpList_plain hgd fun K hK => ?_
  unfold Oper.wp execOp
  simp only [ho, resolve, invoke, builtin, Sem.run_bind, Sem.run_pure, Result.andThen_ok, List.map_toArray, List.map_cons, List.map_nil, hs, hx, hrun]
  exact hK _ _ (hk v' w' h2 h3 h4)
theorem step_pushAll (E : ElemOk P t e z sz bytes) {ops : Array Oper} {o : Oper} {a : Act} {K : Act → World → Prop} {Q : Exit → Act → World → Prop} {E' : Prop} (hgd : o.guard = Option.none) (s x : Operand)
    (ho : o.op = Op.call { callee := Callee.builtin Builtin.append, args := #[s, x], argTypes := #[t, t] })
    (hs : a.eval s = v) (h : OwnL e sz enc v l w) (oa : Option Addr) (n c : Nat) (r : List α) (hn : r.length = n) (hx : a.eval x = .slice oa n c) (hr : RowOf sz enc oa r w)
    (hlen : ∀ a ∈ r, (enc a).length = sz) (hone : ∀ a ∈ r, ∀ u ∈ enc a, u.oneCell' = true)
    (h63 : l.length + n ≤ maxLen) (hb : (l.length + n) * bytes ≤ 140737488355328)
    (hk : ∀ v' w', OwnL e sz enc v' (l ++ r) w' → Turned (blk v) w w' → (blk v' = blk v ∨ blk v' = [w.heap.size]) → K (a.put o.dst v') w') :
    if Region.wanted o (yielded ops a.tmps) = true then Oper.wp P o a w K Q else E' := by
  have hw : Region.wanted o (yielded ops a.tmps) = true := by simp [Region.wanted, hgd]
  rw [if_pos hw]
  obtain ⟨v', w', hrun, h2, h3, h4⟩ := run_pushAll E o.type h oa n c r hn hr hlen hone h63 hb
  unfold Oper.wp
  simp [execOp, ho, resolve, invoke, builtin, hs, hx, hrun, Result.andThen]
  exact hk v' w' h2 h3 h4
/-- a row of the call's own, as one that is read -/
theorem OwnL.rowOf (h : OwnL e sz enc v l w) (hlen : ∀ a ∈ l, (enc a).length = sz) : ∃ oa cap, v = .slice oa l.length cap ∧ l.length ≤ cap ∧ l.length ≤ maxLen ∧ RowOf sz enc oa l w ∧ ∀ a, oa = some a → a.spot = Option.none := by
  have hcell := fun i a hi => h.cell hlen (i := i) (a := a) hi
  have hown := h
  rcases h.2 with ⟨rfl, hn⟩ | ⟨g, cap, cur, rfl, hg, hgg, h1, h2, _⟩
  · refine ⟨Option.none, 0, by rw [hn], by omega, by omega, ?_, by simp⟩
    intro i a hi
    have := (List.getElem?_eq_some_iff.1 hi).1
    omega
  · refine ⟨_, cap, rfl, h1, by omega, ?_, by simp⟩
    intro i a hi
    obtain ⟨g', cap', hv, _, hlt, hc⟩ := hcell i a hi
    simp at hv
    obtain ⟨rfl, rfl⟩ := hv
    refine ⟨g, 0, rfl, hlt, fun j u hu => ?_⟩
    rw [Nat.zero_add]
    exact (hc j u hu).1
theorem RowOf.turned {oa : Option Addr} (h : RowOf sz enc oa l w) (ht : Turned S w w') (hd : ∀ a, oa = some a → a.block ∉ S) : RowOf sz enc oa l w' := by
  intro i a hi
  obtain ⟨b, off, ho, hlt, hc⟩ := h i a hi
  exact ⟨b, off, ho, Nat.lt_of_lt_of_le hlt ht.size, fun j u hu => (ht.cell (p := ⟨b, off + i * sz + j, Option.none⟩) hlt (hd ⟨b, off, Option.none⟩ ho)).trans (hc j u hu)⟩
end

/-- a block of the call's own holds these cells -/
def Struct (p : Nat) (cs : List Value) (w : World) : Prop :=
  p < w.heap.size ∧ ∀ j u, cs[j]? = some u → w.cell? ⟨p, j, none⟩ = some u ∧ w.frozen? ⟨p, j, none⟩ = false
theorem Struct.keep {p : Nat} {cs : List Value} {w w' : World} {S : List Nat} (h : Struct p cs w) (ht : Turned S w w') (hd : p ∉ S) : Struct p cs w' :=
  ⟨Nat.lt_of_lt_of_le h.1 ht.size, fun j u hu => ⟨(ht.cell (p := ⟨p, j, none⟩) h.1 hd).trans (h.2 j u hu).1, (ht.frozen (p := ⟨p, j, none⟩) h.1 hd).trans (h.2 j u hu).2⟩⟩
theorem Struct.new (w : World) (cs : List Value) (t : TypeId) : Struct w.heap.size cs (w.alloc (.cells cs.toArray t)) := by
  refine ⟨by simp, fun j u hu => ⟨?_, by simp⟩⟩
  simp [go_sem, hu]
theorem Struct.set {p i : Nat} {cs : List Value} {w : World} (h : Struct p cs w) (hi : i < cs.length) (v : Value) : Struct p (cs.set i v) (w.setCell ⟨p, i, none⟩ v) := by
  refine ⟨by simpa using h.1, fun j u hu => ?_⟩
  have hj : j < cs.length := by have := (List.getElem?_eq_some_iff.1 hu).1; simpa using this
  have h0 := h.2 j cs[j] (List.getElem?_eq_getElem hj)
  refine ⟨?_, by rw [World.frozen?_setCell]; exact h0.2⟩
  by_cases e : i = j
  · subst e
    rw [List.getElem?_set_self hi] at hu
    simp at hu
    subst hu
    simp [World.cell?_setCell_same', h0.1]
  · rw [List.getElem?_set_ne e] at hu
    rw [World.cell?_setCell_other]
    · exact (h.2 j u hu).1
    · simp
end Go.Proofs.Ytloobijdpchppaa

/- A slice of bytes of the call's own, told by a list of numbers: append one byte, append a whole row. -/
import Derived.Test.YtdaedmbdoniaiaaRows
import Derived.Test.YtdaedmbdoniaiaaCrcRow
import Derived.WalkKit
import Derived.OwnWalk
import Derived.Below
import Derived.Deep.RegionLaw
namespace Go.Proofs.Ytdaedmbdoniaiaa
open Go.RowKit
set_option linter.unusedVariables false

def bv (x : Nat) : Value := .int .u8 (x : Int)
/-- v owns the bytes l, among the blocks from base on -/
def Own (base : Nat) (v : Value) (l : List Nat) (w : World) : Prop := w.ownsRow base 5 1 v l.length (l.map bv)
theorem info_u8 : (Try.prog.info? 5).map (fun i => (i.zero, i.size, i.bytes)) = some (some (.int .u8 0), 1, 1) := by kernel_rfl

theorem Own.nil (base : Nat) (w : World) : Own base (.slice none 0 0) [] w := World.ownsRow_nil _ _ _ _
theorem Own.alloc {base : Nat} {v : Value} {l : List Nat} {w : World} (h : Own base v l w) (o : Obj) : Own base v l (w.alloc o) := World.ownsRow.alloc h o
theorem Own.drew {base : Nat} {v : Value} {l : List Nat} {w : World} (h : Own base v l w) : Own base v l w.drew := h
/-- nothing that lay there has turned -/
theorem Own.keep {base : Nat} {v : Value} {l : List Nat} {w u : World} (h : Own base v l w) (hb : Below w.heap.size w u) : Own base v l u := by
  refine ⟨h.1, ?_⟩
  rcases h.2 with hn | ⟨g, cap, cur, rfl, hg, hgg, rest⟩
  · exact .inl hn
  · exact .inr ⟨g, cap, cur, rfl, hg, by rw [hb.block g (Array.getElem?_eq_some_iff.1 hgg).1]; exact hgg, rest⟩
/-- as a row that is read -/
theorem Own.row {base : Nat} {v : Value} {l : List Nat} {w : World} (h : Own base v l w) : ∃ oa cap, v = .slice oa l.length cap ∧ Row oa l w ∧ l.length ≤ maxLen := by
  have hcells := fun g hg => World.ownsRow.cells h (g := g) hg
  have hlt := World.ownsRow.lt h
  rcases h.2 with ⟨rfl, hn⟩ | ⟨g, cap, cur, rfl, hg, hgg, h1, h2, _⟩
  · exact ⟨none, 0, by rw [hn], fun i hi => absurd hi (by omega), by omega⟩
  · refine ⟨_, _, rfl, ?_, by omega⟩
    intro i hi
    refine ⟨g, 0, rfl, (hlt g rfl).2, ?_⟩
    have := hcells g rfl i (bv (l.getD i 0)) (by simp [bv, List.getD, List.getElem?_eq_getElem hi])
    rw [Addr.add_lit] at this
    exact this
/-- 'append(v, x)' of one byte, that was laid in block b -/
theorem wp_put {ops : Array Oper} {rest : List Oper} {o : Oper} {a : Act} {Q : Exit → Act → World → Prop} (w : World) (hgd : o.guard = none) (s x : Operand)
    (ho : o.op = .call { callee := .builtin .append, args := #[s, x], argTypes := #[23, 23] })
    (base : Nat) (v : Value) (l : List Nat) (hs : a.eval s = v) (hown : Own base v l w) (b z : Nat) (hx : a.eval x = .slice (some ⟨b, 0, none⟩) 1 1)
    (hc : w.cell? ⟨b, 0, none⟩ = some (.int .u8 (z : Int))) (hl : l.length + 1 ≤ 140737488355328) (hbase : base ≤ w.heap.size)
    (h : ∀ v' w', Own base v' (l ++ [z]) w' → Below base w w' → wpList Try.prog ops Q rest (a.put o.dst v') w') :
    wpList Try.prog ops Q (o :: rest) a w := by
  obtain ⟨i0, hi, hz0, hz1, hz2⟩ := info_parts info_u8
  refine wpList_append_own w hgd s x 23 ho base 5 i0 (.int .u8 0) 1 1 (by kernel_rfl) hi hz0 hz1 hz2 rfl (by decide) v l.length (l.map bv) hs hown ⟨b, 0, none⟩ 1 1 [bv z] hx rfl ?_ ?_ ?_ ?_ hbase ?_
  · intro j u hj
    match j, hj with
    | 0, hj => simp at hj; subst hj; simpa [Addr.add, bv] using hc
  · intro u hu; simp at hu; subst hu; rfl
  · unfold maxLen; omega
  · omega
  · intro v' w' ho' hg _
    refine h v' w' ?_ ((Below.refl _ _).grown hg hbase fun k hk => (World.ownsRow.lt hown k hk).1)
    simpa [Own] using ho'
/-- the same, as a step of a region that draws its order -/
theorem step_put {ops : Array Oper} {o : Oper} {a : Act} {w : World} {K : Act → World → Prop} {Q : Exit → Act → World → Prop} {E : Prop}
    (hgd : o.guard = none) (s x : Operand) (ho : o.op = Op.call { callee := Callee.builtin Builtin.append, args := #[s, x], argTypes := #[23, 23] })
    (base : Nat) (v : Value) (l : List Nat) (hs : a.eval s = v) (hown : Own base v l w) (b z : Nat) (hx : a.eval x = .slice (some ⟨b, 0, none⟩) 1 1)
    (hc : w.cell? ⟨b, 0, none⟩ = some (.int .u8 (z : Int))) (hl : l.length + 1 ≤ 140737488355328) (hbase : base ≤ w.heap.size)
    (h : ∀ v' w', Own base v' (l ++ [z]) w' → Below base w w' → K (a.put o.dst v') w') :
    if Region.wanted o (yielded ops a.tmps) = true then Oper.wp Try.prog o a w K Q else E := by
  have hw : Region.wanted o (yielded ops a.tmps) = true := by simp [Region.wanted, hgd]
  rw [if_pos hw]
  obtain ⟨i0, hi, hz0, hz1, hz2⟩ := info_parts info_u8
  obtain ⟨v', w', hrun, ho', hg, _⟩ := run_append_own (P := Try.prog) w base 23 o.type 5 i0 (.int .u8 0) 1 1 (by kernel_rfl) hi hz0 hz1 hz2 rfl (by decide) v l.length (l.map bv) hown ⟨b, 0, none⟩ 1 1 [bv z] rfl
    (by
      intro j u hj
      match j, hj with
      | 0, hj => simp at hj; subst hj; simpa [Addr.add, bv] using hc)
    (by intro u hu; simp at hu; subst hu; rfl) (by unfold maxLen; omega) (by omega) hbase
  unfold Oper.wp
  simp [execOp, ho, resolve, invoke, builtin, hs, hx, hrun, Result.andThen]
  refine h v' w' ?_ ((Below.refl _ _).grown hg hbase fun k hk => (World.ownsRow.lt hown k hk).1)
  simpa [Own] using ho'
/-- 'append(v, b...)' of a row of m bytes, 0 < m -/
theorem wp_putAll {ops : Array Oper} {rest : List Oper} {o : Oper} {a : Act} {Q : Exit → Act → World → Prop} (w : World) (hgd : o.guard = none) (s x : Operand)
    (ho : o.op = .call { callee := .builtin .append, args := #[s, x], argTypes := #[23, 23] })
    (base : Nat) (v : Value) (l : List Nat) (hs : a.eval s = v) (hown : Own base v l w) (oa : Option Addr) (r : List Nat) (m c : Nat) (hx : a.eval x = .slice oa m c) (hm : r.length = m)
    (hr : Row oa r w) (h0 : 0 < m) (hl : l.length + m ≤ 140737488355328) (hbase : base ≤ w.heap.size)
    (h : ∀ v' w', Own base v' (l ++ r) w' → Below base w w' → wpList Try.prog ops Q rest (a.put o.dst v') w') :
    wpList Try.prog ops Q (o :: rest) a w := by
  obtain ⟨i0, hi, hz0, hz1, hz2⟩ := info_parts info_u8
  obtain ⟨b, off, rfl, _, _⟩ := hr 0 (by omega)
  refine wpList_append_own w hgd s x 23 ho base 5 i0 (.int .u8 0) 1 1 (by kernel_rfl) hi hz0 hz1 hz2 rfl (by decide) v l.length (l.map bv) hs hown ⟨b, off, none⟩ m c (r.map bv) hx (by simp [hm]) ?_ ?_ ?_ ?_ hbase ?_
  · intro j u hj
    have hj' : j < r.length := by have := (List.getElem?_eq_some_iff.1 hj).1; simpa using this
    obtain ⟨b', off', e, _, hc⟩ := hr j hj'
    simp at e
    obtain ⟨rfl, rfl⟩ := e
    rw [Addr.add_lit, hc]
    simp [List.getElem?_eq_getElem hj'] at hj
    simp [← hj, bv, List.getD, List.getElem?_eq_getElem hj']
  · intro u hu
    simp at hu
    obtain ⟨y, _, rfl⟩ := hu
    rfl
  · unfold maxLen; omega
  · omega
  · intro v' w' ho' hg _
    refine h v' w' ?_ ((Below.refl _ _).grown hg hbase fun k hk => (World.ownsRow.lt hown k hk).1)
    simpa [Own, hm] using ho'

/-- block g holds these bytes, and may be written -/
def Lay (g : Nat) (l : List Nat) (u : World) : Prop :=
  g < u.heap.size ∧ ∀ k, k < l.length → u.cell? ⟨g, k, none⟩ = some (.int .u8 ((l.getD k 0 : Nat) : Int)) ∧ u.frozen? ⟨g, k, none⟩ = false
theorem Lay.keepB {g B : Nat} {l : List Nat} {u u' : World} (h : Lay g l u) (hb : Below B u u') (hg : g < B) : Lay g l u' :=
  ⟨Nat.lt_of_lt_of_le h.1 hb.size, fun k hk => ⟨(hb.cell (p := ⟨g, k, none⟩) hg).trans (h.2 k hk).1, (hb.frozen (p := ⟨g, k, none⟩) hg).trans (h.2 k hk).2⟩⟩
theorem Lay.keep {g : Nat} {l : List Nat} {u u' : World} (h : Lay g l u) (hb : Below u.heap.size u u') : Lay g l u' := h.keepB hb h.1
theorem Lay.drew {g : Nat} {l : List Nat} {u : World} (h : Lay g l u) : Lay g l u.drew := h.keep (Below.refl _ _).drew
theorem Lay.row {g : Nat} {l : List Nat} {u : World} (h : Lay g l u) : Row (some ⟨g, 0, none⟩) l u :=
  fun i hi => ⟨g, 0, rfl, h.1, by rw [Nat.zero_add]; exact (h.2 i hi).1⟩
theorem Lay.put {g i : Nat} {l : List Nat} {u : World} (h : Lay g l u) (hi : i < l.length) (x : Nat) : Lay g (l.set i x) (u.setCell ⟨g, i, none⟩ (.int .u8 (x : Int))) := by
  refine ⟨by simpa using h.1, fun k hk => ⟨?_, by rw [World.frozen?_setCell]; exact (h.2 k (by simpa using hk)).2⟩⟩
  rw [List.length_set] at hk
  by_cases e : k = i
  · subst e
    have := (h.2 k hk).1
    simp [World.cell?_setCell_same', this, List.getD, List.getElem?_set_self hk]
  · rw [World.cell?_setCell_other]
    · rw [(h.2 k hk).1]; simp [List.getD, List.getElem?_set_ne (Ne.symm e)]
    · simp
theorem Own.lay {base : Nat} {v : Value} {l : List Nat} {w : World} (h : Own base v l w) (h0 : 0 < l.length) : ∃ g cap, v = .slice (some ⟨g, 0, none⟩) l.length cap ∧ base ≤ g ∧ Lay g l w := by
  have hcells := fun g hg => World.ownsRow.cells h (g := g) hg
  have hlt := World.ownsRow.lt h
  rcases h.2 with ⟨rfl, hn⟩ | ⟨g, cap, cur, rfl, hg, hgg, h1, h2, _⟩
  · omega
  · refine ⟨g, cap, rfl, hg, (hlt g rfl).2, fun k hk => ⟨?_, by simp [World.frozen?, hgg]⟩⟩
    have := hcells g rfl k (bv (l.getD k 0)) (by simp [bv, List.getD, List.getElem?_eq_getElem hk])
    rw [Addr.add_lit, Nat.zero_add] at this
    exact this
end Go.Proofs.Ytdaedmbdoniaiaa

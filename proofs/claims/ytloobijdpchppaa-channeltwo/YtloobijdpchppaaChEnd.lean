/- One end of two channels, where it lies: its channel, what it sent, what of it is acked, and what came. -/
import Derived.Test.YtloobijdpchppaaChLaw
namespace Go.Proofs.Ytloobijdpchppaa
open Go.RowKit
set_option linter.unusedVariables false

theorem hEnc_len {l : List Ch.H} : ∀ a ∈ l, (hEnc a).length = 4 := fun _ _ => rfl
theorem hEnc_one {l : List Ch.H} : ∀ a ∈ l, ∀ u ∈ hEnc a, u.oneCell' = true := by
  intro a _ u hu
  simp [hEnc] at hu
  rcases hu with rfl | rfl | rfl | rfl <;> rfl

theorem elem_hd : ElemOk Try.prog 75 38 (.agg #[.int .u16 0, .bool false, .int .u16 0, .int .u32 0]) 4 12 := ⟨by kernel_rfl, by kernel_rfl, rfl, by decide⟩

theorem four_cells (h : Ch.H) (w : World) (t : TypeId) : ∀ j u, ([h].flatMap hEnc)[j]? = some u → (w.alloc (.cells #[.int .u16 h.n, .bool h.y, .int .u16 h.a, .int .u32 h.m] t)).cell? ⟨w.heap.size, 0 + j, none⟩ = some u := by
  intro j u hj
  rw [show [h].flatMap hEnc = [.int .u16 h.n, .bool h.y, .int .u16 h.a, .int .u32 h.m] by simp [hEnc]] at hj
  match j, hj with
  | 0, hj => simp at hj; subst hj; simp [go_sem]
  | 1, hj => simp at hj; subst hj; simp [go_sem]
  | 2, hj => simp at hj; subst hj; simp [go_sem]
  | 3, hj => simp at hj; subst hj; simp [go_sem]

/-! lists of blocks that lie apart -/
def Far (A B : List Nat) : Prop := ∀ k ∈ A, k ∉ B
theorem Far.symm {A B : List Nat} (h : Far A B) : Far B A := fun k hk hm => h k hm hk
theorem far_set {L : List (List Nat)} {n i : Nat} {X X' : List Nat} (h : L.Pairwise Far) (hl : ∀ A ∈ L, ∀ k ∈ A, k < n) (hi : L[i]? = some X) (hx : ∀ k ∈ X', k ∈ X ∨ n ≤ k) : (L.set i X').Pairwise Far := by
  induction L generalizing i with
  | nil => simp
  | cons A L ih =>
    rw [List.pairwise_cons] at h
    cases i with
    | zero =>
      simp at hi
      subst hi
      rw [List.set_cons_zero, List.pairwise_cons]
      refine ⟨fun B hB k hk hm => ?_, h.2⟩
      rcases hx k hk with e | e
      · exact h.1 B hB k e hm
      · have := hl B (List.mem_cons_of_mem _ hB) k hm; omega
    | succ i =>
      rw [List.set_cons_succ, List.pairwise_cons]
      refine ⟨fun B hB k hk hm => ?_, ih h.2 (fun B hB => hl B (List.mem_cons_of_mem _ hB)) (by simpa using hi)⟩
      rcases List.mem_or_eq_of_mem_set hB with e | e
      · exact h.1 B e k hk hm
      · subst e
        rcases hx k hm with e | e
        · exact h.1 X (List.mem_of_getElem? (by simpa using hi)) k hk e
        · have := hl A (List.mem_cons_self ..) k hk; omega

/-- block P is one end, e; its channel is block C -/
structure EndAt (P C : Nat) (F : List Nat) (vs va vc : Value) (e : Ch.E) (w : World) : Prop where
  st : Struct P [.pointer (some ⟨C, 0, none⟩), vs, va, vc] w
  ch : CH C F e.s w
  se : OwnL 38 4 hEnc vs e.sent w
  ak : OwnL 4 1 bEnc va e.ack w
  cm : OwnL 4 1 bEnc vc e.came w
  ap : [[P], F, blk vs, blk va, blk vc].Pairwise Far
/-- its blocks -/
def ends (P : Nat) (F : List Nat) (vs va vc : Value) : List Nat := [P] ++ (F ++ (blk vs ++ (blk va ++ blk vc)))
section
variable {P C : Nat} {F : List Nat} {vs va vc : Value} {e : Ch.E} {w w' : World} {S : List Nat}
theorem ends_mem {k : Nat} : k ∈ ends P F vs va vc ↔ k = P ∨ k ∈ F ∨ k ∈ blk vs ∨ k ∈ blk va ∨ k ∈ blk vc := by simp [ends]
theorem EndAt.far (h : EndAt P C F vs va vc e w) : P ∉ F ∧ P ∉ blk vs ∧ P ∉ blk va ∧ P ∉ blk vc ∧ Far F (blk vs) ∧ Far F (blk va) ∧ Far F (blk vc) ∧ Far (blk vs) (blk va) ∧ Far (blk vs) (blk vc) ∧ Far (blk va) (blk vc) := by
  have h0 := h.ap
  simp only [List.pairwise_cons, List.mem_cons, List.not_mem_nil, or_false, forall_eq_or_imp, forall_eq, Far, List.Pairwise.nil, and_true] at h0
  obtain ⟨⟨a1, a2, a3, a4⟩, ⟨b1, b2, b3⟩, ⟨c1, c2⟩, d1, _⟩ := h0
  exact ⟨a1, a2, a3, a4, b1, b2, b3, c1, c2, d1⟩
theorem EndAt.keep (h : EndAt P C F vs va vc e w) (ht : Turned S w w') (hd : ∀ k ∈ ends P F vs va vc, k ∉ S) : EndAt P C F vs va vc e w' :=
  ⟨h.st.keep ht (hd P (ends_mem.2 (.inl rfl))), h.ch.keep ht (fun k hk => hd k (ends_mem.2 (.inr (.inl hk)))), h.se.keep ht (fun k hk => hd k (ends_mem.2 (.inr (.inr (.inl hk))))), h.ak.keep ht (fun k hk => hd k (ends_mem.2 (.inr (.inr (.inr (.inl hk)))))), h.cm.keep ht (fun k hk => hd k (ends_mem.2 (.inr (.inr (.inr (.inr hk)))))), h.ap⟩
theorem EndAt.lt (h : EndAt P C F vs va vc e w) : ∀ k ∈ ends P F vs va vc, k < w.heap.size := by
  intro k hk
  rcases ends_mem.1 hk with rfl | hk | hk | hk | hk
  · exact h.st.1
  · exact h.ch.lt k hk
  · exact h.se.lt k hk
  · exact h.ak.lt k hk
  · exact h.cm.lt k hk
theorem EndAt.lts (h : EndAt P C F vs va vc e w) : ∀ A ∈ [[P], F, blk vs, blk va, blk vc], ∀ k ∈ A, k < w.heap.size := by
  intro A hA k hk
  apply h.lt
  simp only [List.mem_cons, List.not_mem_nil, or_false] at hA
  rcases hA with rfl | rfl | rfl | rfl | rfl
  · exact ends_mem.2 (.inl (by simpa using hk))
  · exact ends_mem.2 (.inr (.inl hk))
  · exact ends_mem.2 (.inr (.inr (.inl hk)))
  · exact ends_mem.2 (.inr (.inr (.inr (.inl hk))))
  · exact ends_mem.2 (.inr (.inr (.inr (.inr hk))))
/-- new, nothing sent -/
theorem EndAt.new (w : World) (t1 t2 : TypeId) :
    EndAt (w.heap.size + 1) w.heap.size [w.heap.size] (.slice none 0 0) (.slice none 0 0) (.slice none 0 0) Ch.none ((w.alloc (.cells #[.int .u16 0, .bool false, .int .u16 0, .int .u32 0, .slice none 0 0] t1)).alloc (.cells #[.pointer (some ⟨w.heap.size, 0, none⟩), .slice none 0 0, .slice none 0 0, .slice none 0 0] t2)) := by
  refine ⟨?_, (CH.new w t1).keep ((Turned.refl [] _).alloc _) (by simp), OwnL.nil _ _ _ _, OwnL.nil _ _ _ _, OwnL.nil _ _ _ _, ?_⟩
  · have := Struct.new (w.alloc (.cells #[.int .u16 0, .bool false, .int .u16 0, .int .u32 0, .slice none 0 0] t1)) [.pointer (some ⟨w.heap.size, 0, none⟩), .slice none 0 0, .slice none 0 0, .slice none 0 0] t2
    rw [show (w.alloc (.cells #[.int .u16 0, .bool false, .int .u16 0, .int .u32 0, .slice none 0 0] t1)).heap.size = w.heap.size + 1 by simp] at this
    exact this
  · simp [List.pairwise_cons, Far, blk, Value.ownBlock]
end
end Go.Proofs.Ytloobijdpchppaa

/- The reference's writer and reader of bits, where they lie: a struct of the call's own, and the row of bools that it holds; with the blocks that are theirs. -/
import Derived.Test.YtloobijdpchppaaPush
import Derived.Test.YtloobijdpchppaaBitPlain2
namespace Go.Proofs.Ytloobijdpchppaa
open Go.RowKit
set_option linter.unusedVariables false

def bEnc (b : Bool) : List Value := [.bool b]
theorem bEnc_len {l : List Bool} : ∀ a ∈ l, (bEnc a).length = 1 := fun _ _ => rfl
theorem bEnc_one {l : List Bool} : ∀ a ∈ l, ∀ u ∈ bEnc a, u.oneCell' = true := by
  intro a _ u hu
  simp [bEnc] at hu
  subst hu
  rfl
/-- block p is a struct of one slice of bools, which are l; its blocks are F -/
def RBits (e : TypeId) (p : Nat) (l : List Bool) (F : List Nat) (w : World) : Prop :=
  ∃ v, Struct p [v] w ∧ OwnL e 1 bEnc v l w ∧ F = p :: blk v ∧ p ∉ blk v
/-- block p is a struct of a slice of bools, where it is and whether it has failed -/
def RRead (e : TypeId) (p : Nat) (r : Bt.Rd) (F : List Nat) (w : World) : Prop :=
  ∃ v, Struct p [v, .int .i64 (r.at_ : Int), .bool r.fail] w ∧ OwnL e 1 bEnc v r.l w ∧ F = p :: blk v ∧ p ∉ blk v
section
variable {e : TypeId} {p : Nat} {l : List Bool} {r : Bt.Rd} {F S : List Nat} {w w' : World}
theorem RBits.lt (h : RBits e p l F w) : ∀ k ∈ F, k < w.heap.size := by
  obtain ⟨v, hs, ho, rfl, _⟩ := h
  intro k hk
  rcases List.mem_cons.1 hk with rfl | hk
  · exact hs.1
  · exact ho.lt k hk
theorem RBits.keep (h : RBits e p l F w) (ht : Turned S w w') (hd : ∀ k ∈ F, k ∉ S) : RBits e p l F w' := by
  obtain ⟨v, hs, ho, rfl, hn⟩ := h
  exact ⟨v, hs.keep ht (hd p (List.mem_cons_self ..)), ho.keep ht fun k hk => hd k (List.mem_cons_of_mem _ hk), rfl, hn⟩
theorem RRead.lt (h : RRead e p r F w) : ∀ k ∈ F, k < w.heap.size := by
  obtain ⟨v, hs, ho, rfl, _⟩ := h
  intro k hk
  rcases List.mem_cons.1 hk with rfl | hk
  · exact hs.1
  · exact ho.lt k hk
theorem RRead.keep (h : RRead e p r F w) (ht : Turned S w w') (hd : ∀ k ∈ F, k ∉ S) : RRead e p r F w' := by
  obtain ⟨v, hs, ho, rfl, hn⟩ := h
  exact ⟨v, hs.keep ht (hd p (List.mem_cons_self ..)), ho.keep ht fun k hk => hd k (List.mem_cons_of_mem _ hk), rfl, hn⟩
/-- new, of no bits -/
theorem RBits.new (e : TypeId) (w : World) (t : TypeId) : RBits e w.heap.size [] [w.heap.size] (w.alloc (.cells #[.slice none 0 0] t)) :=
  ⟨_, Struct.new w [_] t, OwnL.nil _ _ _ _, rfl, by simp [blk, Value.ownBlock]⟩
/-- its slice is another one now: behind an append and the store of it -/
theorem RBits.store {v v' : Value} {l' : List Bool} (hs : Struct p [v] w) (ho' : OwnL e 1 bEnc v' l' w') (ht : Turned (blk v) w w') (hn : p ∉ blk v) (hb : blk v' = blk v ∨ blk v' = [w.heap.size]) :
    RBits e p l' (p :: blk v') (w'.setCell ⟨p, 0, none⟩ v') ∧ Turned (p :: blk v) w (w'.setCell ⟨p, 0, none⟩ v') ∧ ∀ k ∈ p :: blk v', k ∈ p :: blk v ∨ w.heap.size ≤ k := by
  have hn' : p ∉ blk v' := by
    rcases hb with h | h
    · rw [h]; exact hn
    · rw [h]; have := hs.1; simp; omega
  have hT : Turned (p :: blk v) w (w'.setCell ⟨p, 0, none⟩ v') := (ht.mono (S' := p :: blk v) fun k hk _ => List.mem_cons_of_mem _ hk).setCell (.inl (List.mem_cons_self ..)) _
  refine ⟨⟨v', (hs.keep ht hn).set (i := 0) (by simp) v', ?_, rfl, hn'⟩, hT, ?_⟩
  · refine ho'.keep (S := [p]) ((Turned.refl [p] w').setCell (.inl (by simp)) _) ?_
    intro k hk hm
    simp at hm
    subst hm
    exact hn' hk
  · intro k hk
    rcases List.mem_cons.1 hk with rfl | hk
    · exact .inl (List.mem_cons_self ..)
    · rcases hb with h | h
      · rw [h] at hk; exact .inl (List.mem_cons_of_mem _ hk)
      · rw [h] at hk; simp at hk; exact .inr (by omega)
end
end Go.Proofs.Ytloobijdpchppaa

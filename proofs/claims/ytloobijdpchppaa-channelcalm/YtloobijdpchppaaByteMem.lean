/- Bytes, as slices of the call's own have them; which blocks were written. -/
import Derived.Test.YtloobijdpchppaaRows
import Derived.Test.YtloobijdpchppaaPush
namespace Go.Proofs.Ytloobijdpchppaa
open Go.RowKit
set_option linter.unusedVariables false

/-- the blocks F were written, and are F' now: what came is new -/
def Moved (F F' : List Nat) (w w' : World) : Prop := Turned F w w' ∧ ∀ k ∈ F', k ∈ F ∨ w.heap.size ≤ k
namespace Moved
variable {F F' F'' G : List Nat} {w w' w'' : World}
theorem refl (F : List Nat) (w : World) : Moved F F w w := ⟨Turned.refl _ _, fun k hk => .inl hk⟩
theorem trans (h : Moved F F' w w') (h' : Moved F' F'' w' w'') : Moved F F'' w w'' := by
  have hs := h.1.size
  refine ⟨h.1.trans h'.1 ?_, ?_⟩
  · intro k hk hl
    rcases h.2 k hk with h | h
    · exact h
    · omega
  · intro k hk
    rcases h'.2 k hk with h1 | h1
    · exact h.2 k h1
    · exact .inr (by omega)
theorem apart (h : Moved F F' w w') (hl : ∀ k ∈ G, k < w.heap.size) (hd : ∀ k ∈ G, k ∉ F) : ∀ k ∈ G, k ∉ F' := by
  intro k hk hm
  rcases h.2 k hm with h1 | h1
  · exact hd k hk h1
  · have := hl k hk; omega
/-- all that was written came since -/
theorem below {B : Nat} {w0 : World} (h : Moved F F' w w') (h0 : Below B w0 w) (hB : B ≤ w.heap.size) (hF : ∀ k ∈ F, B ≤ k) : Below B w0 w' := h0.trans (h.1.below hB hF)
theorem ge {B : Nat} (h : Moved F F' w w') (hB : B ≤ w.heap.size) (hF : ∀ k ∈ F, B ≤ k) : ∀ k ∈ F', B ≤ k := by
  intro k hk
  rcases h.2 k hk with h1 | h1
  · exact hF k h1
  · omega
theorem size (h : Moved F F' w w') : w.heap.size ≤ w'.heap.size := h.1.size
end Moved

def byEnc (n : Nat) : List Value := [.int .u8 (n : Int)]
theorem byEnc_len {l : List Nat} : ∀ a ∈ l, (byEnc a).length = 1 := fun _ _ => rfl
theorem byEnc_one {l : List Nat} : ∀ a ∈ l, ∀ u ∈ byEnc a, u.oneCell' = true := by
  intro a _ u hu
  simp [byEnc] at hu
  subst hu
  rfl
theorem elem_u8 : ElemOk Try.prog 52 5 (.int .u8 0) 1 1 := ⟨by kernel_rfl, by kernel_rfl, rfl, by decide⟩

theorem one_cell {α : Type} {enc : α → List Value} {a : α} {x : Value} (he : enc a = [x]) (w : World) (t : TypeId) : ∀ j u, ([a].flatMap enc)[j]? = some u → (w.alloc (.cells #[x] t)).cell? ⟨w.heap.size, 0 + j, none⟩ = some u := by
  intro j u hj
  rw [show [a].flatMap enc = [x] by simp [he]] at hj
  match j, hj with
  | 0, hj => simp at hj; subst hj; simp [go_sem]

/-- behind 'x.f = append(x.f, a)', the element laid in a block of its own: the slice, the struct at p whose first cell it is, and what has turned -/
theorem push_one {α : Type} {e : TypeId} {enc : α → List Value} {v v' : Value} {cs : List Value} {l : List α} {a : α} {p : Nat} {w w1 : World} {o : Obj}
    (hlen : ∀ b ∈ l ++ [a], (enc b).length = 1) (hs : Struct p (v :: cs) w) (hn : p ∉ blk v) (ho1 : OwnL e 1 enc v' (l ++ [a]) w1) (ht : Turned (blk v) (w.alloc o) w1) (hb : blk v' = blk v ∨ blk v' = [(w.alloc o).heap.size]) :
    ∃ g cap, v' = .slice (some ⟨g, 0, none⟩) (l.length + 1) cap ∧ g ≠ p ∧ w1.cell? ⟨p, 0, none⟩ = some v ∧ w1.frozen? ⟨p, 0, none⟩ = false ∧
      ∀ W2, W2 = w1.setCell ⟨p, 0, none⟩ v' → Struct p (v' :: cs) W2 ∧ OwnL e 1 enc v' (l ++ [a]) W2 ∧ Turned (p :: blk v) w W2 ∧ blk v' = [g] ∧ (blk v = [g] ∨ w.heap.size ≤ g) := by
  have hs1 := (hs.keep ((Turned.refl [] w).alloc o) (by simp)).keep ht hn
  obtain ⟨g, cap, rfl, hbk, hg, hc⟩ := ho1.cell hlen (i := l.length) (a := a) (by simp)
  have hgp : g ≠ p := by
    rintro rfl
    rcases hb with h | h
    · rw [hbk] at h; exact hn (by rw [← h]; simp)
    · rw [hbk] at h; simp at h; have := hs.1; omega
  refine ⟨g, cap, by simp, hgp, (hs1.2 0 _ rfl).1, (hs1.2 0 _ rfl).2, ?_⟩
  rintro W2 rfl
  refine ⟨hs1.set (i := 0) (by simp) _, ?_, ?_, hbk, ?_⟩
  · refine ho1.keep (S := [p]) ((Turned.refl [p] w1).setCell (.inl (by simp)) _) ?_
    intro k hk hm
    rw [hbk] at hk
    simp at hk hm
    omega
  · have h0 : Turned (blk v) w w1 := ((Turned.refl (blk v) w).alloc o).trans ht fun k hk _ => hk
    have h1 : Turned (p :: blk v) w w1 := h0.mono fun k hk _ => List.mem_cons_of_mem _ hk
    exact h1.setCell (p := ⟨p, 0, none⟩) (.inl (by simp)) _
  · rcases hb with h | h
    · left; rw [← h, hbk]
    · right; rw [hbk] at h; simp at h; omega

/-- an element of the slice is written, then the struct's second cell -/
theorem put_fin {α : Type} {e : TypeId} {f : α → Value} {V n m : Value} {l : List α} {a : α} {g p i cap : Nat} {S : List Nat} {w W : World} (hV : V = .slice (some ⟨g, 0, none⟩) l.length cap) (hs : Struct p [V, n] W) (ho : OwnL e 1 (fun a => [f a]) V l W) (hgp : g ≠ p) (hi : i < l.length)
    (ht : Turned S w W) (hp : p ∈ S) (hg : g ∈ S ∨ w.heap.size ≤ g) {W' : World} (hW : W' = ((W.setCell ⟨g, i, none⟩ (f a)).setCell ⟨p, 1, none⟩ m).drew) :
    Struct p [V, m] W' ∧ OwnL e 1 (fun a => [f a]) V (l.set i a) W' ∧ Turned S w W' := by
  subst hW
  refine ⟨?_, ?_, ?_⟩
  · have h1 : Struct p [V, n] (W.setCell ⟨g, i, none⟩ (f a)) := hs.keep (S := [g]) ((Turned.refl [g] W).setCell (p := ⟨g, i, none⟩) (.inl (by simp)) _) (by simp; omega)
    exact h1.set (i := 1) (by simp) m
  · have h1 := ho.set hV hi a
    have h2 := h1.keep (S := [p]) ((Turned.refl [p] _).setCell (p := ⟨p, 1, none⟩) (.inl (by simp)) m) (by
      intro k hk hm
      rw [hV] at hk
      simp [blk, Value.ownBlock] at hk hm
      omega)
    exact h2
  · exact ((ht.setCell (p := ⟨g, i, none⟩) hg _).setCell (p := ⟨p, 1, none⟩) (.inl hp) _).drew
end Go.Proofs.Ytloobijdpchppaa

/- The program's writer and reader of bits, and the reference's reader, where they lie; what a call that writes them may have turned. -/
import Derived.Test.YtbdjgpnodcepeaaRows
import Derived.Test.YtbdjgpnodcepeaaBitMem
namespace Go.Proofs.Ytbdjgpnodcepeaa
open Go.RowKit
set_option linter.unusedVariables false

/-- the blocks F were written, and are F' now: what came is new -/
def Moved (F F' : List Nat) (w w' : World) : Prop := Turned F w w' ∧ ∀ k ∈ F', k ∈ F ∨ w.heap.size ≤ k
namespace Moved
variable {F F' F'' G : List Nat} {w w' w'' : World}
theorem refl (F : List Nat) (w : World) : Moved F F w w := ⟨Turned.refl _ _, fun k hk => .inl hk⟩
theorem trans (h : Moved F F' w w') (h' : Moved F' F'' w' w'') : Moved F F'' w w'' := by
  have hs := h.1.size
  refine ⟨h.1.trans h'.1 ?_, ?_⟩
  · intro k hk hl
    rcases h.2 k hk with h | h
    · exact h
    · omega
  · intro k hk
    rcases h'.2 k hk with h1 | h1
    · exact h.2 k h1
    · exact .inr (by omega)
theorem apart (h : Moved F F' w w') (hl : ∀ k ∈ G, k < w.heap.size) (hd : ∀ k ∈ G, k ∉ F) : ∀ k ∈ G, k ∉ F' := by
  intro k hk hm
  rcases h.2 k hm with h1 | h1
  · exact hd k hk h1
  · have := hl k hk; omega
/-- all that was written came since -/
theorem below {B : Nat} {w0 : World} (h : Moved F F' w w') (h0 : Below B w0 w) (hB : B ≤ w.heap.size) (hF : ∀ k ∈ F, B ≤ k) : Below B w0 w' := h0.trans (h.1.below hB hF)
theorem ge {B : Nat} (h : Moved F F' w w') (hB : B ≤ w.heap.size) (hF : ∀ k ∈ F, B ≤ k) : ∀ k ∈ F', B ≤ k := by
  intro k hk
  rcases h.2 k hk with h1 | h1
  · exact hF k h1
  · omega
theorem size (h : Moved F F' w w') : w.heap.size ≤ w'.heap.size := h.1.size
end Moved

def byEnc (n : Nat) : List Value := [.int .u8 (n : Int)]
theorem byEnc_len {l : List Nat} : ∀ a ∈ l, (byEnc a).length = 1 := fun _ _ => rfl
theorem byEnc_one {l : List Nat} : ∀ a ∈ l, ∀ u ∈ byEnc a, u.oneCell' = true := by
  intro a _ u hu
  simp [byEnc] at hu
  subst hu
  rfl
theorem elem_u8 : ElemOk Try.prog 25 5 (.int .u8 0) 1 1 := ⟨by kernel_rfl, by kernel_rfl, rfl, by decide⟩
theorem elem_bool : ElemOk Try.prog 29 4 (.bool false) 1 1 := ⟨by kernel_rfl, by kernel_rfl, rfl, by decide⟩

theorem one_cell {α : Type} {enc : α → List Value} {a : α} {x : Value} (he : enc a = [x]) (w : World) (t : TypeId) : ∀ j u, ([a].flatMap enc)[j]? = some u → (w.alloc (.cells #[x] t)).cell? ⟨w.heap.size, 0 + j, none⟩ = some u := by
  intro j u hj
  rw [show [a].flatMap enc = [x] by simp [he]] at hj
  match j, hj with
  | 0, hj => simp at hj; subst hj; simp [go_sem]

/-- behind 'x.f = append(x.f, a)', the element laid in a block of its own: the slice, the struct at p whose first cell it is, and what has turned -/
theorem push_one {α : Type} {e : TypeId} {enc : α → List Value} {v v' : Value} {cs : List Value} {l : List α} {a : α} {p : Nat} {w w1 : World} {o : Obj}
    (hlen : ∀ b ∈ l ++ [a], (enc b).length = 1) (hs : Struct p (v :: cs) w) (hn : p ∉ blk v) (ho1 : OwnL e 1 enc v' (l ++ [a]) w1) (ht : Turned (blk v) (w.alloc o) w1) (hb : blk v' = blk v ∨ blk v' = [(w.alloc o).heap.size]) :
    ∃ g cap, v' = .slice (some ⟨g, 0, none⟩) (l.length + 1) cap ∧ g ≠ p ∧ w1.cell? ⟨p, 0, none⟩ = some v ∧ w1.frozen? ⟨p, 0, none⟩ = false ∧
      ∀ W2, W2 = w1.setCell ⟨p, 0, none⟩ v' → Struct p (v' :: cs) W2 ∧ OwnL e 1 enc v' (l ++ [a]) W2 ∧ Turned (p :: blk v) w W2 ∧ blk v' = [g] ∧ (blk v = [g] ∨ w.heap.size ≤ g) := by
  have hs1 := (hs.keep ((Turned.refl [] w).alloc o) (by simp)).keep ht hn
  obtain ⟨g, cap, rfl, hbk, hg, hc⟩ := ho1.cell hlen (i := l.length) (a := a) (by simp)
  have hgp : g ≠ p := by
    rintro rfl
    rcases hb with h | h
    · rw [hbk] at h; exact hn (by rw [← h]; simp)
    · rw [hbk] at h; simp at h; have := hs.1; omega
  refine ⟨g, cap, by simp, hgp, (hs1.2 0 _ rfl).1, (hs1.2 0 _ rfl).2, ?_⟩
  rintro W2 rfl
  refine ⟨hs1.set (i := 0) (by simp) _, ?_, ?_, hbk, ?_⟩
  · refine ho1.keep (S := [p]) ((Turned.refl [p] w1).setCell (.inl (by simp)) _) ?_
    intro k hk hm
    rw [hbk] at hk
    simp at hk hm
    omega
  · have h0 : Turned (blk v) w w1 := ((Turned.refl (blk v) w).alloc o).trans ht fun k hk _ => hk
    have h1 : Turned (p :: blk v) w w1 := h0.mono fun k hk _ => List.mem_cons_of_mem _ hk
    exact h1.setCell (p := ⟨p, 0, none⟩) (.inl (by simp)) _
  · rcases hb with h | h
    · left; rw [← h, hbk]
    · right; rw [hbk] at h; simp at h; omega

/-- an element of the slice is written, then the struct's second cell -/
theorem put_fin {α : Type} {e : TypeId} {f : α → Value} {V n m : Value} {l : List α} {a : α} {g p i cap : Nat} {S : List Nat} {w W : World} (hV : V = .slice (some ⟨g, 0, none⟩) l.length cap) (hs : Struct p [V, n] W) (ho : OwnL e 1 (fun a => [f a]) V l W) (hgp : g ≠ p) (hi : i < l.length)
    (ht : Turned S w W) (hp : p ∈ S) (hg : g ∈ S ∨ w.heap.size ≤ g) {W' : World} (hW : W' = ((W.setCell ⟨g, i, none⟩ (f a)).setCell ⟨p, 1, none⟩ m).drew) :
    Struct p [V, m] W' ∧ OwnL e 1 (fun a => [f a]) V (l.set i a) W' ∧ Turned S w W' := by
  subst hW
  refine ⟨?_, ?_, ?_⟩
  · have h1 : Struct p [V, n] (W.setCell ⟨g, i, none⟩ (f a)) := hs.keep (S := [g]) ((Turned.refl [g] W).setCell (p := ⟨g, i, none⟩) (.inl (by simp)) _) (by simp; omega)
    exact h1.set (i := 1) (by simp) m
  · have h1 := ho.set hV hi a
    have h2 := h1.keep (S := [p]) ((Turned.refl [p] _).setCell (p := ⟨p, 1, none⟩) (.inl (by simp)) m) (by
      intro k hk hm
      rw [hV] at hk
      simp [blk, Value.ownBlock] at hk hm
      omega)
    exact h2
  · exact ((ht.setCell (p := ⟨g, i, none⟩) hg _).setCell (p := ⟨p, 1, none⟩) (.inl hp) _).drew

/-- block p is a writer that has the bits l; its blocks are F -/
def PW (p : Nat) (l : List Bool) (F : List Nat) (w : World) : Prop :=
  ∃ v, Struct p [v, .int .i64 (l.length : Int)] w ∧ OwnL 5 1 byEnc v (Bt.pack l) w ∧ F = p :: blk v ∧ p ∉ blk v
section
variable {p : Nat} {l : List Bool} {F S : List Nat} {w w' : World}
theorem PW.lt (h : PW p l F w) : ∀ k ∈ F, k < w.heap.size := by
  obtain ⟨v, hs, ho, rfl, _⟩ := h
  intro k hk
  rcases List.mem_cons.1 hk with rfl | hk
  · exact hs.1
  · exact ho.lt k hk
theorem PW.keep (h : PW p l F w) (ht : Turned S w w') (hd : ∀ k ∈ F, k ∉ S) : PW p l F w' := by
  obtain ⟨v, hs, ho, rfl, hn⟩ := h
  exact ⟨v, hs.keep ht (hd p (List.mem_cons_self ..)), ho.keep ht fun k hk => hd k (List.mem_cons_of_mem _ hk), rfl, hn⟩
theorem PW.new (w : World) (t : TypeId) : PW w.heap.size [] [w.heap.size] (w.alloc (.cells #[.slice none 0 0, .int .i64 0] t)) :=
  ⟨_, Struct.new w [_, _] t, OwnL.nil _ _ _ _, rfl, by simp [blk, Value.ownBlock]⟩
/-- its bytes and its count are others now -/
theorem PW.store {v v' : Value} {n : Value} {l' : List Bool} (hs : Struct p [v, n] w) (ho' : OwnL 5 1 byEnc v' (Bt.pack l') w') (hs' : Struct p [v', .int .i64 (l'.length : Int)] w') (ht : Turned (p :: blk v) w w') (hn : p ∉ blk v) (hb : blk v' = blk v ∨ ∃ g, blk v' = [g] ∧ w.heap.size ≤ g) :
    ∃ F', PW p l' F' w' ∧ Moved (p :: blk v) F' w w' := by
  have hn' : p ∉ blk v' := by
    rcases hb with h | ⟨g, h, hg⟩
    · rw [h]; exact hn
    · rw [h]; have := hs.1; simp; omega
  refine ⟨p :: blk v', ⟨v', hs', ho', rfl, hn'⟩, ht, ?_⟩
  intro k hk
  rcases List.mem_cons.1 hk with rfl | hk
  · exact .inl (List.mem_cons_self ..)
  · rcases hb with h | ⟨g, h, hg⟩
    · rw [h] at hk; exact .inl (List.mem_cons_of_mem _ hk)
    · rw [h] at hk; simp at hk; subst hk; exact .inr hg
end

/-- block p is a reader of the bytes bs, of which the slice v tells -/
def PRd (p : Nat) (v : Value) (bs : List Nat) (r : Bt.Rd) (w : World) : Prop :=
  Struct p [v, .int .i64 (r.at_ : Int), .bool r.fail] w ∧ (∃ oa cap, v = .slice oa bs.length cap ∧ RowOf 1 byEnc oa bs w ∧ ∀ a, oa = some a → a.block ≠ p ∧ a.block < w.heap.size) ∧ r.l = Bt.unpack bs ∧ r.wf ∧ (∀ b ∈ bs, b < 256) ∧ bs.length ≤ 4294967296
/-- block p is the reference's reader, whose bits the slice v tells -/
def RRd (p : Nat) (v : Value) (r : Bt.Rd) (w : World) : Prop :=
  Struct p [v, .int .i64 (r.at_ : Int), .bool r.fail] w ∧ (∃ oa cap, v = .slice oa r.l.length cap ∧ r.l.length ≤ cap ∧ RowOf 1 bEnc oa r.l w ∧ ∀ a, oa = some a → a.block ≠ p ∧ a.block < w.heap.size) ∧ r.wf ∧ r.l.length ≤ 4294967296 * 8
/-- the block of a slice that is only read -/
def rblk : Value → List Nat
  | .slice (some a) _ _ => [a.block]
  | _ => []
section
variable {p : Nat} {v : Value} {bs : List Nat} {r : Bt.Rd} {S : List Nat} {w w' : World}
theorem PRd.lt (h : PRd p v bs r w) : p < w.heap.size := h.1.1
theorem PRd.keep (h : PRd p v bs r w) (ht : Turned S w w') (hp : p ∉ S) (hv : ∀ k ∈ rblk v, k ∉ S) : PRd p v bs r w' := by
  obtain ⟨hs, ⟨oa, cap, rfl, hr, hd⟩, h2⟩ := h
  exact ⟨hs.keep ht hp, ⟨oa, cap, rfl, hr.turned ht fun a ha => hv _ (by subst ha; simp [rblk]), fun a ha => ⟨(hd a ha).1, Nat.lt_of_lt_of_le (hd a ha).2 ht.size⟩⟩, h2⟩
theorem RRd.lt (h : RRd p v r w) : p < w.heap.size := h.1.1
theorem RRd.keep (h : RRd p v r w) (ht : Turned S w w') (hp : p ∉ S) (hv : ∀ k ∈ rblk v, k ∉ S) : RRd p v r w' := by
  obtain ⟨hs, ⟨oa, cap, rfl, hcap, hr, hd⟩, h2⟩ := h
  exact ⟨hs.keep ht hp, ⟨oa, cap, rfl, hcap, hr.turned ht fun a ha => hv _ (by subst ha; simp [rblk]), fun a ha => ⟨(hd a ha).1, Nat.lt_of_lt_of_le (hd a ha).2 ht.size⟩⟩, h2⟩
end
end Go.Proofs.Ytbdjgpnodcepeaa

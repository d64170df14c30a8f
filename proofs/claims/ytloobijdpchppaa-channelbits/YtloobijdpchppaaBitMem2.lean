/- The program's writer and reader of bits, and the reference's reader, where they lie; what a call that writes them may have turned. -/
import Derived.Test.YtloobijdpchppaaRows
import Derived.Test.YtloobijdpchppaaBitMem
import Derived.Test.YtloobijdpchppaaByteMem
namespace Go.Proofs.Ytloobijdpchppaa
open Go.RowKit
set_option linter.unusedVariables false

theorem elem_bool : ElemOk Try.prog 34 4 (.bool false) 1 1 := ⟨by kernel_rfl, by kernel_rfl, rfl, by decide⟩

/-- block p is a writer that has the bits l; its blocks are F -/
def PW (p : Nat) (l : List Bool) (F : List Nat) (w : World) : Prop :=
  ∃ v, Struct p [v, .int .i64 (l.length : Int)] w ∧ OwnL 5 1 byEnc v (Bt.pack l) w ∧ F = p :: blk v ∧ p ∉ blk v
section
variable {p : Nat} {l : List Bool} {F S : List Nat} {w w' : World}
theorem PW.lt (h : PW p l F w) : ∀ k ∈ F, k < w.heap.size := by
  obtain ⟨v, hs, ho, rfl, _⟩ := h
  intro k hk
  rcases List.mem_cons.1 hk with rfl | hk
  · exact hs.1
  · exact ho.lt k hk
theorem PW.keep (h : PW p l F w) (ht : Turned S w w') (hd : ∀ k ∈ F, k ∉ S) : PW p l F w' := by
  obtain ⟨v, hs, ho, rfl, hn⟩ := h
  exact ⟨v, hs.keep ht (hd p (List.mem_cons_self ..)), ho.keep ht fun k hk => hd k (List.mem_cons_of_mem _ hk), rfl, hn⟩
theorem PW.new (w : World) (t : TypeId) : PW w.heap.size [] [w.heap.size] (w.alloc (.cells #[.slice none 0 0, .int .i64 0] t)) :=
  ⟨_, Struct.new w [_, _] t, OwnL.nil _ _ _ _, rfl, by simp [blk, Value.ownBlock]⟩
/-- its bytes and its count are others now -/
theorem PW.store {v v' : Value} {n : Value} {l' : List Bool} (hs : Struct p [v, n] w) (ho' : OwnL 5 1 byEnc v' (Bt.pack l') w') (hs' : Struct p [v', .int .i64 (l'.length : Int)] w') (ht : Turned (p :: blk v) w w') (hn : p ∉ blk v) (hb : blk v' = blk v ∨ ∃ g, blk v' = [g] ∧ w.heap.size ≤ g) :
    ∃ F', PW p l' F' w' ∧ Moved (p :: blk v) F' w w' := by
  have hn' : p ∉ blk v' := by
    rcases hb with h | ⟨g, h, hg⟩
    · rw [h]; exact hn
    · rw [h]; have := hs.1; simp; omega
  refine ⟨p :: blk v', ⟨v', hs', ho', rfl, hn'⟩, ht, ?_⟩
  intro k hk
  rcases List.mem_cons.1 hk with rfl | hk
  · exact .inl (List.mem_cons_self ..)
  · rcases hb with h | ⟨g, h, hg⟩
    · rw [h] at hk; exact .inl (List.mem_cons_of_mem _ hk)
    · rw [h] at hk; simp at hk; subst hk; exact .inr hg
end

/-- block p is a reader of the bytes bs, of which the slice v tells -/
def PRd (p : Nat) (v : Value) (bs : List Nat) (r : Bt.Rd) (w : World) : Prop :=
  Struct p [v, .int .i64 (r.at_ : Int), .bool r.fail] w ∧ (∃ oa cap, v = .slice oa bs.length cap ∧ RowOf 1 byEnc oa bs w ∧ ∀ a, oa = some a → a.block ≠ p ∧ a.block < w.heap.size) ∧ r.l = Bt.unpack bs ∧ r.wf ∧ (∀ b ∈ bs, b < 256) ∧ bs.length ≤ 4294967296
/-- block p is the reference's reader, whose bits the slice v tells -/
def RRd (p : Nat) (v : Value) (r : Bt.Rd) (w : World) : Prop :=
  Struct p [v, .int .i64 (r.at_ : Int), .bool r.fail] w ∧ (∃ oa cap, v = .slice oa r.l.length cap ∧ r.l.length ≤ cap ∧ RowOf 1 bEnc oa r.l w ∧ ∀ a, oa = some a → a.block ≠ p ∧ a.block < w.heap.size) ∧ r.wf ∧ r.l.length ≤ 4294967296 * 8
/-- the block of a slice that is only read -/
def rblk : Value → List Nat
  | .slice (some a) _ _ => [a.block]
  | _ => []
section
variable {p : Nat} {v : Value} {bs : List Nat} {r : Bt.Rd} {S : List Nat} {w w' : World}
theorem PRd.lt (h : PRd p v bs r w) : p < w.heap.size := h.1.1
theorem PRd.keep (h : PRd p v bs r w) (ht : Turned S w w') (hp : p ∉ S) (hv : ∀ k ∈ rblk v, k ∉ S) : PRd p v bs r w' := by
  obtain ⟨hs, ⟨oa, cap, rfl, hr, hd⟩, h2⟩ := h
  exact ⟨hs.keep ht hp, ⟨oa, cap, rfl, hr.turned ht fun a ha => hv _ (by subst ha; simp [rblk]), fun a ha => ⟨(hd a ha).1, Nat.lt_of_lt_of_le (hd a ha).2 ht.size⟩⟩, h2⟩
theorem RRd.lt (h : RRd p v r w) : p < w.heap.size := h.1.1
theorem RRd.keep (h : RRd p v r w) (ht : Turned S w w') (hp : p ∉ S) (hv : ∀ k ∈ rblk v, k ∉ S) : RRd p v r w' := by
  obtain ⟨hs, ⟨oa, cap, rfl, hcap, hr, hd⟩, h2⟩ := h
  exact ⟨hs.keep ht hp, ⟨oa, cap, rfl, hcap, hr.turned ht fun a ha => hv _ (by subst ha; simp [rblk]), fun a ha => ⟨(hd a ha).1, Nat.lt_of_lt_of_le (hd a ha).2 ht.size⟩⟩, h2⟩
end
end Go.Proofs.Ytloobijdpchppaa

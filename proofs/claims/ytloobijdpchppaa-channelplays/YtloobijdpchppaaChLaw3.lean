/- A script's acts on the program's channel and the reference's: what holds of both. -/
import Derived.Test.YtloobijdpchppaaChLaw
namespace Go.Proofs.Ytloobijdpchppaa
open Go.RowKit
set_option linter.unusedVariables false

namespace ChL
/-- channel C is s, the reference's channel R is the same by its flags f -/
structure Both (w0 : World) (C R : Nat) (F : List Nat) (s : Ch.S) (f : List Bool) (v : Value) (wr : World) : Prop where
  c : CH C F s wr
  wf : Ch.Wf s
  r : RChan R s.y s.l s.m f v wr
  x : s.x = (f.length : Int)
  o : s.o = Ch.nums 0 f
  d : ∀ a ∈ F, a ∉ R :: blk v
  gF : ∀ a ∈ F, w0.heap.size ≤ a
  gR : ∀ a ∈ R :: blk v, w0.heap.size ≤ a
  t : Turned [] w0 wr
section
variable {w0 : World} {C R : Nat} {F : List Nat} {s : Ch.S} {f : List Bool} {v : Value} {wr : World}
theorem Both.keep (h : Both w0 C R F s f v wr) {w' : World} (ht : Turned [] wr w') : Both w0 C R F s f v w' :=
  ⟨h.c.keep ht (by simp), h.wf, h.r.keep ht (by simp), h.x, h.o, h.d, h.gF, h.gR, h.t.trans ht (by simp)⟩
theorem Both.lt (h : Both w0 C R F s f v wr) : ∀ a ∈ R :: blk v, a < wr.heap.size := by
  intro a ha
  rcases List.mem_cons.1 ha with rfl | ha
  · exact h.r.1.1
  · exact h.r.2.1.lt a ha
theorem Both.start (w0 : World) (t1 t2 : TypeId) :
    Both w0 w0.heap.size (w0.heap.size + 1) [w0.heap.size] Ch.zero [] (.slice none 0 0) ((w0.alloc (.cells #[.int .u16 0, .bool false, .int .u16 0, .int .u32 0, .slice none 0 0] t1)).alloc (.cells #[.int .i64 0, .bool false, .int .u16 0, .int .u32 0, .slice none 0 0] t2)) := by
  refine ⟨(CH.new w0 t1).keep ((Turned.refl [] _).alloc _) (by simp), Ch.zero_wf, ⟨?_, OwnL.nil _ _ _ _, by simp [blk, Value.ownBlock]⟩, rfl, rfl, by simp [blk, Value.ownBlock], by simp, by simp [blk, Value.ownBlock], ((Turned.refl [] _).alloc _).alloc _⟩
  have := Struct.new (w0.alloc (.cells #[.int .u16 0, .bool false, .int .u16 0, .int .u32 0, .slice none 0 0] t1)) [.int .i64 0, .bool false, .int .u16 0, .int .u32 0, .slice none 0 0] t2
  rw [show (w0.alloc (.cells #[.int .u16 0, .bool false, .int .u16 0, .int .u32 0, .slice none 0 0] t1)).heap.size = w0.heap.size + 1 by simp] at this
  exact this
/-- the reference's, behind a call of the program's -/
theorem Both.mid (h : Both w0 C R F s f v wr) {F1 : List Nat} {u : World} (hm : Moved F F1 wr u) : RChan R s.y s.l s.m f v u :=
  h.r.keep hm.1 fun a ha hm => h.d a hm ha
theorem Both.send (h : Both w0 C R F s f v wr) {F1 : List Nat} {u u2 : World} {v2 : Value} (hc : CH C F1 (Ch.send s) u) (hm : Moved F F1 wr u) (hr : RChan R s.y s.l s.m (Ch.keep (f ++ [true])) v2 u2) (hm2 : Moved (R :: blk v) (R :: blk v2) u u2) (hl : f.length ≤ 1000) :
    Both w0 C R F1 (Ch.send s) (Ch.keep (f ++ [true])) v2 u2 := by
  have hd1 : ∀ a ∈ R :: blk v, a ∉ F1 := hm.apart h.lt fun a ha hm => h.d a hm ha
  refine ⟨hc.keep hm2.1 (fun a ha hm => hd1 a hm ha), Ch.send_wf h.wf, hr, ?_, ?_, ?_, ?_, ?_, ?_⟩
  · show (s.x + 1) % 65536 = _
    rw [h.x, Ch.keep_len, List.length_append, List.length_singleton]; omega
  · show Ch.most (s.o ++ [s.x]) = _
    rw [Ch.nums_send f s.x (by rw [h.x]; omega), h.o]
  · exact hm2.apart hc.lt fun a ha hm => hd1 a hm ha
  · exact hm.ge h.t.size h.gF
  · exact hm2.ge (Nat.le_trans h.t.size hm.size) h.gR
  · exact (h.t.trans hm.1 (fun a ha hl => by have := h.gF a ha; omega)).trans hm2.1 (fun a ha hl => by have := h.gR a ha; omega)
theorem Both.took (h : Both w0 C R F s f v wr) {hd : Ch.H} (hw : Ch.HWf hd) {F1 : List Nat} {u u2 : World} (hc : CH C F1 (Ch.took s hd) u) (hm : Moved F F1 wr u) (hr : RChan R true (Sr.last s.y s.l hd.n) (Sr.mask s.y s.l s.m hd.n) (Ch.acks hd 0 f) v u2) (hm2 : Turned (R :: blk v) u u2) :
    Both w0 C R F1 (Ch.took s hd) (Ch.acks hd 0 f) v u2 := by
  have hd1 : ∀ a ∈ R :: blk v, a ∉ F1 := hm.apart h.lt fun a ha hm => h.d a hm ha
  refine ⟨hc.keep hm2 (fun a ha hm => hd1 a hm ha), Ch.took_wf h.wf hw, hr, ?_, ?_, ?_, ?_, h.gR, ?_⟩
  · show s.x = _
    rw [h.x, Ch.acks_len]
  · show s.o.filter _ = _
    rw [Ch.nums_acks, h.o]
  · exact fun a ha hm => hd1 a hm ha
  · exact hm.ge h.t.size h.gF
  · exact (h.t.trans hm.1 (fun a ha hl => by have := h.gF a ha; omega)).trans hm2 (fun a ha hl => by have := h.gR a ha; omega)
/-- what the program's Take built lies apart from what the reference's writes -/
theorem row_apart {S : List Nat} {w u : World} {oa : Option Addr} {n ca : Nat} {l : List Int} (hS : ∀ a ∈ S, a < w.heap.size) (hb : ∀ k ∈ blk (.slice oa n ca), w.heap.size ≤ k) (h : NumsAt (.slice oa n ca) l u) : ∀ a, oa = some a → a.block ∉ S := by
  intro a ha hm
  have h1 := hS _ hm
  have h2 : a.block ∈ blk (.slice oa n ca) := by
    rw [← rblk_blk h]; subst ha; simp [rblk]
  have := hb _ h2
  omega
end
end ChL
end Go.Proofs.Ytloobijdpchppaa

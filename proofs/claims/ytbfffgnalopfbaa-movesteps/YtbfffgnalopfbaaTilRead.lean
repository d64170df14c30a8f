/- A text is read as a map: the reference's (TiR). -/
import Derived.Test.YtbfffgnalopfbaaTilRef
import Derived.Test.YtbfffgnalopfbaaByteMem
namespace Go.Proofs.Ytbfffgnalopfbaa
open Go.RowKit
set_option linter.unusedVariables false
set_option linter.unusedSimpArgs false

theorem elem_tb : ElemOk Try.prog 22 4 (.bool false) 1 1 := ⟨by kernel_rfl, by kernel_rfl, rfl, by decide⟩
theorem elem_tv : ElemOk Try.prog 23 28 (.agg #[.int .i64 0, .int .i64 0]) 2 16 := ⟨by kernel_rfl, by kernel_rfl, rfl, by decide⟩
namespace Ti
/-- what is answered: the map, the place, the error -/
def ansM (r : Option S × Nat) : M := match r.1 with | some s => mOf s | none => zeroM
def ansN (r : Option S × Nat) : Nat := match r.1 with | some _ => 0 | none => r.2
def ansE (r : Option S × Nat) : Int := match r.1 with | some _ => 0 | none => 2
/-- what stays as it is read -/
structure Inv (a : Nat) (s : S) : Prop where
  x : s.x ≤ 32
  h : s.H ≤ 32
  hx : 0 < s.x → s.H < 32
  w : s.W ≤ 32
  ws : s.ws.length ≤ a
  sp : s.sp.length ≤ s.ws.length
theorem inv0 : Inv 0 s0 := ⟨by decide, by decide, by decide, by decide, by decide, by decide⟩
theorem Inv.next {a : Nat} {s : S} {k n : Nat} (h : Inv a s) (hb : ¬ bad k s) (hn : 0 < n) : Inv (a + n) (Ti.next k s) := by
  obtain ⟨h1, h2, h3, h4, h5, h6⟩ := h
  unfold bad at hb
  unfold Ti.next
  by_cases hk : k = 4
  · rw [if_pos hk] at hb ⊢
    have : 0 < s.x := by
      by_cases e : s.x = 0
      · exact absurd (.inl e) hb
      · omega
    have := h3 this
    exact ⟨by simp, by show s.H + 1 ≤ 32; omega, by simp, h1, by show s.ws.length ≤ a + n; omega, h6⟩
  · rw [if_neg hk] at hb ⊢
    have e1 : s.H < 32 := by
      by_cases e : s.H < 32
      · exact e
      · exact absurd (.inr (.inl (by omega))) hb
    have e2 : s.x < 32 := by
      by_cases e : s.x < 32
      · exact e
      · exact absurd (.inr (.inr (.inl (by omega)))) hb
    refine ⟨by show s.x + 1 ≤ 32; omega, h2, fun _ => e1, h4, by simp; omega, ?_⟩
    simp only
    split <;> simp <;> omega
end Ti

namespace TiR
def zeroCells : List Value := [.int .i64 0, .int .i64 0, .slice none 0 0, .slice none 0 0]
/-- a map's cells are stored whole -/
abbrev put4 (w : World) (p : Nat) (a b c d : Value) : World := (((w.setCell ⟨p, 0, none⟩ a).setCell ⟨p, 1, none⟩ b).setCell ⟨p, 2, none⟩ c).setCell ⟨p, 3, none⟩ d
theorem set4 {p : Nat} {cs : List Value} {w : World} (hl : cs.length = 4) (h : Struct p cs w) (a b c d : Value) : Struct p [a, b, c, d] (put4 w p a b c d) := by
  obtain ⟨x0, x1, x2, x3, rfl⟩ : ∃ x0 x1 x2 x3, cs = [x0, x1, x2, x3] := by
    match cs, hl with
    | [x0, x1, x2, x3], _ => exact ⟨x0, x1, x2, x3, rfl⟩
  exact (((h.set (i := 0) (by simp) a).set (i := 1) (by simp) b).set (i := 2) (by simp) c).set (i := 3) (by simp) d
theorem turned4 {S : List Nat} {w w' : World} {p : Nat} (h : Turned S w w') (hp : p ∈ S ∨ w.heap.size ≤ p) (a b c d : Value) : Turned S w (put4 w' p a b c d) :=
  (((h.setCell (p := ⟨p, 0, none⟩) hp _).setCell (p := ⟨p, 1, none⟩) hp _).setCell (p := ⟨p, 2, none⟩) hp _).setCell (p := ⟨p, 3, none⟩) hp _
/-- a text that is being read: the answer's block A, the map's B, its rows -/
structure RS (A B : Nat) (w : World) (st : Ti.S) (va vb : Value) (wr : World) : Prop where
  res : Struct A zeroCells wr
  own : Struct B [.int .i64 (st.W : Int), .int .i64 (st.H : Int), va, vb] wr
  ws : OwnL 4 1 tbEnc va st.ws wr
  sp : OwnL 28 2 tvEnc vb st.sp wr
  na : ∀ k ∈ blk va, w.heap.size ≤ k ∧ k ≠ A ∧ k ≠ B
  nb : ∀ k ∈ blk vb, w.heap.size ≤ k ∧ k ≠ A ∧ k ≠ B
  dis : ∀ k ∈ blk va, k ∉ blk vb
  turned : Turned [] w wr
section
variable {A B : Nat} {w wr : World} {st : Ti.S} {va vb : Value}
theorem RS.keep {u : World} (h : RS A B w st va vb wr) (ht : Turned [] wr u) : RS A B w st va vb u :=
  ⟨h.res.keep ht (by simp), h.own.keep ht (by simp), h.ws.keep ht (by simp), h.sp.keep ht (by simp), h.na, h.nb, h.dis, h.turned.trans ht (by simp)⟩
/-- a cell of the map's block is written -/
theorem RS.line (h : RS A B w st va vb wr) (hAB : A ≠ B) (hB : w.heap.size ≤ B) (x H : Nat) : RS A B w ⟨0, x, H, st.ws, st.sp⟩ va vb ((wr.setCell ⟨B, 0, none⟩ (.int .i64 (x : Int))).setCell ⟨B, 1, none⟩ (.int .i64 (H : Int))) := by
  have ht : Turned [B] wr ((wr.setCell ⟨B, 0, none⟩ (.int .i64 (x : Int))).setCell ⟨B, 1, none⟩ (.int .i64 (H : Int))) := ((Turned.refl [B] wr).setCell (p := ⟨B, 0, none⟩) (.inl (by simp)) _).setCell (p := ⟨B, 1, none⟩) (.inl (by simp)) _
  refine ⟨h.res.keep ht (by simpa using hAB), (h.own.set (i := 0) (by simp) _).set (i := 1) (by simp) _, h.ws.keep ht (fun k hk => by simpa using (h.na k hk).2.2), h.sp.keep ht (fun k hk => by simpa using (h.nb k hk).2.2), h.na, h.nb, h.dis, ?_⟩
  exact (h.turned.setCell (p := ⟨B, 0, none⟩) (.inr hB) _).setCell (p := ⟨B, 1, none⟩) (.inr hB) _
/-- behind an append of a wall, ahead of the store -/
theorem RS.mid {o : Obj} {w1 : World} (h : RS A B w st va vb wr) (ht : Turned (blk va) (wr.alloc o) w1) : Struct A zeroCells w1 ∧ Struct B [.int .i64 (st.W : Int), .int .i64 (st.H : Int), va, vb] w1 ∧ OwnL 28 2 tvEnc vb st.sp w1 ∧ Turned [] w w1 := by
  have ha := (Turned.refl [] wr).alloc o
  refine ⟨(h.res.keep ha (by simp)).keep ht (fun hk => (h.na A hk).2.1 rfl), (h.own.keep ha (by simp)).keep ht (fun hk => (h.na B hk).2.2 rfl), (h.sp.keep ha (by simp)).keep ht (fun k hk hm => h.dis k hm hk), ?_⟩
  exact (h.turned.trans ha (by simp)).trans ht (fun k hk hl => by have := (h.na k hk).1; omega)
theorem RS.push {o : Obj} {w1 : World} {b : Bool} {v' : Value} {x : Nat} (h : RS A B w st va vb wr) (hAB : A ≠ B) (hB : w.heap.size ≤ B) (ho1 : OwnL 4 1 tbEnc v' (st.ws ++ [b]) w1) (ht : Turned (blk va) (wr.alloc o) w1) (hb : blk v' = blk va ∨ blk v' = [(wr.alloc o).heap.size]) : RS A B w ⟨x, st.W, st.H, st.ws ++ [b], st.sp⟩ v' vb (w1.setCell ⟨B, 2, none⟩ v') := by
  obtain ⟨m1, m2, m3, m4⟩ := h.mid ht
  have hs : (wr.alloc o).heap.size = wr.heap.size + 1 := by simp
  have hna : ∀ k ∈ blk v', w.heap.size ≤ k ∧ k ≠ A ∧ k ≠ B := by
    intro k hk
    rcases hb with e | e
    · rw [e] at hk; exact h.na k hk
    · rw [e, hs] at hk; simp at hk; subst hk
      have := h.res.1; have := h.own.1; have := h.turned.size
      exact ⟨by omega, by omega, by omega⟩
  have hdis : ∀ k ∈ blk v', k ∉ blk vb := by
    intro k hk hm
    rcases hb with e | e
    · rw [e] at hk; exact h.dis k hk hm
    · rw [e, hs] at hk; simp at hk; subst hk
      have := h.sp.lt _ hm; omega
  have hT : Turned [B] w1 (w1.setCell ⟨B, 2, none⟩ v') := (Turned.refl [B] w1).setCell (p := ⟨B, 2, none⟩) (.inl (by simp)) _
  exact ⟨m1.keep hT (by simpa using hAB), m2.set (i := 2) (by simp) _, ho1.keep hT (fun k hk => by simpa using (hna k hk).2.2), m3.keep hT (fun k hk => by simpa using (h.nb k hk).2.2), hna, h.nb, hdis, m4.setCell (p := ⟨B, 2, none⟩) (.inr hB) _⟩
/-- behind an append of a place, ahead of the store -/
theorem RS.mid2 {o : Obj} {w1 : World} (h : RS A B w st va vb wr) (ht : Turned (blk vb) (wr.alloc o) w1) : Struct A zeroCells w1 ∧ Struct B [.int .i64 (st.W : Int), .int .i64 (st.H : Int), va, vb] w1 ∧ OwnL 4 1 tbEnc va st.ws w1 ∧ Turned [] w w1 := by
  have ha := (Turned.refl [] wr).alloc o
  refine ⟨(h.res.keep ha (by simp)).keep ht (fun hk => (h.nb A hk).2.1 rfl), (h.own.keep ha (by simp)).keep ht (fun hk => (h.nb B hk).2.2 rfl), (h.ws.keep ha (by simp)).keep ht (fun k hk hm => h.dis k hk hm), ?_⟩
  exact (h.turned.trans ha (by simp)).trans ht (fun k hk hl => by have := (h.nb k hk).1; omega)
theorem RS.push2 {o : Obj} {w1 : World} {b : Int × Int} {v' : Value} {x : Nat} (h : RS A B w st va vb wr) (hAB : A ≠ B) (hB : w.heap.size ≤ B) (ho1 : OwnL 28 2 tvEnc v' (st.sp ++ [b]) w1) (ht : Turned (blk vb) (wr.alloc o) w1) (hb : blk v' = blk vb ∨ blk v' = [(wr.alloc o).heap.size]) : RS A B w ⟨x, st.W, st.H, st.ws, st.sp ++ [b]⟩ va v' (w1.setCell ⟨B, 3, none⟩ v') := by
  obtain ⟨m1, m2, m3, m4⟩ := h.mid2 ht
  have hs : (wr.alloc o).heap.size = wr.heap.size + 1 := by simp
  have hnb : ∀ k ∈ blk v', w.heap.size ≤ k ∧ k ≠ A ∧ k ≠ B := by
    intro k hk
    rcases hb with e | e
    · rw [e] at hk; exact h.nb k hk
    · rw [e, hs] at hk; simp at hk; subst hk
      have := h.res.1; have := h.own.1; have := h.turned.size
      exact ⟨by omega, by omega, by omega⟩
  have hdis : ∀ k ∈ blk va, k ∉ blk v' := by
    intro k hk hm
    rcases hb with e | e
    · rw [e] at hm; exact h.dis k hk hm
    · rw [e, hs] at hm; simp at hm; subst hm
      have := h.ws.lt _ hk; omega
  have hT : Turned [B] w1 (w1.setCell ⟨B, 3, none⟩ v') := (Turned.refl [B] w1).setCell (p := ⟨B, 3, none⟩) (.inl (by simp)) _
  exact ⟨m1.keep hT (by simpa using hAB), m2.set (i := 3) (by simp) _, m3.keep hT (fun k hk => by simpa using (h.na k hk).2.2), ho1.keep hT (fun k hk => by simpa using (hnb k hk).2.2), h.na, hnb, hdis, m4.setCell (p := ⟨B, 3, none⟩) (.inr hB) _⟩
end
/-- what Read answers of a text -/
def Answers (l : List UInt8) (w : World) (e : Ending) (w' : World) : Prop :=
  ∃ oa ca ob cb, e = .returned (.tuple #[mapVal (Ti.ansM (Ti.read l)) oa ca ob cb, .int .i64 ((Ti.ansN (Ti.read l) : Nat) : Int), .int .i64 (Ti.ansE (Ti.read l))]) ∧ MapAt (Ti.ansM (Ti.read l)) oa ob w' ∧ (∀ a, oa = some a → w.heap.size ≤ a.block) ∧ (∀ a, ob = some a → w.heap.size ≤ a.block) ∧ Turned [] w w'
end TiR
end Go.Proofs.Ytbfffgnalopfbaa

/- Entities that are the same; what was put is taken, in the laws of layer 10 (EnL). -/
import Derived.Test.YtjphcbcbaiifhaaEntLaw
import Derived.Laws.StructEq
namespace Go.Proofs.Ytjphcbcbaiifhaa
open Go.RowKit
set_option linter.unusedVariables false

theorem en_same (e : En.E) (w : World) : (binOp .eql 29 (.agg #[.int .i64 e.id, .int .i64 e.kind, .int .i64 e.ax, .int .i64 e.ay, .int .i64 e.vx, .int .i64 e.vy, .int .i64 e.h, .int .i64 e.t]) (.agg #[.int .i64 e.id, .int .i64 e.kind, .int .i64 e.ax, .int .i64 e.ay, .int .i64 e.vx, .int .i64 e.vy, .int .i64 e.h, .int .i64 e.t])).run Try.prog w = .ok (.bool true) w := by
  rw [run_eql_struct, run_equalIn_agg (d := 9999) (ht := by kernel_rfl) (hp := by kernel_rfl)]
  simp [go_sem]

namespace EnL
theorem bytes_of {oa : Option Addr} {len : Nat} {w : World} (h : Ints .u8 oa len w) : ∃ bs : List Nat, bs.length = len ∧ (∀ x ∈ bs, x < 256) ∧ RowOf 1 byEnc oa bs w := by
  suffices hs : ∀ n, n ≤ len → ∃ l : List Nat, l.length = n ∧ (∀ x ∈ l, x < 256) ∧ RowOf 1 byEnc oa l w from hs len (Nat.le_refl _)
  intro n
  induction n with
  | zero => intro _; exact ⟨[], rfl, by simp, fun i a hi => by simp at hi⟩
  | succ n ih =>
    intro hn
    obtain ⟨l, hl, hb, hr⟩ := ih (by omega)
    obtain ⟨b, off, z, ho, hlt, hc, hz⟩ := h n (by omega)
    simp [Lit.wf, IntKind.min, IntKind.max, IntKind.bits, IntKind.signed] at hz
    refine ⟨l ++ [z.toNat], by simp [hl], ?_, ?_⟩
    · intro x hx
      rcases List.mem_append.1 hx with hx | hx
      · exact hb x hx
      · simp at hx; omega
    · intro i a hi
      by_cases e : i < l.length
      · rw [List.getElem?_append_left e] at hi
        exact hr i a hi
      · rw [List.getElem?_append_right (by omega)] at hi
        have hin : i = n := by
          have := (List.getElem?_eq_some_iff.1 hi).1
          simp at this; omega
        subst hin
        rw [hl, Nat.sub_self] at hi
        simp at hi
        subst hi
        refine ⟨b, off, ho, hlt, fun j u hu => ?_⟩
        match j, hu with
        | 0, hu =>
          simp [byEnc] at hu
          rw [← hu, Nat.mul_one, Nat.add_zero, hc]
          congr 2
          omega
theorem prd_rblk {p : Nat} {v : Value} {bs : List Nat} {r : Bt.Rd} {w : World} (h : PRd p v bs r w) : ∀ k ∈ rblk v, k < w.heap.size := by
  obtain ⟨_, ⟨oa, cap, rfl, _, hd⟩, _⟩ := h
  intro k hk
  cases oa with
  | none => simp [rblk] at hk
  | some a =>
    simp [rblk] at hk
    subst hk
    exact (hd a rfl).2
/-- a writer and the reference's, one behind the other: the second one is as it was made -/
theorem bits_new (u : World) {F : List Nat} {u2 : World} (h : Moved [u.heap.size] F ((u.alloc (.cells #[.slice none 0 0, .int .i64 0] 36)).alloc (.cells #[.slice none 0 0] 40)) u2) : BtR.RB (u.heap.size + 1) [] [u.heap.size + 1] u2 := by
  have := RBits.new 4 (u.alloc (.cells #[.slice none 0 0, .int .i64 0] 36)) 40
  rw [show (u.alloc (.cells #[.slice none 0 0, .int .i64 0] 36)).heap.size = u.heap.size + 1 by simp] at this
  exact this.keep h.1 (by intro k hk hn; simp at hk hn; omega)
theorem apart_new {u : World} {F : List Nat} {u2 : World} (h : Moved [u.heap.size] F ((u.alloc (.cells #[.slice none 0 0, .int .i64 0] 36)).alloc (.cells #[.slice none 0 0] 40)) u2) : ∀ k ∈ F, k ∉ [u.heap.size + 1] := by
  intro k hk hn
  simp at hn
  rcases h.2 k hk with h1 | h1
  · simp at h1; omega
  · simp at h1; omega
theorem struct_two {b : Nat} {cs : List Value} {u u2 u3 : World} {F F3 : List Nat} (hS : Struct b cs u) (h : Moved [u.heap.size] F ((u.alloc (.cells #[.slice none 0 0, .int .i64 0] 36)).alloc (.cells #[.slice none 0 0] 40)) u2) (h3 : Moved [u.heap.size + 1] F3 u2 u3) : Struct b cs u3 := by
  have hb := hS.1
  refine ((hS.keep (((Turned.refl [] u).alloc _).alloc _) (by simp)).keep h.1 (by simp; omega)).keep h3.1 (by simp; omega)

theorem pad_lt (L : List Bool) : ∃ m, m < 8 ∧ Bt.unpack (Bt.pack L) = L ++ List.replicate m false :=
  ⟨_, by omega, Bt.unpack_pack L⟩
theorem back_next {b e : En.E} (hf : En.Formed e) (hi : b.id = e.id) (hk : b.kind = e.kind) : En.Next ⟨Bt.unpack (Bt.pack (En.all b e)), 0, false⟩ b e := by
  obtain ⟨m, _, hm⟩ := pad_lt (En.all b e)
  refine ⟨rfl, hf, hi, hk, List.replicate m false, ?_⟩
  show (Bt.unpack (Bt.pack (En.all b e))).drop 0 = _
  rw [List.drop_zero, hm]
theorem back_done {b e : En.E} : (⟨Bt.unpack (Bt.pack (En.all b e)), 0 + (En.all b e).length, false⟩ : Bt.Rd).done = true := by
  obtain ⟨m, hm8, hm⟩ := pad_lt (En.all b e)
  have e1 : (⟨Bt.unpack (Bt.pack (En.all b e)), 0 + (En.all b e).length, false⟩ : Bt.Rd).rest = List.replicate m false := by
    show (Bt.unpack (Bt.pack (En.all b e))).drop (0 + (En.all b e).length) = _
    rw [hm, Nat.zero_add, List.drop_left]
  have hl := Bt.Rd.rest_length (⟨Bt.unpack (Bt.pack (En.all b e)), 0 + (En.all b e).length, false⟩ : Bt.Rd)
  rw [e1, List.length_replicate] at hl
  unfold Bt.Rd.done
  rw [e1, ← hl]
  have : decide (m < 8) = true := by simpa using hm8
  rw [this]
  simp
theorem self_len (e : En.E) : (En.all e e).length = 6 := by
  have hd : ∀ i, En.dif e e i = false := fun i => by unfold En.dif; simp
  have hs : ∀ k, En.smalls e e k = [] := by
    intro k
    induction k with
    | zero => rfl
    | succ k ih => rw [En.smalls_succ, ih]; unfold En.small1; rw [hd k, if_neg (by decide)]; rfl
  unfold En.all
  rw [List.length_append, En.flags_len, hs 6]; rfl
theorem fits_iff (b e : En.E) : EnR.fits b e = (decide (En.Formed e) && (b.id == e.id) && (b.kind == e.kind)) := by
  unfold EnR.fits
  have h1 : decide (b.id = e.id) = (b.id == e.id) := by rw [Bool.eq_iff_iff]; simp
  have h2 : decide (b.kind = e.kind) = (b.kind == e.kind) := by rw [Bool.eq_iff_iff]; simp
  rw [h1, h2]
/-- two entities that a call has laid down, and what turns behind -/
theorem boxes (b e : En.E) (w : World) : Struct w.heap.size (enEnc b) ((w.alloc (.cells (enEnc b).toArray 29)).alloc (.cells (enEnc e).toArray 29)) ∧ Struct (w.heap.size + 1) (enEnc e) ((w.alloc (.cells (enEnc b).toArray 29)).alloc (.cells (enEnc e).toArray 29)) ∧ Turned [] w ((w.alloc (.cells (enEnc b).toArray 29)).alloc (.cells (enEnc e).toArray 29)) ∧ ((w.alloc (.cells (enEnc b).toArray 29)).alloc (.cells (enEnc e).toArray 29)).heap.size = w.heap.size + 1 + 1 := by
  refine ⟨(Struct.new w (enEnc b) _).keep ((Turned.refl [] _).alloc _) (by simp), ?_, ((Turned.refl [] w).alloc _).alloc _, by simp⟩
  have := Struct.new (w.alloc (.cells (enEnc b).toArray 29)) (enEnc e) 29
  rw [show (w.alloc (.cells (enEnc b).toArray 29)).heap.size = w.heap.size + 1 by simp] at this
  exact this
theorem writer_new {n : Nat} {W : World} (h : W.heap.size = n) : PW n [] [n] (W.alloc (.cells #[.slice none 0 0, .int .i64 0] 36)) := by
  subst h; exact PW.new W 36
end EnL
end Go.Proofs.Ytjphcbcbaiifhaa

/- Bytes that came in, read by the program and by the reference, in the laws of layer 9 (CmL). -/
import Derived.Test.YtodfgekhffeapaaCmdLaw2
import Derived.Test.YtodfgekhffeapaaCmdTake
import Derived.Test.YtodfgekhffeapaaInts
import Derived.Test.YtodfgekhffeapaaBitRf2
import Derived.Test.YtodfgekhffeapaaSameRow
namespace Go.Proofs.Ytodfgekhffeapaa
open Go.RowKit
set_option linter.unusedVariables false

namespace CmL
theorem bytes_of {oa : Option Addr} {len : Nat} {w : World} (h : Ints .u8 oa len w) : ∃ bs : List Nat, bs.length = len ∧ (∀ x ∈ bs, x < 256) ∧ RowOf 1 byEnc oa bs w := by
  suffices hs : ∀ n, n ≤ len → ∃ l : List Nat, l.length = n ∧ (∀ x ∈ l, x < 256) ∧ RowOf 1 byEnc oa l w from hs len (Nat.le_refl _)
  intro n
  induction n with
  | zero => intro _; exact ⟨[], rfl, by simp, fun i a hi => by simp at hi⟩
  | succ n ih =>
    intro hn
    obtain ⟨l, hl, hb, hr⟩ := ih (by omega)
    obtain ⟨b, off, z, ho, hlt, hc, hz⟩ := h n (by omega)
    simp [Lit.wf, IntKind.min, IntKind.max, IntKind.bits, IntKind.signed] at hz
    refine ⟨l ++ [z.toNat], by simp [hl], ?_, ?_⟩
    · intro x hx
      rcases List.mem_append.1 hx with hx | hx
      · exact hb x hx
      · simp at hx; omega
    · intro i a hi
      by_cases e : i < l.length
      · rw [List.getElem?_append_left e] at hi
        exact hr i a hi
      · rw [List.getElem?_append_right (by omega)] at hi
        have hin : i = n := by
          have := (List.getElem?_eq_some_iff.1 hi).1
          simp at this; omega
        subst hin
        rw [hl, Nat.sub_self] at hi
        simp at hi
        subst hi
        refine ⟨b, off, ho, hlt, fun j u hu => ?_⟩
        match j, hu with
        | 0, hu =>
          simp [byEnc] at hu
          rw [← hu, Nat.mul_one, Nat.add_zero, hc]
          congr 2
          omega
theorem prd_rblk {p : Nat} {v : Value} {bs : List Nat} {r : Bt.Rd} {w : World} (h : PRd p v bs r w) : ∀ k ∈ rblk v, k < w.heap.size := by
  obtain ⟨_, ⟨oa, cap, rfl, _, hd⟩, _⟩ := h
  intro k hk
  cases oa with
  | none => simp [rblk] at hk
  | some a =>
    simp [rblk] at hk
    subst hk
    exact (hd a rfl).2
/-- a writer and the reference's, one behind the other: the second one is as it was made -/
theorem bits_new (u : World) {F : List Nat} {u2 : World} (h : Moved [u.heap.size] F ((u.alloc (.cells #[.slice none 0 0, .int .i64 0] 31)).alloc (.cells #[.slice none 0 0] 35)) u2) : BtR.RB (u.heap.size + 1) [] [u.heap.size + 1] u2 := by
  have := RBits.new 4 (u.alloc (.cells #[.slice none 0 0, .int .i64 0] 31)) 35
  rw [show (u.alloc (.cells #[.slice none 0 0, .int .i64 0] 31)).heap.size = u.heap.size + 1 by simp] at this
  exact this.keep h.1 (by intro k hk hn; simp at hk hn; omega)
theorem apart_new {u : World} {F : List Nat} {u2 : World} (h : Moved [u.heap.size] F ((u.alloc (.cells #[.slice none 0 0, .int .i64 0] 31)).alloc (.cells #[.slice none 0 0] 35)) u2) : ∀ k ∈ F, k ∉ [u.heap.size + 1] := by
  intro k hk hn
  simp at hn
  rcases h.2 k hk with h1 | h1
  · simp at h1; omega
  · simp at h1; omega
theorem struct_two {b : Nat} {cs : List Value} {u u2 u3 : World} {F F3 : List Nat} (hS : Struct b cs u) (h : Moved [u.heap.size] F ((u.alloc (.cells #[.slice none 0 0, .int .i64 0] 31)).alloc (.cells #[.slice none 0 0] 35)) u2) (h3 : Moved [u.heap.size + 1] F3 u2 u3) : Struct b cs u3 := by
  have hb := hS.1
  refine ((hS.keep (((Turned.refl [] u).alloc _).alloc _) (by simp)).keep h.1 (by simp; omega)).keep h3.1 (by simp; omega)
end CmL
namespace CmR
theorem take_next {p : Nat} {v : Value} {r : Bt.Rd} {w : World} {l : List Cm.C} (h : RRd p v r w) (hn : Cm.Next r l) :
    Calls Try.prog 22 #[.pointer (some ⟨p, 0, none⟩)] w fun e w' => ∃ (oa : Option Addr) (cap : Nat), e = .returned (.tuple #[.slice oa l.length cap, .bool true]) ∧ RowOf 6 cmEnc oa l w' ∧ RRd p v ⟨r.l, r.at_ + (Cm.all l).length, false⟩ w' ∧ Turned [p] w w' := by
  refine (take_any p v r w h).mono ?_
  rintro e w' (⟨l', v', hn', he, ho, _, h3, h4⟩ | ⟨hno, _⟩)
  · obtain rfl := Cm.next_uniq hn hn'
    obtain ⟨oa, cap, rfl, _, _, hr, _⟩ := ho.rowOf cmEnc_len
    exact ⟨oa, cap, he, hr, h3, h4⟩
  · exact absurd hn (hno l)
theorem take_none {p : Nat} {v : Value} {r : Bt.Rd} {w : World} (h : RRd p v r w) (hn : ∀ l, ¬ Cm.Next r l) :
    Calls Try.prog 22 #[.pointer (some ⟨p, 0, none⟩)] w fun e w' => e = .returned (.tuple #[.slice none 0 0, .bool false]) ∧ Turned [p] w w' := by
  refine (take_any p v r w h).mono ?_
  rintro e w' (⟨l', v', hn', _⟩ | ⟨_, he, _, h2⟩)
  · exact absurd hn' (hn l')
  · exact ⟨he, h2⟩
theorem same_none (oa ob : Option Addr) (ca cb : Nat) (w : World) : Calls Try.prog 23 #[.slice oa 0 ca, .slice ob 0 cb] w fun e w' => e = .returned (.bool true) ∧ Turned [] w w' :=
  same_any oa ob ca cb [] w (fun i a hi => by simp at hi) (fun i a hi => by simp at hi) (by simp)
end CmR
end Go.Proofs.Ytodfgekhffeapaa

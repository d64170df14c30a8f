/- Readers in the laws of layer 6: what is taken of what was put (BtL). -/
import Derived.Test.YtbdjgpnodcepeaaBitLaw
import Derived.Test.YtbdjgpnodcepeaaBitRd2
import Derived.Test.YtbdjgpnodcepeaaInts
namespace Go.Proofs.Ytbdjgpnodcepeaa
open Go.RowKit
set_option linter.unusedVariables false

namespace BtL
theorem opsBits_cons (a : Bool × Int × Int) (l : List (Bool × Int × Int)) : opsBits (a :: l) = opBits a ++ opsBits l := rfl
theorem opsBits_append (l r : List (Bool × Int × Int)) : opsBits (l ++ r) = opsBits l ++ opsBits r := List.flatMap_append
/-- a reader of all that was put, behind the first k -/
def rk (l : List (Bool × Int × Int)) (Z : List Bool) (k : Nat) : Bt.Rd := ⟨opsBits l ++ Z, (opsBits (l.take k)).length, false⟩
theorem rk_rest {l : List (Bool × Int × Int)} {Z : List Bool} {k : Nat} {a : Bool × Int × Int} (h : l[k]? = some a) : (rk l Z k).rest = opBits a ++ (opsBits (l.drop (k + 1)) ++ Z) := by
  have hk : k < l.length := (List.getElem?_eq_some_iff.1 h).1
  have e : opsBits l = opsBits (l.take k) ++ opsBits (l.drop k) := by rw [← opsBits_append, List.take_append_drop]
  have e2 : l.drop k = a :: l.drop (k + 1) := by
    rw [List.drop_eq_getElem_cons hk]
    have : l[k] = a := by rw [List.getElem?_eq_getElem hk] at h; simpa using h
    rw [this]
  unfold Bt.Rd.rest rk
  show (opsBits l ++ Z).drop (opsBits (l.take k)).length = _
  rw [e, e2, List.append_assoc, List.drop_left, opsBits_cons, List.append_assoc]
theorem rk_len {l : List (Bool × Int × Int)} {k : Nat} {a : Bool × Int × Int} (h : l[k]? = some a) : (opsBits (l.take (k + 1))).length = (opsBits (l.take k)).length + (opBits a).length := by
  rw [opsBits_next h, List.length_append]
theorem rk_small {l : List (Bool × Int × Int)} {Z : List Bool} {k : Nat} {x n : Int} (h : l[k]? = some (true, x, n)) : (rk l Z k).sTell = wrap64 x ∧ (rk l Z k).sTake = rk l Z (k + 1) := by
  have hr := rk_rest (Z := Z) h
  have hl := rk_len h
  have ho : opBits (true, x, n) = Bt.sm (Bt.zig (wrap64 x)) := rfl
  rw [ho] at hr hl
  have hs := Bt.small_sm (Bt.zig_lt (w64_lo x) (w64_hi x)) (opsBits (l.drop (k + 1)) ++ Z)
  rw [← hr] at hs
  unfold Bt.Rd.sTell Bt.Rd.sTake
  have hf : (rk l Z k).fail = false := rfl
  rw [hf, hs]
  refine ⟨rfl, ?_⟩
  show (⟨opsBits l ++ Z, (opsBits (l.take k)).length + 8 * Bt.eights (Bt.zig (wrap64 x)), false⟩ : Bt.Rd) = _
  unfold rk
  rw [hl, Bt.sm_length]
theorem rk_take {l : List (Bool × Int × Int)} {Z : List Bool} {k : Nat} {x n : Int} (h : l[k]? = some (false, x, n)) (hn : 0 ≤ n ∧ n ≤ 64) : (rk l Z k).tell n = x.toNat % 2 ^ n.toNat ∧ (rk l Z k).take n = rk l Z (k + 1) := by
  have hr := rk_rest (Z := Z) h
  have hl := rk_len h
  have ho : opBits (false, x, n) = Bt.bits x.toNat n.toNat := by
    show BtW.puts x.toNat n = _
    unfold BtW.puts
    rw [if_pos hn]
  rw [ho] at hr hl
  have hc : (rk l Z k).can n = true := by
    rw [Bt.Rd.can_iff]
    refine ⟨rfl, hn.1, hn.2, ?_⟩
    have := (rk l Z k).rest_length
    rw [hr, List.length_append, Bt.bits_length] at this
    omega
  unfold Bt.Rd.tell Bt.Rd.take
  rw [if_pos hc, if_pos hc, hr, List.take_append_of_le_length (by rw [Bt.bits_length]; exact Nat.le_refl _), List.take_of_length_le (by rw [Bt.bits_length]; exact Nat.le_refl _), Bt.val_bits]
  refine ⟨rfl, ?_⟩
  show (⟨opsBits l ++ Z, (opsBits (l.take k)).length + n.toNat, false⟩ : Bt.Rd) = _
  unfold rk
  rw [hl, Bt.bits_length]
theorem rk_skip {l : List (Bool × Int × Int)} {Z : List Bool} {k : Nat} {x n : Int} (h : l[k]? = some (false, x, n)) (hn : ¬ (0 ≤ n ∧ n ≤ 64)) : rk l Z (k + 1) = rk l Z k := by
  have hl := rk_len h
  have ho : opBits (false, x, n) = [] := by
    show BtW.puts x.toNat n = _
    unfold BtW.puts
    rw [if_neg hn]
  rw [ho] at hl
  unfold rk
  rw [hl]
  rfl
theorem rk_done {l : List (Bool × Int × Int)} {m : Nat} (hm : m < 8) : (rk l (List.replicate m false) l.length).done = true := by
  have e : (rk l (List.replicate m false) l.length).rest = List.replicate m false := by
    unfold Bt.Rd.rest rk
    show (opsBits l ++ List.replicate m false).drop (opsBits (l.take l.length)).length = _
    rw [List.take_length, List.drop_left]
  have hl := (rk l (List.replicate m false) l.length).rest_length
  rw [e, List.length_replicate] at hl
  unfold Bt.Rd.done
  rw [e, ← hl]
  have : decide (m < 8) = true := by simpa using hm
  rw [this]
  show (true && true && (List.replicate m false).all fun b => !b) = true
  simp
theorem rk_start (l : List (Bool × Int × Int)) : ∃ m, m < 8 ∧ (⟨Bt.unpack (Bt.pack (opsBits l)), 0, false⟩ : Bt.Rd) = rk l (List.replicate m false) 0 := by
  refine ⟨8 * (((opsBits l).length + 7) / 8) - (opsBits l).length, by omega, ?_⟩
  unfold rk
  rw [Bt.unpack_pack]
  rfl
/-- the writer's loop -/
def Puts (w0 : World) (p : Nat) (l : List Bool) (wr : World) : Prop :=
  ∃ F1, PW p l F1 wr ∧ (∀ k ∈ F1, w0.heap.size ≤ k) ∧ Turned [] w0 wr
theorem puts_step {w0 wr u1 : World} {p : Nat} {l' : List Bool} {F1 F1' : List Nat} (h1 : ∀ k ∈ F1, w0.heap.size ≤ k) (ht : Turned [] w0 wr) (hp' : PW p l' F1' u1) (hm1 : Moved F1 F1' wr u1) : Puts w0 p l' u1 :=
  ⟨F1', hp', hm1.ge ht.size h1, mid_turned h1 ht hm1⟩
theorem puts_new (w : World) (t : TypeId) : Puts w w.heap.size [] (w.alloc (.cells #[.slice none 0 0, .int .i64 0] t)) :=
  ⟨[w.heap.size], PW.new w t, by simp, (Turned.refl [] _).alloc _⟩

/-- a slice of bytes that came in, by a list of numbers -/
theorem bytes_of {oa : Option Addr} {len : Nat} {w : World} (h : Ints .u8 oa len w) : ∃ bs : List Nat, bs.length = len ∧ (∀ x ∈ bs, x < 256) ∧ RowOf 1 byEnc oa bs w := by
  suffices hs : ∀ n, n ≤ len → ∃ l : List Nat, l.length = n ∧ (∀ x ∈ l, x < 256) ∧ RowOf 1 byEnc oa l w from hs len (Nat.le_refl _)
  intro n
  induction n with
  | zero => intro _; exact ⟨[], rfl, by simp, fun i a hi => by simp at hi⟩
  | succ n ih =>
    intro hn
    obtain ⟨l, hl, hb, hr⟩ := ih (by omega)
    obtain ⟨b, off, z, ho, hlt, hc, hz⟩ := h n (by omega)
    simp [Lit.wf, IntKind.min, IntKind.max, IntKind.bits, IntKind.signed] at hz
    refine ⟨l ++ [z.toNat], by simp [hl], ?_, ?_⟩
    · intro x hx
      rcases List.mem_append.1 hx with hx | hx
      · exact hb x hx
      · simp at hx; omega
    · intro i a hi
      by_cases e : i < l.length
      · rw [List.getElem?_append_left e] at hi
        exact hr i a hi
      · rw [List.getElem?_append_right (by omega)] at hi
        have hin : i = n := by
          have := (List.getElem?_eq_some_iff.1 hi).1
          simp at this; omega
        subst hin
        rw [hl, Nat.sub_self] at hi
        simp at hi
        subst hi
        refine ⟨b, off, ho, hlt, fun j u hu => ?_⟩
        match j, hu with
        | 0, hu =>
          simp [byEnc] at hu
          rw [← hu, Nat.mul_one, Nat.add_zero, hc]
          congr 2
          omega

/-- a call of a reader's may have turned its own block alone -/
theorem own_turned {w0 wr u : World} {p : Nat} (hp : w0.heap.size ≤ p) (ht : Turned [] w0 wr) (h : Turned [p] wr u) : Turned [] w0 u :=
  ht.trans h (by intro k hk hl; simp at hk; omega)

/-- what a reader does: never back, and not when it fails -/
theorem take_facts {r : Bt.Rd} (hw : r.wf) (n : Int) : ((r.take n).left ≤ r.left) ∧ (r.fail = true → r.tell n = 0 ∧ (r.take n).fail = true ∧ (r.take n).left = r.left) ∧ ((r.take n).fail = true → r.tell n = 0 ∧ (r.take n).left = r.left) := by
  unfold Bt.Rd.take Bt.Rd.tell
  by_cases hc : r.can n = true
  · rw [if_pos hc, if_pos hc]
    have := Bt.Rd.can_iff.1 hc
    refine ⟨?_, ?_, ?_⟩
    · unfold Bt.Rd.left; show r.l.length - (r.at_ + n.toNat) ≤ r.l.length - r.at_; omega
    · intro h; rw [this.1] at h; cases h
    · intro h; cases h
  · rw [if_neg hc, if_neg hc]
    exact ⟨Nat.le_refl _, fun _ => ⟨rfl, rfl, rfl⟩, fun _ => ⟨rfl, rfl⟩⟩
theorem small_facts {r : Bt.Rd} (hw : r.wf) : (r.sTake.left ≤ r.left) ∧ (r.fail = true → r.sTell = 0 ∧ r.sTake.fail = true ∧ r.sTake.left = r.left) ∧ (r.sTake.fail = true → r.sTell = 0 ∧ r.sTake.left = r.left) := by
  unfold Bt.Rd.sTake Bt.Rd.sTell
  by_cases hf : r.fail = true
  · rw [if_pos hf, if_pos hf]
    exact ⟨Nat.le_refl _, fun _ => ⟨rfl, hf, rfl⟩, fun _ => ⟨rfl, rfl⟩⟩
  · rw [if_neg hf, if_neg hf]
    cases hs : Bt.small r.rest with
    | none => exact ⟨Nat.le_refl _, fun h => absurd h hf, fun _ => ⟨rfl, rfl⟩⟩
    | some q =>
      obtain ⟨x, n⟩ := q
      refine ⟨?_, fun h => absurd h hf, ?_⟩
      · unfold Bt.Rd.left; show r.l.length - (r.at_ + n) ≤ r.l.length - r.at_; omega
      · intro h; cases h
theorem done_left {r : Bt.Rd} (h : r.done = true) : r.left < 8 := by
  unfold Bt.Rd.done at h
  simp at h
  omega
end BtL
end Go.Proofs.Ytbdjgpnodcepeaa

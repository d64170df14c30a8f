/- A number of n bits, put and taken bit by bit; bytes as a string (BtL). -/
import Derived.Test.YtbdjgpnodcepeaaBitLaw3
import Derived.Laws.BytesArg
namespace Go.Proofs.Ytbdjgpnodcepeaa
open Go.RowKit
set_option linter.unusedVariables false

namespace BtL
theorem u8_nat {a : Int} (h : (Lit.int .u8 a).wf = true) : ∃ n : Nat, a = (n : Int) ∧ n < 256 := by
  simp [Lit.wf, IntKind.min, IntKind.max, IntKind.bits, IntKind.signed] at h
  exact ⟨a.toNat, by omega, by omega⟩
theorem wrap_i64 {n : Nat} (h : n < 9223372036854775808) : IntKind.i64.wrap (n : Int) = (n : Int) := by
  rw [wrap_eq]
  unfold wrap64
  omega
theorem wrap_u64 {n : Nat} (h : n < 18446744073709551616) : IntKind.u64.wrap (n : Int) = (n : Int) := by
  have hw : ∀ y : Int, IntKind.u64.wrap y = y % 18446744073709551616 := fun y => by simp [IntKind.wrap, IntKind.bits, IntKind.signed]
  rw [hw]
  omega
/-- bytes as a string -/
def str (bs : List Nat) : ByteArray := strOfNums (bs.map fun b : Nat => (b : Int))
theorem conv_row {oa : Option Addr} {bs : List Nat} {cap : Nat} {w : World} (hr : RowOf 1 byEnc oa bs w) (hsp : ∀ a, oa = some a → a.spot = none) :
    (convert 25 9 (.slice oa bs.length cap)).run Try.prog w = .ok (.string (str bs)) w := by
  cases oa with
  | none =>
    have hb : bs = [] := by
      cases bs with
      | nil => rfl
      | cons a r => obtain ⟨b, off, ho, _⟩ := hr 0 a rfl; cases ho
    subst hb
    exact run_convert_bytes_nil (P := Try.prog) w 25 5 (by kernel_rfl) (by kernel_rfl) 0 cap 9 (by kernel_rfl)
  | some a =>
    obtain ⟨g, off, spot⟩ := a
    have : spot = none := hsp _ rfl
    subst this
    refine run_convert_bytes_arg (P := Try.prog) w 25 5 (by kernel_rfl) (by kernel_rfl) g off bs.length cap (bs.map fun b : Nat => (b : Int)) (by simp) ?_ 9 (by kernel_rfl)
    intro i hi
    obtain ⟨g', off', ho, _, hc⟩ := hr i _ (List.getElem?_eq_getElem hi)
    simp at ho
    obtain ⟨rfl, rfl⟩ := ho
    have := hc 0 _ rfl
    rw [Nat.mul_one, Nat.add_zero] at this
    rw [this]
    simp [List.getD, List.getElem?_eq_getElem hi]
/-- the bits of what is ahead, and of x -/
def by_ (h x k : Nat) : List Bool := Bt.bits 1 h ++ Bt.bits x k
theorem by_len (h x k : Nat) : (by_ h x k).length = h + k := by unfold by_; rw [List.length_append, Bt.bits_length, Bt.bits_length]
theorem by_next (h x k : Nat) : by_ h x k ++ Bt.bits (x / 2 ^ k) 1 = by_ h x (k + 1) := by
  unfold by_
  rw [List.append_assoc, Bt.bits_snoc (n := k)]
  rfl
/-- a reader of them, behind what is ahead and i bits more -/
def br (h x k : Nat) (Z : List Bool) (i : Nat) : Bt.Rd := ⟨by_ h x k ++ Z, h + i, false⟩
theorem br_start (h x k : Nat) : ∃ Z, (⟨Bt.unpack (Bt.pack (by_ h x k)), 0, false⟩ : Bt.Rd).l = by_ h x k ++ Z := ⟨_, Bt.unpack_pack _⟩
theorem br_take {h x k i : Nat} {Z : List Bool} (hi : i < k) : (br h x k Z i).tell 1 = x / 2 ^ i % 2 ∧ (br h x k Z i).take 1 = br h x k Z (i + 1) := by
  have hr : (br h x k Z i).rest = Bt.bits (x / 2 ^ i) (k - i) ++ Z := by
    unfold Bt.Rd.rest br by_
    show (Bt.bits 1 h ++ Bt.bits x k ++ Z).drop (h + i) = _
    have e : Bt.bits x k = Bt.bits x i ++ Bt.bits (x / 2 ^ i) (k - i) := by rw [← Bt.bits_add, show i + (k - i) = k by omega]
    rw [e, ← List.append_assoc, List.append_assoc, List.drop_left' (by rw [List.length_append, Bt.bits_length, Bt.bits_length])]
  have hl := (br h x k Z i).rest_length
  rw [hr, List.length_append, Bt.bits_length] at hl
  have hc : (br h x k Z i).can 1 = true := by
    rw [Bt.Rd.can_iff]
    exact ⟨rfl, by omega, by omega, by omega⟩
  unfold Bt.Rd.tell Bt.Rd.take
  rw [if_pos hc, if_pos hc, hr, show k - i = (k - i - 1) + 1 by omega]
  refine ⟨?_, ?_⟩
  · show Bt.val (((x / 2 ^ i % 2 == 1) :: Bt.bits (x / 2 ^ i / 2) (k - i - 1) ++ Z).take 1) = _
    show (x / 2 ^ i % 2 == 1).toNat + 2 * 0 = _
    have : x / 2 ^ i % 2 = 0 ∨ x / 2 ^ i % 2 = 1 := by omega
    rcases this with h | h <;> rw [h] <;> rfl
  · show (⟨by_ h x k ++ Z, h + i + 1, false⟩ : Bt.Rd) = _
    unfold br
    rw [Nat.add_assoc]
theorem br_first {h x k : Nat} {Z : List Bool} (hh : h ≤ 64) : (⟨by_ h x k ++ Z, 0, false⟩ : Bt.Rd).take (h : Int) = br h x k Z 0 := by
  have hl := by_len h x k
  have hc : (⟨by_ h x k ++ Z, 0, false⟩ : Bt.Rd).can (h : Int) = true := by
    rw [Bt.Rd.can_iff]
    refine ⟨rfl, by omega, by omega, ?_⟩
    unfold Bt.Rd.left
    show (h : Int) ≤ (((by_ h x k ++ Z).length - 0 : Nat) : Int)
    rw [List.length_append, hl]
    omega
  unfold Bt.Rd.take
  rw [if_pos hc]
  show (⟨by_ h x k ++ Z, 0 + (h : Int).toNat, false⟩ : Bt.Rd) = _
  unfold br
  rw [Int.toNat_natCast, Nat.zero_add, Nat.add_zero]
/-- one bit more of y -/
theorem y_next (x i : Nat) : x % 2 ^ i + 2 ^ i * (x / 2 ^ i % 2) = x % 2 ^ (i + 1) := by
  rw [Nat.pow_succ, Nat.mod_mul]
theorem y_val {x i : Nat} (hi : i < 64) : IntKind.u64.wrap (((x % 2 ^ i : Nat) : Int) + IntKind.u64.wrap (((x / 2 ^ i % 2 : Nat) : Int) * 2 ^ i)) = ((x % 2 ^ (i + 1) : Nat) : Int) := by
  have hw : ∀ y : Int, IntKind.u64.wrap y = y % 18446744073709551616 := fun y => by simp [IntKind.wrap, IntKind.bits, IntKind.signed]
  have hp : 2 ^ (i + 1) ≤ 2 ^ 64 := Nat.pow_le_pow_right (by omega) (by omega)
  have hp' : 2 ^ (i + 1) ≤ 18446744073709551616 := hp
  have hlt : x % 2 ^ (i + 1) < 2 ^ (i + 1) := Nat.mod_lt _ (Nat.pow_pos (by omega))
  have hy := y_next x i
  have e : ((2 : Int) ^ i) = ((2 ^ i : Nat) : Int) := by simp
  rw [hw, hw, e]
  have em : ((x / 2 ^ i % 2 : Nat) : Int) * ((2 ^ i : Nat) : Int) = ((2 ^ i * (x / 2 ^ i % 2) : Nat) : Int) := by rw [Nat.mul_comm]; exact (Int.natCast_mul _ _).symm
  rw [em]
  generalize 2 ^ i * (x / 2 ^ i % 2) = A at *
  generalize x % 2 ^ i = B at *
  generalize x % 2 ^ (i + 1) = C at *
  generalize 2 ^ (i + 1) = D at *
  omega
/-- two writers, apart from each other, and all of it new -/
def Two (w0 : World) (p q : Nat) (l m : List Bool) (wr : World) : Prop :=
  ∃ F G, PW p l F wr ∧ PW q m G wr ∧ (∀ k ∈ F, k ∉ G) ∧ (∀ k ∈ F, w0.heap.size ≤ k) ∧ (∀ k ∈ G, w0.heap.size ≤ k) ∧ Turned [] w0 wr
theorem two_new (w : World) (t : TypeId) : Two w w.heap.size (w.heap.size + 1) [] [] ((w.alloc (.cells #[.slice none 0 0, .int .i64 0] t)).alloc (.cells #[.slice none 0 0, .int .i64 0] t)) := by
  refine ⟨[w.heap.size], [w.heap.size + 1], (PW.new w t).keep ((Turned.refl [] _).alloc _) (by simp), ?_, by simp, by simp, by simp, ((Turned.refl [] _).alloc _).alloc _⟩
  have := PW.new (w.alloc (.cells #[.slice none 0 0, .int .i64 0] t)) t
  rw [show (w.alloc (.cells #[.slice none 0 0, .int .i64 0] t)).heap.size = w.heap.size + 1 by simp] at this
  exact this
/-- the first one is written -/
theorem two_a {w0 wr : World} {p q : Nat} {l m : List Bool} (h : Two w0 p q l m wr) : ∃ F, PW p l F wr ∧ ∀ l' F' u, PW p l' F' u → Moved F F' wr u → Two w0 p q l' m u := by
  obtain ⟨F, G, hp, hq, hd, h1, h2, ht⟩ := h
  refine ⟨F, hp, fun l' F' u hp' hm => ⟨F', G, hp', hq.keep hm.1 (fun k hk hn => hd k hn hk), ?_, hm.ge ht.size h1, h2, mid_turned h1 ht hm⟩⟩
  intro k hk hn
  exact hm.apart (G := G) hq.lt (fun j hj hi => hd j hi hj) k hn hk
/-- the second one is written -/
theorem two_b {w0 wr : World} {p q : Nat} {l m : List Bool} (h : Two w0 p q l m wr) : ∃ G, PW q m G wr ∧ ∀ m' G' u, PW q m' G' u → Moved G G' wr u → Two w0 p q l m' u := by
  obtain ⟨F, G, hp, hq, hd, h1, h2, ht⟩ := h
  refine ⟨G, hq, fun m' G' u hq' hm => ⟨F, G', hp.keep hm.1 hd, hq', hm.apart hp.lt hd, h1, hm.ge ht.size h2, mid_turned h2 ht hm⟩⟩
/-- something else is written, that came later -/
theorem two_keep {w0 wr u : World} {p q z : Nat} {l m : List Bool} (h : Two w0 p q l m wr) (hz : wr.heap.size ≤ z) (ht : Turned [z] wr u) : Two w0 p q l m u := by
  obtain ⟨F, G, hp, hq, hd, h1, h2, ht0⟩ := h
  refine ⟨F, G, hp.keep ht ?_, hq.keep ht ?_, hd, h1, h2, ht0.trans ht ?_⟩
  · intro k hk hn; simp at hn; have := hp.lt k hk; omega
  · intro k hk hn; simp at hn; have := hq.lt k hk; omega
  · intro k hk hl; simp at hk; have := ht0.size; omega
theorem two_still {w0 wr u : World} {p q : Nat} {l m : List Bool} (h : Two w0 p q l m wr) (ht : Turned [] wr u) : Two w0 p q l m u := by
  obtain ⟨F, G, hp, hq, hd, h1, h2, ht0⟩ := h
  exact ⟨F, G, hp.keep ht (by simp), hq.keep ht (by simp), hd, h1, h2, ht0.trans ht (by simp)⟩
theorem puts_nat (x k : Nat) (h : k ≤ 64) : BtW.puts (x : Int).toNat (k : Int) = Bt.bits x k := by
  unfold BtW.puts
  rw [if_pos (by omega), Int.toNat_natCast, Int.toNat_natCast]
theorem puts_bit (x i : Nat) : BtW.puts ((x : Int) / 2 ^ i).toNat 1 = Bt.bits (x / 2 ^ i) 1 := by
  have e : ((x : Int) / 2 ^ i) = ((x / 2 ^ i : Nat) : Int) := by simp
  unfold BtW.puts
  rw [if_pos (by omega), e, Int.toNat_natCast]
  rfl
end BtL
end Go.Proofs.Ytbdjgpnodcepeaa

/- What the program's reader of bits answers, as a call: small numbers, the end, a new one (BtD). -/
import Derived.Test.YtloobijdpchppaaBitRd
import Derived.Test.YtloobijdpchppaaBitSev
import Derived.Laws.DeepNot64
namespace Go.Proofs.Ytloobijdpchppaa
open Go.RowKit
set_option linter.unusedVariables false

namespace BtD
open BtW (int_ret)

theorem can_of {r : Bt.Rd} {n : Nat} (hf : r.fail = false) (h64 : n ≤ 64) (hn : n ≤ r.left) : r.can (n : Int) = true := by
  rw [Bt.Rd.can_iff]; exact ⟨hf, by omega, by omega, by omega⟩
theorem take_of {r : Bt.Rd} {n : Nat} (hf : r.fail = false) (h64 : n ≤ 64) (hn : n ≤ r.left) : r.take (n : Int) = ⟨r.l, r.at_ + n, false⟩ ∧ r.tell (n : Int) = Bt.val (r.rest.take n) := by
  have hc := can_of hf h64 hn
  unfold Bt.Rd.take Bt.Rd.tell
  rw [if_pos hc, if_pos hc, Int.toNat_natCast]
  exact ⟨rfl, rfl⟩
/-- eight bits are there -/
theorem eight {r : Bt.Rd} (hf : r.fail = false) (h8 : 8 ≤ r.left) :
    r.tell 1 = (r.rest.headD false).toNat ∧ (r.take 1).tell 7 = Bt.val ((r.rest.drop 1).take 7) ∧ (r.take 1).take 7 = ⟨r.l, r.at_ + 8, false⟩ := by
  obtain ⟨t1, t2⟩ := take_of (n := 1) hf (by omega) (by omega)
  have h7 : 7 ≤ (r.take (1 : Nat)).left := by rw [t1]; unfold Bt.Rd.left at *; show 7 ≤ r.l.length - (r.at_ + 1); omega
  obtain ⟨t3, t4⟩ := take_of (r := r.take (1 : Nat)) (n := 7) (by rw [t1]) (by omega) h7
  refine ⟨?_, ?_, ?_⟩
  · refine t2.trans ?_
    have hl := r.rest_length
    cases hr : r.rest with
    | nil => rw [hr] at hl; simp at hl; omega
    | cons b l => simp [Bt.val]
  · refine t4.trans ?_
    rw [t1]
    unfold Bt.Rd.rest
    rw [List.drop_drop]
  · refine t3.trans ?_
    rw [t1]
/-- they are not -/
theorem lacks {r : Bt.Rd} (hf : r.fail = false) (h8 : r.left < 8) : ((r.take 1).take 7).fail = true := by
  by_cases h1 : 1 ≤ r.left
  · obtain ⟨t1, t2⟩ := take_of (n := 1) hf (by omega) h1
    have h7 : ¬ (r.take 1).can 7 = true := by
      rw [Bt.Rd.can_iff, show r.take 1 = _ from t1]
      unfold Bt.Rd.left at *
      rintro ⟨_, _, _, h⟩
      have : r.l.length - (r.at_ + 1) < 7 := by omega
      have h' : (7 : Int) ≤ ((r.l.length - (r.at_ + 1) : Nat) : Int) := h
      omega
    rw [show ∀ q : Bt.Rd, q.take 7 = if q.can 7 then ⟨q.l, q.at_ + (7 : Int).toNat, false⟩ else ⟨q.l, q.at_, true⟩ from fun _ => rfl, if_neg h7]
  · have hc : ¬ r.can 1 = true := by rw [Bt.Rd.can_iff]; omega
    have e : r.take 1 = ⟨r.l, r.at_, true⟩ := by unfold Bt.Rd.take; rw [if_neg hc]
    have h7 : ¬ (r.take 1).can 7 = true := by rw [Bt.Rd.can_iff, e]; simp
    rw [show ∀ q : Bt.Rd, q.take 7 = if q.can 7 then ⟨q.l, q.at_ + (7 : Int).toNat, false⟩ else ⟨q.l, q.at_, true⟩ from fun _ => rfl, if_neg h7]
theorem rest_on {r : Bt.Rd} {l : List Bool} {a j : Nat} (h : r = ⟨l, a + 8 * j, false⟩) : r.rest = (l.drop a).drop (8 * j) ∧ r.rest.drop 8 = (l.drop a).drop (8 * (j + 1)) := by
  subst h
  unfold Bt.Rd.rest
  rw [List.drop_drop, List.drop_drop, List.drop_drop]
  exact ⟨rfl, by congr 1⟩

theorem shl_over {j x : Nat} (h : 18446744073709551616 ≤ 2 ^ (7 * j) * x) : (IntKind.u64.wrap ((x : Int) * 2 ^ (7 * j)) / 2 ^ (7 * j) != (x : Int)) = true := by
  have hp : ((2 ^ (7 * j) : Nat) : Int) = (2 : Int) ^ (7 * j) := by simp
  have h0 : 0 < 2 ^ (7 * j) := Nat.pow_pos (by omega)
  have hw : ∀ y : Int, IntKind.u64.wrap y = y % 18446744073709551616 := fun y => by simp [IntKind.wrap, IntKind.bits, IntKind.signed]
  rw [hw, ← hp]
  have h' : (18446744073709551616 : Int) ≤ (x : Int) * ((2 ^ (7 * j) : Nat) : Int) := by
    have : (18446744073709551616 : Nat) ≤ x * 2 ^ (7 * j) := by rw [Nat.mul_comm]; exact h
    have h2 : ((18446744073709551616 : Nat) : Int) ≤ ((x * 2 ^ (7 * j) : Nat) : Int) := Int.ofNat_le.2 this
    rw [Int.natCast_mul] at h2
    omega
  generalize 2 ^ (7 * j) = c at *
  have hlt : (x : Int) * (c : Int) % 18446744073709551616 / (c : Int) < (x : Int) := by
    apply Int.ediv_lt_of_lt_mul (by omega)
    generalize (x : Int) * (c : Int) = m at *
    omega
  exact bne_iff_ne.2 (Int.ne_of_lt hlt)
theorem shl_in {j x : Nat} (h : ¬ 18446744073709551616 ≤ 2 ^ (7 * j) * x) : IntKind.u64.wrap ((x : Int) * 2 ^ (7 * j)) = ((2 ^ (7 * j) * x : Nat) : Int) ∧ ((2 ^ (7 * j) * x : Nat) : Int) / 2 ^ (7 * j) = (x : Int) := by
  have hp : ((2 ^ (7 * j) : Nat) : Int) = (2 : Int) ^ (7 * j) := by simp
  have h0 : 0 < 2 ^ (7 * j) := Nat.pow_pos (by omega)
  have hw : ∀ y : Int, IntKind.u64.wrap y = y % 18446744073709551616 := fun y => by simp [IntKind.wrap, IntKind.bits, IntKind.signed]
  rw [hw, ← hp]
  generalize 2 ^ (7 * j) = c at *
  have e : (x : Int) * (c : Int) = ((c * x : Nat) : Int) := by rw [Nat.mul_comm]; simp
  rw [e]
  constructor
  · omega
  · have : ((c * x : Nat) : Int) / (c : Int) = ((c * x / c : Nat) : Int) := by simp
    rw [this, Nat.mul_div_cancel_left x h0]
theorem or_high {j x n : Nat} (hn : n < 2 ^ (7 * j)) (h : ¬ 18446744073709551616 ≤ 2 ^ (7 * j) * x) (hn64 : n < 18446744073709551616) : bits .or .u64 (n : Int) ((2 ^ (7 * j) * x : Nat) : Int) = ((n + 2 ^ (7 * j) * x : Nat) : Int) := by
  rw [u64_or_nat n _ hn64 (by omega), Nat.or_comm, ← Nat.two_pow_add_eq_or_of_lt hn, Nat.add_comm]

/-- what sevens answers -/
def Sev (q : Nat) (v : Value) (bs : List Nat) (r : Bt.Rd) (e : Ending) (w' : World) : Prop :=
  (e = .returned (.tuple #[.int .u64 0, .bool false]) ∧ Bt.sev 10 0 0 r.rest = none) ∨
  (∃ u c : Nat, e = .returned (.tuple #[.int .u64 (u : Int), .bool true]) ∧ Bt.sev 10 0 0 r.rest = some (u, c) ∧ PRd q v bs ⟨r.l, r.at_ + 8 * c, false⟩ w') ∨
  (∃ u : Int, e = .returned (.tuple #[.int .u64 u, .bool false]) ∧ Bt.sev 10 0 0 r.rest = none)

/-- all three cells are written -/
theorem rewrote {p : Nat} {v : Value} {bs : List Nat} {r r' : Bt.Rd} {w w2 : World} (h : PRd p v bs r w2) (ht : Turned [] w w2) (hl : r'.l = r.l) (hw : r'.wf) :
    PRd p v bs r' (((w2.setCell ⟨p, 0, none⟩ v).setCell ⟨p, 1, none⟩ (.int .i64 (r'.at_ : Int))).setCell ⟨p, 2, none⟩ (.bool r'.fail)) ∧ Turned [p] w (((w2.setCell ⟨p, 0, none⟩ v).setCell ⟨p, 1, none⟩ (.int .i64 (r'.at_ : Int))).setCell ⟨p, 2, none⟩ (.bool r'.fail)) := by
  have hT : Turned [p] w2 (((w2.setCell ⟨p, 0, none⟩ v).setCell ⟨p, 1, none⟩ (.int .i64 (r'.at_ : Int))).setCell ⟨p, 2, none⟩ (.bool r'.fail)) :=
    (((Turned.refl [p] w2).setCell (p := ⟨p, 0, none⟩) (.inl (by simp)) _).setCell (p := ⟨p, 1, none⟩) (.inl (by simp)) _).setCell (p := ⟨p, 2, none⟩) (.inl (by simp)) _
  exact ⟨Rd_at h hl hw (((h.1.set (i := 0) (by simp) v).set (i := 1) (by simp) (.int .i64 (r'.at_ : Int))).set (i := 2) (by simp) (.bool r'.fail)) hT, (ht.mono (S' := [p]) (by simp)).trans hT (fun k hk _ => hk)⟩
/-- the small numbers of a reader that has not failed -/
theorem st_none {r : Bt.Rd} (hf : r.fail = false) (h : Bt.sev 10 0 0 r.rest = none) : r.sTell = 0 ∧ r.sTake = ⟨r.l, r.at_, true⟩ := by
  have e : Bt.small r.rest = none := by rw [Bt.small_sev, h]; rfl
  unfold Bt.Rd.sTell Bt.Rd.sTake
  rw [hf, e]
  exact ⟨rfl, rfl⟩
theorem st_some {r : Bt.Rd} {u c : Nat} (hf : r.fail = false) (h : Bt.sev 10 0 0 r.rest = some (u, c)) : r.sTell = Bt.zag u ∧ r.sTake = ⟨r.l, r.at_ + 8 * c, false⟩ := by
  have e : Bt.small r.rest = some (Bt.zag u, 8 * c) := by rw [Bt.small_sev, h]; rfl
  unfold Bt.Rd.sTell Bt.Rd.sTake
  rw [hf, e]
  exact ⟨rfl, rfl⟩

theorem all_zero {l : List Bool} : (Bt.val l == 0) = l.all (fun b => !b) := by
  rw [Bool.eq_iff_iff]
  constructor
  · intro h
    have h0 : Bt.val l = 0 := by simpa using h
    rw [Bt.val_eq_zero h0]
    simp
  · intro h
    have : l = List.replicate l.length false := by
      rw [List.eq_replicate_iff]
      refine ⟨rfl, fun b hb => ?_⟩
      have := List.all_eq_true.1 h b hb
      simpa using this
    rw [this, Bt.val_zeros]
    rfl

set_option maxHeartbeats 1000000 in
theorem new_any (oa : Option Addr) (n cap : Nat) (bs : List Nat) (w : World) (hn : bs.length = n) (hr : RowOf 1 byEnc oa bs w) (hl : n ≤ 4294967296) (hb : ∀ b ∈ bs, b < 256) :
    Calls Try.prog 20 #[.slice oa n cap] w fun e w' => ∃ p v, e = .returned (.pointer (some ⟨p, 0, none⟩)) ∧ PRd p v bs ⟨Bt.unpack bs, 0, false⟩ w' ∧ Turned [] w w' ∧ w.heap.size ≤ p ∧ ∀ k ∈ rblk v, w.heap.size ≤ k := by
  subst hn
  have kc := BtW.clone_any oa bs.length cap bs w rfl hr (by omega)
  go_enter Try.func20, Try.ntmps20
  go_wp2_with (go_at_call 44; with_reducible refine kc.mono ?_; rintro e w1 ⟨v', rfl, ho1, ht1, hb1⟩; obtain ⟨ob, cb, rfl, _, _, hr1, _⟩ := ho1.rowOf byEnc_len)
  go_ret
  have hlt := ho1.lt
  have hT : Turned [] w1 (w1.alloc (.cells #[.slice ob bs.length cb, .int .i64 0, .bool false] 100)) := (Turned.refl [] w1).alloc _
  refine ⟨w1.heap.size, .slice ob bs.length cb, rfl, ⟨Struct.new w1 [_, _, _] _, ⟨ob, cb, rfl, hr1.turned hT (by simp), ?_⟩, rfl, Nat.zero_le _, hb, by omega⟩, ht1.trans hT (fun k hk _ => hk), ht1.size, ?_⟩
  · intro a ha
    subst ha
    have := hlt a.block (by simp [blk, Value.ownBlock])
    exact ⟨Nat.ne_of_lt this, Nat.lt_of_lt_of_le this hT.size⟩
  · intro k hk
    cases ob with
    | none => simp [rblk] at hk
    | some a =>
      simp [rblk] at hk
      subst hk
      exact hb1 a.block (by simp [blk, Value.ownBlock])

end BtD
end Go.Proofs.Ytloobijdpchppaa

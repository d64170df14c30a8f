/- What the reference's writer of bits does, as a call (BtR). -/
import Derived.Test.YtloobijdpchppaaBitWr2
namespace Go.Proofs.Ytloobijdpchppaa
open Go.RowKit
set_option linter.unusedVariables false

namespace BtR
open BtW (end0 puts puts_one puts_zero puts_seven sm_step sm_end sm_room)
theorem puts_128 (u : Nat) : puts ((u : Int) % 128).toNat 7 = Bt.bits u 7 := by
  unfold puts
  rw [if_pos (by omega), show ((u : Int) % 128).toNat = u % 2 ^ 7 by omega]
  exact Bt.bits_mod 7 7 u (by omega)
/-- the reference's bits, where they lie -/
abbrev RB (p : Nat) (l : List Bool) (F : List Nat) (w : World) : Prop := RBits 4 p l F w
theorem stored {p : Nat} {v : Value} {l' : List Bool} {w W2 : World} {g n cap : Nat} (hs2 : Struct p [.slice (some ⟨g, 0, none⟩) n cap] W2) (ho2 : OwnL 4 1 bEnc (.slice (some ⟨g, 0, none⟩) n cap) l' W2) (ht2 : Turned (p :: blk v) w W2) (hgp : g ≠ p) (hg : blk v = [g] ∨ w.heap.size ≤ g) :
    ∃ F', RB p l' F' W2 ∧ Moved (p :: blk v) F' w W2 := by
  refine ⟨_, ⟨_, hs2, ho2, rfl, by simp [blk, Value.ownBlock]; omega⟩, ht2, ?_⟩
  intro k hk
  simp [blk, Value.ownBlock] at hk
  rcases hk with rfl | rfl
  · exact .inl (List.mem_cons_self ..)
  · rcases hg with h | h
    · left; rw [h]; simp
    · exact .inr h

set_option maxHeartbeats 1000000 in
theorem put_in (p : Nat) (l : List Bool) (F : List Nat) (x n : Nat) (hx : x < 18446744073709551616) (hn : n ≤ 64) (w : World) (h : RB p l F w) (hl : l.length ≤ 549755813888) :
    Calls Try.prog 40 #[.pointer (some ⟨p, 0, none⟩), .int .u64 (x : Int), .int .i64 (n : Int)] w fun e w' => e = .returned (.tuple #[]) ∧ ∃ F', RB p (l ++ Bt.bits x n) F' w' ∧ Moved F F' w w' := by
  go_enter Try.func40, Try.ntmps40
  go_wp2_with fail
  go_loopw [1, 6] (fun xv i wr => ∃ k y F', k ≤ n ∧ i = .int .i64 ((k : Nat) : Int) ∧ xv = .int .u64 ((y : Nat) : Int) ∧ y = x / 2 ^ k ∧ RB p (l ++ Bt.bits x k) F' wr ∧ Moved F F' w wr) (fun _ i _ => n - (intOf i).toNat)
  case atStart => exact ⟨0, x, F, by omega, rfl, rfl, by simp, by simpa [Bt.bits] using h, Moved.refl _ _⟩
  case round =>
    obtain ⟨k, y, F1, hk, rfl, rfl, hy, hpw, hmv⟩ := hrel
    have hyl : y < 18446744073709551616 := by rw [hy]; exact Nat.lt_of_le_of_lt (Nat.div_le_self _ _) hx
    have HY : Hid (y = x / 2 ^ k) := hy
    clear hy h
    by_cases hlt : (k : Int) < (n : Int)
    · have hll : (l ++ Bt.bits x k).length = l.length + k := by rw [List.length_append, Bt.bits_length]
      have HL : Hid ((l ++ Bt.bits x k).length = l.length + k) := hll
      obtain ⟨v, hs, ho, rfl, hp⟩ := hpw
      have c0 := (hs.2 0 _ rfl).1
      have hn' : (n : Int) ≤ 64 := by omega
      have b1 : (l ++ Bt.bits x k).length + 1 ≤ maxLen := by unfold maxLen; omega
      have b2 : ((l ++ Bt.bits x k).length + 1) * 1 ≤ 140737488355328 := by omega
      obtain ⟨l1, hl1⟩ : ∃ l1, l1 = l ++ Bt.bits x k := ⟨_, rfl⟩
      rw [← hl1] at b1 b2 ho
      have HL1 : Hid (l1 = l ++ Bt.bits x k) := hl1
      clear hll hl1
      go_wp2_with (at_builtin; refine wp_push (v := v) elem_bool rfl _ _ rfl rfl (ho.keep ((Turned.refl [] wr).alloc _) (by simp)) wr.heap.size 0 1 1 [((y : Int) % 2 == 1)] rfl rfl bEnc_len bEnc_one (one_cell rfl wr _) b1 b2 ?_; intro v' w1 ho1 ht1 hb1; obtain ⟨g, cap, rfl, hgp, c10, f10, hW⟩ := push_one bEnc_len hs hp ho1 ht1 hb1)
      obtain ⟨W2, hW2⟩ : ∃ W2, W2 = w1.setCell ⟨p, 0, none⟩ (.slice (some ⟨g, 0, none⟩) (l1.length + 1) cap) := ⟨_, rfl⟩
      rw [← hW2]
      obtain ⟨hs2, ho2, ht2, hbk, hg⟩ := hW W2 hW2
      clear hW2 hW ho1 ht1 hb1 c10 f10 c0
      obtain ⟨F2, hrb, hmv2⟩ := stored hs2 ho2 ht2 hgp hg
      go_roundw
      case rel =>
        refine ⟨k + 1, y / 2, F2, by omega, by go_num, by go_num, by rw [HY.out, Nat.div_div_eq_div_mul, Nat.pow_succ], ?_, hmv.trans hmv2⟩
        rw [Bt.bits_snoc, ← List.append_assoc, ← HY.out, ← HL1.out]
        rw [show (y % 2 == 1) = ((y : Int) % 2 == 1) by rw [Bool.eq_iff_iff]; simp; omega]
        exact hrb
      case measure => simp [intOf]; omega
    · have : k = n := by omega
      subst this
      go_wp2_with fail
      go_end0
      exact end0 ⟨F1, hpw, hmv⟩

set_option maxHeartbeats 1000000 in
theorem put_any (p : Nat) (l : List Bool) (F : List Nat) (x n : Int) (hx0 : 0 ≤ x) (hx : x < 18446744073709551616) (w : World) (h : RB p l F w) (hl : l.length ≤ 549755813888) :
    Calls Try.prog 40 #[.pointer (some ⟨p, 0, none⟩), .int .u64 x, .int .i64 n] w fun e w' => e = .returned (.tuple #[]) ∧ ∃ F', RB p (l ++ puts x.toNat n) F' w' ∧ Moved F F' w w' := by
  by_cases hn : 0 ≤ n ∧ n ≤ 64
  · have := put_in p l F x.toNat n.toNat (by omega) (by omega) w h hl
    rw [Int.toNat_of_nonneg hx0, Int.toNat_of_nonneg hn.1] at this
    unfold puts
    rw [if_pos hn]
    exact this
  · unfold puts
    rw [if_neg hn, List.append_nil]
    go_enter Try.func40, Try.ntmps40
    go_wp2_with fail
    go_loopw [1, 6] (fun xv i wr => i = .int .i64 0 ∧ wr = w) (fun _ _ _ => 0)
    case atStart => exact ⟨rfl, rfl⟩
    case round =>
      obtain ⟨rfl, rfl⟩ := hrel
      by_cases h0 : n < 0
      · have h1 : ¬ (0 < n) := by omega
        go_wp2_with fail
        go_end0
        exact end0 ⟨F, h, Moved.refl _ _⟩
      · have h64 : 64 < n := by omega
        have h1 : 0 < n := by omega
        go_wp2_with fail
        go_end0
        exact end0 ⟨F, h, Moved.refl _ _⟩

end BtR
end Go.Proofs.Ytloobijdpchppaa

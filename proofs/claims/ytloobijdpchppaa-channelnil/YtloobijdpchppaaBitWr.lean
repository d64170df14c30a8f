/- What the program's writer of bits does, as a call (BtW). -/
import Derived.Test.YtloobijdpchppaaBitMem2
import Derived.WalkKit
import Derived.WalkSpells
import Derived.WalkSmall
import Derived.BigQuiet
import Derived.BigRegion
import Derived.Deep.QuietTactic
import Derived.Deep.RegionWith
import Derived.Deep.RegionLaw
namespace Go.Proofs.Ytloobijdpchppaa
open Go.RowKit
set_option linter.unusedVariables false

namespace BtW
theorem end0 {p : Prop} (hp : p) : Ending.returned (.tuple #[]) = .returned (.tuple #[]) ∧ p := ⟨rfl, hp⟩

theorem int_ret {k : IntKind} {a b : Int} {p : Prop} (h : a = b) (hp : p) : Ending.returned (.int k a) = .returned (.int k b) ∧ p := by rw [h]; exact ⟨rfl, hp⟩
theorem or0 {z : Nat} (hz : z < 2) : bits .or .u8 0 (z : Int) = (z : Int) := by
  have : z = 0 ∨ z = 1 := by omega
  rcases this with rfl | rfl <;> rfl
theorem or_new {n x z : Nat} (hz : z < 2) (hx : x < 2 ^ (n % 8)) : bits .or .u8 (x : Int) ((z : Int) * 2 ^ (n % 8) % 256) = ((x + 2 ^ (n % 8) * z : Nat) : Int) := by
  have h7 : n % 8 ≤ 7 := by omega
  have hp : 2 ^ (n % 8) ≤ 2 ^ 7 := Nat.pow_le_pow_right (by omega) h7
  have e : ((z : Int) * 2 ^ (n % 8) % 256) = ((2 ^ (n % 8) * z : Nat) : Int) := by
    have : z = 0 ∨ z = 1 := by omega
    rcases this with rfl | rfl
    · simp
    · have h2 : ((2 ^ (n % 8) : Nat) : Int) = (2 : Int) ^ (n % 8) := by simp
      rw [Nat.mul_one, h2, show ((1 : Nat) : Int) = 1 from rfl, Int.one_mul, ← h2]
      omega
  have hz2 : 2 ^ (n % 8) * z < 256 := by
    have : z = 0 ∨ z = 1 := by omega
    rcases this with rfl | rfl
    · simp
    · omega
  rw [e, u8_or_nat x _ (by omega) hz2]
  congr 1
  rw [Nat.or_comm, ← Nat.two_pow_add_eq_or_of_lt hx, Nat.add_comm]

theorem not_neg (m : Nat) (h : m < 9223372036854775808) : bits .xor .i64 (-1) (-1 - (m : Int)) = (m : Int) := by
  show IntKind.i64.wrap ((BitVec.ofInt 64 (-1) ^^^ BitVec.ofInt 64 (-1 - (m : Int))).toNat : Int) = _
  have h1 : BitVec.ofInt 64 (-1) = BitVec.allOnes 64 := by decide
  rw [h1, BitVec.allOnes_xor, BitVec.toNat_not, BitVec.toNat_ofInt]
  have h2 : ((-1 - (m : Int)) % ((2 ^ 64 : Nat) : Int)).toNat = 18446744073709551615 - m := by omega
  rw [h2]
  simp [IntKind.wrap, IntKind.bits, IntKind.signed]
  omega
theorem or1 (m : Nat) (h : m < 9223372036854775808) : bits .or .u64 ((m : Int) * 2) 1 = (m : Int) * 2 + 1 := by
  have := u64_or_nat (2 * m) 1 (by omega) (by omega)
  rw [show (2 * m) ||| 1 = 2 * m + 1 by rw [Nat.or_comm, show 2 * m = 2 ^ 1 * m by omega, Nat.or_comm, ← Nat.two_pow_add_eq_or_of_lt (i := 1) (by omega)]] at this
  rw [show ((m : Int) * 2) = ((2 * m : Nat) : Int) by omega]
  refine Eq.trans this ?_
  omega

set_option maxHeartbeats 1000000 in
theorem putBit_new (p n z : Nat) (v : Value) (bs : List Nat) (hz : z < 2) (w : World) (hs : Struct p [v, .int .i64 (n : Int)] w) (ho : OwnL 5 1 byEnc v bs w) (hn : p ∉ blk v) (hl : bs.length ≤ 1099511627776) (hn8 : n = 8 * bs.length) :
    Calls Try.prog 53 #[.pointer (some ⟨p, 0, none⟩), .int .u8 (z : Int)] w fun e w' => e = .returned (.tuple #[]) ∧ ∃ v', Struct p [v', .int .i64 ((n + 1 : Nat) : Int)] w' ∧ OwnL 5 1 byEnc v' (bs ++ [z]) w' ∧ Turned (p :: blk v) w w' ∧ (blk v' = blk v ∨ ∃ g, blk v' = [g] ∧ w.heap.size ≤ g) := by
  have c0 := (hs.2 0 _ rfl).1
  have f0 := (hs.2 0 _ rfl).2
  have c1 := (hs.2 1 _ rfl).1
  have hp := hs.1
  have h8' : ((n : Int) % 8) = 0 := by omega
  have HQ : Hid (((n : Int) / 8) = (bs.length : Int)) := by show _ = _; omega
  clear hn8
  go_enter Try.func53, Try.ntmps53
  go_wp2_with (at_builtin; refine wp_push (v := v) elem_u8 rfl _ _ rfl rfl (ho.keep ((Turned.refl [] w).alloc _) (by simp)) w.heap.size 0 1 1 [0] rfl rfl byEnc_len byEnc_one (one_cell rfl w _) (by unfold maxLen; omega) (by omega) ?_; intro v' w1 ho1 ht1 hb1; obtain ⟨g, cap, rfl, hgp, c10, f10, hW⟩ := push_one byEnc_len hs hn ho1 ht1 hb1)
  obtain ⟨W2, hW2⟩ : ∃ W2, W2 = w1.setCell ⟨p, 0, none⟩ (.slice (some ⟨g, 0, none⟩) (bs.length + 1) cap) := ⟨_, rfl⟩
  rw [← hW2]
  obtain ⟨hs2, ho2, ht2, hbk, hg⟩ := hW W2 hW2
  clear hW2 hW ho1 ht1 hb1 c0 f0 c1 c10 f10
  have d0 := (hs2.2 0 _ rfl).1
  have d1 := (hs2.2 1 _ rfl).1
  have d2 := (hs2.2 1 _ rfl).2
  obtain ⟨g', cap', hv', _, hgl, hc⟩ := ho2.cell byEnc_len (i := bs.length) (a := 0) (by simp)
  simp at hv'
  obtain ⟨rfl, rfl⟩ := hv'
  have e0 := (hc 0 _ rfl).1
  have e1 := (hc 0 _ rfl).2
  rw [Nat.mul_one, Nat.add_zero] at e0 e1
  have hq := HQ.out
  have hlt : (bs.length : Int) < (bs.length : Int) + 1 := by omega
  have hlt2 : bs.length < bs.length + 1 := by omega
  go_region
  rw [or0 hz]
  have hi : bs.length < (bs ++ [0]).length := by simp
  have hgm : g ∈ p :: blk v ∨ w.heap.size ≤ g := by
    rcases hg with h | h
    · left; rw [h]; simp
    · exact .inr h
  go_wp2
  go_end0
  refine end0 ?_
  obtain ⟨r1, r2, r3⟩ := put_fin (f := fun n : Nat => .int .u8 (n : Int)) (a := z) (m := .int .i64 ((n + 1 : Nat) : Int)) (cap := cap) (by simp) hs2 ho2 hgp hi ht2 (List.mem_cons_self ..) hgm rfl
  have he : List.set (bs ++ [0]) bs.length z = bs ++ [z] := by simp
  rw [he] at r2
  refine ⟨_, r1, r2, r3, ?_⟩
  rw [hbk]
  rcases hg with h | h
  · left; rw [h]
  · right; exact ⟨g, rfl, h⟩

set_option maxHeartbeats 1000000 in
theorem putBit_more (p n z x : Nat) (v : Value) (bs : List Nat) (hz : z < 2) (w : World) (hs : Struct p [v, .int .i64 (n : Int)] w) (ho : OwnL 5 1 byEnc v bs w) (hn : p ∉ blk v) (hl : bs.length ≤ 1099511627776) (hn8 : n % 8 ≠ 0) (hnb : (n + 7) / 8 = bs.length) (hx : bs[n / 8]? = some x) (hxl : x < 2 ^ (n % 8)) :
    Calls Try.prog 53 #[.pointer (some ⟨p, 0, none⟩), .int .u8 (z : Int)] w fun e w' => e = .returned (.tuple #[]) ∧ Struct p [v, .int .i64 ((n + 1 : Nat) : Int)] w' ∧ OwnL 5 1 byEnc v (bs.set (n / 8) (x + 2 ^ (n % 8) * z)) w' ∧ Turned (p :: blk v) w w' := by
  obtain ⟨g, cap, rfl, hbk, hg, hc⟩ := ho.cell byEnc_len hx
  have hgp : g ≠ p := by rintro rfl; exact hn (by rw [hbk]; simp)
  have c0 := (hs.2 0 _ rfl).1
  have c1 := (hs.2 1 _ rfl).1
  have f1 := (hs.2 1 _ rfl).2
  have e0 := (hc 0 _ rfl).1
  have e1 := (hc 0 _ rfl).2
  rw [Nat.mul_one, Nat.add_zero] at e0 e1
  have h8' : ¬ ((n : Int) % 8) = 0 := by omega
  have hor := or_new (n := n) hz hxl
  have hi : n / 8 < bs.length := by omega
  have hi' : (n : Int) / 8 < (bs.length : Int) := by omega
  have hn1 : n ≤ 8796093022208 := by omega
  clear hc hx hn8 hnb
  go_enter Try.func53, Try.ntmps53
  go_wp2_with fail
  go_region
  have hcast : ((x : Int) + 2 ^ (n % 8) * (z : Int)) = ((x + 2 ^ (n % 8) * z : Nat) : Int) := by simp
  rw [hcast]
  obtain ⟨y, hy⟩ : ∃ y, y = x + 2 ^ (n % 8) * z := ⟨_, rfl⟩
  have HY : Hid (y = x + 2 ^ (n % 8) * z) := hy
  rw [← hy]
  clear hy hor hcast
  go_wp2
  go_end0
  refine end0 ?_
  rw [← HY.out]
  exact put_fin (f := fun n : Nat => .int .u8 (n : Int)) (a := y) (m := .int .i64 ((n + 1 : Nat) : Int)) rfl hs ho hgp hi (Turned.refl _ w) (List.mem_cons_self ..) (.inl (by rw [hbk]; simp)) rfl

theorem putBit_any (p : Nat) (l : List Bool) (F : List Nat) (z : Nat) (zi : Int) (hzi : zi = (z : Int)) (hz : z < 2) (w : World) (h : PW p l F w) (hl : l.length ≤ 1099511627776) :
    Calls Try.prog 53 #[.pointer (some ⟨p, 0, none⟩), .int .u8 zi] w fun e w' => e = .returned (.tuple #[]) ∧ ∃ F', PW p (l ++ [z == 1]) F' w' ∧ Moved F F' w w' := by
  subst hzi
  obtain ⟨v, hs, ho, rfl, hn⟩ := h
  have hpl := Bt.pack_length l
  have hz1 : (z == 1).toNat = z := by
    have : z = 0 ∨ z = 1 := by omega
    rcases this with rfl | rfl <;> rfl
  by_cases h8 : l.length % 8 = 0
  · refine (putBit_new p l.length z v _ hz w hs ho hn (by omega) (by omega)).mono ?_
    rintro e w' ⟨rfl, v', r1, r2, r3, r4⟩
    refine ⟨rfl, ?_⟩
    have e := Bt.pack_new (z == 1) h8
    rw [hz1] at e
    refine PW.store hs (l' := l ++ [z == 1]) (by rw [e]; exact r2) (by rw [List.length_append]; exact r1) r3 hn r4
  · have hi : l.length / 8 < (Bt.pack l).length := by omega
    have hx : (Bt.pack l)[l.length / 8]? = some (Bt.byteAt l (l.length / 8)) := by
      rw [List.getElem?_eq_getElem hi]; simp [Bt.pack]
    refine (putBit_more p l.length z _ v _ hz w hs ho hn (by omega) h8 (by omega) hx Bt.byteAt_last).mono ?_
    rintro e w' ⟨rfl, r1, r2, r3⟩
    refine ⟨rfl, ?_⟩
    have e := Bt.pack_more (z == 1) h8
    rw [hz1] at e
    refine PW.store hs (l' := l ++ [z == 1]) (by rw [e]; exact r2) (by rw [List.length_append]; exact r1) r3 hn (.inl rfl)

theorem and1 (y : Nat) (h : y < 18446744073709551616) : bits .and .u64 (y : Int) 1 = ((y % 2 : Nat) : Int) := by
  have := u64_and_nat y 1 h (by omega)
  rw [Nat.and_one_is_mod] at this
  exact this

set_option maxHeartbeats 1000000 in
theorem put_in (p : Nat) (l : List Bool) (F : List Nat) (x n : Nat) (hx : x < 18446744073709551616) (hn : n ≤ 64) (w : World) (h : PW p l F w) (hl : l.length ≤ 549755813888) :
    Calls Try.prog 38 #[.pointer (some ⟨p, 0, none⟩), .int .u64 (x : Int), .int .i64 (n : Int)] w fun e w' => e = .returned (.tuple #[]) ∧ ∃ F', PW p (l ++ Bt.bits x n) F' w' ∧ Moved F F' w w' := by
  go_enter Try.func38, Try.ntmps38
  go_wp2_with fail
  go_loopw [1, 17] (fun xv i wr => ∃ k y F', k ≤ n ∧ i = .int .i64 ((k : Nat) : Int) ∧ xv = .int .u64 ((y : Nat) : Int) ∧ y = x / 2 ^ k ∧ PW p (l ++ Bt.bits x k) F' wr ∧ Moved F F' w wr) (fun _ i _ => n - (intOf i).toNat)
  case atStart => exact ⟨0, x, F, by omega, rfl, rfl, by simp, by simpa [Bt.bits] using h, Moved.refl _ _⟩
  case round =>
    obtain ⟨k, y, F1, hk, rfl, rfl, hy, hpw, hmv⟩ := hrel
    have hyl : y < 18446744073709551616 := by rw [hy]; exact Nat.lt_of_le_of_lt (Nat.div_le_self _ _) hx
    have HY : Hid (y = x / 2 ^ k) := hy
    clear hy
    by_cases hlt : k < n
    · have h1 := and1 y hyl
      have hll : (l ++ Bt.bits x k).length = l.length + k := by rw [List.length_append, Bt.bits_length]
      go_wp2_with (go_at_call 53; refine (putBit_any p _ F1 (y % 2) _ (by omega) (by omega) wr hpw (by omega)).mono ?_; rintro e w2 ⟨rfl, F2, hpw2, hmv2⟩)
      go_roundw
      case rel => 
        refine ⟨k + 1, y / 2, F2, by omega, by go_num, by go_num, by rw [HY.out, Nat.div_div_eq_div_mul, Nat.pow_succ], ?_, hmv.trans hmv2⟩
        rw [Bt.bits_snoc, ← List.append_assoc, ← HY.out]
        exact hpw2
      case measure => simp [intOf]; omega
    · have : k = n := by omega
      subst this
      go_wp2_with fail
      go_end0
      exact end0 ⟨F1, hpw, hmv⟩

/-- what Put puts -/
def puts (x : Nat) (n : Int) : List Bool := if 0 ≤ n ∧ n ≤ 64 then Bt.bits x n.toNat else []

set_option maxHeartbeats 1000000 in
theorem put_any (p : Nat) (l : List Bool) (F : List Nat) (x n : Int) (hx0 : 0 ≤ x) (hx : x < 18446744073709551616) (w : World) (h : PW p l F w) (hl : l.length ≤ 549755813888) :
    Calls Try.prog 38 #[.pointer (some ⟨p, 0, none⟩), .int .u64 x, .int .i64 n] w fun e w' => e = .returned (.tuple #[]) ∧ ∃ F', PW p (l ++ puts x.toNat n) F' w' ∧ Moved F F' w w' := by
  by_cases hn : 0 ≤ n ∧ n ≤ 64
  · have := put_in p l F x.toNat n.toNat (by omega) (by omega) w h hl
    rw [Int.toNat_of_nonneg hx0, Int.toNat_of_nonneg hn.1] at this
    unfold puts
    rw [if_pos hn]
    exact this
  · unfold puts
    rw [if_neg hn, List.append_nil]
    by_cases h0 : n < 0
    · go_enter Try.func38, Try.ntmps38
      go_wp2
      (try simp only [Exit.inBlock, Exit.then]); refine bodyPost_ret (results_none rfl _ _ _) rfl ?_
      exact end0 ⟨F, h, Moved.refl _ _⟩
    · have h64 : 64 < n := by omega
      go_enter Try.func38, Try.ntmps38
      go_wp2
      (try simp only [Exit.inBlock, Exit.then]); refine bodyPost_ret (results_none rfl _ _ _) rfl ?_
      exact end0 ⟨F, h, Moved.refl _ _⟩

set_option maxHeartbeats 400000 in
theorem put_nil (x n : Int) (w : World) :
    Calls Try.prog 38 #[.pointer none, .int .u64 x, .int .i64 n] w fun e w' => e = .returned (.tuple #[]) ∧ w' = w := by
  go_enter Try.func38, Try.ntmps38
  go_wp2
  (try simp only [Exit.inBlock, Exit.then]); refine bodyPost_ret (results_none rfl _ _ _) rfl ?_
  exact ⟨rfl, rfl⟩

set_option maxHeartbeats 400000 in
theorem count_any (p : Nat) (l : List Bool) (F : List Nat) (w : World) (h : PW p l F w) :
    Calls Try.prog 24 #[.pointer (some ⟨p, 0, none⟩)] w fun e w' => e = .returned (.int .i64 (l.length : Int)) ∧ w' = w := by
  obtain ⟨v, hs, ho, rfl, hn⟩ := h
  have c1 := (hs.2 1 _ rfl).1
  go_enter Try.func24, Try.ntmps24
  go_wp2
  go_ret
  exact ⟨rfl, rfl⟩
theorem count_nil (w : World) :
    Calls Try.prog 24 #[.pointer none] w fun e w' => e = .returned (.int .i64 0) ∧ w' = w := by
  go_enter Try.func24, Try.ntmps24
  go_wp2
  go_ret
  exact ⟨rfl, rfl⟩

end BtW
end Go.Proofs.Ytloobijdpchppaa

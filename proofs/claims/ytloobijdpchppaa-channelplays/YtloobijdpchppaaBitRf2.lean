/- What the reference's writer of bits does, as a call: its bytes (BtR). -/
import Derived.Test.YtloobijdpchppaaBitRf
namespace Go.Proofs.Ytloobijdpchppaa
open Go.RowKit
set_option linter.unusedVariables false

namespace BtR
theorem val_next {l : List Bool} {b : Bool} {i d : Nat} (h : l[i + d]? = some b) : Bt.val ((l.drop i).take (d + 1)) = Bt.val ((l.drop i).take d) + 2 ^ d * b.toNat := by
  have hi : i + d < l.length := (List.getElem?_eq_some_iff.1 h).1
  have e : (l.drop i)[d]? = some b := by rw [List.getElem?_drop]; exact h
  rw [List.take_add_one, e, show (some b).toList = [b] from rfl, Bt.val_snoc, List.length_take, List.length_drop, Nat.min_eq_left (by omega)]
theorem byte_full {l : List Bool} {j d : Nat} (h : d = 8 ∨ 8 * j + d = l.length) (hd : d ≤ 8) : Bt.val ((l.drop (8 * j)).take d) = Bt.byteAt l j := by
  unfold Bt.byteAt
  rcases h with rfl | h
  · rfl
  · rw [List.take_of_length_le (i := d) (by rw [List.length_drop]; omega), List.take_of_length_le (i := 8) (by rw [List.length_drop]; omega)]
theorem pack_next {l : List Bool} {j : Nat} (h : 8 * j < l.length) : (Bt.pack l).take j ++ [Bt.byteAt l j] = (Bt.pack l).take (j + 1) := by
  have hj : j < (Bt.pack l).length := by rw [Bt.pack_length]; omega
  rw [List.take_add_one, List.getElem?_eq_getElem hj]
  simp [Bt.pack]
theorem val_take_lt (l : List Bool) (i d : Nat) (hd : d ≤ 8) : Bt.val ((l.drop i).take d) < 256 := by
  have := Bt.val_lt ((l.drop i).take d)
  have h2 : 2 ^ ((l.drop i).take d).length ≤ 2 ^ 8 := Nat.pow_le_pow_right (by omega) (by rw [List.length_take]; omega)
  omega
/-- 2 to the d, d from 0 to 8 -/
theorem pow_le8 {d : Nat} (h : d ≤ 8) : 2 ^ d ≤ 256 := by
  have : 2 ^ d ≤ 2 ^ 8 := Nat.pow_le_pow_right (by omega) h
  omega

theorem fresh {w wr : World} {v v' : Value} {o : Obj} (hnew : ∀ k ∈ blk v, w.heap.size ≤ k) (ht : Turned [] w wr) (hb : blk v' = blk v ∨ blk v' = [(wr.alloc o).heap.size]) : ∀ k ∈ blk v', w.heap.size ≤ k := by
  have := ht.size
  intro k hk
  rcases hb with h | h
  · rw [h] at hk; exact hnew k hk
  · rw [h] at hk; simp at hk; omega

set_option maxHeartbeats 2000000 in
theorem bytes_any (p : Nat) (l : List Bool) (F : List Nat) (w : World) (h : RB p l F w) (hl : l.length ≤ 549755813888) :
    Calls Try.prog 23 #[.pointer (some ⟨p, 0, none⟩)] w fun e w' => ∃ v', e = .returned v' ∧ OwnL 5 1 byEnc v' (Bt.pack l) w' ∧ Turned [] w w' ∧ ∀ k ∈ blk v', w.heap.size ≤ k := by
  have hpl := Bt.pack_length l
  go_enter Try.func23, Try.ntmps23
  go_wp2_with fail
  go_loopw [3, 4] (fun v i wr => ∃ j : Nat, 8 * j < l.length + 8 ∧ i = .int .i64 ((8 * j : Nat) : Int) ∧ OwnL 5 1 byEnc v ((Bt.pack l).take j) wr ∧ Turned [] w wr ∧ ∀ k ∈ blk v, w.heap.size ≤ k) (fun _ i _ => l.length + 8 - (intOf i).toNat)
  case atStart => exact ⟨0, by omega, rfl, OwnL.nil _ _ _ _, Turned.refl _ _, by simp [blk, Value.ownBlock]⟩
  case round =>
    obtain ⟨j, hj, rfl, ho, ht, hnew⟩ := hrel
    obtain ⟨v0, hs0, hb0, hF, hp⟩ := h.keep ht (by simp)
    have c0 := (hs0.2 0 _ rfl).1
    obtain ⟨oa, cap, rfl, _, _, hr, _⟩ := hb0.rowOf bEnc_len
    by_cases hlt : ((8 * j : Nat) : Int) < (l.length : Int)
    · have HJ : Hid (8 * j < l.length) := by show _ < _; omega
      have HP : Hid ((Bt.pack l).length = (l.length + 7) / 8) := hpl
      clear hpl hj
      go_wp2_with fail
      go_loop [5, 6, 7] (fun c one k => ∃ d : Nat, d ≤ 8 ∧ 8 * j + d ≤ l.length ∧ k = .int .i64 ((8 * j + d : Nat) : Int) ∧ c = .int .i64 ((Bt.val ((l.drop (8 * j)).take d) : Nat) : Int) ∧ one = .int .i64 ((2 ^ d : Nat) : Int)) (fun _ _ k => 8 * j + 8 - (intOf k).toNat)
      case atStart => exact ⟨0, by omega, by have := HJ.out; omega, by simp, rfl, rfl⟩
      case round =>
        obtain ⟨d, hd, hdl, rfl, rfl, rfl⟩ := hrel
        by_cases hin : d < 8 ∧ 8 * j + d < l.length
        · obtain ⟨h8, hk⟩ := hin
          obtain ⟨b, hb⟩ : ∃ b, l[8 * j + d]? = some b := ⟨_, List.getElem?_eq_getElem hk⟩
          obtain ⟨g, off, rfl, hg, hc⟩ := hr _ _ hb
          have e0 := hc 0 _ rfl
          rw [Nat.mul_one, Nat.add_zero] at e0
          have HV : Hid (Bt.val ((l.drop (8 * j)).take (d + 1)) = Bt.val ((l.drop (8 * j)).take d) + 2 ^ d * b.toNat) := val_next hb
          have hv := val_take_lt l (8 * j) d hd
          have hpw := pow_le8 hd
          have hp2 : 2 ^ (d + 1) = 2 * 2 ^ d := by rw [Nat.pow_succ]; omega
          have HP2 : Hid ((2 : Int) ^ (d + 1) = ((2 ^ d : Nat) : Int) * 2) := by
            show (2 : Int) ^ (d + 1) = ((2 ^ d : Nat) : Int) * 2
            have e : (2 : Int) ^ (d + 1) = ((2 ^ (d + 1) : Nat) : Int) := by simp
            rw [e, hp2]; omega
          clear hp2
          obtain ⟨x, hx⟩ : ∃ x, x = Bt.val ((l.drop (8 * j)).take d) := ⟨_, rfl⟩
          obtain ⟨y, hy⟩ : ∃ y, y = 2 ^ d := ⟨_, rfl⟩
          rw [← hx] at hv HV ⊢
          rw [← hy] at hpw HV HP2 ⊢
          clear hx hy
          have i1 : ((8 * j + d : Nat) : Int) < (8 * j : Nat) + 8 := by omega
          have i2 : ((8 * j + d : Nat) : Int) < (l.length : Int) := by omega
          cases b
          all_goals
            go_wp2_with fail
            go_round
            case rel => exact ⟨_, _, _, ⟨d + 1, by omega, by omega, by go_num, (by rw [HV.out]; simp), by rw [HP2.out]⟩, rfl, rfl, rfl⟩
            case measure => simp [intOf]; omega
        · have hfull := byte_full (l := l) (j := j) (d := d) (by omega) hd
          have hbl : Bt.byteAt l j < 256 := by rw [← hfull]; exact val_take_lt l (8 * j) d hd
          have HN : Hid ((Bt.pack l).take j ++ [Bt.byteAt l j] = (Bt.pack l).take (j + 1)) := pack_next HJ.out
          have b1 : ((Bt.pack l).take j).length + 1 ≤ maxLen := by have := HP.out; rw [List.length_take]; unfold maxLen; omega
          have b2 : (((Bt.pack l).take j).length + 1) * 1 ≤ 140737488355328 := by have := HP.out; rw [List.length_take]; omega
          rw [hfull]
          obtain ⟨x, hx⟩ : ∃ x, x = Bt.byteAt l j := ⟨_, rfl⟩
          rw [← hx] at hbl HN ⊢
          clear hfull hx
          obtain ⟨lj, hlj⟩ : ∃ lj, lj = (Bt.pack l).take j := ⟨_, rfl⟩
          rw [← hlj] at b1 b2 ho HN
          clear hlj
          have hwx : (x : Int) % 256 = (x : Int) := by omega
          have hin' : 8 ≤ d ∨ l.length ≤ 8 * j + d := by omega
          clear hin
          by_cases h8 : d < 8
          · have hlen : ((8 * j + d : Nat) : Int) = (l.length : Int) := by omega
            have i1 : ((8 * j + d : Nat) : Int) < (8 * j : Nat) + 8 := by omega
            have i2 : ¬ ((8 * j + d : Nat) : Int) < (l.length : Int) := by omega
            clear hin'
            go_wp2_with (at_builtin; refine wp_push (v := u3) elem_u8 rfl _ _ rfl rfl (ho.keep ((Turned.refl [] wr).alloc _) (by simp)) wr.heap.size 0 1 1 [x] rfl rfl byEnc_len byEnc_one (one_cell rfl wr _) b1 b2 ?_; intro v' w1 ho1 ht1 hb1)
            go_roundw
            case rel => exact ⟨j + 1, by have := HJ.out; omega, by go_num, by rw [← HN.out]; exact ho1, ht.trans (((Turned.refl (blk u3) wr).alloc _).trans ht1 (fun k hk _ => hk)) (fun k hk hl => by have := hnew k hk; omega), fresh hnew ht hb1⟩
            case measure => have := HJ.out; simp [intOf]; omega
          · have i1 : ¬ ((8 * j + d : Nat) : Int) < (8 * j : Nat) + 8 := by omega
            clear hin'
            go_wp2_with (at_builtin; refine wp_push (v := u3) elem_u8 rfl _ _ rfl rfl (ho.keep ((Turned.refl [] wr).alloc _) (by simp)) wr.heap.size 0 1 1 [x] rfl rfl byEnc_len byEnc_one (one_cell rfl wr _) b1 b2 ?_; intro v' w1 ho1 ht1 hb1)
            go_roundw
            case rel => exact ⟨j + 1, by have := HJ.out; omega, by go_num, by rw [← HN.out]; exact ho1, ht.trans (((Turned.refl (blk u3) wr).alloc _).trans ht1 (fun k hk _ => hk)) (fun k hk hl => by have := hnew k hk; omega), fresh hnew ht hb1⟩
            case measure => have := HJ.out; simp [intOf]; omega
    · have HJ : (Bt.pack l).take j = Bt.pack l := by rw [List.take_of_length_le (by omega)]
      rw [HJ] at ho
      go_wp2_with fail
      go_ret
      exact ⟨_, rfl, ho, ht, hnew⟩
end BtR
end Go.Proofs.Ytloobijdpchppaa

/- Joined: BitRg, BitRg2, SameRow, FgMem, FgRead, Kept, FgWaits, FgNames, WdRow, FgWMap, FgWMsg, BitRd, FgWRow, FgWFind. -/
import Derived.Test.YtkjlbginggppaaaJ1
import Derived.WalkKit
import Derived.WalkSpells
import Derived.WalkSmall
import Derived.BigQuiet
import Derived.BigRegion
import Derived.Deep.QuietTactic
import Derived.Deep.RegionWith
import Derived.Deep.RegionLaw
import Derived.Below
import Derived.Laws.CopyRow
import Derived.Laws.IdiomCopy
import Derived.Maps.RangeWalk
import Derived.Maps.OwnOps
import Derived.Maps.Ext
import Derived.Laws.StructEq
/- What the reference's reader of bits answers, as a call (BtG). -/
namespace Go.Proofs.Ytkjlbginggppaaa
open Go.RowKit
set_option linter.unusedVariables false

namespace BtG
open BtR (RB)
open BtW (int_ret puts)
theorem bool_ret {a b : Bool} {p : Prop} (h : a = b) (hp : p) : Ending.returned (.bool a) = .returned (.bool b) ∧ p := by rw [h]; exact ⟨rfl, hp⟩
theorem puts_eight {y : Int} (h0 : 0 ≤ y) : puts y.toNat 8 = Bt.bits y.toNat 8 := by unfold puts; rw [if_pos (by omega)]; rfl
theorem unpack_next {bs : List Nat} {k y : Nat} (h : bs[k]? = some y) : Bt.unpack (bs.take (k + 1)) = Bt.unpack (bs.take k) ++ Bt.bits y 8 := by
  rw [List.take_add_one, h, Bt.unpack_append]
  simp [Bt.unpack]

set_option maxHeartbeats 1000000 in
theorem of_any (oa : Option Addr) (cap : Nat) (bs : List Nat) (w : World) (hr : RowOf 1 byEnc oa bs w) (hl : bs.length ≤ 4294967296) (hb : ∀ b ∈ bs, b < 256) :
    Calls Try.prog 51 #[.slice oa bs.length cap] w fun e w' => ∃ v', e = .returned v' ∧ OwnL 4 1 bEnc v' (Bt.unpack bs) w' ∧ Turned [] w w' ∧ ∀ k ∈ blk v', w.heap.size ≤ k := by
  have h0 := RBits.new 4 w 69
  have hT0 : Turned [] w (w.alloc (.cells #[.slice none 0 0] 69)) := (Turned.refl [] w).alloc _
  go_enter Try.func51, Try.ntmps51
  go_wp2_with fail
  go_loopw [4] (fun i wr => ∃ (k : Nat) (F' : List Nat), k ≤ bs.length ∧ i = .int .i64 (k : Int) ∧ RB w.heap.size (Bt.unpack (bs.take k)) F' wr ∧ Turned [] w wr ∧ ∀ k ∈ F', w.heap.size ≤ k) (fun i _ => bs.length - (intOf i).toNat)
  case atStart => exact ⟨0, [w.heap.size], by omega, rfl, h0, hT0, by simp⟩
  case round =>
    obtain ⟨k, F1, hk, rfl, hrb, hT, hnew⟩ := hrel
    clear h0 hT0
    by_cases hlt : (k : Int) < (bs.length : Int)
    · have hkl : k < bs.length := by omega
      obtain ⟨g, off, rfl, hg, hc⟩ := (hr.turned hT (by simp)) k _ (List.getElem?_eq_getElem hkl)
      have e0 := hc 0 _ rfl
      rw [Nat.mul_one, Nat.add_zero] at e0
      have hyb := hb _ (List.getElem_mem hkl)
      have HN : Hid (Bt.unpack (bs.take (k + 1)) = Bt.unpack (bs.take k) ++ Bt.bits bs[k] 8) := unpack_next (List.getElem?_eq_getElem hkl)
      obtain ⟨y, hy⟩ : ∃ y, y = bs[k] := ⟨_, rfl⟩
      rw [← hy] at HN hyb e0
      clear hy hc
      have hul : (Bt.unpack (bs.take k)).length ≤ 549755813888 := by rw [Bt.unpack_length, List.length_take]; omega
      have kp := BtR.put_any w.heap.size _ F1 (y : Int) 8 (by omega) (by omega) wr hrb hul
      rw [puts_eight (by omega), Int.toNat_natCast] at kp
      clear hul
      go_wp2_with (go_at_call 21; with_reducible refine kp.mono ?_; rintro e w2 ⟨rfl, F2, hrb2, hmv2⟩)
      go_roundw
      case rel =>
        have hs := hT.size
        exact ⟨k + 1, F2, by omega, by go_num, by rw [HN.out]; exact hrb2, hT.trans hmv2.1 (fun k hk hl => by have := hnew k hk; omega), hmv2.ge hs hnew⟩
      case measure => simp [intOf]; omega
    · have hk' : k = bs.length := by omega
      subst hk'
      rw [List.take_length] at hrb
      obtain ⟨v, hs, ho, rfl, hn⟩ := hrb
      have c0 := (hs.2 0 _ rfl).1
      go_wp2_with fail
      go_ret
      exact ⟨v, rfl, ho, hT, fun k hk => hnew k (List.mem_cons_of_mem _ hk)⟩

set_option maxHeartbeats 1000000 in
theorem new_any (oa : Option Addr) (cap : Nat) (bs : List Nat) (w : World) (hr : RowOf 1 byEnc oa bs w) (hl : bs.length ≤ 4294967296) (hb : ∀ b ∈ bs, b < 256) :
    Calls Try.prog 46 #[.slice oa bs.length cap] w fun e w' => ∃ p v, e = .returned (.pointer (some ⟨p, 0, none⟩)) ∧ RRd p v ⟨Bt.unpack bs, 0, false⟩ w' ∧ Turned [] w w' ∧ w.heap.size ≤ p ∧ ∀ k ∈ rblk v, w.heap.size ≤ k := by
  have kc := of_any oa cap bs w hr hl hb
  have hul : (Bt.unpack bs).length ≤ 4294967296 * 8 := by rw [Bt.unpack_length]; omega
  have HU : Hid ((Bt.unpack bs).length ≤ 4294967296 * 8) := hul
  clear hul
  go_enter Try.func46, Try.ntmps46
  go_wp2_with (go_at_call 51; with_reducible refine kc.mono ?_; rintro e w1 ⟨v', rfl, ho1, ht1, hb1⟩; obtain ⟨ob, cb, rfl, hcb, _, hr1, _⟩ := ho1.rowOf bEnc_len)
  go_ret
  have hlt := ho1.lt
  have hT : Turned [] w1 (w1.alloc (.cells #[.slice ob (Bt.unpack bs).length cb, .int .i64 0, .bool false] 109)) := (Turned.refl [] w1).alloc _
  refine ⟨w1.heap.size, .slice ob (Bt.unpack bs).length cb, rfl, ⟨Struct.new w1 [_, _, _] _, ⟨ob, cb, rfl, hcb, hr1.turned hT (by simp), ?_⟩, Nat.zero_le _, HU.out⟩, ht1.trans hT (fun k hk _ => hk), ht1.size, ?_⟩
  · intro a ha
    subst ha
    have := hlt a.block (by simp [blk, Value.ownBlock])
    exact ⟨Nat.ne_of_lt this, Nat.lt_of_lt_of_le this hT.size⟩
  · intro k hk
    cases ob with
    | none => simp [rblk] at hk
    | some a =>
      simp [rblk] at hk
      subst hk
      exact hb1 a.block (by simp [blk, Value.ownBlock])

theorem drewN_turned (w : World) (n : Nat) : Turned [] w (w.drewN n) := ⟨rfl, rfl, rfl, Nat.le_refl _, fun _ _ _ => rfl⟩
theorem left_eq {r : Bt.Rd} (hw : r.wf) : ((r.left : Nat) : Int) = (r.l.length : Int) - (r.at_ : Int) := by
  unfold Bt.Rd.wf at hw
  unfold Bt.Rd.left
  omega

/-- a reader's second and third cells are written -/
theorem Rd_at {p : Nat} {v : Value} {r r' : Bt.Rd} {w w' : World} (h : RRd p v r w) (hl : r'.l = r.l) (hw : r'.wf) (hs : Struct p [v, .int .i64 (r'.at_ : Int), .bool r'.fail] w') (ht : Turned [p] w w') : RRd p v r' w' := by
  obtain ⟨_, ⟨oa, cap, rfl, hcap, hr, hd⟩, h2, h3⟩ := h
  exact ⟨hs, ⟨oa, cap, by rw [hl], by rw [hl]; exact hcap, by rw [hl]; exact hr.turned ht fun a ha => by have := (hd a ha).1; simp; exact this, fun a ha => ⟨(hd a ha).1, Nat.lt_of_lt_of_le (hd a ha).2 ht.size⟩⟩, hw, by rw [hl]; exact h3⟩
theorem fails {p : Nat} {v : Value} {r : Bt.Rd} {w w1 : World} (h : RRd p v r w) (ht : Turned [] w w1) : RRd p v ⟨r.l, r.at_, true⟩ (w1.setCell ⟨p, 2, none⟩ (.bool true)) ∧ Turned [p] w (w1.setCell ⟨p, 2, none⟩ (.bool true)) := by
  have h1 := h.keep ht (by simp) (by simp)
  have hT : Turned [p] w1 (w1.setCell ⟨p, 2, none⟩ (.bool true)) := (Turned.refl [p] w1).setCell (p := ⟨p, 2, none⟩) (.inl (by simp)) _
  exact ⟨Rd_at h1 rfl h.2.2.1 (h1.1.set (i := 2) (by simp) _) hT, (ht.mono (S' := [p]) (by simp)).trans hT (fun k hk _ => hk)⟩
theorem moves {p : Nat} {v : Value} {r : Bt.Rd} {w w1 : World} {n : Nat} (h : RRd p v r w) (ht : Turned [] w w1) (hn : n ≤ r.l.length) : RRd p v ⟨r.l, n, r.fail⟩ (w1.setCell ⟨p, 1, none⟩ (.int .i64 (n : Int))) ∧ Turned [p] w (w1.setCell ⟨p, 1, none⟩ (.int .i64 (n : Int))) := by
  have h1 := h.keep ht (by simp) (by simp)
  have hT : Turned [p] w1 (w1.setCell ⟨p, 1, none⟩ (.int .i64 (n : Int))) := (Turned.refl [p] w1).setCell (p := ⟨p, 1, none⟩) (.inl (by simp)) _
  exact ⟨Rd_at h1 rfl hn (h1.1.set (i := 1) (by simp) _) hT, (ht.mono (S' := [p]) (by simp)).trans hT (fun k hk _ => hk)⟩

set_option maxHeartbeats 2000000 in
theorem take_no (p : Nat) (v : Value) (r : Bt.Rd) (n : Int) (w : World) (h : RRd p v r w) (hc : ¬ r.can n = true) :
    Calls Try.prog 47 #[.pointer (some ⟨p, 0, none⟩), .int .i64 n] w fun e w' => e = .returned (.int .u64 0) ∧ RRd p v ⟨r.l, r.at_, true⟩ w' ∧ Turned [p] w w' := by
  have hfl := fun w1 (ht : Turned [] w w1) => fails h ht
  have hle := left_eq h.2.2.1
  have hwf : r.at_ ≤ r.l.length := h.2.2.1
  have hm := h.2.2.2
  rw [Bt.Rd.can_iff] at hc
  obtain ⟨hs, ⟨oa, cap, rfl, hcap, hr, hd⟩, _, _⟩ := h
  have c0 := (hs.2 0 _ rfl).1
  have c1 := (hs.2 1 _ rfl).1
  have c2 := (hs.2 2 _ rfl).1
  have f2 := (hs.2 2 _ rfl).2
  clear hs hr hd
  by_cases hf : r.fail = true
  · rw [hf] at c2
    clear hc
    go_enter Try.func47, Try.ntmps47
    go_wp2_with fail
    go_quiet (fail)
    go_wp2
    go_ret
    exact ⟨rfl, hfl _ (drewN_turned _ _)⟩
  · have hf' : r.fail = false := by simpa using hf
    rw [hf'] at c2
    by_cases h0 : n < 0
    · have d0 : decide (n < 0) = true := by simpa using h0
      clear hc
      go_enter Try.func47, Try.ntmps47
      go_wp2_with fail
      go_quiet (fail)
      go_wp2
      go_ret
      exact ⟨rfl, hfl _ (drewN_turned _ _)⟩
    · have d0 : decide (n < 0) = false := by simpa using h0
      by_cases h64 : 64 < n
      · have d1 : decide (64 < n) = true := by simpa using h64
        clear hc
        go_enter Try.func47, Try.ntmps47
        go_wp2_with fail
        go_quiet (fail)
        go_wp2
        go_ret
        exact ⟨rfl, hfl _ (drewN_turned _ _)⟩
      · have hn : (r.l.length : Int) - (r.at_ : Int) < n := by
          by_cases h : n ≤ (r.left : Int)
          · exact absurd ⟨hf', by omega, by omega, h⟩ hc
          · omega
        have d1 : decide (64 < n) = false := by simpa using h64
        have d2 : decide ((r.l.length : Int) - (r.at_ : Int) < n) = true := by simpa using hn
        clear hc hle
        go_enter Try.func47, Try.ntmps47
        go_wp2_with fail
        go_quiet (fail)
        go_wp2
        go_ret
        exact ⟨rfl, hfl _ (drewN_turned _ _)⟩

theorem val_next {l : List Bool} {b : Bool} {d : Nat} (h : l[d]? = some b) : Bt.val (l.take (d + 1)) = Bt.val (l.take d) + 2 ^ d * b.toNat := by
  have hd : d < l.length := (List.getElem?_eq_some_iff.1 h).1
  rw [List.take_add_one, h, show (some b).toList = [b] from rfl, Bt.val_snoc, List.length_take, Nat.min_eq_left (by omega)]
theorem pow_wrap {k : Nat} (h : k < 64) : (2 ^ k) % 18446744073709551616 = 2 ^ k ∧ 2 ^ k ≤ 9223372036854775808 := by
  have hp : 2 ^ k ≤ 2 ^ 63 := Nat.pow_le_pow_right (by omega) (by omega)
  have hp' : 2 ^ k ≤ 9223372036854775808 := hp
  exact ⟨Nat.mod_eq_of_lt (by omega), hp'⟩
theorem pow_step {k : Nat} (h : k < 64) : ((2 ^ (k + 1) % 18446744073709551616 : Nat) : Int) = (2 ^ k : Nat) * 2 % 18446744073709551616 := by
  rw [Nat.pow_succ]; omega
theorem wrapu (z : Int) : IntKind.u64.wrap z = z % 18446744073709551616 := by simp [IntKind.wrap, IntKind.bits, IntKind.signed]

set_option maxHeartbeats 2000000 in
theorem take_yes (p : Nat) (v : Value) (r : Bt.Rd) (n : Nat) (w : World) (h : RRd p v r w) (hf : r.fail = false) (hn : n ≤ 64) (hnl : n ≤ r.left) :
    Calls Try.prog 47 #[.pointer (some ⟨p, 0, none⟩), .int .i64 (n : Int)] w fun e w' => e = .returned (.int .u64 ((Bt.val (r.rest.take n) : Nat) : Int)) ∧ RRd p v ⟨r.l, r.at_ + n, false⟩ w' ∧ Turned [p] w w' := by
  have hle := left_eq h.2.2.1
  have hwf : r.at_ ≤ r.l.length := h.2.2.1
  have hm := h.2.2.2
  obtain ⟨hs, ⟨oa, cap, rfl, hcap, hr, hd⟩, _, _⟩ := id h
  have c0 := (hs.2 0 _ rfl).1
  have c1 := (hs.2 1 _ rfl).1
  have c2 := (hs.2 2 _ rfl).1
  rw [hf] at c2
  have d0 : decide ((n : Int) < 0) = false := by simp
  have d1 : decide (64 < (n : Int)) = false := by simp; omega
  have d2 : decide ((r.l.length : Int) - (r.at_ : Int) < (n : Int)) = false := by simp; omega
  have hat : r.at_ + n ≤ r.l.length := by omega
  have h00 : RRd p (.slice oa r.l.length cap) ⟨r.l, r.at_ + 0, false⟩ w := by rw [Nat.add_zero, ← hf]; exact h
  clear hs hr hd hle hnl h
  go_enter Try.func47, Try.ntmps47
  go_wp2_with fail
  go_quiet (fail)
  go_wp2_with fail
  generalize decide ((n : Int) < 0) = q0
  generalize decide (64 < (n : Int)) = q1
  generalize decide ((r.l.length : Int) - (r.at_ : Int) < (n : Int)) = q2
  go_loopw [5, 6, 7] (fun x one i wr => ∃ k : Nat, k ≤ n ∧ i = .int .i64 (k : Int) ∧ x = .int .u64 ((Bt.val (r.rest.take k) : Nat) : Int) ∧ one = .int .u64 ((2 ^ k % 18446744073709551616 : Nat) : Int) ∧ RRd p (.slice oa r.l.length cap) ⟨r.l, r.at_ + k, false⟩ wr ∧ Turned [p] w wr) (fun _ _ i _ => n - (intOf i).toNat)
  case atStart => exact ⟨0, by omega, rfl, rfl, rfl, h00.keep (drewN_turned _ _) (by simp) (by simp), (drewN_turned _ _).mono (by simp)⟩
  case round =>
    obtain ⟨k, hk, rfl, rfl, rfl, hR, hT⟩ := hrel
    clear h00 c0 c1 c2
    by_cases hlt : (k : Int) < (n : Int)
    · have hkl : r.at_ + k < r.l.length := by omega
      obtain ⟨b, hb⟩ : ∃ b, r.l[r.at_ + k]? = some b := ⟨_, List.getElem?_eq_getElem hkl⟩
      have hmv := fun w1 (ht : Turned [] wr w1) => moves (n := r.at_ + (k + 1)) hR ht (by show r.at_ + (k + 1) ≤ r.l.length; omega)
      obtain ⟨hs, ⟨oa', cap', hv', hcap', hr, hd⟩, _, _⟩ := id hR
      simp at hv'
      obtain ⟨rfl, rfl⟩ := hv'
      have c0 := (hs.2 0 _ rfl).1
      have c1 := (hs.2 1 _ rfl).1
      have f1 := (hs.2 1 _ rfl).2
      obtain ⟨g, off, rfl, hg, hc⟩ := hr _ _ hb
      have e0 := hc 0 _ rfl
      rw [Nat.mul_one, Nat.add_zero] at e0
      have hgp : g ≠ p := (hd _ rfl).1
      have hrk : r.rest[k]? = some b := by unfold Bt.Rd.rest; rw [List.getElem?_drop]; exact hb
      have HV : Hid (Bt.val (r.rest.take (k + 1)) = Bt.val (r.rest.take k) + 2 ^ k * b.toNat) := val_next hrk
      have hpw := pow_wrap (show k < 64 by omega)
      have HP : Hid (((2 ^ (k + 1) % 18446744073709551616 : Nat) : Int) = (2 ^ k : Nat) * 2 % 18446744073709551616) := pow_step (by omega)
      have hvl : Bt.val (r.rest.take k) < 2 ^ k := by
        have h1 := Bt.val_lt (r.rest.take k)
        have h2 : (r.rest.take k).length ≤ k := by rw [List.length_take]; omega
        exact Nat.lt_of_lt_of_le h1 (Nat.pow_le_pow_right (by omega) h2)
      rw [hpw.1]
      have hy1 := hpw.2
      clear hpw hs hr hd hc hrk
      obtain ⟨x, hx⟩ : ∃ x, x = Bt.val (r.rest.take k) := ⟨_, rfl⟩
      obtain ⟨y, hy⟩ : ∃ y, y = 2 ^ k := ⟨_, rfl⟩
      rw [← hx] at HV hvl ⊢
      rw [← hy] at HV HP hvl hy1 ⊢
      clear hx hy
      cases b
      all_goals
        go_wp2_with fail
        go_region
        go_wp2_with fail
        have HM := hmv wr (Turned.refl _ _)
        have HM1 := HM.1.keep ((Turned.refl [] _).drew) (by simp) (by simp)
        have HM2 := (hT.trans HM.2 (fun k hk _ => hk)).drew
        go_roundw
        case rel => exact ⟨k + 1, by omega, by go_num, by rw [HV.out]; simp, by rw [HP.out, wrapu], HM1, HM2⟩
        case measure => simp [intOf]; omega
    · have hk' : k = n := by omega
      subst hk'
      go_wp2_with fail
      go_ret
      exact ⟨rfl, hR, hT⟩

theorem take_any (p : Nat) (v : Value) (r : Bt.Rd) (n : Int) (w : World) (h : RRd p v r w) :
    Calls Try.prog 47 #[.pointer (some ⟨p, 0, none⟩), .int .i64 n] w fun e w' => e = .returned (.int .u64 ((r.tell n : Nat) : Int)) ∧ RRd p v (r.take n) w' ∧ Turned [p] w w' := by
  by_cases hc : r.can n = true
  · have e1 : r.tell n = Bt.val (r.rest.take n.toNat) := by unfold Bt.Rd.tell; rw [if_pos hc]
    have e2 : r.take n = ⟨r.l, r.at_ + n.toNat, false⟩ := by unfold Bt.Rd.take; rw [if_pos hc]
    rw [e1, e2]
    obtain ⟨hf, h0, h64, hnl⟩ := Bt.Rd.can_iff.1 hc
    obtain ⟨m, rfl⟩ := Int.eq_ofNat_of_zero_le h0
    rw [Int.toNat_natCast]
    exact take_yes p v r m w h hf (by omega) (by omega)
  · have e1 : r.tell n = 0 := by unfold Bt.Rd.tell; rw [if_neg hc]
    have e2 : r.take n = ⟨r.l, r.at_, true⟩ := by unfold Bt.Rd.take; rw [if_neg hc]
    rw [e1, e2]
    exact take_no p v r n w h hc

theorem all_snoc {l : List Bool} {a k : Nat} (hk : a ≤ k) (h : l[k]? = some false) (h0 : ((l.drop a).take (k - a)).all (fun b => !b) = true) : ((l.drop a).take (k + 1 - a)).all (fun b => !b) = true := by
  have e : (l.drop a)[k - a]? = some false := by rw [List.getElem?_drop, show a + (k - a) = k by omega]; exact h
  rw [show k + 1 - a = (k - a) + 1 by omega, List.take_add_one, e, List.all_append, h0]
  rfl
theorem not_all {l : List Bool} {a k : Nat} (hk : a ≤ k) (h : l[k]? = some true) : (l.drop a).all (fun b => !b) = false := by
  have e : (l.drop a)[k - a]? = some true := by rw [List.getElem?_drop, show a + (k - a) = k by omega]; exact h
  rw [List.all_eq_false]
  exact ⟨true, List.mem_of_getElem? e, by simp⟩

end BtG
end Go.Proofs.Ytkjlbginggppaaa


/- What the reference's reader of bits answers, as a call: small numbers (BtG). -/
namespace Go.Proofs.Ytkjlbginggppaaa
open Go.RowKit
set_option linter.unusedVariables false

namespace BtG
open BtR (RB)
open BtW (int_ret puts)
theorem take_same {l s : List Bool} {k : Nat} {a b : Bool} (h : l.take k = s.take k) (ha : l[k]? = some a) (hb : s[k]? = some b) : (l.take (k + 1) = s.take (k + 1)) ↔ a = b := by
  rw [List.take_add_one, List.take_add_one, ha, hb, h]
  simp
theorem ne_of_take {l s : List Bool} {k : Nat} {a b : Bool} (ha : l[k]? = some a) (hb : s[k]? = some b) (hab : a ≠ b) : l ≠ s := by
  rintro rfl
  rw [ha] at hb
  exact hab (by simpa using hb)

/-- behind j times eight bits that told n: what grp tells of what is left, and of all -/
def glay (j n : Nat) : Option (Nat × Nat) → Option (Nat × Nat)
  | none => none
  | some (u, c) => some (n + 128 ^ j * u, c + j)
theorem grp_next {k j n : Nat} {r : List Bool} (h7 : ¬ r.length < 7) : glay j n (Bt.grp (k + 1) (true :: r)) = glay (j + 1) (n + 128 ^ j * Bt.val (r.take 7)) (Bt.grp k (r.drop 7)) := by
  rw [Bt.grp_true k h7]
  cases Bt.grp k (r.drop 7) with
  | none => rfl
  | some q =>
    obtain ⟨u, c⟩ := q
    show some (n + 128 ^ j * (Bt.val (r.take 7) + 128 * u), c + 1 + j) = some (n + 128 ^ j * Bt.val (r.take 7) + 128 ^ (j + 1) * u, c + (j + 1))
    rw [Nat.mul_add, Nat.pow_succ, ← Nat.mul_assoc, ← Nat.add_assoc, show c + 1 + j = c + (j + 1) by omega]
theorem grp_end {k j n : Nat} {r : List Bool} (h7 : ¬ r.length < 7) : glay j n (Bt.grp (k + 1) (false :: r)) = some (n + 128 ^ j * Bt.val (r.take 7), j + 1) := by
  rw [Bt.grp_false k h7]
  show some (n + 128 ^ j * Bt.val (r.take 7), 1 + j) = _
  rw [Nat.add_comm 1 j]
theorem grp_short {k j n : Nat} {l : List Bool} (h : l.length < 8) : glay j n (Bt.grp k l) = none := by
  cases k with
  | zero => rfl
  | succ k =>
    cases l with
    | nil => rfl
    | cons m r =>
      have : Bt.grp (k + 1) (m :: r) = none := by
        unfold Bt.grp
        simp only []
        rw [if_pos (by rw [List.length_cons] at h; omega)]
      rw [this]; rfl
/-- read, and put again -/
theorem small_same {l : List Bool} {U c : Nat} (h : Bt.grp 10 l = some (U, c)) : Bt.small l = if l.take (8 * c) = Bt.sm (Bt.zig (Bt.zag (U % 18446744073709551616))) then some (Bt.zag (U % 18446744073709551616), 8 * c) else none := by
  rw [Bt.zig_zag]
  have hV : U % 18446744073709551616 < 18446744073709551616 := Nat.mod_lt _ (by omega)
  obtain ⟨g1, g2, g3, g4, g5, g6⟩ := Bt.grp_some h
  by_cases he : l.take (8 * c) = Bt.sm (U % 18446744073709551616)
  · rw [if_pos he]
    have hl : l = Bt.sm (U % 18446744073709551616) ++ l.drop (8 * c) := by rw [← he, List.take_append_drop]
    have hlen := congrArg List.length he
    rw [List.length_take, Nat.min_eq_left g3, Bt.sm_length] at hlen
    rw [Bt.small_iff, Bt.zig_zag]
    exact ⟨hV, hlen, _, hl⟩
  · rw [if_neg he]
    cases hs : Bt.small l with
    | none => rfl
    | some q =>
      obtain ⟨x, n⟩ := q
      obtain ⟨h1, h2, r, h3⟩ := Bt.small_iff.1 hs
      have h4 := Bt.grp_sm r (Bt.eights_ten h1)
      rw [← h3, h] at h4
      simp at h4
      obtain ⟨rfl, rfl⟩ := h4
      exfalso
      apply he
      rw [Nat.mod_eq_of_lt h1]
      exact g6 rfl
theorem small_no {l : List Bool} (h : Bt.grp 10 l = none) : Bt.small l = none := by unfold Bt.small; rw [h]
theorem st_none {r : Bt.Rd} (hf : r.fail = false) (e : Bt.small r.rest = none) : r.sTell = 0 ∧ r.sTake = ⟨r.l, r.at_, true⟩ := by
  unfold Bt.Rd.sTell Bt.Rd.sTake
  rw [hf, e]
  exact ⟨rfl, rfl⟩
theorem st_some {r : Bt.Rd} {x : Int} {c : Nat} (hf : r.fail = false) (e : Bt.small r.rest = some (x, c)) : r.sTell = x ∧ r.sTake = ⟨r.l, r.at_ + c, false⟩ := by
  unfold Bt.Rd.sTell Bt.Rd.sTake
  rw [hf, e]
  exact ⟨rfl, rfl⟩

end BtG
end Go.Proofs.Ytkjlbginggppaaa


/- Whether two rows of bytes are the same, as the reference of layer 5 asks it (BtL). -/
namespace Go.Proofs.Ytkjlbginggppaaa
open Go.RowKit
set_option linter.unusedVariables false

namespace BtL
theorem bool_ret {a b : Bool} {p : Prop} (h : a = b) (hp : p) : Ending.returned (.bool a) = .returned (.bool b) ∧ p := by rw [h]; exact ⟨rfl, hp⟩
theorem take_same {l s : List Nat} {k : Nat} {a b : Nat} (h : l.take k = s.take k) (ha : l[k]? = some a) (hb : s[k]? = some b) : (l.take (k + 1) = s.take (k + 1)) ↔ a = b := by
  rw [List.take_add_one, List.take_add_one, ha, hb, h]
  simp
theorem ne_of_take {l s : List Nat} {k : Nat} {a b : Nat} (ha : l[k]? = some a) (hb : s[k]? = some b) (hab : a ≠ b) : l ≠ s := by
  rintro rfl
  rw [ha] at hb
  exact hab (by simpa using hb)

set_option maxHeartbeats 1000000 in
theorem same_any (oa ob : Option Addr) (ca cb : Nat) (la lb : List Nat) (w : World) (ha : RowOf 1 byEnc oa la w) (hb : RowOf 1 byEnc ob lb w) (hla : la.length ≤ 1099511627776) (hlb : lb.length ≤ 1099511627776) :
    Calls Try.prog 16 #[.slice oa la.length ca, .slice ob lb.length cb] w fun e w' => e = .returned (.bool (decide (la = lb))) ∧ Turned [] w w' := by
  by_cases hlen : la.length = lb.length
  · go_enter Try.func16, Try.ntmps16
    go_wp2_with fail
    go_loopw [5] (fun i wr => ∃ k : Nat, k ≤ lb.length ∧ i = .int .i64 (k : Int) ∧ la.take k = lb.take k ∧ Turned [] w wr) (fun i _ => lb.length - (intOf i).toNat)
    case atStart => exact ⟨0, by omega, rfl, by simp, Turned.refl _ _⟩
    case round =>
      obtain ⟨k, hk, rfl, htk, hT2⟩ := hrel
      have ha2 := ha.turned hT2 (by simp)
      have hb2 := hb.turned hT2 (by simp)
      by_cases hlt : (k : Int) < (lb.length : Int)
      · have hk1 : k < la.length := by omega
        have hk2 : k < lb.length := by omega
        obtain ⟨a, hxa⟩ : ∃ a, la[k]? = some a := ⟨_, List.getElem?_eq_getElem hk1⟩
        obtain ⟨b, hxb⟩ : ∃ b, lb[k]? = some b := ⟨_, List.getElem?_eq_getElem hk2⟩
        obtain ⟨g1, o1, rfl, hg1, hc1⟩ := ha2 _ _ hxa
        obtain ⟨g2, o2, rfl, hg2, hc2⟩ := hb2 _ _ hxb
        have e1 := hc1 0 _ rfl
        have e2 := hc2 0 _ rfl
        rw [Nat.mul_one, Nat.add_zero] at e1 e2
        clear hc1 hc2 ha2 hb2
        by_cases hab : a = b
        · have HT : Hid (la.take (k + 1) = lb.take (k + 1)) := (take_same htk hxa hxb).2 hab
          clear htk hxa hxb
          subst hab
          go_wp2_with fail
          go_region
          go_wp2_with fail
          go_roundw
          case rel => exact ⟨k + 1, by omega, by go_num, HT.out, hT2.drew⟩
          case measure => simp [intOf]; omega
        · have HN : Hid (decide (la = lb) = false) := decide_eq_false (ne_of_take hxa hxb hab)
          have hne : ¬ (a : Int) = (b : Int) := by omega
          clear htk hxa hxb
          go_wp2_with fail
          go_region
          go_wp2_with fail
          go_ret
          exact bool_ret HN.out.symm hT2.drew
      · have hk' : k = lb.length := by omega
        subst hk'
        have HE : Hid (decide (la = lb) = true) := by
          show _ = _
          rw [List.take_length, ← hlen, List.take_length] at htk
          simpa using htk
        clear htk
        go_wp2_with fail
        go_ret
        exact bool_ret HE.out.symm hT2
  · have HN : Hid (decide (la = lb) = false) := decide_eq_false (by rintro rfl; exact hlen rfl)
    have hlen' : ¬ (la.length : Int) = (lb.length : Int) := by omega
    go_enter Try.func16, Try.ntmps16
    go_wp2_with fail
    go_ret
    exact bool_ret HN.out.symm (Turned.refl _ _)

end BtL
end Go.Proofs.Ytkjlbginggppaaa


/- The reference's parts and assembler, where they lie. -/
namespace Go.Proofs.Ytkjlbginggppaaa
open Go.RowKit
set_option linter.unusedVariables false

/-- a part, with the slice of its bytes -/
def ptEnc (q : Fg.P × Value) : List Value := [.int .u16 (q.1.id : Int), .int .i64 (q.1.n : Int), .int .i64 (q.1.at_ : Int), q.2]
def ptVal (q : Fg.P × Value) : Value := .agg #[.int .u16 (q.1.id : Int), .int .i64 (q.1.n : Int), .int .i64 (q.1.at_ : Int), q.2]
theorem ptEnc_len {l : List (Fg.P × Value)} : ∀ a ∈ l, (ptEnc a).length = 4 := fun _ _ => rfl

theorem elem_pt : ElemOk Try.prog 42 83 (.agg #[.int .u16 0, .int .i64 0, .int .i64 0, .slice none 0 0]) 4 48 := ⟨by kernel_rfl, by kernel_rfl, rfl, by decide⟩

/-- v is a slice of the bytes l, which are only read -/
def BytesAt (v : Value) (l : List Nat) (w : World) : Prop := ∃ oa cap, v = .slice oa l.length cap ∧ l.length ≤ cap ∧ RowOf 1 byEnc oa l w ∧ ∀ a, oa = some a → a.block < w.heap.size ∧ a.spot = none
theorem BytesAt.keep {v : Value} {l : List Nat} {w w' : World} {S : List Nat} (h : BytesAt v l w) (ht : Turned S w w') (hd : ∀ k ∈ rblk v, k ∉ S) : BytesAt v l w' := by
  obtain ⟨oa, cap, rfl, hc, hr, hb⟩ := h
  exact ⟨oa, cap, rfl, hc, hr.turned ht fun a ha => hd _ (by subst ha; simp [rblk]), fun a ha => ⟨Nat.lt_of_lt_of_le (hb a ha).1 ht.size, (hb a ha).2⟩⟩
theorem BytesAt.lt {v : Value} {l : List Nat} {w : World} (h : BytesAt v l w) : ∀ k ∈ rblk v, k < w.heap.size := by
  obtain ⟨oa, cap, rfl, hc, hr, hb⟩ := h
  intro k hk
  cases oa with
  | none => simp [rblk] at hk
  | some a => simp [rblk] at hk; subst hk; exact (hb a rfl).1
theorem BytesAt.one {v : Value} {l : List Nat} {w : World} (h : BytesAt v l w) : v.oneCell' = true := by
  obtain ⟨oa, cap, rfl, _⟩ := h; rfl
/-- block R is the reference's assembler that keeps L -/
structure RAsm (R : Nat) (L : List (Fg.P × Value)) (vL : Value) (w : World) : Prop where
  st : Struct R [vL] w
  ow : OwnL 83 4 ptEnc vL L w
  nr : R ∉ blk vL
  by_ : ∀ q ∈ L, BytesAt q.2 q.1.b w
  ap : ∀ q ∈ L, ∀ k ∈ rblk q.2, k ∉ R :: blk vL
theorem RAsm.keep {R : Nat} {L : List (Fg.P × Value)} {vL : Value} {w w' : World} {S : List Nat} (h : RAsm R L vL w) (ht : Turned S w w') (hd : ∀ k ∈ R :: blk vL, k ∉ S) (hq : ∀ q ∈ L, ∀ k ∈ rblk q.2, k ∉ S) : RAsm R L vL w' :=
  ⟨h.st.keep ht (hd R List.mem_cons_self), h.ow.keep ht fun k hk => hd k (List.mem_cons_of_mem _ hk), h.nr, fun q hm => (h.by_ q hm).keep ht (hq q hm), h.ap⟩

namespace FgR
theorem mine_any (p q : Fg.P × Value) (w : World) :
    Calls Try.prog 31 #[ptVal p, ptVal q] w fun e w' => e = .returned (.bool (Fg.mine p.1 q.1)) ∧ Turned [] w w' := by
  obtain ⟨⟨i, n, a, b⟩, v⟩ := p
  obtain ⟨⟨i', n', a', b'⟩, v'⟩ := q
  unfold ptVal
  simp only
  by_cases h1 : i = i'
  · subst h1
    by_cases h2 : n = n'
    · subst h2
      go_enter Try.func31, Try.ntmps31
      go_wp2_with fail
      go_ret
      exact BtL.bool_ret (by simp [Fg.mine]) (((Turned.refl [] w).alloc _).alloc _)
    · have h3 : ¬ (n : Int) = (n' : Int) := by omega
      have h4 : (n == n') = false := beq_eq_false_iff_ne.2 h2
      have h5 : ((n : Int) == (n' : Int)) = false := beq_eq_false_iff_ne.2 h3
      have H4 : Hid ((n == n') = false) := h4
      have H5 : Hid (((n : Int) == (n' : Int)) = false) := h5
      clear h4 h5
      go_enter Try.func31, Try.ntmps31
      go_wp2_with fail
      go_ret
      exact BtL.bool_ret (by first | (unfold Fg.mine; simp only [beq_self_eq_true, Bool.true_and]; rw [H4.out, H5.out]) | (unfold Fg.mine; simp only [beq_self_eq_true, Bool.true_and]; rw [H4.out])) (((Turned.refl [] w).alloc _).alloc _)
  · have h3 : ¬ (i : Int) = (i' : Int) := by omega
    go_enter Try.func31, Try.ntmps31
    go_wp2_with fail
    go_ret
    exact BtL.bool_ret (by simp [Fg.mine, h1]) (((Turned.refl [] w).alloc _).alloc _)
end FgR
end Go.Proofs.Ytkjlbginggppaaa


/- What the reference reads of a part's bytes (FgR). -/
namespace Go.Proofs.Ytkjlbginggppaaa
open Go.RowKit
set_option linter.unusedVariables false
set_option linter.unusedSimpArgs false

/-- a slice ahead of which three are left out -/
theorem row_drop3 {g off : Nat} {x y z : Nat} {b : List Nat} {w : World} (h : RowOf 1 byEnc (some ⟨g, off, none⟩) (x :: y :: z :: b) w) : RowOf 1 byEnc (some ⟨g, off + 3, none⟩) b w := by
  intro i a hi
  obtain ⟨g', o, e, hl, hc⟩ := h (i + 3) a (by simpa using hi)
  cases e
  refine ⟨_, _, rfl, hl, fun j u hu => ?_⟩
  have := hc j u hu
  rw [show off + 3 + i * 1 + j = off + (i + 3) * 1 + j by omega]; exact this

namespace FgR
/-- what the reference's read tells -/
def Told (v : Value) (l : List Nat) (e : Ending) (w' : World) : Prop :=
  ∃ (q : Fg.P × Value) (ok : Bool), e = .returned (.tuple #[ptVal q, .bool ok]) ∧ (∃ o n c, q.2 = .slice o n c) ∧ (Fg.read l = none → ok = false) ∧ ∀ p, Fg.read l = some p → ok = true ∧ q.1 = p ∧ BytesAt q.2 p.b w' ∧ rblk q.2 = rblk v
theorem read_short {l : List Nat} (h : l.length < 4) : Fg.read l = none := by
  match l, h with
  | [], _ => rfl
  | [_], _ => rfl
  | [_, _], _ => rfl
  | [x, y, z], _ => rw [Fg.read_cons, if_neg (by simp)]
  | x :: y :: z :: c :: b, h => simp at h; omega
theorem read_long {l : List Nat} (h : 303 < l.length) : Fg.read l = none := by
  match l, h with
  | x :: y :: z :: b, h => rw [Fg.read_cons, if_neg (by simp at h; omega)]

set_option maxRecDepth 20000 in
set_option maxHeartbeats 4000000 in
theorem read_far (v : Value) (l : List Nat) (w : World) (h : BytesAt v l w) (hl : l.length < 4 ∨ 303 < l.length) :
    Calls Try.prog 30 #[v] w fun e w' => Told v l e w' ∧ Turned [] w w' := by
  have hno : Fg.read l = none := hl.elim read_short read_long
  obtain ⟨oa, cap, rfl, hc, hr, hb⟩ := h
  obtain ⟨n, hn⟩ : ∃ n, n = l.length := ⟨_, rfl⟩
  rw [← hn] at hl ⊢
  have HN : Hid (Fg.read l = none) := hno
  clear hn hno
  have key : ∀ w', Turned [] w w' → Told (.slice oa n cap) l (.returned (.tuple #[.agg #[.int .u16 0, .int .i64 0, .int .i64 0, .slice none 0 0], .bool false])) w' ∧ Turned [] w w' := fun w' ht =>
    ⟨⟨(⟨0, 0, 0, []⟩, .slice none 0 0), false, rfl, ⟨_, _, _, rfl⟩, fun _ => rfl, fun p hp => by rw [HN.out] at hp; cases hp⟩, ht⟩
  rcases hl with hl | hl
  · have h1 : (n : Int) < 4 := by omega
    go_enter Try.func30, Try.ntmps30
    go_wp2_with fail
    refine bodyPost_ret (v := .tuple #[.agg #[.int .u16 0, .int .i64 0, .int .i64 0, .slice none 0 0], .bool false]) (by simp [results, Try.results30, go_sem]) rfl (key _ ?_)
    repeat (first | exact Turned.refl _ _ | refine Turned.drew ?_ | refine Turned.alloc ?_ _ | refine Turned.setCell ?_ (Or.inr (by simp)) _)
  · have h1 : ¬ (n : Int) < 4 := by omega
    have h2 : (303 : Int) < (n : Int) := by omega
    go_enter Try.func30, Try.ntmps30
    go_wp2_with fail
    refine bodyPost_ret (v := .tuple #[.agg #[.int .u16 0, .int .i64 0, .int .i64 0, .slice none 0 0], .bool false]) (by simp [results, Try.results30, go_sem]) rfl (key _ ?_)
    repeat (first | exact Turned.refl _ _ | refine Turned.drew ?_ | refine Turned.alloc ?_ _ | refine Turned.setCell ?_ (Or.inr (by simp)) _)

set_option maxRecDepth 20000 in
set_option maxHeartbeats 8000000 in
theorem read_near (v : Value) (l : List Nat) (w : World) (h : BytesAt v l w) (h8 : ∀ x ∈ l, x < 256) (h4 : 4 ≤ l.length) (h303 : l.length ≤ 303) :
    Calls Try.prog 30 #[v] w fun e w' => Told v l e w' ∧ Turned [] w w' := by
  obtain ⟨oa, cap, rfl, hc, hr, hb⟩ := h
  obtain ⟨x, y, z, b, rfl⟩ : ∃ x y z b, l = x :: y :: z :: b := by
    match l, h4 with
    | x :: y :: z :: b, _ => exact ⟨x, y, z, b, rfl⟩
  have hx := h8 x (by simp)
  have hy := h8 y (by simp)
  have hz := h8 z (by simp)
  obtain ⟨t1, t2, t3⟩ := Fg.tells (r := ⟨Bt.unpack (x :: y :: z :: b), 0, false⟩) hx hy hz rfl rfl
  have kN := fun (u : World) (hu : Turned [] w u) => BtG.new_any oa cap (x :: y :: z :: b) u (hr.turned hu (by simp)) (by omega) h8
  obtain ⟨g, off, rfl, hg, _⟩ := hr 0 x rfl
  have HR : Hid (RowOf 1 byEnc (some ⟨g, off, none⟩) (x :: y :: z :: b) w) := hr
  obtain ⟨r, hrr⟩ : ∃ r : Bt.Rd, r = ⟨Bt.unpack (x :: y :: z :: b), 0, false⟩ := ⟨_, rfl⟩
  rw [← hrr] at t1 t2 t3 kN
  have k1 := fun (p : Nat) (v : Value) (u : World) (h : RRd p v r u) => BtG.take_any p v r 16 u h
  have k2 := fun (p : Nat) (v : Value) (u : World) (h : RRd p v (r.take 16) u) => BtG.take_any p v (r.take 16) 4 u h
  have k3 := fun (p : Nat) (v : Value) (u : World) (h : RRd p v ((r.take 16).take 4) u) => BtG.take_any p v ((r.take 16).take 4) 4 u h
  rw [t1] at k1
  rw [t2] at k2
  rw [t3] at k3
  obtain ⟨nb, hnb⟩ : ∃ n, n = b.length := ⟨_, rfl⟩
  obtain ⟨len, hlen⟩ : ∃ n, n = (x :: y :: z :: b).length := ⟨_, rfl⟩
  have hle : len = nb + 3 := by rw [hlen, hnb]; rfl
  obtain ⟨i, hi⟩ : ∃ i, i = x + 256 * y := ⟨_, rfl⟩
  obtain ⟨c, hcn⟩ : ∃ c, c = z % 16 := ⟨_, rfl⟩
  obtain ⟨a, ha⟩ : ∃ a, a = z / 16 := ⟨_, rfl⟩
  rw [← hi] at k1
  rw [← hcn] at k2
  rw [← ha] at k3
  rw [← hlen] at kN hc h4 h303 ⊢
  rw [hle] at kN hc h4 h303 ⊢
  have hi2 : (i : Int) < 65536 := by omega
  have hc2 : (c : Int) < 16 := by omega
  have ha2 : (a : Int) < 16 := by omega
  have hl1 : ¬ (nb : Int) + 3 < 4 := by omega
  have hl2 : ¬ (303 : Int) < (nb : Int) + 3 := by omega
  have hl4 : (nb : Int) + 3 ≤ (cap : Int) := by omega
  have hcap3 : ¬ cap = 3 := by omega
  have HRd : Hid (Fg.read (x :: y :: z :: b) = if 1 ≤ nb ∧ nb ≤ 300 ∧ a < c + 1 ∧ c + 1 ≤ 14 ∧ (a = c ∨ nb = 300) then some ⟨i, c + 1, a, b⟩ else none) := by
    show _ = _
    rw [Fg.read_cons, ← hnb, ← hcn, ← ha, ← hi]
  have HNB : Hid (nb = b.length ∧ 4 ≤ nb + 3 ∧ nb + 3 ≤ 303 ∧ nb + 3 ≤ cap) := ⟨hnb, h4, h303, hc⟩
  clear hrr t1 t2 t3 hi hcn ha hlen hnb hle hx hy hz h8 hc h4 h303 hr hb
  go_enter Try.func30, Try.ntmps30
  go_wp2_with fail
  obtain ⟨W0, hW0⟩ : ∃ W, W = w.alloc (.cells #[.int .u16 0, .int .i64 0, .int .i64 0, .slice none 0 0] 83) := ⟨_, rfl⟩
  rw [← hW0]
  have hT : Turned [] w W0 := by rw [hW0]; exact (Turned.refl [] w).alloc _
  have hS : Struct w.heap.size [.int .u16 0, .int .i64 0, .int .i64 0, .slice none 0 0] W0 := by rw [hW0]; exact Struct.new w [.int .u16 0, .int .i64 0, .int .i64 0, .slice none 0 0] _
  clear hW0
  refine (kN W0 hT).mono ?_
  rintro e u1 ⟨p, v1, rfl, hR, ht1, hpn, hvn⟩
  have hpw : w.heap.size < p := by have := hS.1; omega
  replace hS := hS.keep ht1 (by simp)
  replace hT := hT.trans ht1 (by simp)
  clear ht1 kN hpn hvn
  go_wp2_with fail
  refine (k1 _ _ _ hR).mono ?_
  clear hR
  rintro e u2 ⟨rfl, hR, ht2⟩
  replace hS := hS.keep ht2 (by simp; omega)
  replace hT := hT.trans ht2 (by intro k hk hl; simp at hk; omega)
  have hpl := hR.lt
  clear ht2 k1
  go_wp2_with fail
  clear hi2
  obtain ⟨W3, hW3⟩ : ∃ W, W = u2.alloc (.cells #[.int .u16 (i : Int), .int .i64 0, .int .i64 0, .slice none 0 0] 83) := ⟨_, rfl⟩
  rw [← hW3]
  obtain ⟨B, hB⟩ : ∃ B, B = u2.heap.size := ⟨_, rfl⟩
  rw [← hB]
  have ht3 : Turned [] u2 W3 := by rw [hW3]; exact (Turned.refl [] u2).alloc _
  have hP : Struct B [.int .u16 (i : Int), .int .i64 0, .int .i64 0, .slice none 0 0] W3 := by rw [hW3, hB]; exact Struct.new u2 [.int .u16 (i : Int), .int .i64 0, .int .i64 0, .slice none 0 0] _
  have hBw : w.heap.size < B := by have := hS.1; omega
  have hpB : ¬ B = p := by omega
  have hvB : ∀ k ∈ rblk v1, k ∉ [B] := by
    obtain ⟨_, ⟨ox, cx, rfl, _, _, hdx⟩, _⟩ := hR
    intro k hk hm
    simp at hm
    subst hm
    cases ox with
    | none => simp [rblk] at hk
    | some ad => simp [rblk] at hk; have := (hdx ad rfl).2; omega
  replace hS := hS.keep ht3 (by simp)
  replace hT := hT.trans ht3 (by simp)
  replace hR := hR.keep ht3 (by simp) (by simp)
  clear hW3 hB ht3
  refine (k2 _ _ _ hR).mono ?_
  clear hR
  rintro e u4 ⟨rfl, hR, ht4⟩
  replace hS := hS.keep ht4 (by simp; omega)
  replace hP := hP.keep ht4 (by simpa using hpB)
  replace hT := hT.trans ht4 (by intro k hk hl; simp at hk; omega)
  clear ht4 k2
  obtain ⟨p1, f1⟩ := hP.2 1 _ rfl
  go_wp2_with fail
  obtain ⟨W5, hW5⟩ : ∃ W, W = u4.setCell ⟨B, 1, none⟩ (.int .i64 ((c : Int) + 1)) := ⟨_, rfl⟩
  rw [← hW5]
  have ht5 : Turned [B] u4 W5 := by rw [hW5]; exact (Turned.refl [B] u4).setCell (p := ⟨B, 1, none⟩) (.inl (by simp)) _
  replace hP : Struct B [.int .u16 (i : Int), .int .i64 ((c : Int) + 1), .int .i64 0, .slice none 0 0] W5 := by rw [hW5]; exact hP.set (i := 1) (by simp) (.int .i64 ((c : Int) + 1))
  replace hS := hS.keep ht5 (by simp; omega)
  replace hT := hT.trans ht5 (by intro k hk hl; simp at hk; omega)
  replace hR := hR.keep ht5 (by simpa using fun e => hpB e.symm) hvB
  clear hW5 ht5 p1 f1
  refine (k3 _ _ _ hR).mono ?_
  clear hR
  rintro e u6 ⟨rfl, hR, ht6⟩
  replace hS := hS.keep ht6 (by simp; omega)
  replace hP := hP.keep ht6 (by simpa using hpB)
  replace hT := hT.trans ht6 (by intro k hk hl; simp at hk; omega)
  clear ht6 k3 hR hvB
  obtain ⟨p0, f0⟩ := hP.2 0 _ rfl
  obtain ⟨p1, f1⟩ := hP.2 1 _ rfl
  obtain ⟨p2, f2⟩ := hP.2 2 _ rfl
  obtain ⟨p3, f3⟩ := hP.2 3 _ rfl
  obtain ⟨s0, j0⟩ := hS.2 0 _ rfl
  obtain ⟨s1, j1⟩ := hS.2 1 _ rfl
  obtain ⟨s2, j2⟩ := hS.2 2 _ rfl
  obtain ⟨s3, j3⟩ := hS.2 3 _ rfl
  have hSB : ¬ w.heap.size = B := by omega
  have hBS : ¬ B = w.heap.size := by omega
  have HT : Hid (Turned [] w u6) := hT
  have fin : ∀ (ok : Bool) (w' : World), Turned [] u6 w' ∨ Turned [B, w.heap.size] u6 w' → (ok = true ↔ (a < c + 1 ∧ c + 1 ≤ 14 ∧ (a = c ∨ nb = 300))) → Told (.slice (some ⟨g, off, none⟩) (nb + 3) cap) (x :: y :: z :: b) (.returned (.tuple #[.agg #[.int .u16 (i : Int), .int .i64 ((c : Int) + 1), .int .i64 (a : Int), .slice (some ⟨g, off + 3, none⟩) nb (cap - 3)], .bool ok])) w' ∧ Turned [] w w' := by
    intro ok w' ht hok
    have ht' : Turned [] w w' := by
      rcases ht with h | h
      · exact HT.out.trans h (by simp)
      · exact HT.out.trans h (fun k hk hl => by simp at hk; omega)
    refine ⟨⟨(⟨i, c + 1, a, b⟩, .slice (some ⟨g, off + 3, none⟩) nb (cap - 3)), ok, rfl, ⟨_, _, _, rfl⟩, ?_, ?_⟩, ht'⟩
    · intro hno
      rw [HRd.out] at hno
      split at hno
      · cases hno
      · rename_i hc
        cases ok
        · rfl
        · exact absurd ⟨by have := HNB.out; omega, by have := HNB.out; omega, hok.1 rfl⟩ hc
    · intro q hq
      rw [HRd.out] at hq
      split at hq
      · rename_i hc
        cases hq
        refine ⟨hok.2 hc.2.2, rfl, ?_, rfl⟩
        have hr' := (row_drop3 HR.out).turned ht' (by simp)
        exact ⟨_, _, by rw [HNB.out.1], by show b.length ≤ cap - 3; have := HNB.out; omega, hr', fun ad had => by cases had; exact ⟨Nat.lt_of_lt_of_le hg ht'.size, rfl⟩⟩
      · cases hq
  have HF : Hid _ := fin
  clear fin hT hS hP
  have five : (¬ (a : Int) < (c : Int) + 1) ∨ ((a : Int) < (c : Int) + 1 ∧ ¬ (c : Int) + 1 ≤ 14) ∨ ((a : Int) < (c : Int) + 1 ∧ (c : Int) + 1 ≤ 14 ∧ (a : Int) = (c : Int)) ∨ ((a : Int) < (c : Int) + 1 ∧ (c : Int) + 1 ≤ 14 ∧ ¬ (a : Int) = (c : Int) ∧ (nb : Int) + 3 = 303) ∨ ((a : Int) < (c : Int) + 1 ∧ (c : Int) + 1 ≤ 14 ∧ ¬ (a : Int) = (c : Int) ∧ ¬ (nb : Int) + 3 = 303) := by omega
  rcases five with h1 | ⟨h1, h2⟩ | ⟨h1, h2, h3⟩ | ⟨h1, h2, h3, h5⟩ | ⟨h1, h2, h3, h5⟩
  · clear hl1 hl2
    go_wp2_with fail
    exact bodyPost_ret (v := .tuple #[.agg #[.int .u16 (i : Int), .int .i64 ((c : Int) + 1), .int .i64 (a : Int), .slice (some ⟨g, off + 3, none⟩) nb (cap - 3)], .bool false]) (by simp [results, Try.results30, go_sem, s0, s1, s2, s3]) rfl (HF.out false _ (.inr (by repeat (first | (with_reducible exact Turned.refl _ _) | (with_reducible refine Turned.setCell ?_ (Or.inl (by simp)) _)))) ⟨fun h => (by cases h), fun h => absurd h.1 (by omega)⟩)
  · clear hl1 hl2
    go_wp2_with fail
    exact bodyPost_ret (v := .tuple #[.agg #[.int .u16 (i : Int), .int .i64 ((c : Int) + 1), .int .i64 (a : Int), .slice (some ⟨g, off + 3, none⟩) nb (cap - 3)], .bool false]) (by simp [results, Try.results30, go_sem, s0, s1, s2, s3]) rfl (HF.out false _ (.inr (by repeat (first | (with_reducible exact Turned.refl _ _) | (with_reducible refine Turned.setCell ?_ (Or.inl (by simp)) _)))) ⟨fun h => (by cases h), fun h => absurd h.2.1 (by omega)⟩)
  · have H3 : Hid (a = c) := by show a = c; omega
    clear hl1 hl2
    go_wp2_with fail
    exact bodyPost_ret (v := .tuple #[.agg #[.int .u16 (i : Int), .int .i64 ((c : Int) + 1), .int .i64 (a : Int), .slice (some ⟨g, off + 3, none⟩) nb (cap - 3)], .bool true]) (by simp [results, Try.results30, go_sem, s0, s1, s2, s3, h3]) rfl (HF.out true _ (.inr (by repeat (first | (with_reducible exact Turned.refl _ _) | (with_reducible refine Turned.setCell ?_ (Or.inl (by simp)) _)))) ⟨fun _ => ⟨by have := H3.out; omega, by omega, .inl H3.out⟩, fun _ => rfl⟩)
  · have H3 : Hid (nb = 300) := by show nb = 300; omega
    clear hl1 hl2
    go_wp2_with fail
    exact bodyPost_ret (v := .tuple #[.agg #[.int .u16 (i : Int), .int .i64 ((c : Int) + 1), .int .i64 (a : Int), .slice (some ⟨g, off + 3, none⟩) nb (cap - 3)], .bool true]) (by simp [results, Try.results30, go_sem, s0, s1, s2, s3, h5]) rfl (HF.out true _ (.inr (by repeat (first | (with_reducible exact Turned.refl _ _) | (with_reducible refine Turned.setCell ?_ (Or.inl (by simp)) _)))) ⟨fun _ => ⟨by omega, by omega, .inr H3.out⟩, fun _ => rfl⟩)
  · have H3 : Hid (¬ a = c ∧ ¬ nb = 300) := ⟨by omega, by omega⟩
    clear hl1 hl2
    go_wp2_with fail
    exact bodyPost_ret (v := .tuple #[.agg #[.int .u16 (i : Int), .int .i64 ((c : Int) + 1), .int .i64 (a : Int), .slice (some ⟨g, off + 3, none⟩) nb (cap - 3)], .bool false]) (by simp [results, Try.results30, go_sem, s0, s1, s2, s3, h3, h5]) rfl (HF.out false _ (.inr (by repeat (first | (with_reducible exact Turned.refl _ _) | (with_reducible refine Turned.setCell ?_ (Or.inl (by simp)) _)))) ⟨fun h => (by cases h), fun h => absurd h.2.2 (by have := H3.out; omega)⟩)

theorem read_any (v : Value) (l : List Nat) (w : World) (h : BytesAt v l w) (h8 : ∀ x ∈ l, x < 256) :
    Calls Try.prog 30 #[v] w fun e w' => Told v l e w' ∧ Turned [] w w' := by
  by_cases hl : l.length < 4 ∨ 303 < l.length
  · exact read_far v l w h hl
  · exact read_near v l w h h8 (by omega) (by omega)
end FgR
end Go.Proofs.Ytkjlbginggppaaa


/- A region that draws its order, whose operations only read and whose callees write nothing old: walked once, in the order of the text. The class of worlds: those in which all that lay there at the region's beginning lies as it lay. -/
namespace Go.Proofs.Ytkjlbginggppaaa
open Go.RowKit
set_option linter.unusedVariables false

/-- a world in which all that lay in W lies as it lay -/
structure KeptW (W : World) where
  u : World
  h : Below W.heap.size W u

theorem KeptW.one (W : World) : Nonempty (KeptW W) := ⟨⟨W, Below.refl _ _⟩⟩
theorem KeptW.at {W : World} {b o : Nat} {v : Value} (hb : b < W.heap.size) (hv : W.cell? ⟨b, o, none⟩ = some v) (x : KeptW W) : x.u.cell? ⟨b, o, none⟩ = some v :=
  (x.h.cell (p := ⟨b, o, none⟩) hb).trans hv
theorem KeptW.unfrozen {W : World} {b o : Nat} (hb : b < W.heap.size) (hv : W.frozen? ⟨b, o, none⟩ = false) (x : KeptW W) : x.u.frozen? ⟨b, o, none⟩ = false :=
  (x.h.frozen (p := ⟨b, o, none⟩) hb).trans hv

theorem kept_call {P : Program} {f : FuncId} {args : Array Value} {W : World} {x : KeptW W} {v : Value}
    (h : Calls P f args x.u fun e w' => e = .returned v ∧ Below x.u.heap.size x.u w') : Calls P f args x.u fun e w'' => e = .returned v ∧ ∃ y : KeptW W, w'' = y.u :=
  h.mono fun _ w' ⟨he, hb⟩ => ⟨he, ⟨w', x.h.trans (hb.mono x.h.size)⟩, rfl⟩
theorem kept_same {P : Program} {f : FuncId} {args : Array Value} {W : World} {x : KeptW W} {v : Value}
    (h : Calls P f args x.u fun e w' => e = .returned v ∧ w' = x.u) : Calls P f args x.u fun e w'' => e = .returned v ∧ ∃ y : KeptW W, w'' = y.u :=
  h.mono fun _ w' ⟨he, hw⟩ => ⟨he, x, hw⟩

theorem wp_region_kept {P : Program} {id : Nat} {Q : Exit → Act → World → Prop} {a : Act} {w : World} {l : List Oper} (hm : P.follows .mixedOrders = true) (hB : Region.lexB .any l.toArray = true)
    (h : wpQuiet P l.toArray (fun w' => ∃ x : KeptW w, w' = x.u) (fun a' => ∀ w', (∃ x : KeptW w, w' = x.u) → Q .normal a' w') l a) : (Code.region id l.toArray true).wp P Q a w :=
  wp_region_quiet (C := fun w' => ∃ x : KeptW w, w' = x.u) hm hB ⟨⟨_, (Below.refl _ w).drew⟩, rfl⟩ (by simpa using h)
end Go.Proofs.Ytkjlbginggppaaa


/- Of how many messages the reference keeps parts (FgR). -/
namespace Go.Proofs.Ytkjlbginggppaaa
open Go.RowKit
set_option linter.unusedVariables false
set_option linter.unusedSimpArgs false

namespace Fg
theorem firsts_snoc (p : P) : ∀ (l s : List P), firsts s (l ++ [p]) = firsts s l + (if ((s ++ l).any fun q => mine q p) = true then 0 else 1)
  | [], s => by simp [firsts]
  | a :: l, s => by
    show _ + firsts (s ++ [a]) (l ++ [p]) = _ + firsts (s ++ [a]) l + _
    rw [firsts_snoc p l (s ++ [a]), Nat.add_assoc, List.append_assoc]
    rfl
theorem waits_next {L : List P} {i : Nat} {p : P} (h : L[i]? = some p) : waits (L.take (i + 1)) = waits (L.take i) + (if ((L.take i).any fun q => mine q p) = true then 0 else 1) := by
  unfold waits
  rw [List.take_add_one, h]
  show firsts [] (L.take i ++ [p]) = _
  rw [firsts_snoc]; rfl
theorem firsts_len : ∀ (l s : List P), firsts s l ≤ l.length
  | [], _ => Nat.le_refl _
  | p :: l, s => by
    have := firsts_len l (s ++ [p])
    unfold firsts
    rw [List.length_cons]
    split <;> omega
theorem any_next {L : List P} {k : Nat} {q p : P} (h : L[k]? = some q) : ((L.take (k + 1)).any fun a => mine a p) = (((L.take k).any fun a => mine a p) || mine q p) := by
  rw [List.take_add_one, h, List.any_append]
  show (_ || [q].any _) = _
  simp
end Fg

namespace FgR
set_option maxRecDepth 20000 in
set_option maxHeartbeats 4000000 in
theorem waits_any (R : Nat) (L : List (Fg.P × Value)) (vL : Value) (w : World) (h : RAsm R L vL w) (hl : L.length ≤ 100000) :
    Calls Try.prog 18 #[.pointer (some ⟨R, 0, none⟩)] w fun e w' => e = .returned (.int .i64 (Fg.waits (L.map Prod.fst) : Int)) ∧ Turned [] w w' := by
  obtain ⟨oa, cap, rfl, _, _⟩ := OwnL.form h.ow
  obtain ⟨M, hM⟩ : ∃ M, M = L.map Prod.fst := ⟨_, rfl⟩
  have hMl : M.length = L.length := by rw [hM, List.length_map]
  rw [← hM]
  have HMM : Hid (M = L.map Prod.fst) := hM
  have HML : Hid (M.length = L.length) := hMl
  have hl' : (L.length : Int) ≤ 100000 := by omega
  clear hM hMl hl
  go_enter Try.func18, Try.ntmps18
  go_wp2_with fail
  go_loopw [3, 4] (fun n i wr => ∃ k : Nat, k ≤ L.length ∧ i = .int .i64 (k : Int) ∧ n = .int .i64 (Fg.waits (M.take k) : Int) ∧ Turned [] w wr) (fun _ i _ => L.length - (intOf i).toNat)
  case atStart => exact ⟨0, by omega, rfl, rfl, Turned.refl _ _⟩
  case round =>
    obtain ⟨k, hk, rfl, rfl, ht⟩ := hrel
    have hr := h.keep ht (by simp) (by simp)
    have c0 := (hr.st.2 0 _ rfl).1
    by_cases hlt : (k : Int) < (L.length : Int)
    · obtain ⟨p, hp⟩ : ∃ p, L[k]? = some p := ⟨_, List.getElem?_eq_getElem (by omega)⟩
      have hpM : M[k]? = some p.1 := by rw [HMM.out, List.getElem?_map, hp]; rfl
      have hwl : Fg.waits (M.take k) ≤ k := Nat.le_trans (Fg.firsts_len _ _) (by rw [List.length_take]; omega)
      have HW : Hid (_ = _) := Fg.waits_next hpM
      obtain ⟨n, hn⟩ : ∃ n, n = Fg.waits (M.take k) := ⟨_, rfl⟩
      have HN : Hid (n = _) := hn
      rw [← hn] at hwl ⊢
      clear hn
      have hwn : (n : Int) ≤ (k : Int) := by omega
      have HP : Hid (L[k]? = some p) := hp
      clear hp hpM hwl
      go_wp2_with fail
      go_loopw [5, 6] (fun f i ws => ∃ (j : Nat) (f0 : Bool), j ≤ k ∧ i = .int .i64 (j : Int) ∧ f = .bool f0 ∧ f0 = (!(M.take j).any fun q => Fg.mine q p.1) ∧ Turned [] w ws) (fun _ i _ => k - (intOf i).toNat)
      case atStart => exact ⟨0, true, by omega, rfl, rfl, rfl, ht⟩
      case round =>
        obtain ⟨j, f0, hj, rfl, rfl, hf0, ht2⟩ := hrel
        have HF0 : Hid (f0 = (!(M.take j).any fun q => Fg.mine q p.1)) := hf0
        clear hf0
        by_cases hlt2 : (j : Int) < (k : Int)
        · obtain ⟨q, hq⟩ : ∃ q, L[j]? = some q := ⟨_, List.getElem?_eq_getElem (by omega)⟩
          have hqM : M[j]? = some q.1 := by rw [HMM.out, List.getElem?_map, hq]; rfl
          have HA : Hid (_ = _) := Fg.any_next (p := p.1) hqM
          have hr2 := h.keep ht2 (by simp) (by simp)
          obtain ⟨g, cap', hv, _, hg, hcq⟩ := hr2.ow.cell ptEnc_len hq
          obtain ⟨g', cap'', hv', _, _, hcp⟩ := hr2.ow.cell ptEnc_len HP.out
          simp at hv
          obtain ⟨rfl, rfl⟩ := hv
          simp at hv'
          obtain ⟨rfl, rfl⟩ := hv'
          have q0 := (hcq 0 _ rfl).1
          have q1 := (hcq 1 _ rfl).1
          have q2 := (hcq 2 _ rfl).1
          have q3 := (hcq 3 _ rfl).1
          have p0 := (hcp 0 _ rfl).1
          have p1 := (hcp 1 _ rfl).1
          have p2 := (hcp 2 _ rfl).1
          have p3 := (hcp 3 _ rfl).1
          rw [Nat.add_zero] at q0 p0
          obtain ⟨hS1, hS2⟩ := hr2.st
          have ne : Nonempty (KeptW wr) := KeptW.one wr
          have d0 := KeptW.at hS1 (hS2 0 _ rfl).1
          have d1 := KeptW.at hg q0
          have d2 := KeptW.at hg q1
          have d3 := KeptW.at hg q2
          have d4 := KeptW.at hg q3
          have d5 := KeptW.at hg p0
          have d6 := KeptW.at hg p1
          have d7 := KeptW.at hg p2
          have d8 := KeptW.at hg p3
          have g1 := fun (u : KeptW wr) => kept_call ((mine_any q p u.u).mono fun e w' h => ⟨h.1, h.2.none⟩)
          unfold ptVal at g1
          have hjL : (j : Int) < (L.length : Int) := by omega
          obtain ⟨m, hm⟩ : ∃ m, m = Fg.mine q.1 p.1 := ⟨_, rfl⟩
          rw [← hm] at g1 HA
          have HM : Hid (m = _) := hm
          clear hq hqM hcq hcp hr2 q0 q1 q2 q3 p0 p1 p2 p3 hm
          cases f0
          · have hA : ((M.take j).any fun a => Fg.mine a p.1) = true := by have := HF0.out; cases hc : (M.take j).any fun a => Fg.mine a p.1; (rw [hc] at this; cases this); rfl
            rw [hA, Bool.true_or] at HA
            have HA2 : Hid (((M.take (j + 1)).any fun a => Fg.mine a p.1) = true) := HA.out
            clear hA HA HF0
            go_wp2_with fail
            refine wp_region_kept (by kernel_rfl) (by kernel_rfl) ?_
            repeat (go_big_quiet_step (first | (go_at_call 31; with_reducible exact g1 _)))
            refine wpQuiet_nil ?_
            rintro _ ⟨v, rfl⟩
            go_wp2_with fail
            go_roundw
            case rel => exact ⟨j + 1, false, by omega, by go_num, rfl, by rw [HA2.out]; rfl, ht2.trans (Turned.ofBelow v.h) (by simp)⟩
            case measure => simp [intOf]; omega
          · have hA : ((M.take j).any fun a => Fg.mine a p.1) = false := by have := HF0.out; cases hc : (M.take j).any fun a => Fg.mine a p.1; rfl; (rw [hc] at this; cases this)
            rw [hA, Bool.false_or] at HA
            have HA2 : Hid (((M.take (j + 1)).any fun a => Fg.mine a p.1) = m) := HA.out
            clear hA HA HF0
            go_wp2_with fail
            refine wp_region_kept (by kernel_rfl) (by kernel_rfl) ?_
            repeat (go_big_quiet_step (first | (go_at_call 31; with_reducible exact g1 _)))
            refine wpQuiet_nil ?_
            rintro _ ⟨v, rfl⟩
            go_wp2_with fail
            go_roundw
            case rel => exact ⟨j + 1, _, by omega, by go_num, rfl, by rw [HA2.out], ht2.trans (Turned.ofBelow v.h) (by simp)⟩
            case measure => simp [intOf]; omega
        · have hjk : j = k := by omega
          subst hjk
          cases f0
          · have hA : ((M.take j).any fun a => Fg.mine a p.1) = true := by have := HF0.out; cases hc : (M.take j).any fun a => Fg.mine a p.1; (rw [hc] at this; cases this); rfl
            rw [hA, ← HN.out] at HW
            have HW2 : Hid (Fg.waits (M.take (j + 1)) = n) := HW.out
            clear hA HW HF0
            go_wp2_with fail
            go_roundw
            case rel => exact ⟨j + 1, by omega, by go_num, by rw [HW2.out], ht2⟩
            case measure => simp [intOf]; omega
          · have hA : ((M.take j).any fun a => Fg.mine a p.1) = false := by have := HF0.out; cases hc : (M.take j).any fun a => Fg.mine a p.1; rfl; (rw [hc] at this; cases this)
            rw [hA, ← HN.out] at HW
            have HW2 : Hid (Fg.waits (M.take (j + 1)) = n + 1) := HW.out
            clear hA HW HF0
            go_wp2_with fail
            go_roundw
            case rel => exact ⟨j + 1, by omega, by go_num, by rw [HW2.out]; go_num, ht2⟩
            case measure => simp [intOf]; omega
    · have hkL : M.take k = M := List.take_of_length_le (by have := HML.out; omega)
      rw [hkL]
      go_wp2_with fail
      go_ret
      exact ⟨rfl, ht⟩
end FgR
end Go.Proofs.Ytkjlbginggppaaa


/- The messages of which parts are kept, in the order in which the first part of each came. Plain. -/
namespace Go.Proofs.Ytkjlbginggppaaa
set_option linter.unusedVariables false

namespace Fg
theorem snoc_ind {α : Type} {Q : List α → Prop} (h0 : Q []) (h1 : ∀ l a, Q l → Q (l ++ [a])) (l : List α) : Q l := by
  have : ∀ l : List α, Q l.reverse := by
    intro l
    induction l with
    | nil => exact h0
    | cons a l ih => rw [List.reverse_cons]; exact h1 _ _ ih
  have h := this l.reverse
  rwa [List.reverse_reverse] at h
def nm (p : P) : Nat × Nat := (p.id, p.n)
theorem mine_nm {a b : P} : mine a b = true ↔ nm a = nm b := by
  rw [mine_iff]; unfold nm; simp
theorem mine_nm_false {a b : P} : mine a b = false ↔ nm a ≠ nm b := by
  rw [← Bool.not_eq_true, mine_nm]
def names (L : List P) : List (Nat × Nat) := L.foldl (fun s p => if nm p ∈ s then s else s ++ [nm p]) []
theorem names_nil : names [] = [] := rfl
theorem names_snoc (L : List P) (p : P) : names (L ++ [p]) = if nm p ∈ names L then names L else names L ++ [nm p] := by
  unfold names; rw [List.foldl_append]; rfl
theorem mem_names {x : Nat × Nat} (L : List P) : x ∈ names L ↔ ∃ p ∈ L, nm p = x := by
  refine snoc_ind (Q := fun L => x ∈ names L ↔ ∃ p ∈ L, nm p = x) (by simp [names_nil]) ?_ L
  intro l a ih
  rw [names_snoc]
  split
  · rename_i h
    rw [ih]
    constructor
    · rintro ⟨p, hp, e⟩; exact ⟨p, List.mem_append_left _ hp, e⟩
    · rintro ⟨p, hp, e⟩
      rcases List.mem_append.1 hp with hp | hp
      · exact ⟨p, hp, e⟩
      · rw [List.mem_singleton.1 hp] at e
        rw [e] at h
        exact ih.1 h
  · rw [List.mem_append, ih]
    constructor
    · rintro (⟨p, hp, e⟩ | h)
      · exact ⟨p, List.mem_append_left _ hp, e⟩
      · exact ⟨a, List.mem_append_right _ (by simp), (List.mem_singleton.1 h).symm⟩
    · rintro ⟨p, hp, e⟩
      rcases List.mem_append.1 hp with hp | hp
      · exact .inl ⟨p, hp, e⟩
      · rw [List.mem_singleton.1 hp] at e; exact .inr (by rw [e]; simp)
theorem names_nodup (L : List P) : (names L).Nodup := by
  refine snoc_ind (Q := fun L => (names L).Nodup) (by simp [names_nil]) ?_ L
  intro l a ih
  rw [names_snoc]
  split
  · exact ih
  · rename_i h
    exact List.nodup_append.2 ⟨ih, by simp, fun x hx y hy e => by rw [List.mem_singleton.1 hy] at e; rw [e] at hx; exact h hx⟩
theorem any_names {L : List P} {p : P} : (L.any fun q => mine q p) = true ↔ nm p ∈ names L := by
  rw [List.any_eq_true, mem_names]
  exact ⟨fun ⟨q, hq, e⟩ => ⟨q, hq, mine_nm.1 e⟩, fun ⟨q, hq, e⟩ => ⟨q, hq, mine_nm.2 e⟩⟩
theorem waits_names (L : List P) : waits L = (names L).length := by
  refine snoc_ind (Q := fun L => waits L = (names L).length) rfl ?_ L
  intro l a ih
  have h := firsts_snoc a l []
  rw [List.nil_append] at h
  show firsts [] (l ++ [a]) = _
  rw [h, names_snoc]
  have ih' : firsts [] l = (names l).length := ih
  rw [ih']
  by_cases hm : nm a ∈ names l
  · rw [if_pos (any_names.2 hm), if_pos hm]; rfl
  · rw [if_neg (fun e => hm (any_names.1 e)), if_neg hm, List.length_append]; rfl
theorem names_filter (x : Nat × Nat) (L : List P) : names (L.filter fun q => nm q != x) = (names L).filter fun y => y != x := by
  refine snoc_ind (Q := fun L => names (L.filter fun q => nm q != x) = (names L).filter fun y => y != x) rfl ?_ L
  intro l a ih
  rw [List.filter_append, names_snoc]
  by_cases h : nm a = x
  · have e1 : [a].filter (fun q => nm q != x) = [] := by simp [h]
    rw [e1, List.append_nil, ih]
    split
    · rfl
    · rw [List.filter_append]
      have e2 : [nm a].filter (fun y => y != x) = [] := by simp [h]
      rw [e2, List.append_nil]
  · have e1 : [a].filter (fun q => nm q != x) = [a] := by simp [h]
    rw [e1, names_snoc, ih]
    by_cases hm : nm a ∈ names l
    · rw [if_pos hm, if_pos (List.mem_filter.2 ⟨hm, by simpa using h⟩)]
    · rw [if_neg hm, if_neg (fun e => hm (List.mem_filter.1 e).1), List.filter_append]
      have e2 : [nm a].filter (fun y => y != x) = [nm a] := by simp [h]
      rw [e2]
theorem drop_eq (p : P) (L : List P) : drop p L = L.filter fun q => nm q != nm p := by
  unfold drop
  apply List.filter_congr
  intro q _
  cases h : mine q p
  · have := mine_nm_false.1 h; simp [this]
  · have := mine_nm.1 h; simp [this]
theorem got_eq (p : P) (L : List P) : got p L = L.filter fun q => nm q == nm p := by
  unfold got
  apply List.filter_congr
  intro q _
  cases h : mine q p
  · have := mine_nm_false.1 h; simp [this]
  · have := mine_nm.1 h; simp [this]
theorem got_nil {p : P} {L : List P} : got p L = [] ↔ nm p ∉ names L := by
  rw [got_eq, List.filter_eq_nil_iff, mem_names]
  constructor
  · rintro h ⟨q, hq, e⟩; exact h q hq (by simp [e])
  · intro h q hq e; exact h ⟨q, hq, eq_of_beq e⟩
theorem names_head {p : P} {l : List P} : ∃ r, names (p :: l) = nm p :: r := by
  refine snoc_ind (Q := fun l => ∃ r, names (p :: l) = nm p :: r) ⟨[], rfl⟩ ?_ l
  rintro l a ⟨r, ih⟩
  rw [← List.cons_append, names_snoc, ih]
  split
  · exact ⟨r, rfl⟩
  · exact ⟨r ++ [nm a], rfl⟩

/-- what an assembler keeps -/
structure Good (L : List P) : Prop where
  fm : ∀ p ∈ L, Formed p
  nd : L.Pairwise fun a b => ¬ (nm a = nm b ∧ a.at_ = b.at_)
  few : ∀ p ∈ L, (got p L).length < p.n
  four : waits L ≤ 4
theorem Good.nil : Good [] := ⟨by simp, List.Pairwise.nil, by simp, by decide⟩
theorem got_filter_ne {p q : P} {L : List P} (h : nm q ≠ nm p) : got q (L.filter fun r => nm r != nm p) = got q L := by
  rw [got_eq, got_eq, List.filter_filter]
  apply List.filter_congr
  intro r _
  by_cases e : nm r = nm q
  · simp [e, h]
  · simp [e]
theorem Good.filter {L : List P} (h : Good L) (p : P) : Good (L.filter fun r => nm r != nm p) where
  fm := fun q hq => h.fm q (List.mem_filter.1 hq).1
  nd := List.Pairwise.sublist List.filter_sublist h.nd
  few := fun q hq => by
    obtain ⟨h1, h2⟩ := List.mem_filter.1 hq
    rw [got_filter_ne (by simpa using h2)]
    exact h.few q h1
  four := by
    rw [waits_names, names_filter]
    have := h.four
    rw [waits_names] at this
    exact Nat.le_trans (List.length_filter_le _ _) this
theorem Good.got_le {L : List P} (h : Good L) {p : P} (hp : Formed p) : (got p L).length < p.n := by
  by_cases hn : got p L = []
  · rw [hn]; have := hp.at_; show 0 < p.n; omega
  · obtain ⟨q, hq⟩ := List.exists_mem_of_ne_nil _ hn
    rw [got_eq] at hq
    obtain ⟨h1, h2⟩ := List.mem_filter.1 hq
    have e := eq_of_beq h2
    have := h.few q h1
    have e2 : got q L = got p L := by rw [got_eq, got_eq, e]
    rw [e2] at this
    have e3 : q.n = p.n := congrArg Prod.snd e
    omega
/-- one part more, its message not whole -/
theorem Good.snoc {L : List P} (h : Good L) {p : P} (hp : Formed p) (ho : ∀ q ∈ L, ¬ (nm q = nm p ∧ q.at_ = p.at_)) (hg : (got p L).length + 1 < p.n) (h4 : waits (L ++ [p]) ≤ 4) : Good (L ++ [p]) where
  fm := fun q hq => by
    rcases List.mem_append.1 hq with hq | hq
    · exact h.fm q hq
    · rw [List.mem_singleton.1 hq]; exact hp
  nd := List.pairwise_append.2 ⟨h.nd, by simp, fun a ha b hb => by rw [List.mem_singleton.1 hb]; exact ho a ha⟩
  few := fun q hq => by
    rw [got_eq, List.filter_append, List.length_append]
    have hg' := hg
    rw [got_eq] at hg'
    rcases List.mem_append.1 hq with hq | hq
    · by_cases e : nm q = nm p
      · rw [e]
        have e3 : q.n = p.n := congrArg Prod.snd e
        have : ([p].filter fun r => nm r == nm p).length ≤ 1 := List.length_filter_le _ _
        omega
      · have e1 : [p].filter (fun r => nm r == nm q) = [] := by
          have : (nm p == nm q) = false := by simpa using fun e' => e e'.symm
          simp [this]
        rw [e1]
        have := h.few q hq
        rw [got_eq] at this
        exact this
    · rw [List.mem_singleton.1 hq]
      have : ([p].filter fun r => nm r == nm p).length ≤ 1 := List.length_filter_le _ _
      omega
  four := h4
end Fg
end Go.Proofs.Ytkjlbginggppaaa


/- Rows of elements of several cells, of the call's own: an element written; cells copied, put behind, cleared. Over any program. -/
namespace Go.Proofs.Ytkjlbginggppaaa
open Go.RowKit
set_option linter.unusedVariables false

theorem setCells_row {g : Nat} {t : TypeId} : ∀ (vs : List Value) (o : Nat) (cur : Array Value) (w : World), w.heap[g]? = some (.cells cur t (0, 0)) → o + vs.length ≤ cur.size →
    w.setCells g o vs = w.setRow g (cur.toList.take o ++ vs ++ cur.toList.drop (o + vs.length)).toArray
  | [], o, cur, w, hg, _ => by
    simp only [World.setCells, List.append_nil, List.length_nil, Nat.add_zero, List.take_append_drop, Array.toArray_toList]
    exact (setRow_self w g cur t (0, 0) hg).symm
  | v :: rest, o, cur, w, hg, hl => by
    have ih := setCells_row rest (o + 1) (cur.setIfInBounds o v) (w.setRow g (cur.setIfInBounds o v)) (setRow_heap w g cur _ t _ hg) (by simp at hl ⊢; omega)
    rw [World.setCells, setCell_eq_setRow w g o cur t (0, 0) v hg, ih, setRow_setRow]
    have e := list_seg_step cur.toList o v rest (by simp at hl ⊢; omega)
    congr 2
    simpa [Array.toList_setIfInBounds, Nat.add_assoc] using e
theorem seg {α : Type} (A B C X : List α) {a b : Nat} (ha : A.length = a) (hb : B.length = b) : (A ++ (B ++ C)).take a ++ X ++ (A ++ (B ++ C)).drop (a + b) = A ++ (X ++ C) := by
  have e1 : (A ++ (B ++ C)).take a = A := by rw [List.take_append_of_le_length (by omega), List.take_of_length_le (by omega)]
  have e2 : (A ++ (B ++ C)).drop (a + b) = C := by rw [← List.append_assoc]; exact List.drop_left' (by rw [List.length_append]; omega)
  rw [e1, e2, List.append_assoc]
theorem turned_setRow {S : List Nat} {w w' : World} (h : Turned S w w') {g : Nat} (hg : g ∈ S ∨ w.heap.size ≤ g) (cs : Array Value) : Turned S w (w'.setRow g cs) :=
  h.trans (S' := [g]) ⟨rfl, rfl, rfl, by simp [World.setRow], fun k hk hn => setRow_other w' g k cs (by simpa using hn)⟩ (by
    intro k hk hl
    simp at hk
    subst hk
    rcases hg with h | h
    · exact h
    · omega)

section
variable {P : Program} {α : Type} {t e : TypeId} {z : Value} {sz bytes : Nat} {enc : α → List Value} {v : Value} {l : List α} {w : World}
theorem flat_len {l : List α} (hf : ∀ a ∈ l, (enc a).length = sz) : (l.flatMap enc).length = l.length * sz := by
  induction l with
  | nil => simp
  | cons a r ih =>
    rw [List.flatMap_cons, List.length_append, hf a (List.mem_cons_self ..), ih fun x hx => hf x (List.mem_cons_of_mem _ hx), List.length_cons, Nat.add_mul]
    omega
theorem flat_parts (l : List α) (k : Nat) : l.flatMap enc = (l.take k).flatMap enc ++ (l.drop k).flatMap enc := by
  rw [← List.flatMap_append, List.take_append_drop]
theorem flat_at_k {k : Nat} {a : α} (h : l[k]? = some a) : l.flatMap enc = (l.take k).flatMap enc ++ (enc a ++ (l.drop (k + 1)).flatMap enc) := by
  obtain ⟨hk, rfl⟩ := List.getElem?_eq_some_iff.1 h
  rw [flat_parts l k, List.drop_eq_getElem_cons hk, List.flatMap_cons]
theorem flat_set {k : Nat} (hk : k < l.length) (x : α) : (l.set k x).flatMap enc = (l.take k).flatMap enc ++ (enc x ++ (l.drop (k + 1)).flatMap enc) := by
  rw [List.set_eq_take_append_cons_drop, if_pos hk, List.flatMap_append, List.flatMap_cons]
/-- a row of the call's own that isn't empty, as a block -/
theorem OwnL.block (h : OwnL e sz enc v l w) (hn : 0 < l.length) : ∃ g cap R, v = .slice (some ⟨g, 0, none⟩) l.length cap ∧ l.length ≤ cap ∧ cap ≤ maxLen ∧ w.heap[g]? = some (.cells (l.flatMap enc ++ R).toArray e (0, 0)) ∧ R.length = (cap - l.length) * sz := by
  rcases h.2 with ⟨rfl, h0⟩ | ⟨g, cap, cur, rfl, _, hgg, h1, h2, h3, h4⟩
  · omega
  · refine ⟨g, cap, cur.toList.drop (l.length * sz), rfl, h1, h2, ?_, ?_⟩
    · rw [← h4, List.take_append_drop, Array.toArray_toList]; exact hgg
    · rw [List.length_drop, Array.length_toList, h3, Nat.sub_mul]
theorem OwnL.ofBlock {g cap n : Nat} {R : List Value} (hg : w.heap[g]? = some (.cells (l.flatMap enc ++ R).toArray e (0, 0))) (hf : ∀ a ∈ l, (enc a).length = sz) (hn : l.length = n) (hc : n ≤ cap) (hm : cap ≤ maxLen) (hR : R.length = (cap - n) * sz) :
    OwnL e sz enc (.slice (some ⟨g, 0, none⟩) n cap) l w := by
  subst hn
  have hl := flat_len hf
  refine ⟨hl, .inr ⟨g, cap, _, rfl, Nat.zero_le _, hg, hc, hm, ?_, ?_⟩⟩
  · rw [List.size_toArray, List.length_append, hl, hR, ← Nat.add_mul, Nat.add_sub_cancel' hc]
  · show (l.flatMap enc ++ R).take _ = _
    rw [List.take_append_of_le_length (by omega), List.take_of_length_le (by omega)]
/-- an element is written, cell by cell -/
theorem OwnL.sets (h : OwnL e sz enc v l w) (hf : ∀ a ∈ l, (enc a).length = sz) {g n cap k : Nat} (hv : v = .slice (some ⟨g, 0, none⟩) n cap) (hk : k < l.length) (x : α) (hx : (enc x).length = sz) :
    OwnL e sz enc v (l.set k x) (w.setCells g (k * sz) (enc x)) := by
  obtain ⟨g', cap', R, hv', hc, hm, hg, hR⟩ := h.block (by omega)
  obtain ⟨rfl, rfl, rfl⟩ : g' = g ∧ n = l.length ∧ cap' = cap := by rw [hv] at hv'; simp at hv'; exact ⟨hv'.1.symm, hv'.2.1, hv'.2.2.symm⟩
  have hat := flat_at_k (enc := enc) (List.getElem?_eq_getElem hk)
  have hA : ((l.take k).flatMap enc).length = k * sz := by
    rw [flat_len fun a ha => hf a (List.mem_of_mem_take ha), List.length_take, Nat.min_eq_left (by omega)]
  have hB := hf l[k] (List.getElem_mem hk)
  have hfit : k * sz + (enc x).length ≤ (l.flatMap enc ++ R).toArray.size := by
    rw [hat, hx]; simp only [List.size_toArray, List.length_append]; omega
  rw [hv, setCells_row (enc x) (k * sz) _ w hg hfit]
  refine OwnL.ofBlock (l := l.set k x) (R := R) ?_ ?_ (by simp) hc hm hR
  · rw [setRow_heap w g' _ _ e _ hg]
    have hC : l.flatMap enc ++ R = (l.take k).flatMap enc ++ (enc l[k] ++ ((l.drop (k + 1)).flatMap enc ++ R)) := by rw [hat]; simp only [List.append_assoc]
    have hD : (l.set k x).flatMap enc ++ R = (l.take k).flatMap enc ++ (enc x ++ ((l.drop (k + 1)).flatMap enc ++ R)) := by rw [flat_set hk]; simp only [List.append_assoc]
    rw [List.toList_toArray, hx, hC, seg _ _ _ _ hA hB, ← hD]
  · intro a ha
    rcases List.mem_or_eq_of_mem_set ha with h | rfl
    · exact hf a h
    · exact hx

theorem cells_of_heap {g o : Nat} {A B C : List Value} (hg : w.heap[g]? = some (.cells (A ++ (B ++ C)).toArray e (0, 0))) (hA : A.length = o) : ∀ (j : Nat) (u : Value), B[j]? = some u → w.cell? ((⟨g, o, none⟩ : Addr).add j) = some u := by
  intro j u hj
  have hjl := (List.getElem?_eq_some_iff.1 hj).1
  rw [Addr.add_lit]
  unfold World.cell?
  rw [hg]
  simp only [List.getElem?_toArray]
  show (A ++ (B ++ C))[o + j]? = some u
  rw [List.getElem?_append_right (by omega), List.getElem?_append_left (by omega), show o + j - A.length = j by omega]
  exact hj
theorem three_parts {α : Type} (Z : List α) (a b : Nat) (h : a + b ≤ Z.length) : ∃ Z1 Z2 Z3, Z = Z1 ++ (Z2 ++ Z3) ∧ Z1.length = a ∧ Z2.length = b :=
  ⟨Z.take a, (Z.drop a).take b, (Z.drop a).drop b, by rw [List.take_append_drop, List.take_append_drop], by rw [List.length_take]; omega, by rw [List.length_take, List.length_drop]; omega⟩

/-! ### cells copied -/
theorem run_copyRow (E : ElemOk P t e z sz bytes) (ty : TypeId) (g o dLen dCap : Nat) (a : Addr) (sLen sCap m : Nat) (A B C cs : List Value) (hg : w.heap[g]? = some (.cells (A ++ (B ++ C)).toArray e (0, 0))) (ho : A.length = o)
    (hm : m = Nat.min sLen dLen) (hcs : cs.length = m * sz) (hB : B.length = m * sz) (hsrc : ∀ j v, cs[j]? = some v → w.cell? (a.add j) = some v) (h1 : ∀ v ∈ cs, v.oneCell' = true) :
    ∃ w', (Builtin.copy_ #[t, t] ty #[.slice (some ⟨g, o, none⟩) dLen dCap, .slice (some a) sLen sCap]).run P w = .ok (goInt m) w' ∧ w'.heap[g]? = some (.cells (A ++ (cs ++ C)).toArray e (0, 0)) ∧ Turned [g] w w' := by
  obtain ⟨i0, hi, hz0, hz1, hz2⟩ := info_parts E.info
  have hl := run_loadCells_list (P := P) w a cs hsrc
  have hfit : o + 0 + cs.length ≤ (A ++ (B ++ C)).toArray.size := by simp only [List.size_toArray, List.length_append]; omega
  have hst := run_storeCells_at P g o e cs 0 _ w hg hfit h1
  refine ⟨w.setRow g (A ++ (cs ++ C)).toArray, ?_, setRow_heap w g _ _ e _ hg, turned_setRow (Turned.refl _ _) (.inl (by simp)) _⟩
  have hseg := seg A B C cs (a := o) (b := cs.length) ho (by omega)
  simp only [Nat.add_zero] at hst
  rw [hseg] at hst
  subst hz1
  subst hm
  simp [Builtin.copy_, run_underlying E.und, Builtin.lenOf, Builtin.firstCells, sizeOf, typeInfo, hi, ← hcs, hl, hst]
theorem step_copyRow (E : ElemOk P t e z sz bytes) {ops : Array Oper} {o : Oper} {a : Act} {K : Act → World → Prop} {Q : Exit → Act → World → Prop} {E' : Prop} (hgd : o.guard = none) (d s : Operand)
    (ho : o.op = Op.call { callee := Callee.builtin Builtin.copy, args := #[d, s], argTypes := #[t, t] })
    (g off dLen dCap : Nat) (ad : Addr) (sLen sCap m : Nat) (hd : a.eval d = .slice (some ⟨g, off, none⟩) dLen dCap) (hs : a.eval s = .slice (some ad) sLen sCap)
    (A B C cs : List Value) (hg : w.heap[g]? = some (.cells (A ++ (B ++ C)).toArray e (0, 0))) (hA : A.length = off)
    (hm : m = Nat.min sLen dLen) (hcs : cs.length = m * sz) (hB : B.length = m * sz) (hsrc : ∀ j v, cs[j]? = some v → w.cell? (ad.add j) = some v) (h1 : ∀ v ∈ cs, v.oneCell' = true)
    (hk : ∀ w', Hid (w'.heap[g]? = some (.cells (A ++ (cs ++ C)).toArray e (0, 0))) → Turned [g] w w' → K (a.put o.dst (goInt m)) w') :
    if Region.wanted o (yielded ops a.tmps) = true then Oper.wp P o a w K Q else E' := by
  have hw : Region.wanted o (yielded ops a.tmps) = true := by simp [Region.wanted, hgd]
  rw [if_pos hw]
  obtain ⟨w', hr, h2, h3⟩ := run_copyRow (P := P) E o.type g off dLen dCap ad sLen sCap m A B C cs hg hA hm hcs hB hsrc h1
  unfold Oper.wp
  simp [execOp, ho, resolve, invoke, builtin, hd, hs, hr, Result.andThen]
  exact hk w' h2 h3
theorem wp_copyRow (E : ElemOk P t e z sz bytes) {ops : Array Oper} {rest : List Oper} {o : Oper} {a : Act} {Q : Exit → Act → World → Prop} (hgd : o.guard = none) (d s : Operand)
    (ho : o.op = .call { callee := .builtin .copy, args := #[d, s], argTypes := #[t, t] })
    (g off dLen dCap : Nat) (ad : Addr) (sLen sCap m : Nat) (hd : a.eval d = .slice (some ⟨g, off, none⟩) dLen dCap) (hs : a.eval s = .slice (some ad) sLen sCap)
    (A B C cs : List Value) (hg : w.heap[g]? = some (.cells (A ++ (B ++ C)).toArray e (0, 0))) (hA : A.length = off)
    (hm : m = Nat.min sLen dLen) (hcs : cs.length = m * sz) (hB : B.length = m * sz) (hsrc : ∀ j v, cs[j]? = some v → w.cell? (ad.add j) = some v) (h1 : ∀ v ∈ cs, v.oneCell' = true)
    (hk : ∀ w', Hid (w'.heap[g]? = some (.cells (A ++ (cs ++ C)).toArray e (0, 0))) → Turned [g] w w' → wpList P ops Q rest (a.put o.dst (goInt m)) w') :
    wpList P ops Q (o :: rest) a w := by
  obtain ⟨w', hr, h2, h3⟩ := run_copyRow (P := P) E o.type g off dLen dCap ad sLen sCap m A B C cs hg hA hm hcs hB hsrc h1
  refine wpList_plain hgd fun K hK => ?_
  unfold Oper.wp execOp
  simp only [ho, resolve, invoke, builtin, Sem.run_bind, Sem.run_pure, Result.andThen_ok, List.map_toArray, List.map_cons, List.map_nil, hd, hs, hr]
  exact hK _ _ (hk w' h2 h3)

/-! ### put behind, where there is room -/
theorem step_appendRow (E : ElemOk P t e z sz bytes) {ops : Array Oper} {o : Oper} {a : Act} {K : Act → World → Prop} {Q : Exit → Act → World → Prop} {E' : Prop} (hgd : o.guard = none) (s x : Operand)
    (ho : o.op = Op.call { callee := Callee.builtin Builtin.append, args := #[s, x], argTypes := #[t, t] })
    (g sLen sCap : Nat) (ad : Addr) (m c : Nat) (hs : a.eval s = .slice (some ⟨g, 0, none⟩) sLen sCap) (hx : a.eval x = .slice (some ad) m c)
    (A B C news : List Value) (tot : Nat) (htot : sLen + m = tot) (hg : w.heap[g]? = some (.cells (A ++ (B ++ C)).toArray e (0, 0))) (hA : A.length = sLen * sz) (hn : news.length = m * sz) (hB : B.length = m * sz) (hroom : sLen + m ≤ sCap)
    (hsrc : ∀ j u, news[j]? = some u → w.cell? (ad.add j) = some u) (h1 : ∀ u ∈ news, u.oneCell' = true)
    (hk : ∀ w', Hid (w'.heap[g]? = some (.cells (A ++ (news ++ C)).toArray e (0, 0))) → Turned [g] w w' → K (a.put o.dst (.slice (some ⟨g, 0, none⟩) tot sCap)) w') :
    if Region.wanted o (yielded ops a.tmps) = true then Oper.wp P o a w K Q else E' := by
  have hw : Region.wanted o (yielded ops a.tmps) = true := by simp [Region.wanted, hgd]
  rw [if_pos hw]
  subst htot
  obtain ⟨i0, hi, hz0, hz1, hz2⟩ := info_parts E.info
  subst hz1
  have hr := run_append_room (P := P) w t o.type e i0 E.und hi g sLen sCap _ hg ad m c news hn hsrc h1 hroom (by simp only [List.size_toArray, List.length_append]; omega)
  rw [List.toList_toArray, seg A B C news hA (by omega)] at hr
  unfold Oper.wp
  simp [execOp, ho, resolve, invoke, builtin, hs, hx, hr, Result.andThen]
  exact hk _ (setRow_heap w g _ _ e _ hg) (turned_setRow (Turned.refl _ _) (.inl (by simp)) _)

/-! ### cleared -/
theorem zero_one {zs : Array Value} (h0 : 0 < zs.size) (h1 : ∀ u ∈ zs.toList, u.oneCell' = true) (n : Nat) : ∀ u ∈ (Builtin.zeroCells zs n).toList, u.oneCell' = true := by
  intro u hu
  simp [Builtin.zeroCells] at hu
  obtain ⟨i, _, rfl⟩ := hu
  have hi : i % zs.size < zs.size := Nat.mod_lt _ h0
  rw [getElem!_pos zs _ hi]
  exact h1 _ (by simp)
theorem wp_clearRow (E : ElemOk P t e z sz bytes) (hz1 : ∀ u ∈ z.cells.toList, u.oneCell' = true) {ops : Array Oper} {rest : List Oper} {o : Oper} {a : Act} {Q : Exit → Act → World → Prop} (hgd : o.guard = none) (s : Operand)
    (ho : o.op = .call { callee := .builtin .clear, args := #[s], argTypes := #[t] })
    (g off n c : Nat) (hs : a.eval s = .slice (some ⟨g, off, none⟩) n c) (hn : 0 < n)
    (A B C : List Value) (hg : w.heap[g]? = some (.cells (A ++ (B ++ C)).toArray e (0, 0))) (hA : A.length = off) (hB : B.length = n * sz)
    (hk : ∀ w' Z, Hid (w'.heap[g]? = some (.cells (A ++ (Z ++ C)).toArray e (0, 0))) → Z.length = n * sz → Turned [g] w w' → wpList P ops Q rest (a.put o.dst (.tuple #[])) w') :
    wpList P ops Q (o :: rest) a w := by
  obtain ⟨i0, hi, hz0, hzs, hz2⟩ := info_parts E.info
  have hzl : (Builtin.zeroCells z.cells n).toList.length = n * sz := by rw [Array.length_toList, size_zeroCells, E.zs]
  have hst := run_storeCells_at P g off e (Builtin.zeroCells z.cells n).toList 0 _ w hg (by simp only [List.size_toArray, List.length_append]; omega) (zero_one (by rw [E.zs]; exact E.pos) hz1 n)
  simp only [Nat.add_zero] at hst
  rw [seg A B C _ hA (by omega)] at hst
  have hr : (Builtin.clear_ #[t] o.type #[.slice (some ⟨g, off, none⟩) n c]).run P w = .ok (.tuple #[]) (w.setRow g (A ++ ((Builtin.zeroCells z.cells n).toList ++ C)).toArray) := by
    obtain ⟨k, rfl⟩ : ∃ k, n = k + 1 := ⟨n - 1, by omega⟩
    simp [Builtin.clear_, run_underlying E.und, zeroValue, typeInfo, hi, hz0, hst]
  refine wpList_plain hgd fun K hK => ?_
  unfold Oper.wp execOp
  simp only [ho, resolve, invoke, builtin, Sem.run_bind, Sem.run_pure, Result.andThen_ok, List.map_toArray, List.map_cons, List.map_nil, hs, hr]
  exact hK _ _ (hk _ _ (setRow_heap w g _ _ e _ hg) hzl (turned_setRow (Turned.refl _ _) (.inl (by simp)) _))

/-! ### 'append(s, make(..)...)' past the room -/
theorem run_appendZeros (E : ElemOk P t e z sz bytes) (tn ty : TypeId) (kn : IntKind) (htn : P.underlying tn = some (.int kn)) (b : Addr) (sLen sCap : Nat) (olds : List Value) (hlo : olds.length = sLen * sz)
    (holds : ∀ j v, olds[j]? = some v → w.cell? (b.add j) = some v) (n : Nat) (h0 : 0 < n) (hg : sCap < sLen + n) (h63 : sLen + n ≤ 1048576) (hb : bytes ≤ 1048576) :
    ∃ cap Z, (Builtin.append_ #[t, tn] ty #[.slice (some b) sLen sCap, .int .i64 n]).run P w = .ok (.slice (some ⟨w.heap.size, 0, none⟩) (sLen + n) cap) (w.drew.alloc (.cells (olds ++ Z).toArray e)) ∧
      sLen + n ≤ cap ∧ cap ≤ maxLen ∧ Z.length = (cap - sLen) * sz := by
  obtain ⟨i, hi, hz0, hz1, hz2⟩ := info_parts E.info
  have hpos := E.pos
  have hm : (sLen + n) * bytes ≤ 1048576 * 1048576 := Nat.mul_le_mul h63 hb
  have hn : ¬ (sLen + n ≤ sCap) := by omega
  have h63' : ¬ (9223372036854775807 < ((sLen : Int) + (n : Int))) := by omega
  have hfit := growslice_fits (need := sLen + n) (old := sCap) (bytes := bytes) hg (by omega)
  have h48' : ¬ (281474976710656 < Builtin.nextslicecap (sLen + n) sCap * bytes) := by omega
  have hfo := run_firstCells_some (P := P) w.drew sz sLen b sLen sCap olds hlo (by simpa using holds)
  have hw : IntKind.i64.wrap (n : Int) = n := by rw [IntKind.wrap_i64]; omega
  have hneg : ¬ ((n : Int) < 0) := by omega
  have hns : ¬ (n * sz = 0) := Nat.mul_ne_zero (by omega) (by omega)
  have h48i : ¬ (281474976710656 < (n : Int) * (bytes : Int)) := by
    rw [← Int.natCast_mul]
    have : n * bytes ≤ (sLen + n) * bytes := Nat.mul_le_mul_right _ (by omega)
    omega
  have hge := grownCap_ge w (sLen + n) sCap e
  have hcm : grownCap w (sLen + n) sCap e ≤ maxLen := grownCap_le_maxLen w (sLen + n) sCap e (by unfold maxLen; omega)
  subst hz1
  subst hz2
  refine ⟨grownCap w (sLen + n) sCap e, (Builtin.zeroCells z.cells n ++ Builtin.zeroCells z.cells (grownCap w (sLen + n) sCap e - (sLen + n))).toList, ?_, hge, hcm, ?_⟩
  · simp [Builtin.append_, run_underlying E.und, run_underlying htn, sizeOf, typeInfo, zeroValue, hi, hz0, asInt, asIntOf, hw, hn, hneg, hns, h63', h48', h48i, Question.forced, hfo, newRow, grownCap]
    congr 2
    apply Array.ext'
    simp
  · rw [Array.length_toList, Array.size_append, size_zeroCells, size_zeroCells, E.zs, ← Nat.add_mul]
    congr 1
    omega
theorem wp_appendZeros (E : ElemOk P t e z sz bytes) {ops : Array Oper} {rest : List Oper} {o : Oper} {a : Act} {Q : Exit → Act → World → Prop} (hgd : o.guard = none) (s x : Operand) (tn : TypeId) (kn : IntKind)
    (ho : o.op = .call { callee := .builtin .append, args := #[s, x], argTypes := #[t, tn] }) (htn : P.underlying tn = some (.int kn)) (b : Addr) (sLen sCap : Nat) (hs : a.eval s = .slice (some b) sLen sCap) (n tot : Nat) (htot : sLen + n = tot) (hx : a.eval x = .int .i64 n)
    (olds : List Value) (hlo : olds.length = sLen * sz) (holds : ∀ j v, olds[j]? = some v → w.cell? (b.add j) = some v) (h0 : 0 < n) (hg : sCap < sLen + n) (h63 : sLen + n ≤ 1048576) (hb : bytes ≤ 1048576)
    (hk : ∀ cap Z w' G, G = w.heap.size → Hid (w'.heap[G]? = some (.cells (olds ++ Z).toArray e (0, 0))) → tot ≤ cap → cap ≤ maxLen → Z.length = (cap - sLen) * sz → Turned [] w w' → wpList P ops Q rest (a.put o.dst (.slice (some ⟨G, 0, none⟩) tot cap)) w') :
    wpList P ops Q (o :: rest) a w := by
  subst htot
  obtain ⟨cap, Z, hr, h1, h2, h3⟩ := run_appendZeros (P := P) E tn o.type kn htn b sLen sCap olds hlo holds n h0 hg h63 hb
  refine wpList_plain hgd fun K hK => ?_
  unfold Oper.wp execOp
  simp only [ho, resolve, invoke, builtin, Sem.run_bind, Sem.run_pure, Result.andThen_ok, List.map_toArray, List.map_cons, List.map_nil, hs, hx, hr]
  refine hK _ _ (hk cap Z _ _ rfl ?_ h1 h2 h3 ((Turned.refl [] w).drew.alloc _))
  exact heap_alloc_new w.drew _
end
end Go.Proofs.Ytkjlbginggppaaa


/- A message's parts, kept in a map by their places: the map where it lies; one map copied into another (FgW). -/
namespace Go.Proofs.Ytkjlbginggppaaa
open Go.RowKit Go.Maps
set_option linter.unusedVariables false
set_option linter.unusedSimpArgs false

namespace FgW
/-- how a map's element reads: as itself -/
def RV (v : Value) : Option (DataW Value × List MemPlace) := match v with | .slice o n c => some (.held (.slice o n c), []) | _ => none
theorem RV_slice (o : Option Addr) (n c : Nat) : RV (.slice o n c) = some (.held (.slice o n c), []) := rfl
/-- a slice's three numbers -/
structure SlV where
  o : Option Addr
  n : Nat
  c : Nat
theorem RV_inv {v : Value} {y : DataW Value × List MemPlace} (h : RV v = some y) : ∃ s : SlV, v = .slice s.o s.n s.c ∧ y = (.held (.slice s.o s.n s.c), []) := by
  unfold RV at h
  split at h
  · cases h; exact ⟨⟨_, _, _⟩, rfl, rfl⟩
  · cases h
theorem keyI : Keyed Try.prog 3 := int_keyed Try.underlying3
/-- a place, as a key -/
def pk (i : Nat) : Lit := .int .i64 (i : Int)
theorem pk_key {i : Nat} (h : i < 1000) : keyOf Try.prog 3 (.int .i64 (i : Int)) = some (pk i) := keyOf_int_mk Try.underlying3 (WalkArith.wf_i64 (by omega))
theorem pk_lit (i : Nat) : WideAt.IsKeyLit (pk i) := trivial
theorem pk_ne {i j : Nat} (h : i ≠ j) : pk i ≠ pk j := fun e => h (by unfold pk at e; injection e with _ e; exact Int.ofNat_inj.1 e)
theorem pk_same {i j : Nat} : (pk i).sameKey (pk j) = (i == j) := by
  by_cases h : i = j
  · subst h; rw [WideAt.sameKey_self (pk_lit i)]; simp
  · rw [sameKey_ne (pk_ne h)]; simp [h]
theorem nodup_pk {l : List Nat} (h : l.Nodup) : (l.map pk).Nodup := by
  show List.Pairwise _ _
  rw [List.pairwise_map]
  exact List.Pairwise.imp (fun hab e => pk_ne hab e) h

/-- block b is a map that holds the parts ps, by their places -/
def MapOf (b : Nat) (ps : List (Fg.P × Value)) (w : World) : Prop :=
  ∃ D, w.ownsMap Try.prog 3 RV b (Maps.size D) D ∧ (∀ z, Maps.has D z = ps.any fun q => (pk q.1.at_).sameKey z) ∧ ∀ q ∈ ps, ∀ zd, D.atKey (pk q.1.at_) zd = .held q.2
theorem size_of {D : DataW Value} (h : Tidy D) {l : List Nat} (hn : l.Nodup) (hh : ∀ z, Maps.has D z = l.any fun i => (pk i).sameKey z) (hk : ∀ es, D = .map es → ∀ p ∈ es, WideAt.IsKeyLit p.1) : Maps.size D = l.length := by
  obtain ⟨es, rfl, hp⟩ := h
  show es.length = _
  have hk := hk es rfl
  have h1 : (es.map Prod.fst).Nodup := by
    show List.Pairwise _ _
    rw [List.pairwise_map]; exact hp
  have h2 : ∀ z, z ∈ es.map Prod.fst ↔ z ∈ l.map pk := by
    intro z
    constructor
    · intro hz
      obtain ⟨p, hp1, rfl⟩ := List.mem_map.1 hz
      have := hh p.1
      rw [show Maps.has (.map es) p.1 = true from List.any_eq_true.2 ⟨p, hp1, WideAt.sameKey_self (hk p hp1)⟩] at this
      obtain ⟨i, hi, e⟩ := List.any_eq_true.1 this.symm
      exact List.mem_map.2 ⟨i, hi, WideAt.sameKey_eq e⟩
    · intro hz
      obtain ⟨i, hi, rfl⟩ := List.mem_map.1 hz
      have := hh (pk i)
      rw [show (l.any fun j => (pk j).sameKey (pk i)) = true from List.any_eq_true.2 ⟨i, hi, WideAt.sameKey_self (pk_lit i)⟩] at this
      obtain ⟨p, hp1, e⟩ := List.any_eq_true.1 this
      exact List.mem_map.2 ⟨p, hp1, WideAt.sameKey_eq e⟩
  have h3 := (List.perm_ext_iff_of_nodup h1 (nodup_pk hn)).2 h2
  have := h3.length_eq
  rw [List.length_map, List.length_map] at this
  exact this
theorem MapOf.keep {b : Nat} {ps : List (Fg.P × Value)} {w w' : World} {S : List Nat} (h : MapOf b ps w) (ht : Turned S w w') (hd : b ∉ S) : MapOf b ps w' := by
  obtain ⟨D, h1, h2⟩ := h
  have hlt := h1.lt
  obtain ⟨es, clock, hb, h3⟩ := h1
  exact ⟨D, ⟨es, clock, (ht.block b hlt hd).trans hb, h3⟩, h2⟩
theorem MapOf.lt {b : Nat} {ps : List (Fg.P × Value)} {w : World} (h : MapOf b ps w) : b < w.heap.size := by
  obtain ⟨D, h1, _⟩ := h
  exact h1.lt
theorem own_tight {b n : Nat} {D : DataW Value} {w : World} (h : w.ownsMap Try.prog 3 RV b n D) : w.ownsMap Try.prog 3 RV b (Maps.size D) D := by
  obtain ⟨es, clock, hb, F, hs, rfl⟩ := h
  refine ⟨es, clock, hb, F, ?_, rfl⟩
  show es.size ≤ List.length _
  rw [length_read]
  exact Nat.le_refl _
theorem own_lits {b n : Nat} {D : DataW Value} {w : World} (h : w.ownsMap Try.prog 3 RV b n D) : ∀ es, D = .map es → ∀ p ∈ es, WideAt.IsKeyLit p.1 := by
  intro es e
  obtain ⟨es', e', _, hk⟩ := h.entries keyI
  rw [e] at e'
  cases e'
  exact hk
theorem own_size {b n : Nat} {D : DataW Value} {w : World} (h : w.ownsMap Try.prog 3 RV b n D) {ps : List (Fg.P × Value)} (hh : ∀ z, Maps.has D z = ps.any fun q => (pk q.1.at_).sameKey z) (hn : (ps.map fun q => q.1.at_).Nodup) : Maps.size D = ps.length := by
  rw [size_of (h.tidy keyI) hn (fun z => by rw [hh z, List.any_map]; rfl) (own_lits h), List.length_map]

/-- a range's step, over such a map -/
theorem wpList_next_sl {w : World} {ops : Array Oper} {rest : List Oper} {o : Oper} {a : Act} {Q : Exit → Act → World → Prop} (hg : o.guard = none) (it : Operand) (hop : o.op = Op.next it false) (b r n : Nat) (D : DataW Value) (left : Lit → Bool) (cnt : Nat)
    (hit : a.eval it = .pointer (some ⟨r, 0, none⟩)) (h : w.ranges Try.prog 3 RV b r n D left cnt)
    (hDone : cnt = 0 → (∀ kl, left kl = false) → wpList Try.prog ops Q rest (a.put o.dst (.tuple #[.bool false])) w)
    (hMore : ∀ (x : Int) (s : SlV) (w' : World) (cnt' : Nat), (Lit.int .i64 x).wf = true → left (.int .i64 x) = true → (∀ zd, D.atKey (.int .i64 x) zd = .held (.slice s.o s.n s.c)) → w'.ranges Try.prog 3 RV b r n D (fun z => left z && !z.sameKey (.int .i64 x)) cnt' → cnt' < cnt →
      w.grownBy w' (some r) → w'.heap.size = w.heap.size → (Instr.entry (.pointer (some ⟨r, 0, none⟩))).run Try.prog w' = .ok (.tuple #[.int .i64 x, .slice s.o s.n s.c]) w' → wpList Try.prog ops Q rest (a.put o.dst (.tuple #[.bool true, .int .i64 x, .slice s.o s.n s.c])) w') :
    wpList Try.prog ops Q (o :: rest) a w :=
  wpList_next_ranges (α := Int) (β := SlV) w hg it hop 3 keyI RV (Value.int .i64) (fun s => .slice s.o s.n s.c) (fun key kl hk => by obtain ⟨x, e, _⟩ := Maps.keyOf_int_inv Try.underlying3 hk; exact ⟨x, e⟩) (fun v y hv => by obtain ⟨s, e, _⟩ := RV_inv hv; exact ⟨s, e⟩) b r n D left cnt hit h hDone
    (fun x s kl y w1 cnt1 hkey hlx hRV hat hrg1 hlt hg1 hs1 hen => by
      obtain ⟨x', ex, rfl, hwx⟩ := Maps.keyOf_int_inv Try.underlying3 hkey
      cases ex
      cases (show y = _ from (Option.some.inj hRV).symm)
      exact hMore x s w1 cnt1 hwx hlx hat hrg1 hlt hg1 hs1 hen)

set_option maxRecDepth 100000 in
set_option maxHeartbeats 4000000 in
theorem copy_any (b bs : Nat) (p : Fg.P × Value) (ps : List (Fg.P × Value)) (w : World) (h0 : MapOf b [p] w) (hs : MapOf bs ps w) (hne : b ≠ bs) (hn : (ps.map fun q => q.1.at_).Nodup) (hold : ∀ q ∈ ps, q.1.at_ ≠ p.1.at_) (hl : ps.length ≤ 20) :
    Calls Try.prog 41 #[.map (some b), .map (some bs)] w fun e w' => e = .returned (.tuple #[]) ∧ MapOf b (ps ++ [p]) w' ∧ Turned [b] w w' := by
  obtain ⟨D0, hown0, hh0, ha0⟩ := h0
  obtain ⟨Ds, howns, hhs, has_⟩ := hs
  have hz0 := own_size hown0 hh0 (by simp)
  have hzs := own_size howns hhs hn
  rw [List.length_singleton] at hz0
  rw [hz0] at hown0
  have hbl := hown0.lt
  have hsl := howns.lt
  obtain ⟨ns, hns⟩ : ∃ n, n = Maps.size Ds := ⟨_, rfl⟩
  have HNS : Hid (ns = Maps.size Ds ∧ ns ≤ 20) := ⟨hns, by omega⟩
  have hdis : ∀ z, Maps.has D0 z = true → Maps.has Ds z = false := by
    intro z hz
    rw [hh0] at hz
    rw [hhs]
    simp at hz
    obtain rfl := WideAt.sameKey_eq hz
    rw [List.any_eq_false]
    intro q hq e
    rw [pk_same] at e
    exact hold q hq (eq_of_beq e)
  have HDIS : Hid (∀ z, Maps.has D0 z = true → Maps.has Ds z = false) := hdis
  rw [← hns] at howns
  clear hns hzs hz0
  go_enter Try.func41, Try.ntmps41
  go_wp2_with (first
    | (at_range; refine wpList_range_own _ rfl _ 74 rfl 3 25 keyI Try.underlying74 _ bs ns _ rfl howns ?_; intro w0 hrg0 hg0 hs0)
    | go_in)
  go_frame
  obtain ⟨r, hr⟩ : ∃ r, r = w.heap.size := ⟨_, rfl⟩
  rw [← hr] at hrg0 ⊢
  have HR : Hid (r = w.heap.size) := hr
  have hrb : b ≠ r := by omega
  have hrs : bs ≠ r := by omega
  have ht0 : Turned [b] w w0 := (Turned.refl [b] w).grown hg0 (fun k e => by cases e)
  have hd0 := hown0.kept hg0 (by simp)
  clear hr hs0 hg0 hown0 howns hbl hsl
  go_loopw [4, 5] (fun _ _ wr => ∃ (left : Lit → Bool) (cnt n : Nat) (D : DataW Value), wr.ranges Try.prog 3 RV bs r ns Ds left cnt ∧ wr.ownsMap Try.prog 3 RV b n D ∧ n + cnt ≤ 30 ∧
      (∀ z, Maps.has D z = (Maps.has D0 z || (Maps.has Ds z && !left z))) ∧ (∀ z, Maps.has D0 z = true → ∀ zd, D.atKey z zd = D0.atKey z zd) ∧ (∀ z, Maps.has Ds z = true → left z = false → ∀ zd, D.atKey z zd = Ds.atKey z zd) ∧ Turned [b] w wr)
    (fun _ _ wr => wr.rangeLeft bs r)
  case atStart =>
    exact ⟨_, _, _, _, hrg0, hd0, by have := HNS.out; omega, fun z => by (cases Maps.has Ds z <;> simp), fun _ _ _ => rfl, fun z h1 h2 => by (rw [h1] at h2; cases h2), ht0⟩
  case round =>
    clear hrg0 hd0 ht0
    obtain ⟨left, cnt, n, D, hrg, hout, hcs, hH, hA0, hAs, hT⟩ := hrel
    go_wp2_with (first
      | (at_next; refine wpList_next_sl rfl _ rfl bs r ns _ _ _ rfl hrg ?_ ?_)
      | go_in)
    · intro hc0 hl0
      have HF : Hid (MapOf b (ps ++ [p]) wr) := by
        refine ⟨D, own_tight hout, ?_, ?_⟩
        · intro z
          rw [hH, hl0, hh0, hhs, List.any_append]
          simp [Bool.or_comm]
        · intro q hq zd
          rcases List.mem_append.1 hq with hq | hq
          · rw [hAs _ (by rw [hhs]; exact List.any_eq_true.2 ⟨q, hq, WideAt.sameKey_self (pk_lit _)⟩) (hl0 _)]
            exact has_ q hq zd
          · rw [hA0 _ (by rw [hh0]; exact List.any_eq_true.2 ⟨q, hq, WideAt.sameKey_self (pk_lit _)⟩)]
            exact ha0 q hq zd
      clear hH hA0 hAs hcs hl0 hc0
      go_wp2_with fail
      go_end0
      exact BtW.end0 ⟨HF.out, hT⟩
    · intro x s w1 cnt1 hwx hlx hat hrg1 hlt hg1 hs1 hen
      have hout1 := hout.kept hg1 (fun e => hrb (Option.some.inj e))
      have hT1 := hT.grown hg1 (fun k e => by cases e; exact .inr (by have := HR.out; omega))
      have HEx : Hid (Maps.has Ds (.int .i64 x) = true) := by
        show _ = true
        exact Maps.has_true_of_atKey hat
      go_wp2_with (first
        | (at_mapUpdate; refine wpList_mapUpdate_own _ rfl _ _ _ 74 rfl 3 25 keyI Try.underlying74 _ b _ _ rfl hout1 (by unfold maxLen; omega) _ _ _ rfl rfl (keyOf_int_mk Try.underlying3 hwx) _ [] (RV_slice s.o s.n s.c) ?_; intro w2 hout2 hg2; go_frame)
        | go_in)
      have hrg2 := hrg1.kept hg2 (fun e => hne (Option.some.inj e).symm) (fun e => hrb (Option.some.inj e).symm)
      go_roundw
      case rel =>
        refine ⟨_, cnt1, n + 1, _, hrg2, hout2, by omega, ?_, ?_, ?_, hT1.grown hg2 (fun k e => by cases e; exact .inl (by simp))⟩
        · intro z
          by_cases hz : z = .int .i64 x
          · subst hz
            rw [has_put_same hout1.isMap (show WideAt.IsKeyLit (.int .i64 x) from trivial), HEx.out, WideAt.sameKey_self (show WideAt.IsKeyLit (.int .i64 x) from trivial)]
            simp
          · rw [has_put_other hz, hH, sameKey_ne hz]
            simp
        · intro z h1 zd
          have hz : z ≠ .int .i64 x := by
            intro e
            subst e
            rw [HDIS.out _ h1] at HEx
            exact absurd HEx.out (by decide)
          rw [atKey_put_other hz]
          exact hA0 z h1 zd
        · intro z h1 h2 zd
          by_cases hz : z = .int .i64 x
          · subst hz
            rw [atKey_put_same hout1.isMap (show WideAt.IsKeyLit (.int .i64 x) from trivial), hat zd]
          · rw [atKey_put_other hz]
            refine hAs z h1 ?_ zd
            simp [sameKey_ne hz] at h2
            exact h2
      case measure => rw [hrg2.left_eq, hrg.left_eq]; exact hlt
set_option maxHeartbeats 1000000 in
theorem copy_nil (b : Nat) (w : World) (hb : b < w.heap.size) :
    Calls Try.prog 41 #[.map (some b), .map none] w fun e w' => e = .returned (.tuple #[]) ∧ Turned [] w w' := by
  have hrg := run_range_nilMap (P := Try.prog) w 74 3 25 Try.underlying74
  have hnx : ∀ ty, (Instr.next (.pointer (some ⟨w.heap.size, 0, none⟩)) false ty).run Try.prog (w.alloc (.mapIter none 0 #[] 0)) = _ := fun ty => run_next_nilMap _ ty 0 0 #[]
  go_enter Try.func41, Try.ntmps41
  go_wp2
  refine wp_loop_rounds 1 ?_
  rw [rounds_succ]
  go_wp2
  go_end0
  exact BtW.end0 ((Turned.refl [] w).alloc _)
end FgW
end Go.Proofs.Ytkjlbginggppaaa


/- A message gets one part more; whether it is whole; its bytes (FgW). -/
namespace Go.Proofs.Ytkjlbginggppaaa
open Go.RowKit Go.Maps
set_option linter.unusedVariables false
set_option linter.unusedSimpArgs false

namespace FgW
/-- what is kept of a message: none, or in a map -/
def MapAt : Option Nat → List (Fg.P × Value) → World → Prop
  | none, ps, _ => ps = []
  | some b, ps, w => MapOf b ps w
theorem MapOf.start {w : World} {b : Nat} {n : Nat} {p : Fg.P} {v : Value} (h : w.ownsMap Try.prog 3 RV b n (DataW.put (.map []) (pk p.at_) (.held v))) : MapOf b [(p, v)] w := by
  refine ⟨_, own_tight h, ?_, ?_⟩
  · intro z
    by_cases hz : z = pk p.at_
    · subst hz
      rw [has_put_same isMap_empty (pk_lit _)]
      simp [WideAt.sameKey_self (pk_lit p.at_)]
    · rw [has_put_other hz]
      simp [sameKey_ne (fun e => hz e.symm : pk p.at_ ≠ z)]
      rfl
  · intro q hq zd
    rw [List.mem_singleton.1 hq]
    exact atKey_put_same isMap_empty (pk_lit _) _ _
theorem set3 (w : World) (b : Nat) (x y z : Value) : Turned [b] w (((w.setCell ⟨b, 0, none⟩ x).setCell ⟨b, 1, none⟩ y).setCell ⟨b, 2, none⟩ z) :=
  (((Turned.refl [b] w).setCell (p := ⟨b, 0, none⟩) (.inl (by simp)) _).setCell (p := ⟨b, 1, none⟩) (.inl (by simp)) _).setCell (p := ⟨b, 2, none⟩) (.inl (by simp)) _

set_option maxRecDepth 100000 in
set_option maxHeartbeats 4000000 in
theorem with_any (id n id' n' i : Nat) (o : Option Addr) (m c : Nat) (p : Fg.P) (hp : p.at_ = i) (hi : i < 1000) (ob : Option Nat) (ps : List (Fg.P × Value)) (w : World) (h : MapAt ob ps w) (hn : (ps.map fun q => q.1.at_).Nodup) (hold : ∀ q ∈ ps, q.1.at_ ≠ p.at_) (hl : ps.length ≤ 20) :
    Calls Try.prog 25 #[.agg #[.int .u16 (id : Int), .int .i64 (n : Int), .map ob], .agg #[.int .u16 (id' : Int), .int .i64 (n' : Int), .int .i64 (i : Int), .slice o m c]] w fun e w' => ∃ b, e = .returned (.agg #[.int .u16 (id : Int), .int .i64 (n : Int), .map (some b)]) ∧ MapOf b (ps ++ [(p, .slice o m c)]) w' ∧ w.heap.size ≤ b ∧ Turned [] w w' := by
  have hmm := @run_makeMap Try.prog
  obtain ⟨B, hB⟩ : ∃ B, B = w.heap.size := ⟨_, rfl⟩
  have HB : Hid (B = w.heap.size) := hB
  have HP : Hid (p.at_ = i) := hp
  have HN : Hid ((ps.map fun q => q.1.at_).Nodup) := hn
  have HO : Hid (∀ q ∈ ps, q.1.at_ ≠ p.at_) := hold
  have HL : Hid (ps.length ≤ 20) := hl
  have hkey := pk_key hi
  clear hp hn hold hl hB hi
  have hob : (ob = none ∧ ps = []) ∨ ∃ bs, ob = some bs ∧ MapOf bs ps w := by
    cases ob with
    | none => exact .inl ⟨rfl, h⟩
    | some bs => exact .inr ⟨bs, rfl, h⟩
  clear h
  obtain ⟨W3, hW3⟩ : ∃ W3, W3 = ((w.alloc (.cells #[.int .u16 (id : Int), .int .i64 (n : Int), .map ob] 76)).alloc (.cells #[.int .u16 (id' : Int), .int .i64 (n' : Int), .int .i64 (i : Int), .slice o m c] 66)).alloc (.cells #[.int .u16 0, .int .i64 0, .map none] 76) := ⟨_, rfl⟩
  have hsz3 : W3.heap.size = w.heap.size + 1 + 1 + 1 := by rw [hW3]; simp
  have hT3 : Turned [] w W3 := by rw [hW3]; exact (((Turned.refl [] w).alloc _).alloc _).alloc _
  have hS3 : Struct w.heap.size [.int .u16 (id : Int), .int .i64 (n : Int), .map ob] W3 := by
    rw [hW3]; exact ((Struct.new w [.int .u16 (id : Int), .int .i64 (n : Int), .map ob] _).keep ((Turned.refl [] _).alloc _) (by simp)).keep ((Turned.refl [] _).alloc _) (by simp)
  have hR3 : Struct (w.heap.size + 1 + 1) [.int .u16 0, .int .i64 0, .map none] W3 := by
    rw [hW3]
    have := Struct.new ((w.alloc (.cells #[.int .u16 (id : Int), .int .i64 (n : Int), .map ob] 76)).alloc (.cells #[.int .u16 (id' : Int), .int .i64 (n' : Int), .int .i64 (i : Int), .slice o m c] 66)) [.int .u16 0, .int .i64 0, .map none] 76
    rw [World.size_alloc, World.size_alloc] at this
    exact this
  have made := World.ownsMap_made W3 Try.prog 3 RV
  rw [hsz3] at made
  obtain ⟨w1, hrun, hown1, hg1⟩ := made.update keyI Try.underlying74 (by unfold maxLen; omega) hkey (RV_slice o m c)
  have hT4 : Turned [] W3 w1 := ((Turned.refl [] W3).alloc _).grown hg1 (fun k e => by cases e; exact .inr (by omega))
  have hS := hS3.keep hT4 (by simp)
  have hR := hR3.keep hT4 (by simp)
  have hT := hT3.trans hT4 (by simp)
  have hm0 : MapOf (w.heap.size + 1 + 1 + 1) [(p, .slice o m c)] w1 := by
    rw [← HP.out] at hown1
    exact MapOf.start hown1
  rw [hW3] at hrun
  clear made hown1 hg1 hW3 hT3 hT4 hS3 hR3 hsz3 hkey
  obtain ⟨s0, _⟩ := hS.2 0 _ rfl
  obtain ⟨s1, _⟩ := hS.2 1 _ rfl
  obtain ⟨s2, _⟩ := hS.2 2 _ rfl
  rcases hob with ⟨rfl, hps⟩ | ⟨bs, rfl, hmo⟩
  · have kc := fun u hu => copy_nil (w.heap.size + 1 + 1 + 1) u hu
    go_enter Try.func25, Try.ntmps25
    go_wp2_with fail
    (go_at_call 41; (with_reducible refine (kc _ hm0.lt).mono ?_); rintro e w2 ⟨rfl, hT2⟩)
    have hS2 := hS.keep hT2 (by simp)
    have hR2 := hR.keep hT2 (by simp)
    have hm2 := hm0.keep hT2 (by simp)
    have hTT := hT.trans hT2 (by simp)
    obtain ⟨t0, _⟩ := hS2.2 0 _ rfl
    obtain ⟨t1, _⟩ := hS2.2 1 _ rfl
    obtain ⟨r0, q0⟩ := hR2.2 0 _ rfl
    obtain ⟨r1, q1⟩ := hR2.2 1 _ rfl
    obtain ⟨r2, q2⟩ := hR2.2 2 _ rfl
    have HF : Hid (MapOf (w.heap.size + 1 + 1 + 1) (ps ++ [(p, .slice o m c)]) w2) := by rw [hps]; exact hm2
    clear hm2 hm0 hS hR hS2 hR2 hT hrun
    go_wp2_with fail
    refine bodyPost_ret (v := .agg #[.int .u16 (id : Int), .int .i64 (n : Int), .map (some (w.heap.size + 1 + 1 + 1))]) (by simp [results, Try.results25, go_sem, r0, r1, r2]) rfl ⟨_, rfl, HF.out.keep (set3 _ _ _ _ _) (by simp), by omega, hTT.trans (set3 _ _ _ _ _) (by intro k hk hl; simp at hk; omega)⟩
  · have hbl := hmo.lt
    have kc := copy_any (w.heap.size + 1 + 1 + 1) bs _ ps w1 hm0 (hmo.keep hT (by simp)) (by omega) HN.out HO.out HL.out
    go_enter Try.func25, Try.ntmps25
    go_wp2_with fail
    (go_at_call 41; (with_reducible refine kc.mono ?_); rintro e w2 ⟨rfl, hm2, hT2⟩)
    have hS2 := hS.keep hT2 (by simp; omega)
    have hR2 := hR.keep hT2 (by simp)
    have hTT := hT.trans hT2 (by intro k hk hl; simp at hk; omega)
    obtain ⟨t0, _⟩ := hS2.2 0 _ rfl
    obtain ⟨t1, _⟩ := hS2.2 1 _ rfl
    obtain ⟨r0, q0⟩ := hR2.2 0 _ rfl
    obtain ⟨r1, q1⟩ := hR2.2 1 _ rfl
    obtain ⟨r2, q2⟩ := hR2.2 2 _ rfl
    have HF : Hid (MapOf (w.heap.size + 1 + 1 + 1) (ps ++ [(p, .slice o m c)]) w2) := hm2
    clear hm2 hm0 hS hR hS2 hR2 hT hrun
    go_wp2_with fail
    refine bodyPost_ret (v := .agg #[.int .u16 (id : Int), .int .i64 (n : Int), .map (some (w.heap.size + 1 + 1 + 1))]) (by simp [results, Try.results25, go_sem, r0, r1, r2]) rfl ⟨_, rfl, HF.out.keep (set3 _ _ _ _ _) (by simp), by omega, hTT.trans (set3 _ _ _ _ _) (by intro k hk hl; simp at hk; omega)⟩
end FgW
end Go.Proofs.Ytkjlbginggppaaa


/- What the program's reader of bits answers, as a call (BtD). -/
namespace Go.Proofs.Ytkjlbginggppaaa
open Go.RowKit
set_option linter.unusedVariables false

namespace BtD
open BtW (int_ret)
theorem bool_ret {a b : Bool} {p : Prop} (h : a = b) (hp : p) : Ending.returned (.bool a) = .returned (.bool b) ∧ p := by rw [h]; exact ⟨rfl, hp⟩

set_option maxHeartbeats 400000 in
theorem ok_any (p : Nat) (v n : Value) (f : Bool) (w : World) (hs : Struct p [v, n, .bool f] w) :
    Calls Try.prog 38 #[.pointer (some ⟨p, 0, none⟩)] w fun e w' => e = .returned (.bool (!f)) ∧ w' = w := by
  have c2 := (hs.2 2 _ rfl).1
  go_enter Try.func38, Try.ntmps38
  go_wp2
  go_ret
  exact ⟨rfl, rfl⟩
theorem ok_nil (w : World) :
    Calls Try.prog 38 #[.pointer none] w fun e w' => e = .returned (.bool false) ∧ w' = w := by
  go_enter Try.func38, Try.ntmps38
  go_wp2
  go_ret
  exact ⟨rfl, rfl⟩

theorem left_eq {bs : List Nat} {r : Bt.Rd} (hl : r.l = Bt.unpack bs) (hw : r.wf) : ((r.left : Nat) : Int) = 8 * (bs.length : Int) - (r.at_ : Int) := by
  unfold Bt.Rd.wf at hw
  rw [hl, Bt.unpack_length] at hw
  unfold Bt.Rd.left
  rw [hl, Bt.unpack_length]
  omega

set_option maxHeartbeats 400000 in
theorem left_any (p : Nat) (v : Value) (bs : List Nat) (r : Bt.Rd) (w : World) (h : PRd p v bs r w) :
    Calls Try.prog 39 #[.pointer (some ⟨p, 0, none⟩)] w fun e w' => e = .returned (.int .i64 (r.left : Int)) ∧ Turned [] w w' := by
  obtain ⟨hs, ⟨oa, cap, rfl, hr, hd⟩, hl, hw, hb, hm⟩ := h
  have c0 := (hs.2 0 _ rfl).1
  have c1 := (hs.2 1 _ rfl).1
  rw [left_eq hl hw]
  have h2 : r.at_ ≤ 8 * bs.length := by unfold Bt.Rd.wf at hw; rw [hl, Bt.unpack_length] at hw; exact hw
  clear hl hw hr
  go_enter Try.func39, Try.ntmps39
  go_wp2_with fail
  go_region
  go_wp2
  go_ret
  exact int_ret (by omega) (Turned.refl _ _).drew
theorem left_nil (w : World) :
    Calls Try.prog 39 #[.pointer none] w fun e w' => e = .returned (.int .i64 0) ∧ w' = w := by
  go_enter Try.func39, Try.ntmps39
  go_wp2
  go_ret
  exact ⟨rfl, rfl⟩

theorem and1_8 (y : Nat) (h : y < 256) : bits .and .u8 (y : Int) 1 = ((y % 2 : Nat) : Int) := by
  have := u8_and_nat y 1 h (by omega)
  rw [Nat.and_one_is_mod] at this
  exact this
theorem or_next {x z k : Nat} (hz : z < 2) (hk : k < 64) (hx : x < 2 ^ k) : bits .or .u64 (x : Int) ((z : Int) * 2 ^ k % 18446744073709551616) = ((x + 2 ^ k * z : Nat) : Int) := by
  have hp : 2 ^ k ≤ 2 ^ 63 := Nat.pow_le_pow_right (by omega) (by omega)
  have h2 : ((2 ^ k : Nat) : Int) = (2 : Int) ^ k := by simp
  have e : ((z : Int) * 2 ^ k % 18446744073709551616) = ((2 ^ k * z : Nat) : Int) := by
    have : z = 0 ∨ z = 1 := by omega
    rcases this with rfl | rfl
    · simp
    · rw [Nat.mul_one, show ((1 : Nat) : Int) = 1 from rfl, Int.one_mul, ← h2]
      omega
  have hz2 : 2 ^ k * z < 18446744073709551616 := by
    have : z = 0 ∨ z = 1 := by omega
    rcases this with rfl | rfl
    · simp
    · omega
  rw [e, u64_or_nat x _ (by omega) hz2]
  congr 1
  rw [Nat.or_comm, ← Nat.two_pow_add_eq_or_of_lt hx, Nat.add_comm]
theorem next_eq {x y e k : Nat} (hy : y < 256) (hk : k < 64) (hx : x < 2 ^ k) : bits .or .u64 (x : Int) (IntKind.u64.wrap (IntKind.u64.wrap (bits .and .u8 ((y : Int) / 2 ^ e) 1) * 2 ^ k)) = ((x + 2 ^ k * (y / 2 ^ e % 2) : Nat) : Int) := by
  have h1 : (y : Int) / 2 ^ e = ((y / 2 ^ e : Nat) : Int) := by simp
  have hq : y / 2 ^ e < 256 := Nat.lt_of_le_of_lt (Nat.div_le_self _ _) hy
  rw [h1, and1_8 _ hq]
  have hz : y / 2 ^ e % 2 < 2 := by omega
  generalize y / 2 ^ e % 2 = z at *
  have h2 : IntKind.u64.wrap (z : Int) = (z : Int) := by simp [IntKind.wrap, IntKind.bits, IntKind.signed]; omega
  rw [h2, ← or_next hz hk hx]
  simp [IntKind.wrap, IntKind.bits, IntKind.signed]
theorem rest_next {r : Bt.Rd} {bs : List Nat} {k : Nat} (hl : r.l = Bt.unpack bs) (h : r.at_ + k < 8 * bs.length) : Bt.val (r.rest.take (k + 1)) = Bt.val (r.rest.take k) + 2 ^ k * (bs.getD ((r.at_ + k) / 8) 0 / 2 ^ ((r.at_ + k) % 8) % 2) := by
  have hlen : r.rest.length = 8 * bs.length - r.at_ := by unfold Bt.Rd.rest; rw [List.length_drop, hl, Bt.unpack_length]
  have e := Bt.unpack_at (b := bs) (i := r.at_ + k) h
  have hk : k < r.rest.length := by omega
  have e2 : r.rest[k]? = some (bs.getD ((r.at_ + k) / 8) 0 / 2 ^ ((r.at_ + k) % 8) % 2 == 1) := by
    unfold Bt.Rd.rest
    rw [List.getElem?_drop, hl, ← e]
    simp [List.getD, List.getElem?_eq_getElem (show r.at_ + k < (Bt.unpack bs).length by rw [Bt.unpack_length]; exact h)]
  rw [List.take_add_one, e2, show ∀ b : Bool, (some b).toList = [b] from fun _ => rfl, Bt.val_snoc, List.length_take, Nat.min_eq_left (by omega)]
  generalize bs.getD ((r.at_ + k) / 8) 0 / 2 ^ ((r.at_ + k) % 8) = q
  have : q % 2 = 0 ∨ q % 2 = 1 := by omega
  rcases this with h | h <;> rw [h] <;> rfl

set_option maxHeartbeats 1000000 in
theorem next_in (p : Nat) (v : Value) (bs : List Nat) (r : Bt.Rd) (n : Nat) (w : World) (h : PRd p v bs r w) (hn : n ≤ 64) (hnl : n ≤ r.left) :
    Calls Try.prog 50 #[.pointer (some ⟨p, 0, none⟩), .int .i64 (n : Int)] w fun e w' => e = .returned (.int .u64 ((Bt.val (r.rest.take n) : Nat) : Int)) ∧ w' = w := by
  have hle := left_eq h.2.2.1 h.2.2.2.1
  obtain ⟨hs, ⟨oa, cap, rfl, hr, hd⟩, hl, hw, hb, hm⟩ := h
  have c0 := (hs.2 0 _ rfl).1
  have c1 := (hs.2 1 _ rfl).1
  have hat : r.at_ + n ≤ 8 * bs.length := by omega
  clear hle hnl hw
  go_enter Try.func50, Try.ntmps50
  go_wp2_with fail
  go_loop [5, 10] (fun x i => ∃ k : Nat, k ≤ n ∧ i = .int .i64 (k : Int) ∧ x = .int .u64 ((Bt.val (r.rest.take k) : Nat) : Int)) (fun _ i => n - (intOf i).toNat)
  case atStart => exact ⟨0, by omega, rfl, by simp [Bt.val]⟩
  case round =>
    obtain ⟨k, hk, rfl, rfl⟩ := hrel
    by_cases hlt : (k : Int) < (n : Int)
    · have hak : r.at_ + k < 8 * bs.length := by omega
      have hnext := rest_next hl hak
      have hi : (r.at_ + k) / 8 < bs.length := by omega
      have hi' : ((r.at_ : Int) + (k : Int)) / 8 < (bs.length : Int) := by omega
      obtain ⟨g, off, rfl, hg, hc⟩ := hr ((r.at_ + k) / 8) _ (List.getElem?_eq_getElem hi)
      have e0 := hc 0 _ rfl
      have hyb := hb _ (List.getElem_mem hi)
      have hgd : bs.getD ((r.at_ + k) / 8) 0 = bs[(r.at_ + k) / 8] := by simp [List.getD, List.getElem?_eq_getElem hi]
      rw [hgd] at hnext
      obtain ⟨y, hy⟩ : ∃ y, y = bs[(r.at_ + k) / 8] := ⟨_, rfl⟩
      rw [← hy] at hnext hyb e0
      clear hy hgd hc
      rw [Nat.mul_one, Nat.add_zero] at e0
      have hxl := Bt.val_lt (r.rest.take k)
      have hxk : (r.rest.take k).length ≤ k := by rw [List.length_take]; omega
      have hx : Bt.val (r.rest.take k) < 2 ^ k := Nat.lt_of_lt_of_le hxl (Nat.pow_le_pow_right (by omega) hxk)
      have HX : Hid (Bt.val (r.rest.take k) < 2 ^ k) := hx
      have HN : Hid (Bt.val (r.rest.take (k + 1)) = Bt.val (r.rest.take k) + 2 ^ k * (y / 2 ^ ((r.at_ + k) % 8) % 2)) := hnext
      clear hnext hxl hxk hx
      go_wp2_with fail
      go_round
      case rel => exact ⟨k + 1, by omega, by go_num, by rw [HN.out, next_eq hyb (by omega) HX.out]⟩
      case measure => simp [intOf]; omega
    · have : k = n := by omega
      subst this
      go_wp2_with fail
      go_ret
      exact ⟨rfl, rfl⟩

/-- a reader's second and third cells are written -/
theorem Rd_at {p : Nat} {v : Value} {bs : List Nat} {r r' : Bt.Rd} {w w' : World} (h : PRd p v bs r w) (hl : r'.l = r.l) (hw : r'.wf) (hs : Struct p [v, .int .i64 (r'.at_ : Int), .bool r'.fail] w') (ht : Turned [p] w w') : PRd p v bs r' w' := by
  obtain ⟨_, ⟨oa, cap, rfl, hr, hd⟩, h1, h2, h3⟩ := h
  exact ⟨hs, ⟨oa, cap, rfl, hr.turned ht fun a ha => by have := (hd a ha).1; simp; exact this, fun a ha => ⟨(hd a ha).1, Nat.lt_of_lt_of_le (hd a ha).2 ht.size⟩⟩, by rw [hl]; exact h1, hw, h3⟩
theorem fails {p : Nat} {v : Value} {bs : List Nat} {r : Bt.Rd} {w w1 : World} (h : PRd p v bs r w) (ht : Turned [] w w1) : PRd p v bs ⟨r.l, r.at_, true⟩ (w1.setCell ⟨p, 2, none⟩ (.bool true)) ∧ Turned [p] w (w1.setCell ⟨p, 2, none⟩ (.bool true)) := by
  have h1 := h.keep ht (by simp) (by simp)
  have hT : Turned [p] w1 (w1.setCell ⟨p, 2, none⟩ (.bool true)) := (Turned.refl [p] w1).setCell (p := ⟨p, 2, none⟩) (.inl (by simp)) _
  exact ⟨Rd_at h1 rfl h.2.2.2.1 (h1.1.set (i := 2) (by simp) _) hT, (ht.mono (S' := [p]) (by simp)).trans hT (fun k hk _ => hk)⟩
theorem moves {p : Nat} {v : Value} {bs : List Nat} {r : Bt.Rd} {w w1 : World} {n : Nat} (h : PRd p v bs r w) (ht : Turned [] w w1) (hf : r.fail = false) (hn : n ≤ r.left) : PRd p v bs ⟨r.l, r.at_ + n, false⟩ (w1.setCell ⟨p, 1, none⟩ (.int .i64 ((r.at_ + n : Nat) : Int))) ∧ Turned [p] w (w1.setCell ⟨p, 1, none⟩ (.int .i64 ((r.at_ + n : Nat) : Int))) := by
  have h1 := h.keep ht (by simp) (by simp)
  have hT : Turned [p] w1 (w1.setCell ⟨p, 1, none⟩ (.int .i64 ((r.at_ + n : Nat) : Int))) := (Turned.refl [p] w1).setCell (p := ⟨p, 1, none⟩) (.inl (by simp)) _
  refine ⟨Rd_at h1 rfl ?_ ?_ hT, (ht.mono (S' := [p]) (by simp)).trans hT (fun k hk _ => hk)⟩
  · have := h.2.2.2.1
    unfold Bt.Rd.wf Bt.Rd.left at *
    show r.at_ + n ≤ r.l.length
    omega
  · have := h1.1.set (i := 1) (by simp) (.int .i64 ((r.at_ + n : Nat) : Int))
    rw [hf] at this
    exact this

set_option maxHeartbeats 1000000 in
theorem take_any (p : Nat) (v : Value) (bs : List Nat) (r : Bt.Rd) (n : Int) (w : World) (h : PRd p v bs r w) :
    Calls Try.prog 37 #[.pointer (some ⟨p, 0, none⟩), .int .i64 n] w fun e w' => e = .returned (.int .u64 ((r.tell n : Nat) : Int)) ∧ PRd p v bs (r.take n) w' ∧ Turned [p] w w' := by
  have kok := ok_any p v _ r.fail w h.1
  by_cases hf : r.fail = true
  · have hc : ¬ r.can n = true := by rw [Bt.Rd.can_iff, hf]; simp
    have e1 : r.tell n = 0 := by unfold Bt.Rd.tell; rw [if_neg hc]
    have e2 : r.take n = r := by
      unfold Bt.Rd.take; rw [if_neg hc]
      obtain ⟨a, b, c⟩ := r
      simp at hf
      subst hf
      rfl
    rw [e1, e2]
    rw [hf] at kok
    clear hc e1 e2
    go_enter Try.func37, Try.ntmps37
    go_wp2_with (go_at_call 38; refine kok.mono ?_; rintro e w' ⟨rfl, rfl⟩)
    go_ret
    exact ⟨rfl, h, Turned.refl _ _⟩
  · have hf' : r.fail = false := by simpa using hf
    rw [hf'] at kok
    have kl := left_any p v bs r w h
    by_cases hc : r.can n = true
    · have e1 : r.tell n = Bt.val (r.rest.take n.toNat) := by unfold Bt.Rd.tell; rw [if_pos hc]
      have e2 : r.take n = ⟨r.l, r.at_ + n.toNat, false⟩ := by unfold Bt.Rd.take; rw [if_pos hc]
      rw [e1, e2]
      obtain ⟨_, h0, h64, hnl⟩ := Bt.Rd.can_iff.1 hc
      obtain ⟨m, rfl⟩ := Int.eq_ofNat_of_zero_le h0
      rw [Int.toNat_natCast]
      have kn := fun w1 (ht : Turned [] w w1) => next_in p v bs r m w1 (h.keep ht (by simp) (by simp)) (by omega) (by omega)
      have hcells := fun w1 (ht : Turned [] w w1) => (h.keep ht (by simp) (by simp)).1
      have hmv := fun w1 (ht : Turned [] w w1) => moves (n := m) h ht hf' (by omega)
      have hl1 : r.at_ + m ≤ 8 * bs.length := by have := left_eq h.2.2.1 h.2.2.2.1; omega
      have hm := h.2.2.2.2.2
      clear hc e1 e2 hf h
      go_enter Try.func37, Try.ntmps37
      go_wp2_with (first | (go_at_call 38; refine kok.mono ?_; rintro e w' ⟨rfl, rfl⟩) | (go_at_call 39; refine kl.mono ?_; rintro e w1 ⟨rfl, ht⟩; have c1 := ((hcells w1 ht).2 1 _ rfl).1; have f1 := ((hcells w1 ht).2 1 _ rfl).2) | (go_at_call 50; refine (kn w1 ht).mono ?_; rintro e w2 ⟨rfl, rfl⟩))
      go_ret
      exact ⟨rfl, hmv _ ht⟩
    · have e1 : r.tell n = 0 := by unfold Bt.Rd.tell; rw [if_neg hc]
      have e2 : r.take n = ⟨r.l, r.at_, true⟩ := by unfold Bt.Rd.take; rw [if_neg hc]
      rw [e1, e2]
      have hn : n < 0 ∨ 64 < n ∨ (r.left : Int) < n := by
        rw [Bt.Rd.can_iff, hf'] at hc
        simp at hc
        omega
      have hcells := fun w1 (ht : Turned [] w w1) => (h.keep ht (by simp) (by simp)).1
      have hfl := fun w1 (ht : Turned [] w w1) => fails h ht
      have ht0 := Turned.refl [] w
      have f2 := ((hcells w ht0).2 2 _ rfl).2
      have c2 := ((hcells w ht0).2 2 _ rfl).1
      clear hc e1 e2 hf h
      by_cases h0 : n < 0
      · clear hn
        go_enter Try.func37, Try.ntmps37
        go_wp2_with (first | (go_at_call 38; refine kok.mono ?_; rintro e w' ⟨rfl, rfl⟩))
        go_ret
        exact ⟨rfl, hfl _ ht0⟩
      · by_cases h64 : 64 < n
        · clear hn
          go_enter Try.func37, Try.ntmps37
          go_wp2_with (first | (go_at_call 38; refine kok.mono ?_; rintro e w' ⟨rfl, rfl⟩))
          go_ret
          exact ⟨rfl, hfl _ ht0⟩
        · have hn' : (r.left : Int) < n := by omega
          clear hn f2 c2
          go_enter Try.func37, Try.ntmps37
          go_wp2_with (first | (go_at_call 38; refine kok.mono ?_; rintro e w' ⟨rfl, rfl⟩) | (go_at_call 39; refine kl.mono ?_; rintro e w1 ⟨rfl, ht⟩; have c1 := ((hcells w1 ht).2 2 _ rfl).1; have f1 := ((hcells w1 ht).2 2 _ rfl).2))
          go_ret
          exact ⟨rfl, hfl _ ht⟩
theorem take_nil (n : Int) (w : World) :
    Calls Try.prog 37 #[.pointer none, .int .i64 n] w fun e w' => e = .returned (.int .u64 0) ∧ w' = w := by
  go_enter Try.func37, Try.ntmps37
  go_wp2_with (go_at_call 38; refine (ok_nil _).mono ?_; rintro e w' ⟨rfl, rfl⟩)
  go_ret
  exact ⟨rfl, rfl⟩

end BtD
end Go.Proofs.Ytkjlbginggppaaa


/- Messages in rows; slices.Clone, slices.IndexFunc, slices.Delete at messages (FgW). -/
namespace Go.Proofs.Ytkjlbginggppaaa
open Go.RowKit
set_option linter.unusedVariables false
set_option linter.unusedSimpArgs false

/-- a message that waits: its id, how many parts it has, and the block of its map -/
structure Ms where
  id : Nat
  n : Nat
  b : Nat
def msEnc (m : Ms) : List Value := [.int .u16 (m.id : Int), .int .i64 (m.n : Int), .map (some m.b)]
def msVal (m : Ms) : Value := .agg #[.int .u16 (m.id : Int), .int .i64 (m.n : Int), .map (some m.b)]
theorem msEnc_len {l : List Ms} : ∀ a ∈ l, (msEnc a).length = 3 := fun _ _ => rfl
theorem msEnc_one {l : List Ms} : ∀ a ∈ l, ∀ u ∈ msEnc a, u.oneCell' = true := by
  intro a _ u hu
  simp [msEnc] at hu
  rcases hu with rfl | rfl | rfl <;> rfl
theorem elem_ms : ElemOk Try.prog 38 76 (.agg #[.int .u16 0, .int .i64 0, .map none]) 3 24 := ⟨by kernel_rfl, by kernel_rfl, rfl, by decide⟩
theorem ms_at {oa : Option Addr} {l : List Ms} {w : World} (h : RowOf 3 msEnc oa l w) {k : Nat} {m : Ms} (hk : l[k]? = some m) : ∃ g off, oa = some ⟨g, off, none⟩ ∧ g < w.heap.size ∧ w.cell? ⟨g, off + k * 3, none⟩ = some (.int .u16 (m.id : Int)) ∧ w.cell? ⟨g, off + k * 3 + 1, none⟩ = some (.int .i64 (m.n : Int)) ∧ w.cell? ⟨g, off + k * 3 + 2, none⟩ = some (.map (some m.b)) := by
  obtain ⟨g, off, rfl, hl, hc⟩ := h k m hk
  exact ⟨g, off, rfl, hl, hc 0 _ rfl, hc 1 _ rfl, hc 2 _ rfl⟩
theorem name_eql (a b c d : Nat) (w : World) : (binOp .eql 61 (.agg #[.int .u16 (a : Int), .int .i64 (b : Int)]) (.agg #[.int .u16 (c : Int), .int .i64 (d : Int)])).run Try.prog w = .ok (.bool (a == c && b == d)) w := by
  rw [run_eql_struct, run_equalIn_agg (d := 9999) (ht := by kernel_rfl) (hp := by kernel_rfl)]
  simp [go_sem]
  by_cases h1 : a = c
  · subst h1
    by_cases h2 : b = d
    · subst h2; simp
    · have h3 : ¬ (b : Int) = (d : Int) := by omega
      simp [h2, h3]
  · have h3 : ¬ (a : Int) = (c : Int) := by omega
    simp [h1, h3]
theorem name_neq (a b c d : Nat) (w : World) : (binOp .neq 61 (.agg #[.int .u16 (a : Int), .int .i64 (b : Int)]) (.agg #[.int .u16 (c : Int), .int .i64 (d : Int)])).run Try.prog w = .ok (.bool (!(a == c && b == d))) w := by
  rw [run_neq_struct, run_equalIn_agg (d := 9999) (ht := by kernel_rfl) (hp := by kernel_rfl)]
  simp [go_sem]
  by_cases h1 : a = c
  · subst h1
    by_cases h2 : b = d
    · subst h2; simp
    · have h3 : ¬ (b : Int) = (d : Int) := by omega
      simp [h2, h3]
  · have h3 : ¬ (a : Int) = (c : Int) := by omega
    simp [h1, h3]
namespace FgW
theorem w64 {x : Int} (h : -9223372036854775808 ≤ x ∧ x ≤ 9223372036854775807) : wrap64 x = x := by unfold wrap64; omega
theorem one_flat {l : List Ms} : ∀ u ∈ l.flatMap msEnc, u.oneCell' = true := by
  intro u hu
  obtain ⟨a, ha, hu⟩ := List.mem_flatMap.1 hu
  exact msEnc_one (l := [a]) a (by simp) u hu
set_option maxRecDepth 20000 in
set_option maxHeartbeats 1000000 in
theorem clone_any (oa : Option Addr) (n cap : Nat) (bs : List Ms) (w : World) (hn : bs.length = n) (hr : RowOf 3 msEnc oa bs w) (hl : n ≤ 1100) :
    Calls Try.prog 42 #[.slice oa n cap] w fun e w' => ∃ oa' cap', e = .returned (.slice oa' n cap') ∧ OwnL 76 3 msEnc (.slice oa' n cap') bs w' ∧ Turned [] w w' ∧ ∀ k ∈ blk (.slice oa' n cap'), w.heap.size ≤ k := by
  have fin : ∀ (v' : Value) (e : Ending) (w' : World), e = .returned v' → OwnL 76 3 msEnc v' bs w' → Turned [] w w' → (∀ k ∈ blk v', w.heap.size ≤ k) → ∃ oa' cap', e = .returned (.slice oa' n cap') ∧ OwnL 76 3 msEnc (.slice oa' n cap') bs w' ∧ Turned [] w w' ∧ ∀ k ∈ blk (.slice oa' n cap'), w.heap.size ≤ k := by
    intro v' e w' he ho ht hb
    obtain ⟨oa', cap', hv, _, _⟩ := ho.form
    rw [hn] at hv
    subst hv
    exact ⟨oa', cap', he, ho, ht, hb⟩
  have hnil : ∀ (u : World) (a : Option Addr) (l c : Nat), (binOp .eql 38 (.slice a l c) (.slice none 0 0)).run Try.prog u = .ok (.bool a.isNone) u := fun u a l c => Lib.run_eql_slice_nil (P := Try.prog) u 38 76 a l c 0 0 (by kernel_rfl)
  cases oa with
  | none =>
    have hb : bs = [] := by
      cases bs with
      | nil => rfl
      | cons a r => obtain ⟨b, off, ho, _⟩ := hr 0 a rfl; cases ho
    subst hb
    go_enter Try.func42, Try.ntmps42
    go_wp2
    go_ret
    exact fin _ _ _ rfl (OwnL.nil _ _ _ _) (Turned.refl _ _) (by simp [blk, Value.ownBlock])
  | some a =>
    go_enter Try.func42, Try.ntmps42
    have h0 : OwnL 76 3 msEnc (.slice (some ⟨w.heap.size, 0, none⟩) 0 0) ([] : List Ms) (w.alloc (.cells #[] 76)) := World.ownsRow_made (e := 76) (size := 3) w #[] 0 (Nat.zero_le _) (Nat.zero_le _) rfl
    go_wp2_with (at_builtin; refine wp_pushAll (v := .slice (some ⟨w.heap.size, 0, none⟩) 0 0) elem_ms rfl (.tmp 5) (.tmp 6) rfl rfl h0 (some a) n cap bs hn rfl (hr.turned ((Turned.refl [] w).alloc _) (by simp)) msEnc_len msEnc_one (by unfold maxLen; simp; omega) (by simp; omega) ?_; intro v' w1 ho1 ht1 hb1)
    go_ret
    refine fin v' _ _ rfl ?_ ?_ ?_
    · simpa using ho1
    · refine ((Turned.refl [] w).alloc _).trans ht1 ?_
      intro k hk hl
      simp [blk, Value.ownBlock] at hk
      omega
    · intro k hk
      rcases hb1 with h | h
      · rw [h] at hk; simp [blk, Value.ownBlock] at hk; omega
      · rw [h] at hk; simp at hk; omega

set_option maxRecDepth 20000 in
set_option maxHeartbeats 2000000 in
theorem delete_any (v : Value) (l : List Ms) (k : Nat) (w : World) (h : OwnL 76 3 msEnc v l w) (hk : k < l.length) (hl : l.length ≤ 1000) :
    Calls Try.prog 45 #[v, .int .i64 (k : Int), .int .i64 ((k + 1 : Nat) : Int)] w fun e w' => ∃ v', e = .returned v' ∧ OwnL 76 3 msEnc v' (l.take k ++ l.drop (k + 1)) w' ∧ Turned (blk v) w w' ∧ blk v' = blk v := by
  obtain ⟨g, cap, R, rfl, hnc, hcm, hg, hRl⟩ := h.block (by omega)
  have hA : ((l.take k).flatMap msEnc).length = k * 3 := by
    rw [flat_len (enc := msEnc) (sz := 3) msEnc_len, List.length_take, Nat.min_eq_left (by omega)]
  have hB : ((l.drop (k + 1)).flatMap msEnc).length = (l.length - (k + 1)) * 3 := by
    rw [flat_len (enc := msEnc) (sz := 3) msEnc_len, List.length_drop]
  have hres : (l.take k ++ l.drop (k + 1)).flatMap msEnc = (l.take k).flatMap msEnc ++ (l.drop (k + 1)).flatMap msEnc := by rw [List.flatMap_append]
  have hlen : (l.take k ++ l.drop (k + 1)).length = l.length - 1 := by rw [List.length_append, List.length_take, List.length_drop]; omega
  rw [flat_at_k (enc := msEnc) (List.getElem?_eq_getElem hk), List.append_assoc, List.append_assoc] at hg
  have hX : (msEnc l[k]).length = 3 := rfl
  have h1 : ∀ u ∈ (l.drop (k + 1)).flatMap msEnc, u.oneCell' = true := one_flat
  obtain ⟨LA, hLA⟩ : ∃ A, A = (l.take k).flatMap msEnc := ⟨_, rfl⟩
  obtain ⟨LB, hLB⟩ : ∃ A, A = (l.drop (k + 1)).flatMap msEnc := ⟨_, rfl⟩
  obtain ⟨X, hXX⟩ : ∃ A, A = msEnc l[k] := ⟨_, rfl⟩
  rw [← hLA] at hA hg hres
  rw [← hLB] at hB hg hres h1
  rw [← hXX] at hX hg
  obtain ⟨n, hn⟩ : ∃ n, n = l.length := ⟨_, rfl⟩
  have hown : ∀ (R' : List Value) (w' : World), w'.heap[g]? = some (.cells (LA ++ (LB ++ R')).toArray 76 (0, 0)) → R'.length = (cap - (n - 1)) * 3 → OwnL 76 3 msEnc (.slice (some ⟨g, 0, none⟩) (n - 1) cap) (l.take k ++ l.drop (k + 1)) w' := fun R' w' h1 h2 =>
    OwnL.ofBlock (R := R') (by rw [hres]; simpa only [List.append_assoc] using h1) msEnc_len (by rw [hlen, hn]) (by omega) hcm h2
  rw [← hn] at hk hl hnc hRl hB ⊢
  obtain ⟨q, hq⟩ : ∃ q, n = k + 1 + q := ⟨n - (k + 1), by omega⟩
  have hBq : LB.length = q * 3 := by rw [hB]; congr 1; omega
  obtain ⟨Y1, Y2, Y3, hY, hY1, hY2⟩ := three_parts (X ++ LB) (q * 3) 3 (by rw [List.length_append]; omega)
  have hY3 : Y3 = [] := by
    have := congrArg List.length hY
    rw [List.length_append, List.length_append, List.length_append] at this
    exact List.eq_nil_of_length_eq_zero (by omega)
  subst hY3
  rw [List.append_nil] at hY
  have HG0 : Hid (w.heap[g]? = some (.cells (LA ++ (Y1 ++ (Y2 ++ R))).toArray 76 (0, 0))) := by
    show _ = _
    rw [hg, ← List.append_assoc X LB R, hY, List.append_assoc]
  have HS : Hid (∀ (a : Addr), (0 < q → a = ⟨g, (k + 1) * 3, none⟩) → ∀ (j : Nat) (u : Value), LB[j]? = some u → w.cell? (a.add j) = some u) := fun a ha j u hj => by
    have hjl := (List.getElem?_eq_some_iff.1 hj).1
    rw [ha (by omega)]
    have e : LA ++ (X ++ (LB ++ R)) = (LA ++ X) ++ (LB ++ R) := by simp only [List.append_assoc]
    rw [e] at hg
    exact cells_of_heap hg (by rw [List.length_append]; omega) j u hj
  have HO : Hid (∀ (R' : List Value) (w' : World), w'.heap[g]? = some (.cells (LA ++ (LB ++ R')).toArray 76 (0, 0)) → R'.length = (cap - (n - 1)) * 3 → OwnL 76 3 msEnc (.slice (some ⟨g, 0, none⟩) (n - 1) cap) (l.take k ++ l.drop (k + 1)) w') := hown
  have HN : Hid (n = k + 1 + q ∧ n ≤ 1000 ∧ n ≤ cap ∧ cap ≤ maxLen) := ⟨hq, hl, hnc, hcm⟩
  have HL : Hid (LA.length = k * 3 ∧ LB.length = q * 3 ∧ Y1.length = q * 3 ∧ Y2.length = 3 ∧ R.length = (cap - n) * 3 ∧ n - 1 + 1 = n) := ⟨hA, hBq, hY1, hY2, hRl, by omega⟩
  have H1 : Hid (∀ u ∈ LB, u.oneCell' = true) := h1
  obtain ⟨k', hk'⟩ : ∃ k' : Nat, k' = k + 1 := ⟨_, rfl⟩
  obtain ⟨m, hm⟩ : ∃ m : Nat, m = n - 1 := ⟨_, rfl⟩
  have HK : Hid (k' = k + 1 ∧ m = n - 1) := ⟨hk', hm⟩
  have k1 : (k : Int) ≤ (k' : Int) := by omega
  have k2 : ¬ (k : Int) = (k' : Int) := by omega
  have k3 : (k' : Int) ≤ (n : Int) := by omega
  have k4 : (n : Int) ≤ (cap : Int) := by omega
  have k5 : (k : Int) ≤ (cap : Int) := by omega
  have k6 : ¬ cap = m := by omega
  have k7 : (m : Int) ≤ (n : Int) := by omega
  have k8 : ¬ cap = k := by omega
  have hqq : n - k' = q := by omega
  have hfull : cap = k' → q = 0 := fun h => by omega
  rw [← hk']
  clear hq hown h h1 hBq hY hY1 hY2 hg hA hB hRl hX hXX hLA hLB hres hlen hk hl hnc hcm hn hk' hm
  by_cases hcap : cap = k'
  · have hq0 : q = 0 := hfull hcap
    clear hfull
    subst hcap
    subst hq0
    go_enter Try.func45, Try.ntmps45
    go_wp2_with fail
    go_region_law (refine step_appendRow elem_ms rfl _ _ rfl g k cap ⟨g, 0, none⟩ 0 (cap - cap) (by simp [Act.eval, Act.put]) (by simp [Act.eval, Act.put, hqq]) LA Y1 (Y2 ++ R) LB m (by have := HN.out; have := HK.out; omega) (by exact HG0.out) (by exact HL.out.1) (by exact HL.out.2.1) (by exact HL.out.2.2.1) (by have := HN.out; omega) (by exact HS.out ⟨g, 0, none⟩ (fun h => absurd h (by omega))) (by exact H1.out) ?_; intro w2 hg2 ht2)
    have HG2 : Hid (w2.heap[g]? = some (.cells ((LA ++ LB) ++ (Y2 ++ R)).toArray 76 (0, 0))) := by
      show _ = _
      rw [hg2.out]
      simp only [List.append_assoc]
    have ht3 : Turned [g] w w2 := ((Turned.refl [g] w).drew).trans ht2 (fun k hk _ => hk)
    go_wp2_with ((with_reducible show wpList _ _ _ (_ :: _) _ _); refine wp_clearRow elem_ms (by decide) rfl _ rfl g (m * 3) (n - m) (cap - m) rfl (by have := HN.out; have := HK.out; omega) (LA ++ LB) Y2 R (by exact HG2.out) (by have := HN.out; have := HK.out; have := HL.out; rw [List.length_append]; omega) (by have := HN.out; have := HK.out; have := HL.out; omega) ?_; intro w3 Z hg3 hZ ht4)
    refine bodyPost_ret (v := .slice (some ⟨g, 0, none⟩) m cap) (by simp [results, Try.results45, go_sem]) rfl ⟨_, rfl, ?_, ?_, ?_⟩
    · rw [HK.out.2, show List.drop cap l = List.drop (k + 1) l from congrArg (fun x => List.drop x l) HK.out.1]
      refine HO.out (Z ++ R) w3 (by rw [hg3.out]; simp only [List.append_assoc]) ?_
      have := HN.out; have := HK.out; have := HL.out
      rw [List.length_append]
      omega
    · exact (ht3.trans ht4 (fun k hk _ => hk)).mono (by simp [blk, Value.ownBlock])
    · simp [blk, Value.ownBlock]
  · clear hfull
    go_enter Try.func45, Try.ntmps45
    go_wp2_with fail
    go_region_law (refine step_appendRow elem_ms rfl _ _ rfl g k cap ⟨g, k' * 3, none⟩ q (cap - k') (by simp [Act.eval, Act.put]) (by simp [Act.eval, Act.put, hqq, hcap]) LA Y1 (Y2 ++ R) LB m (by have := HN.out; have := HK.out; omega) (by exact HG0.out) (by exact HL.out.1) (by exact HL.out.2.1) (by exact HL.out.2.2.1) (by have := HN.out; omega) (by exact HS.out ⟨g, k' * 3, none⟩ (fun _ => by rw [HK.out.1])) (by exact H1.out) ?_; intro w2 hg2 ht2)
    have HG2 : Hid (w2.heap[g]? = some (.cells ((LA ++ LB) ++ (Y2 ++ R)).toArray 76 (0, 0))) := by
      show _ = _
      rw [hg2.out]
      simp only [List.append_assoc]
    have ht3 : Turned [g] w w2 := ((Turned.refl [g] w).drew).trans ht2 (fun k hk _ => hk)
    go_wp2_with ((with_reducible show wpList _ _ _ (_ :: _) _ _); refine wp_clearRow elem_ms (by decide) rfl _ rfl g (m * 3) (n - m) (cap - m) rfl (by have := HN.out; have := HK.out; omega) (LA ++ LB) Y2 R (by exact HG2.out) (by have := HN.out; have := HK.out; have := HL.out; rw [List.length_append]; omega) (by have := HN.out; have := HK.out; have := HL.out; omega) ?_; intro w3 Z hg3 hZ ht4)
    refine bodyPost_ret (v := .slice (some ⟨g, 0, none⟩) m cap) (by simp [results, Try.results45, go_sem]) rfl ⟨_, rfl, ?_, ?_, ?_⟩
    · rw [HK.out.2, HK.out.1]
      refine HO.out (Z ++ R) w3 (by rw [hg3.out]; simp only [List.append_assoc]) ?_
      have := HN.out; have := HK.out; have := HL.out
      rw [List.length_append]
      omega
    · exact (ht3.trans ht4 (fun k hk _ => hk)).mono (by simp [blk, Value.ownBlock])
    · simp [blk, Value.ownBlock]

end FgW
end Go.Proofs.Ytkjlbginggppaaa


/- What is kept of a message: found, put, let go (FgW). -/
namespace Go.Proofs.Ytkjlbginggppaaa
open Go.RowKit
set_option linter.unusedVariables false
set_option linter.unusedSimpArgs false

/-- is a message of this name? -/
def sameN (id n : Nat) (m : Ms) : Bool := m.id == id && m.n == n
namespace FgW
set_option maxHeartbeats 1000000 in
theorem keep1_any (m : Ms) (c id n : Nat) (w : World) (hc0 : w.cell? ⟨c, 0, none⟩ = some (.int .u16 (id : Int))) (hc1 : w.cell? ⟨c, 1, none⟩ = some (.int .i64 (n : Int))) (hlt : c < w.heap.size) :
    Calls Try.prog 44 #[msVal m, .pointer (some ⟨c, 0, none⟩)] w fun r w' => r = .returned (.bool (sameN id n m)) ∧ Turned [] w w' := by
  have he := name_eql m.id m.n id n
  unfold msVal
  go_enter Try.func44, Try.ntmps44
  go_wp2_with fail
  go_ret
  exact ⟨rfl, (Turned.refl [] w).alloc _⟩

/-- where it stands, or -1 -/
def posN (id n : Nat) (l : List Ms) : Int := if l.findIdx (sameN id n) < l.length then (l.findIdx (sameN id n) : Int) else -1
theorem pos_at {id n k : Nat} {l : List Ms} {m : Ms} (hk : l[k]? = some m) (hs : sameN id n m = true) (h0 : ∀ (j : Nat) (d : Ms), j < k → l[j]? = some d → sameN id n d = false) : l.findIdx (sameN id n) = k := by
  obtain ⟨hl, rfl⟩ := List.getElem?_eq_some_iff.1 hk
  rw [List.findIdx_eq hl]
  exact ⟨hs, fun j hj => h0 j _ hj (List.getElem?_eq_getElem (by omega))⟩
theorem pos_no {id n : Nat} {l : List Ms} (h0 : ∀ (j : Nat) (d : Ms), l[j]? = some d → sameN id n d = false) : l.findIdx (sameN id n) = l.length := by
  rw [List.findIdx_eq_length]
  intro d hd
  obtain ⟨j, hj⟩ := List.getElem?_of_mem hd
  exact h0 j d hj
set_option maxRecDepth 20000 in
set_option maxHeartbeats 2000000 in
theorem index_any (oa : Option Addr) (cap : Nat) (l : List Ms) (c id n : Nat) (w : World) (hlt : c < w.heap.size) (hc0 : w.cell? ⟨c, 0, none⟩ = some (.int .u16 (id : Int))) (hc1 : w.cell? ⟨c, 1, none⟩ = some (.int .i64 (n : Int))) (hr : RowOf 3 msEnc oa l w) (hl : l.length ≤ 1000) :
    Calls Try.prog 43 #[.slice oa l.length cap, .func (.func 44) #[] #[.pointer (some ⟨c, 0, none⟩)]] w fun r w' => r = .returned (.int .i64 (posN id n l)) ∧ Turned [] w w' := by
  obtain ⟨N, hN⟩ : ∃ N, N = l.length := ⟨_, rfl⟩
  rw [← hN] at hl ⊢
  have HN : Hid (N = l.length) := hN
  clear hN
  obtain ⟨z, hz⟩ : ∃ z, z = posN id n l := ⟨_, rfl⟩
  rw [← hz]
  have HZ : Hid (z = posN id n l) := hz
  clear hz
  go_enter Try.func43, Try.ntmps43
  go_wp2_with fail
  go_loopw [8] (fun i wr => ∃ k : Nat, k ≤ N ∧ i = .int .i64 (k : Int) ∧ (∀ (j : Nat) (d : Ms), j < k → l[j]? = some d → sameN id n d = false) ∧ Turned [] w wr) (fun i _ => N - (intOf i).toNat)
  case atStart => exact ⟨0, by omega, rfl, fun j d h _ => absurd h (by omega), Turned.refl _ _⟩
  case round =>
    obtain ⟨k, hk, rfl, hno, ht⟩ := hrel
    by_cases hlt2 : (k : Int) < (N : Int)
    · obtain ⟨m, he⟩ : ∃ m, l[k]? = some m := ⟨_, List.getElem?_eq_getElem (by have := HN.out; omega)⟩
      have hrow := hr.turned ht (by simp)
      obtain ⟨g, off, rfl, hg, p0, p1, p2⟩ := ms_at hrow he
      have kg := keep1_any m c id n wr ((ht.cell (p := ⟨c, 0, none⟩) hlt (by simp)).trans hc0) ((ht.cell (p := ⟨c, 1, none⟩) hlt (by simp)).trans hc1) (Nat.lt_of_lt_of_le hlt ht.size)
      unfold msVal at kg
      cases hid : sameN id n m with
      | true =>
        have HF : Hid (z = (k : Int)) := by
          show _ = _
          rw [HZ.out]
          unfold posN
          rw [pos_at he hid hno, if_pos (by have := HN.out; omega)]
        rw [hid] at kg
        clear hno hid he
        go_wp2_with (go_at_call 44; (with_reducible refine kg.mono ?_); rintro r u1 ⟨rfl, ht1⟩)
        go_ret
        exact ⟨by rw [HF.out]; rfl, ht.trans ht1 (by simp)⟩
      | false =>
        rw [hid] at kg
        have HNO : Hid (∀ (j : Nat) (d : Ms), j < k + 1 → l[j]? = some d → sameN id n d = false) := by
          intro j d hj hd
          by_cases e : j = k
          · subst e; rw [he] at hd; cases hd; exact hid
          · exact hno j d (by omega) hd
        clear hno hid he
        go_wp2_with (go_at_call 44; (with_reducible refine kg.mono ?_); rintro r u1 ⟨rfl, ht1⟩)
        go_roundw
        case rel => exact ⟨k + 1, by omega, by go_num, HNO.out, ht.trans ht1 (by simp)⟩
        case measure => simp [intOf]; omega
    · have hkN : k = N := by omega
      have HF : Hid (z = -1) := by
        show _ = _
        rw [HZ.out]
        unfold posN
        rw [pos_no (fun j d hd => hno j d (by have := (List.getElem?_eq_some_iff.1 hd).1; have := HN.out; omega) hd), if_neg (by omega)]
      clear hno
      go_wp2_with fail
      go_ret
      exact ⟨by rw [HF.out]; rfl, ht⟩

theorem struct_set3 {w : World} {b : Nat} {c0 c1 c2 : Value} (h : Struct b [c0, c1, c2] w) (x y z : Value) : Struct b [x, y, z] (((w.setCell ⟨b, 0, none⟩ x).setCell ⟨b, 1, none⟩ y).setCell ⟨b, 2, none⟩ z) :=
  ((h.set (i := 0) (by simp) x).set (i := 1) (by simp) y).set (i := 2) (by simp) z
/-- the map of a message of this name, if one waits -/
def mapN (id n : Nat) (l : List Ms) : Option Nat := (l.find? (sameN id n)).map Ms.b
theorem sameN_iff {id n : Nat} {m : Ms} : sameN id n m = true ↔ m.id = id ∧ m.n = n := by unfold sameN; simp
set_option maxRecDepth 20000 in
set_option maxHeartbeats 2000000 in
theorem find_any (A id n : Nat) (vL : Value) (l : List Ms) (w : World) (hA : Struct A [vL] w) (ho : OwnL 76 3 msEnc vL l w) (hl : l.length ≤ 1000) :
    Calls Try.prog 24 #[.pointer (some ⟨A, 0, none⟩), .agg #[.int .u16 (id : Int), .int .i64 (n : Int)]] w fun e w' => e = .returned (.agg #[.int .u16 (id : Int), .int .i64 (n : Int), .map (mapN id n l)]) ∧ Turned [] w w' := by
  obtain ⟨oa, cap, rfl, _, _, hr, _⟩ := ho.rowOf msEnc_len
  obtain ⟨N, hN⟩ : ∃ N, N = l.length := ⟨_, rfl⟩
  rw [← hN] at hl hA
  have HN : Hid (N = l.length) := hN
  clear hN ho
  obtain ⟨om, hom⟩ : ∃ o, o = mapN id n l := ⟨_, rfl⟩
  rw [← hom]
  have HM : Hid (om = mapN id n l) := hom
  clear hom
  have a0 := (hA.2 0 _ rfl).1
  have hAl := hA.1
  go_enter Try.func24, Try.ntmps24
  go_wp2_with fail
  obtain ⟨W0, hW0⟩ : ∃ W, W = (w.alloc (.cells #[.int .u16 (id : Int), .int .i64 (n : Int)] 61)).alloc (.cells #[.int .u16 0, .int .i64 0, .map none] 76) := ⟨_, rfl⟩
  obtain ⟨B, hB⟩ : ∃ B, B = w.heap.size := ⟨_, rfl⟩
  rw [← hW0, ← hB]
  have hT0 : Turned [] w W0 := by rw [hW0]; exact ((Turned.refl [] w).alloc _).alloc _
  have hS : Struct B [.int .u16 (id : Int), .int .i64 (n : Int)] W0 := by rw [hW0, hB]; exact (Struct.new w [.int .u16 (id : Int), .int .i64 (n : Int)] _).keep ((Turned.refl [] _).alloc _) (by simp)
  have hR : Struct (B + 1) [.int .u16 0, .int .i64 0, .map none] W0 := by
    rw [hW0, hB]
    have := Struct.new (w.alloc (.cells #[.int .u16 (id : Int), .int .i64 (n : Int)] 61)) [.int .u16 0, .int .i64 0, .map none] 76
    rw [World.size_alloc] at this
    exact this
  have HBW : Hid (B = w.heap.size) := hB
  clear hW0 hB
  go_loopw [12] (fun i wr => ∃ k : Nat, k ≤ N ∧ i = .int .i64 (k : Int) ∧ (∀ (j : Nat) (d : Ms), j < k → l[j]? = some d → sameN id n d = false) ∧ Turned [] W0 wr) (fun i _ => N - (intOf i).toNat)
  case atStart => exact ⟨0, by omega, rfl, fun j d h _ => absurd h (by omega), Turned.refl _ _⟩
  case round =>
    obtain ⟨k, hk, rfl, hno, ht⟩ := hrel
    have hSr := hS.keep ht (by simp)
    have hRr := hR.keep ht (by simp)
    have hTw := hT0.trans ht (by simp)
    obtain ⟨s0, _⟩ := hSr.2 0 _ rfl
    obtain ⟨s1, _⟩ := hSr.2 1 _ rfl
    obtain ⟨r0, f0⟩ := hRr.2 0 _ rfl
    obtain ⟨r1, f1⟩ := hRr.2 1 _ rfl
    obtain ⟨r2, f2⟩ := hRr.2 2 _ rfl
    have hB1 : B + 1 < wr.heap.size := hRr.1
    have hB0 : B < wr.heap.size := hSr.1
    by_cases hlt2 : (k : Int) < (N : Int)
    · obtain ⟨m, he⟩ : ∃ m, l[k]? = some m := ⟨_, List.getElem?_eq_getElem (by have := HN.out; omega)⟩
      have hrow := hr.turned hTw (by simp)
      obtain ⟨g, off, rfl, hg, p0, p1, p2⟩ := ms_at hrow he
      have hql := name_eql m.id m.n id n
      cases hid : sameN id n m with
      | true =>
        have hq2 : (m.id == id && m.n == n) = true := hid
        have HE : Hid (m.id = id ∧ m.n = n ∧ om = some m.b) := by
          refine ⟨(sameN_iff.1 hid).1, (sameN_iff.1 hid).2, ?_⟩
          rw [HM.out]
          unfold mapN
          have : l.find? (sameN id n) = some m := by
            rw [List.find?_eq_some_iff_getElem]
            obtain ⟨hl2, e⟩ := List.getElem?_eq_some_iff.1 he
            exact ⟨hid, k, hl2, e, fun j hj => by rw [hno j _ hj (List.getElem?_eq_getElem (by omega))]; rfl⟩
          rw [this]; rfl
        clear hno hid he
        rw [hq2] at hql
        go_wp2_with fail
        have hR2 := (struct_set3 hRr (.int .u16 (m.id : Int)) (.int .i64 (m.n : Int)) (.map (some m.b))).keep ((Turned.refl [] _).alloc (.cells #[.int .u16 (m.id : Int), .int .i64 (m.n : Int), .map (some m.b)] 76)) (by simp)
        have q0 := (hR2.2 0 _ rfl).1
        have q1 := (hR2.2 1 _ rfl).1
        have q2 := (hR2.2 2 _ rfl).1
        refine bodyPost_ret (v := .agg #[.int .u16 (m.id : Int), .int .i64 (m.n : Int), .map (some m.b)]) (by simp [results, Try.results24, go_sem, q0, q1, q2]) rfl ⟨by rw [HE.out.1, HE.out.2.1, HE.out.2.2], ?_⟩
        exact (Turned.trans (S' := [B + 1]) hTw (set3 wr (B + 1) _ _ _) (by intro x hx hl; simp at hx; have := HBW.out; omega)).alloc _
      | false =>
        have hq2 : (m.id == id && m.n == n) = false := hid
        rw [hq2] at hql
        have HNO : Hid (∀ (j : Nat) (d : Ms), j < k + 1 → l[j]? = some d → sameN id n d = false) := by
          intro j d hj hd
          by_cases e : j = k
          · subst e; rw [he] at hd; cases hd; exact hid
          · exact hno j d (by omega) hd
        clear hno hid he
        go_wp2_with fail
        go_roundw
        case rel => exact ⟨k + 1, by omega, by go_num, HNO.out, ht.alloc _⟩
        case measure => simp [intOf]; omega
    · have hkN : k = N := by omega
      have HF : Hid (om = none) := by
        show _ = _
        rw [HM.out]
        unfold mapN
        have : l.find? (sameN id n) = none := by
          rw [List.find?_eq_none]
          intro d hd e
          obtain ⟨j, hj⟩ := List.getElem?_of_mem hd
          rw [hno j d (by have := (List.getElem?_eq_some_iff.1 hj).1; have := HN.out; omega) hj] at e
          cases e
        rw [this]; rfl
      clear hno
      go_wp2_with fail
      have hR2 := struct_set3 hRr (.int .u16 (id : Int)) (.int .i64 (n : Int)) (.map none)
      have q0 := (hR2.2 0 _ rfl).1
      have q1 := (hR2.2 1 _ rfl).1
      have q2 := (hR2.2 2 _ rfl).1
      refine bodyPost_ret (v := .agg #[.int .u16 (id : Int), .int .i64 (n : Int), .map none]) (by simp [results, Try.results24, go_sem, q0, q1, q2]) rfl ⟨by rw [HF.out], ?_⟩
      exact Turned.trans (S' := [B + 1]) hTw (set3 wr (B + 1) _ _ _) (by intro x hx hl; simp at hx; have := HBW.out; omega)
end FgW
end Go.Proofs.Ytkjlbginggppaaa

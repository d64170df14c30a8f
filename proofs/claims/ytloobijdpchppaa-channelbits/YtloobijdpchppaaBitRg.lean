/- What the reference's reader of bits answers, as a call (BtG). -/
import Derived.Test.YtloobijdpchppaaBitRf
namespace Go.Proofs.Ytloobijdpchppaa
open Go.RowKit
set_option linter.unusedVariables false

namespace BtG
open BtR (RB)
open BtW (int_ret puts)
theorem bool_ret {a b : Bool} {p : Prop} (h : a = b) (hp : p) : Ending.returned (.bool a) = .returned (.bool b) ∧ p := by rw [h]; exact ⟨rfl, hp⟩
theorem puts_eight {y : Int} (h0 : 0 ≤ y) : puts y.toNat 8 = Bt.bits y.toNat 8 := by unfold puts; rw [if_pos (by omega)]; rfl
theorem unpack_next {bs : List Nat} {k y : Nat} (h : bs[k]? = some y) : Bt.unpack (bs.take (k + 1)) = Bt.unpack (bs.take k) ++ Bt.bits y 8 := by
  rw [List.take_add_one, h, Bt.unpack_append]
  simp [Bt.unpack]

set_option maxHeartbeats 1000000 in
theorem of_any (oa : Option Addr) (cap : Nat) (bs : List Nat) (w : World) (hr : RowOf 1 byEnc oa bs w) (hl : bs.length ≤ 4294967296) (hb : ∀ b ∈ bs, b < 256) :
    Calls Try.prog 46 #[.slice oa bs.length cap] w fun e w' => ∃ v', e = .returned v' ∧ OwnL 4 1 bEnc v' (Bt.unpack bs) w' ∧ Turned [] w w' ∧ ∀ k ∈ blk v', w.heap.size ≤ k := by
  have h0 := RBits.new 4 w 58
  have hT0 : Turned [] w (w.alloc (.cells #[.slice none 0 0] 58)) := (Turned.refl [] w).alloc _
  go_enter Try.func46, Try.ntmps46
  go_wp2_with fail
  go_loopw [4] (fun i wr => ∃ (k : Nat) (F' : List Nat), k ≤ bs.length ∧ i = .int .i64 (k : Int) ∧ RB w.heap.size (Bt.unpack (bs.take k)) F' wr ∧ Turned [] w wr ∧ ∀ k ∈ F', w.heap.size ≤ k) (fun i _ => bs.length - (intOf i).toNat)
  case atStart => exact ⟨0, [w.heap.size], by omega, rfl, h0, hT0, by simp⟩
  case round =>
    obtain ⟨k, F1, hk, rfl, hrb, hT, hnew⟩ := hrel
    clear h0 hT0
    by_cases hlt : (k : Int) < (bs.length : Int)
    · have hkl : k < bs.length := by omega
      obtain ⟨g, off, rfl, hg, hc⟩ := (hr.turned hT (by simp)) k _ (List.getElem?_eq_getElem hkl)
      have e0 := hc 0 _ rfl
      rw [Nat.mul_one, Nat.add_zero] at e0
      have hyb := hb _ (List.getElem_mem hkl)
      have HN : Hid (Bt.unpack (bs.take (k + 1)) = Bt.unpack (bs.take k) ++ Bt.bits bs[k] 8) := unpack_next (List.getElem?_eq_getElem hkl)
      obtain ⟨y, hy⟩ : ∃ y, y = bs[k] := ⟨_, rfl⟩
      rw [← hy] at HN hyb e0
      clear hy hc
      have hul : (Bt.unpack (bs.take k)).length ≤ 549755813888 := by rw [Bt.unpack_length, List.length_take]; omega
      have kp := BtR.put_any w.heap.size _ F1 (y : Int) 8 (by omega) (by omega) wr hrb hul
      rw [puts_eight (by omega), Int.toNat_natCast] at kp
      clear hul
      go_wp2_with (go_at_call 40; with_reducible refine kp.mono ?_; rintro e w2 ⟨rfl, F2, hrb2, hmv2⟩)
      go_roundw
      case rel =>
        have hs := hT.size
        exact ⟨k + 1, F2, by omega, by go_num, by rw [HN.out]; exact hrb2, hT.trans hmv2.1 (fun k hk hl => by have := hnew k hk; omega), hmv2.ge hs hnew⟩
      case measure => simp [intOf]; omega
    · have hk' : k = bs.length := by omega
      subst hk'
      rw [List.take_length] at hrb
      obtain ⟨v, hs, ho, rfl, hn⟩ := hrb
      have c0 := (hs.2 0 _ rfl).1
      go_wp2_with fail
      go_ret
      exact ⟨v, rfl, ho, hT, fun k hk => hnew k (List.mem_cons_of_mem _ hk)⟩

set_option maxHeartbeats 1000000 in
theorem new_any (oa : Option Addr) (cap : Nat) (bs : List Nat) (w : World) (hr : RowOf 1 byEnc oa bs w) (hl : bs.length ≤ 4294967296) (hb : ∀ b ∈ bs, b < 256) :
    Calls Try.prog 26 #[.slice oa bs.length cap] w fun e w' => ∃ p v, e = .returned (.pointer (some ⟨p, 0, none⟩)) ∧ RRd p v ⟨Bt.unpack bs, 0, false⟩ w' ∧ Turned [] w w' ∧ w.heap.size ≤ p ∧ ∀ k ∈ rblk v, w.heap.size ≤ k := by
  have kc := of_any oa cap bs w hr hl hb
  have hul : (Bt.unpack bs).length ≤ 4294967296 * 8 := by rw [Bt.unpack_length]; omega
  have HU : Hid ((Bt.unpack bs).length ≤ 4294967296 * 8) := hul
  clear hul
  go_enter Try.func26, Try.ntmps26
  go_wp2_with (go_at_call 46; with_reducible refine kc.mono ?_; rintro e w1 ⟨v', rfl, ho1, ht1, hb1⟩; obtain ⟨ob, cb, rfl, hcb, _, hr1, _⟩ := ho1.rowOf bEnc_len)
  go_ret
  have hlt := ho1.lt
  have hT : Turned [] w1 (w1.alloc (.cells #[.slice ob (Bt.unpack bs).length cb, .int .i64 0, .bool false] 102)) := (Turned.refl [] w1).alloc _
  refine ⟨w1.heap.size, .slice ob (Bt.unpack bs).length cb, rfl, ⟨Struct.new w1 [_, _, _] _, ⟨ob, cb, rfl, hcb, hr1.turned hT (by simp), ?_⟩, Nat.zero_le _, HU.out⟩, ht1.trans hT (fun k hk _ => hk), ht1.size, ?_⟩
  · intro a ha
    subst ha
    have := hlt a.block (by simp [blk, Value.ownBlock])
    exact ⟨Nat.ne_of_lt this, Nat.lt_of_lt_of_le this hT.size⟩
  · intro k hk
    cases ob with
    | none => simp [rblk] at hk
    | some a =>
      simp [rblk] at hk
      subst hk
      exact hb1 a.block (by simp [blk, Value.ownBlock])

theorem drewN_turned (w : World) (n : Nat) : Turned [] w (w.drewN n) := ⟨rfl, rfl, rfl, Nat.le_refl _, fun _ _ _ => rfl⟩
theorem left_eq {r : Bt.Rd} (hw : r.wf) : ((r.left : Nat) : Int) = (r.l.length : Int) - (r.at_ : Int) := by
  unfold Bt.Rd.wf at hw
  unfold Bt.Rd.left
  omega

/-- a reader's second and third cells are written -/
theorem Rd_at {p : Nat} {v : Value} {r r' : Bt.Rd} {w w' : World} (h : RRd p v r w) (hl : r'.l = r.l) (hw : r'.wf) (hs : Struct p [v, .int .i64 (r'.at_ : Int), .bool r'.fail] w') (ht : Turned [p] w w') : RRd p v r' w' := by
  obtain ⟨_, ⟨oa, cap, rfl, hcap, hr, hd⟩, h2, h3⟩ := h
  exact ⟨hs, ⟨oa, cap, by rw [hl], by rw [hl]; exact hcap, by rw [hl]; exact hr.turned ht fun a ha => by have := (hd a ha).1; simp; exact this, fun a ha => ⟨(hd a ha).1, Nat.lt_of_lt_of_le (hd a ha).2 ht.size⟩⟩, hw, by rw [hl]; exact h3⟩
theorem fails {p : Nat} {v : Value} {r : Bt.Rd} {w w1 : World} (h : RRd p v r w) (ht : Turned [] w w1) : RRd p v ⟨r.l, r.at_, true⟩ (w1.setCell ⟨p, 2, none⟩ (.bool true)) ∧ Turned [p] w (w1.setCell ⟨p, 2, none⟩ (.bool true)) := by
  have h1 := h.keep ht (by simp) (by simp)
  have hT : Turned [p] w1 (w1.setCell ⟨p, 2, none⟩ (.bool true)) := (Turned.refl [p] w1).setCell (p := ⟨p, 2, none⟩) (.inl (by simp)) _
  exact ⟨Rd_at h1 rfl h.2.2.1 (h1.1.set (i := 2) (by simp) _) hT, (ht.mono (S' := [p]) (by simp)).trans hT (fun k hk _ => hk)⟩
theorem moves {p : Nat} {v : Value} {r : Bt.Rd} {w w1 : World} {n : Nat} (h : RRd p v r w) (ht : Turned [] w w1) (hn : n ≤ r.l.length) : RRd p v ⟨r.l, n, r.fail⟩ (w1.setCell ⟨p, 1, none⟩ (.int .i64 (n : Int))) ∧ Turned [p] w (w1.setCell ⟨p, 1, none⟩ (.int .i64 (n : Int))) := by
  have h1 := h.keep ht (by simp) (by simp)
  have hT : Turned [p] w1 (w1.setCell ⟨p, 1, none⟩ (.int .i64 (n : Int))) := (Turned.refl [p] w1).setCell (p := ⟨p, 1, none⟩) (.inl (by simp)) _
  exact ⟨Rd_at h1 rfl hn (h1.1.set (i := 1) (by simp) _) hT, (ht.mono (S' := [p]) (by simp)).trans hT (fun k hk _ => hk)⟩

set_option maxHeartbeats 2000000 in
theorem take_no (p : Nat) (v : Value) (r : Bt.Rd) (n : Int) (w : World) (h : RRd p v r w) (hc : ¬ r.can n = true) :
    Calls Try.prog 45 #[.pointer (some ⟨p, 0, none⟩), .int .i64 n] w fun e w' => e = .returned (.int .u64 0) ∧ RRd p v ⟨r.l, r.at_, true⟩ w' ∧ Turned [p] w w' := by
  have hfl := fun w1 (ht : Turned [] w w1) => fails h ht
  have hle := left_eq h.2.2.1
  have hwf : r.at_ ≤ r.l.length := h.2.2.1
  have hm := h.2.2.2
  rw [Bt.Rd.can_iff] at hc
  obtain ⟨hs, ⟨oa, cap, rfl, hcap, hr, hd⟩, _, _⟩ := h
  have c0 := (hs.2 0 _ rfl).1
  have c1 := (hs.2 1 _ rfl).1
  have c2 := (hs.2 2 _ rfl).1
  have f2 := (hs.2 2 _ rfl).2
  clear hs hr hd
  by_cases hf : r.fail = true
  · rw [hf] at c2
    clear hc
    go_enter Try.func45, Try.ntmps45
    go_wp2_with fail
    go_quiet (fail)
    go_wp2
    go_ret
    exact ⟨rfl, hfl _ (drewN_turned _ _)⟩
  · have hf' : r.fail = false := by simpa using hf
    rw [hf'] at c2
    by_cases h0 : n < 0
    · have d0 : decide (n < 0) = true := by simpa using h0
      clear hc
      go_enter Try.func45, Try.ntmps45
      go_wp2_with fail
      go_quiet (fail)
      go_wp2
      go_ret
      exact ⟨rfl, hfl _ (drewN_turned _ _)⟩
    · have d0 : decide (n < 0) = false := by simpa using h0
      by_cases h64 : 64 < n
      · have d1 : decide (64 < n) = true := by simpa using h64
        clear hc
        go_enter Try.func45, Try.ntmps45
        go_wp2_with fail
        go_quiet (fail)
        go_wp2
        go_ret
        exact ⟨rfl, hfl _ (drewN_turned _ _)⟩
      · have hn : (r.l.length : Int) - (r.at_ : Int) < n := by
          by_cases h : n ≤ (r.left : Int)
          · exact absurd ⟨hf', by omega, by omega, h⟩ hc
          · omega
        have d1 : decide (64 < n) = false := by simpa using h64
        have d2 : decide ((r.l.length : Int) - (r.at_ : Int) < n) = true := by simpa using hn
        clear hc hle
        go_enter Try.func45, Try.ntmps45
        go_wp2_with fail
        go_quiet (fail)
        go_wp2
        go_ret
        exact ⟨rfl, hfl _ (drewN_turned _ _)⟩

theorem val_next {l : List Bool} {b : Bool} {d : Nat} (h : l[d]? = some b) : Bt.val (l.take (d + 1)) = Bt.val (l.take d) + 2 ^ d * b.toNat := by
  have hd : d < l.length := (List.getElem?_eq_some_iff.1 h).1
  rw [List.take_add_one, h, show (some b).toList = [b] from rfl, Bt.val_snoc, List.length_take, Nat.min_eq_left (by omega)]
theorem pow_wrap {k : Nat} (h : k < 64) : (2 ^ k) % 18446744073709551616 = 2 ^ k ∧ 2 ^ k ≤ 9223372036854775808 := by
  have hp : 2 ^ k ≤ 2 ^ 63 := Nat.pow_le_pow_right (by omega) (by omega)
  have hp' : 2 ^ k ≤ 9223372036854775808 := hp
  exact ⟨Nat.mod_eq_of_lt (by omega), hp'⟩
theorem pow_step {k : Nat} (h : k < 64) : ((2 ^ (k + 1) % 18446744073709551616 : Nat) : Int) = (2 ^ k : Nat) * 2 % 18446744073709551616 := by
  rw [Nat.pow_succ]; omega
theorem wrapu (z : Int) : IntKind.u64.wrap z = z % 18446744073709551616 := by simp [IntKind.wrap, IntKind.bits, IntKind.signed]

set_option maxHeartbeats 2000000 in
theorem take_yes (p : Nat) (v : Value) (r : Bt.Rd) (n : Nat) (w : World) (h : RRd p v r w) (hf : r.fail = false) (hn : n ≤ 64) (hnl : n ≤ r.left) :
    Calls Try.prog 45 #[.pointer (some ⟨p, 0, none⟩), .int .i64 (n : Int)] w fun e w' => e = .returned (.int .u64 ((Bt.val (r.rest.take n) : Nat) : Int)) ∧ RRd p v ⟨r.l, r.at_ + n, false⟩ w' ∧ Turned [p] w w' := by
  have hle := left_eq h.2.2.1
  have hwf : r.at_ ≤ r.l.length := h.2.2.1
  have hm := h.2.2.2
  obtain ⟨hs, ⟨oa, cap, rfl, hcap, hr, hd⟩, _, _⟩ := id h
  have c0 := (hs.2 0 _ rfl).1
  have c1 := (hs.2 1 _ rfl).1
  have c2 := (hs.2 2 _ rfl).1
  rw [hf] at c2
  have d0 : decide ((n : Int) < 0) = false := by simp
  have d1 : decide (64 < (n : Int)) = false := by simp; omega
  have d2 : decide ((r.l.length : Int) - (r.at_ : Int) < (n : Int)) = false := by simp; omega
  have hat : r.at_ + n ≤ r.l.length := by omega
  have h00 : RRd p (.slice oa r.l.length cap) ⟨r.l, r.at_ + 0, false⟩ w := by rw [Nat.add_zero, ← hf]; exact h
  clear hs hr hd hle hnl h
  go_enter Try.func45, Try.ntmps45
  go_wp2_with fail
  go_quiet (fail)
  go_wp2_with fail
  generalize decide ((n : Int) < 0) = q0
  generalize decide (64 < (n : Int)) = q1
  generalize decide ((r.l.length : Int) - (r.at_ : Int) < (n : Int)) = q2
  go_loopw [5, 6, 7] (fun x one i wr => ∃ k : Nat, k ≤ n ∧ i = .int .i64 (k : Int) ∧ x = .int .u64 ((Bt.val (r.rest.take k) : Nat) : Int) ∧ one = .int .u64 ((2 ^ k % 18446744073709551616 : Nat) : Int) ∧ RRd p (.slice oa r.l.length cap) ⟨r.l, r.at_ + k, false⟩ wr ∧ Turned [p] w wr) (fun _ _ i _ => n - (intOf i).toNat)
  case atStart => exact ⟨0, by omega, rfl, rfl, rfl, h00.keep (drewN_turned _ _) (by simp) (by simp), (drewN_turned _ _).mono (by simp)⟩
  case round =>
    obtain ⟨k, hk, rfl, rfl, rfl, hR, hT⟩ := hrel
    clear h00 c0 c1 c2
    by_cases hlt : (k : Int) < (n : Int)
    · have hkl : r.at_ + k < r.l.length := by omega
      obtain ⟨b, hb⟩ : ∃ b, r.l[r.at_ + k]? = some b := ⟨_, List.getElem?_eq_getElem hkl⟩
      have hmv := fun w1 (ht : Turned [] wr w1) => moves (n := r.at_ + (k + 1)) hR ht (by show r.at_ + (k + 1) ≤ r.l.length; omega)
      obtain ⟨hs, ⟨oa', cap', hv', hcap', hr, hd⟩, _, _⟩ := id hR
      simp at hv'
      obtain ⟨rfl, rfl⟩ := hv'
      have c0 := (hs.2 0 _ rfl).1
      have c1 := (hs.2 1 _ rfl).1
      have f1 := (hs.2 1 _ rfl).2
      obtain ⟨g, off, rfl, hg, hc⟩ := hr _ _ hb
      have e0 := hc 0 _ rfl
      rw [Nat.mul_one, Nat.add_zero] at e0
      have hgp : g ≠ p := (hd _ rfl).1
      have hrk : r.rest[k]? = some b := by unfold Bt.Rd.rest; rw [List.getElem?_drop]; exact hb
      have HV : Hid (Bt.val (r.rest.take (k + 1)) = Bt.val (r.rest.take k) + 2 ^ k * b.toNat) := val_next hrk
      have hpw := pow_wrap (show k < 64 by omega)
      have HP : Hid (((2 ^ (k + 1) % 18446744073709551616 : Nat) : Int) = (2 ^ k : Nat) * 2 % 18446744073709551616) := pow_step (by omega)
      have hvl : Bt.val (r.rest.take k) < 2 ^ k := by
        have h1 := Bt.val_lt (r.rest.take k)
        have h2 : (r.rest.take k).length ≤ k := by rw [List.length_take]; omega
        exact Nat.lt_of_lt_of_le h1 (Nat.pow_le_pow_right (by omega) h2)
      rw [hpw.1]
      have hy1 := hpw.2
      clear hpw hs hr hd hc hrk
      obtain ⟨x, hx⟩ : ∃ x, x = Bt.val (r.rest.take k) := ⟨_, rfl⟩
      obtain ⟨y, hy⟩ : ∃ y, y = 2 ^ k := ⟨_, rfl⟩
      rw [← hx] at HV hvl ⊢
      rw [← hy] at HV HP hvl hy1 ⊢
      clear hx hy
      cases b
      all_goals
        go_wp2_with fail
        go_region
        go_wp2_with fail
        have HM := hmv wr (Turned.refl _ _)
        have HM1 := HM.1.keep ((Turned.refl [] _).drew) (by simp) (by simp)
        have HM2 := (hT.trans HM.2 (fun k hk _ => hk)).drew
        go_roundw
        case rel => exact ⟨k + 1, by omega, by go_num, by rw [HV.out]; simp, by rw [HP.out, wrapu], HM1, HM2⟩
        case measure => simp [intOf]; omega
    · have hk' : k = n := by omega
      subst hk'
      go_wp2_with fail
      go_ret
      exact ⟨rfl, hR, hT⟩

theorem take_any (p : Nat) (v : Value) (r : Bt.Rd) (n : Int) (w : World) (h : RRd p v r w) :
    Calls Try.prog 45 #[.pointer (some ⟨p, 0, none⟩), .int .i64 n] w fun e w' => e = .returned (.int .u64 ((r.tell n : Nat) : Int)) ∧ RRd p v (r.take n) w' ∧ Turned [p] w w' := by
  by_cases hc : r.can n = true
  · have e1 : r.tell n = Bt.val (r.rest.take n.toNat) := by unfold Bt.Rd.tell; rw [if_pos hc]
    have e2 : r.take n = ⟨r.l, r.at_ + n.toNat, false⟩ := by unfold Bt.Rd.take; rw [if_pos hc]
    rw [e1, e2]
    obtain ⟨hf, h0, h64, hnl⟩ := Bt.Rd.can_iff.1 hc
    obtain ⟨m, rfl⟩ := Int.eq_ofNat_of_zero_le h0
    rw [Int.toNat_natCast]
    exact take_yes p v r m w h hf (by omega) (by omega)
  · have e1 : r.tell n = 0 := by unfold Bt.Rd.tell; rw [if_neg hc]
    have e2 : r.take n = ⟨r.l, r.at_, true⟩ := by unfold Bt.Rd.take; rw [if_neg hc]
    rw [e1, e2]
    exact take_no p v r n w h hc

theorem all_snoc {l : List Bool} {a k : Nat} (hk : a ≤ k) (h : l[k]? = some false) (h0 : ((l.drop a).take (k - a)).all (fun b => !b) = true) : ((l.drop a).take (k + 1 - a)).all (fun b => !b) = true := by
  have e : (l.drop a)[k - a]? = some false := by rw [List.getElem?_drop, show a + (k - a) = k by omega]; exact h
  rw [show k + 1 - a = (k - a) + 1 by omega, List.take_add_one, e, List.all_append, h0]
  rfl
theorem not_all {l : List Bool} {a k : Nat} (hk : a ≤ k) (h : l[k]? = some true) : (l.drop a).all (fun b => !b) = false := by
  have e : (l.drop a)[k - a]? = some true := by rw [List.getElem?_drop, show a + (k - a) = k by omega]; exact h
  rw [List.all_eq_false]
  exact ⟨true, List.mem_of_getElem? e, by simp⟩

end BtG
end Go.Proofs.Ytloobijdpchppaa

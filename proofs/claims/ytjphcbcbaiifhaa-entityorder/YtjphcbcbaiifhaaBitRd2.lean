/- What the program's reader of bits answers, as a call: small numbers, the end, a new one (BtD). -/
import Derived.Test.YtjphcbcbaiifhaaBitRd
import Derived.Test.YtjphcbcbaiifhaaBitSev
import Derived.Laws.DeepNot64
namespace Go.Proofs.Ytjphcbcbaiifhaa
open Go.RowKit
set_option linter.unusedVariables false

namespace BtD
open BtW (int_ret)
set_option maxHeartbeats 400000 in
theorem unfold_any (u : Nat) (hu : u < 18446744073709551616) (w : World) :
    Calls Try.prog 62 #[.int .u64 (u : Int)] w fun e w' => e = .returned (.int .i64 (Bt.zag u)) ∧ w' = w := by
  have ha := BtW.and1 u hu
  have hn := i64_not (u / 2) (by omega)
  by_cases h1 : u % 2 = 1
  · have e : Bt.zag u = -1 - ((u / 2 : Nat) : Int) := by unfold Bt.zag; rw [if_pos h1]; omega
    rw [e]
    rw [h1] at ha
    go_enter Try.func62, Try.ntmps62
    go_wp2
    go_ret
    refine int_ret ?_ rfl
    simpa using hn
  · have e : Bt.zag u = ((u / 2 : Nat) : Int) := by unfold Bt.zag; rw [if_neg h1]
    rw [e]
    rw [show u % 2 = 0 by omega] at ha
    go_enter Try.func62, Try.ntmps62
    go_wp2
    go_ret
    exact int_ret (by simp) rfl

theorem can_of {r : Bt.Rd} {n : Nat} (hf : r.fail = false) (h64 : n ≤ 64) (hn : n ≤ r.left) : r.can (n : Int) = true := by
  rw [Bt.Rd.can_iff]; exact ⟨hf, by omega, by omega, by omega⟩
theorem take_of {r : Bt.Rd} {n : Nat} (hf : r.fail = false) (h64 : n ≤ 64) (hn : n ≤ r.left) : r.take (n : Int) = ⟨r.l, r.at_ + n, false⟩ ∧ r.tell (n : Int) = Bt.val (r.rest.take n) := by
  have hc := can_of hf h64 hn
  unfold Bt.Rd.take Bt.Rd.tell
  rw [if_pos hc, if_pos hc, Int.toNat_natCast]
  exact ⟨rfl, rfl⟩
/-- eight bits are there -/
theorem eight {r : Bt.Rd} (hf : r.fail = false) (h8 : 8 ≤ r.left) :
    r.tell 1 = (r.rest.headD false).toNat ∧ (r.take 1).tell 7 = Bt.val ((r.rest.drop 1).take 7) ∧ (r.take 1).take 7 = ⟨r.l, r.at_ + 8, false⟩ := by
  obtain ⟨t1, t2⟩ := take_of (n := 1) hf (by omega) (by omega)
  have h7 : 7 ≤ (r.take (1 : Nat)).left := by rw [t1]; unfold Bt.Rd.left at *; show 7 ≤ r.l.length - (r.at_ + 1); omega
  obtain ⟨t3, t4⟩ := take_of (r := r.take (1 : Nat)) (n := 7) (by rw [t1]) (by omega) h7
  refine ⟨?_, ?_, ?_⟩
  · refine t2.trans ?_
    have hl := r.rest_length
    cases hr : r.rest with
    | nil => rw [hr] at hl; simp at hl; omega
    | cons b l => simp [Bt.val]
  · refine t4.trans ?_
    rw [t1]
    unfold Bt.Rd.rest
    rw [List.drop_drop]
  · refine t3.trans ?_
    rw [t1]
/-- they are not -/
theorem lacks {r : Bt.Rd} (hf : r.fail = false) (h8 : r.left < 8) : ((r.take 1).take 7).fail = true := by
  by_cases h1 : 1 ≤ r.left
  · obtain ⟨t1, t2⟩ := take_of (n := 1) hf (by omega) h1
    have h7 : ¬ (r.take 1).can 7 = true := by
      rw [Bt.Rd.can_iff, show r.take 1 = _ from t1]
      unfold Bt.Rd.left at *
      rintro ⟨_, _, _, h⟩
      have : r.l.length - (r.at_ + 1) < 7 := by omega
      have h' : (7 : Int) ≤ ((r.l.length - (r.at_ + 1) : Nat) : Int) := h
      omega
    rw [show ∀ q : Bt.Rd, q.take 7 = if q.can 7 then ⟨q.l, q.at_ + (7 : Int).toNat, false⟩ else ⟨q.l, q.at_, true⟩ from fun _ => rfl, if_neg h7]
  · have hc : ¬ r.can 1 = true := by rw [Bt.Rd.can_iff]; omega
    have e : r.take 1 = ⟨r.l, r.at_, true⟩ := by unfold Bt.Rd.take; rw [if_neg hc]
    have h7 : ¬ (r.take 1).can 7 = true := by rw [Bt.Rd.can_iff, e]; simp
    rw [show ∀ q : Bt.Rd, q.take 7 = if q.can 7 then ⟨q.l, q.at_ + (7 : Int).toNat, false⟩ else ⟨q.l, q.at_, true⟩ from fun _ => rfl, if_neg h7]
theorem rest_on {r : Bt.Rd} {l : List Bool} {a j : Nat} (h : r = ⟨l, a + 8 * j, false⟩) : r.rest = (l.drop a).drop (8 * j) ∧ r.rest.drop 8 = (l.drop a).drop (8 * (j + 1)) := by
  subst h
  unfold Bt.Rd.rest
  rw [List.drop_drop, List.drop_drop, List.drop_drop]
  exact ⟨rfl, by congr 1⟩

theorem shl_over {j x : Nat} (h : 18446744073709551616 ≤ 2 ^ (7 * j) * x) : (IntKind.u64.wrap ((x : Int) * 2 ^ (7 * j)) / 2 ^ (7 * j) != (x : Int)) = true := by
  have hp : ((2 ^ (7 * j) : Nat) : Int) = (2 : Int) ^ (7 * j) := by simp
  have h0 : 0 < 2 ^ (7 * j) := Nat.pow_pos (by omega)
  have hw : ∀ y : Int, IntKind.u64.wrap y = y % 18446744073709551616 := fun y => by simp [IntKind.wrap, IntKind.bits, IntKind.signed]
  rw [hw, ← hp]
  have h' : (18446744073709551616 : Int) ≤ (x : Int) * ((2 ^ (7 * j) : Nat) : Int) := by
    have : (18446744073709551616 : Nat) ≤ x * 2 ^ (7 * j) := by rw [Nat.mul_comm]; exact h
    have h2 : ((18446744073709551616 : Nat) : Int) ≤ ((x * 2 ^ (7 * j) : Nat) : Int) := Int.ofNat_le.2 this
    rw [Int.natCast_mul] at h2
    omega
  generalize 2 ^ (7 * j) = c at *
  have hlt : (x : Int) * (c : Int) % 18446744073709551616 / (c : Int) < (x : Int) := by
    apply Int.ediv_lt_of_lt_mul (by omega)
    generalize (x : Int) * (c : Int) = m at *
    omega
  exact bne_iff_ne.2 (Int.ne_of_lt hlt)
theorem shl_in {j x : Nat} (h : ¬ 18446744073709551616 ≤ 2 ^ (7 * j) * x) : IntKind.u64.wrap ((x : Int) * 2 ^ (7 * j)) = ((2 ^ (7 * j) * x : Nat) : Int) ∧ ((2 ^ (7 * j) * x : Nat) : Int) / 2 ^ (7 * j) = (x : Int) := by
  have hp : ((2 ^ (7 * j) : Nat) : Int) = (2 : Int) ^ (7 * j) := by simp
  have h0 : 0 < 2 ^ (7 * j) := Nat.pow_pos (by omega)
  have hw : ∀ y : Int, IntKind.u64.wrap y = y % 18446744073709551616 := fun y => by simp [IntKind.wrap, IntKind.bits, IntKind.signed]
  rw [hw, ← hp]
  generalize 2 ^ (7 * j) = c at *
  have e : (x : Int) * (c : Int) = ((c * x : Nat) : Int) := by rw [Nat.mul_comm]; simp
  rw [e]
  constructor
  · omega
  · have : ((c * x : Nat) : Int) / (c : Int) = ((c * x / c : Nat) : Int) := by simp
    rw [this, Nat.mul_div_cancel_left x h0]
theorem or_high {j x n : Nat} (hn : n < 2 ^ (7 * j)) (h : ¬ 18446744073709551616 ≤ 2 ^ (7 * j) * x) (hn64 : n < 18446744073709551616) : bits .or .u64 (n : Int) ((2 ^ (7 * j) * x : Nat) : Int) = ((n + 2 ^ (7 * j) * x : Nat) : Int) := by
  rw [u64_or_nat n _ hn64 (by omega), Nat.or_comm, ← Nat.two_pow_add_eq_or_of_lt hn, Nat.add_comm]

/-- what sevens answers -/
def Sev (q : Nat) (v : Value) (bs : List Nat) (r : Bt.Rd) (e : Ending) (w' : World) : Prop :=
  (e = .returned (.tuple #[.int .u64 0, .bool false]) ∧ Bt.sev 10 0 0 r.rest = none) ∨
  (∃ u c : Nat, e = .returned (.tuple #[.int .u64 (u : Int), .bool true]) ∧ Bt.sev 10 0 0 r.rest = some (u, c) ∧ PRd q v bs ⟨r.l, r.at_ + 8 * c, false⟩ w') ∨
  (∃ u : Int, e = .returned (.tuple #[.int .u64 u, .bool false]) ∧ Bt.sev 10 0 0 r.rest = none)

set_option maxHeartbeats 2000000 in
theorem sevens_any (q : Nat) (v : Value) (bs : List Nat) (r : Bt.Rd) (w : World) (h : PRd q v bs r w) (hf : r.fail = false) :
    Calls Try.prog 61 #[.pointer (some ⟨q, 0, none⟩)] w fun e w' => Sev q v bs r e w' ∧ Turned [q] w w' := by
  go_enter Try.func61, Try.ntmps61
  go_wp2_with fail
  go_loopw [4, 5] (fun nv s wr => ∃ j n : Nat, j ≤ 10 ∧ n < 2 ^ (7 * j) ∧ n < 18446744073709551616 ∧ s = .int .i64 ((7 * j : Nat) : Int) ∧ nv = .int .u64 (n : Int) ∧ PRd q v bs ⟨r.l, r.at_ + 8 * j, false⟩ wr ∧ Turned [q] w wr ∧ Bt.sev 10 0 0 r.rest = Bt.sev (10 - j) j n (r.rest.drop (8 * j))) (fun _ s _ => 70 - (intOf s).toNat)
  case atStart => exact ⟨0, 0, by omega, by decide, by omega, rfl, rfl, by rw [Nat.mul_zero, Nat.add_zero, ← hf]; exact h, Turned.refl _ _, by simp⟩
  case round =>
    obtain ⟨j, n, hj, hn, hn64, rfl, rfl, hP, hT, hS⟩ := hrel
    obtain ⟨rj, hrj⟩ : ∃ rj, rj = (⟨r.l, r.at_ + 8 * j, false⟩ : Bt.Rd) := ⟨_, rfl⟩
    obtain ⟨hr0, hr1⟩ := rest_on hrj
    have hfj : rj.fail = false := by rw [hrj]
    rw [← hrj] at hP
    have HS : Hid (Bt.sev 10 0 0 r.rest = Bt.sev (10 - j) j n rj.rest) := by rw [hr0]; exact hS
    clear hS h
    by_cases hlt : j < 10
    · have k1 := take_any q v bs rj 1 wr hP
      have k2 := fun w2 (h2 : PRd q v bs (rj.take 1) w2) => take_any q v bs (rj.take 1) 7 w2 h2
      have k3 := fun w2 (h2 : PRd q v bs ((rj.take 1).take 7) w2) => ok_any q v _ _ w2 h2.1
      have hj7 : 7 * j < 64 := by omega
      have hj7' : ((7 * j : Nat) : Int) < 64 := by omega
      by_cases h8 : rj.left < 8
      · have hlk := lacks hfj h8
        rw [hlk] at k3
        have HN : Hid (Bt.sev 10 0 0 r.rest = none) := by show _ = _; rw [HS.out]; exact Bt.sev_short (by rw [Bt.Rd.rest_length]; exact h8)
        go_wp2_with (first | (go_at_call 58; with_reducible refine k1.mono ?_; rintro e w2 ⟨rfl, hP2, hT2⟩) | (go_at_call 58; with_reducible refine (k2 w2 hP2).mono ?_; rintro e w3 ⟨rfl, hP3, hT3⟩) | (go_at_call 53; with_reducible refine (k3 w3 hP3).mono ?_; rintro e w4 ⟨rfl, rfl⟩))
        go_ret2
        exact ⟨.inl ⟨rfl, HN.out⟩, (hT.trans hT2 (fun k hk _ => hk)).trans hT3 (fun k hk _ => hk)⟩
      · obtain ⟨t1, t2, t3⟩ := eight hfj (by omega)
        obtain ⟨b, hb⟩ : ∃ b, b = rj.rest.headD false := ⟨_, rfl⟩
        obtain ⟨x, hx⟩ : ∃ x, x = Bt.val ((rj.rest.drop 1).take 7) := ⟨_, rfl⟩
        have hx128 : x < 128 := by
          rw [hx]
          have := Bt.val_lt ((rj.rest.drop 1).take 7)
          rw [List.length_take, List.length_drop, Bt.Rd.rest_length, Nat.min_eq_left (by omega)] at this
          exact this
        have hlen : ¬ rj.rest.length < 8 := by rw [Bt.Rd.rest_length]; omega
        have hS2 : Bt.sev 10 0 0 r.rest = if 18446744073709551616 ≤ 2 ^ (7 * j) * x then none else if b then Bt.sev (10 - (j + 1)) (j + 1) (n + 2 ^ (7 * j) * x) (r.rest.drop (8 * (j + 1))) else if x ≠ 0 ∨ j = 0 then some (n + 2 ^ (7 * j) * x, j + 1) else none := by
          rw [HS.out, show 10 - j = (10 - (j + 1)) + 1 by omega]
          show (if rj.rest.length < 8 then none else if 18446744073709551616 ≤ 2 ^ (7 * j) * Bt.val ((rj.rest.drop 1).take 7) then none else if rj.rest.headD false then Bt.sev (10 - (j + 1)) (j + 1) (n + 2 ^ (7 * j) * Bt.val ((rj.rest.drop 1).take 7)) (rj.rest.drop 8) else if Bt.val ((rj.rest.drop 1).take 7) ≠ 0 ∨ j = 0 then some (n + 2 ^ (7 * j) * Bt.val ((rj.rest.drop 1).take 7), j + 1) else none) = _
          rw [if_neg hlen, ← hx, ← hb, hr1]
          rfl
        rw [t1, ← hb] at k1
        rw [t2, ← hx, t3] at k2
        rw [t3] at k3
        have hk3 : ∀ (w2 : World), PRd q v bs ⟨rj.l, rj.at_ + 8, false⟩ w2 → Calls Try.prog 53 #[.pointer (some ⟨q, 0, none⟩)] w2 fun e w' => e = .returned (.bool true) ∧ w' = w2 := k3
        have hrl : rj.l = r.l := by rw [hrj]
        have hra : rj.at_ + 8 = r.at_ + 8 * (j + 1) := by rw [hrj]; show r.at_ + 8 * j + 8 = _; omega
        have HS2 : Hid (Bt.sev 10 0 0 r.rest = if 18446744073709551616 ≤ 2 ^ (7 * j) * x then none else if b then Bt.sev (10 - (j + 1)) (j + 1) (n + 2 ^ (7 * j) * x) (r.rest.drop (8 * (j + 1))) else if x ≠ 0 ∨ j = 0 then some (n + 2 ^ (7 * j) * x, j + 1) else none) := hS2
        rw [hrl, hra] at k2 hk3
        clear hS2 HS t1 t2 t3 hrl hra hx hb hr0 hr1 hrj hlen k3 hfj h8
        by_cases hov : 18446744073709551616 ≤ 2 ^ (7 * j) * x
        · have hsh := shl_over (j := j) (x := x) hov
          have HN : Hid (Bt.sev 10 0 0 r.rest = none) := by show _ = _; rw [HS2.out, if_pos hov]
          clear HS2 hov hn
          go_wp2_with (first | (go_at_call 58; with_reducible refine k1.mono ?_; rintro e w2 ⟨rfl, hP2, hT2⟩) | (go_at_call 58; with_reducible refine (k2 w2 hP2).mono ?_; rintro e w3 ⟨rfl, hP3, hT3⟩) | (go_at_call 53; with_reducible refine (hk3 w3 hP3).mono ?_; rintro e w4 ⟨rfl, rfl⟩))
          go_ret2
          exact ⟨.inl ⟨rfl, HN.out⟩, (hT.trans hT2 (fun k hk _ => hk)).trans hT3 (fun k hk _ => hk)⟩
        · obtain ⟨hw, hdv⟩ := shl_in (j := j) (x := x) hov
          have hor := or_high (x := x) hn hov hn64
          have hS3 := HS2.out
          rw [if_neg hov] at hS3
          have hsum : n + 2 ^ (7 * j) * x < 18446744073709551616 := by
            by_cases hh : n + 2 ^ (7 * j) * x < 18446744073709551616
            · exact hh
            · exact absurd ((Bt.top (show j ≤ 9 by omega) hn).2 hh) hov
          have HB : Hid (n + 2 ^ (7 * j) * x < 2 ^ (7 * (j + 1))) := by
            show _ < _
            rw [show 7 * (j + 1) = 7 * j + 7 by omega, Nat.pow_add]
            have h1 : x + 1 ≤ 128 := by omega
            have h2 := Nat.mul_le_mul_left (2 ^ (7 * j)) h1
            rw [Nat.mul_add, Nat.mul_one] at h2
            omega
          clear HS2 hov hn
          obtain ⟨Y, hY⟩ : ∃ Y, Y = 2 ^ (7 * j) * x := ⟨_, rfl⟩
          rw [← hY] at hw hdv hor hS3 hsum HB
          have HYd : Hid (Y = 2 ^ (7 * j) * x) := hY
          clear hY
          have HS3 : Hid (Bt.sev 10 0 0 r.rest = if b then Bt.sev (10 - (j + 1)) (j + 1) (n + Y) (r.rest.drop (8 * (j + 1))) else if x ≠ 0 ∨ j = 0 then some (n + Y, j + 1) else none) := hS3
          clear hS3
          cases b with
          | true =>
            have hk1 : Calls Try.prog 58 #[.pointer (some ⟨q, 0, none⟩), .int .i64 1] wr fun e w' => e = .returned (.int .u64 1) ∧ PRd q v bs (rj.take 1) w' ∧ Turned [q] wr w' := k1
            clear k1
            go_wp2_with (first | (go_at_call 58; with_reducible refine hk1.mono ?_; rintro e w2 ⟨rfl, hP2, hT2⟩) | (go_at_call 58; with_reducible refine (k2 w2 hP2).mono ?_; rintro e w3 ⟨rfl, hP3, hT3⟩) | (go_at_call 53; with_reducible refine (hk3 w3 hP3).mono ?_; rintro e w4 ⟨rfl, rfl⟩))
            go_roundw
            case rel => exact ⟨j + 1, n + Y, by omega, HB.out, by omega, by go_num, by go_num, hP3, (hT.trans hT2 (fun k hk _ => hk)).trans hT3 (fun k hk _ => hk), HS3.out⟩
            case measure => simp [intOf]; omega
          | false =>
            have hk1 : Calls Try.prog 58 #[.pointer (some ⟨q, 0, none⟩), .int .i64 1] wr fun e w' => e = .returned (.int .u64 0) ∧ PRd q v bs (rj.take 1) w' ∧ Turned [q] wr w' := k1
            clear k1
            by_cases hx0 : x = 0
            · by_cases hj0 : j = 0
              · have HE : Hid (Bt.sev 10 0 0 r.rest = some (n + Y, j + 1)) := by show _ = _; rw [HS3.out]; simp [hj0]
                have hjz : (7 * (j : Int) == 0) = true := by simp; omega
                have hY0 : Y = 0 := by rw [HYd.out, hx0]; simp
                have E0 : Hid (bits .or .u64 (n : Int) 0 = ((n + Y : Nat) : Int)) := by show _ = _; rw [hY0] at hor ⊢; exact hor
                clear hY0
                clear HS3 hdv
                go_wp2_with (first | (go_at_call 58; with_reducible refine hk1.mono ?_; rintro e w2 ⟨rfl, hP2, hT2⟩) | (go_at_call 58; with_reducible refine (k2 w2 hP2).mono ?_; rintro e w3 ⟨rfl, hP3, hT3⟩) | (go_at_call 53; with_reducible refine (hk3 w3 hP3).mono ?_; rintro e w4 ⟨rfl, rfl⟩))
                go_ret2
                exact ⟨.inr (.inl ⟨n + Y, j + 1, congrArg (fun z => Ending.returned (.tuple #[.int .u64 z, .bool true])) E0.out, HE.out, hP3⟩), (hT.trans hT2 (fun k hk _ => hk)).trans hT3 (fun k hk _ => hk)⟩
              · have HE : Hid (Bt.sev 10 0 0 r.rest = none) := by show _ = _; rw [HS3.out]; simp [hx0, hj0]
                have hjz : (7 * (j : Int) == 0) = false := by simp; omega
                clear HS3 hdv
                go_wp2_with (first | (go_at_call 58; with_reducible refine hk1.mono ?_; rintro e w2 ⟨rfl, hP2, hT2⟩) | (go_at_call 58; with_reducible refine (k2 w2 hP2).mono ?_; rintro e w3 ⟨rfl, hP3, hT3⟩) | (go_at_call 53; with_reducible refine (hk3 w3 hP3).mono ?_; rintro e w4 ⟨rfl, rfl⟩))
                go_ret2
                exact ⟨.inr (.inr ⟨_, rfl, HE.out⟩), (hT.trans hT2 (fun k hk _ => hk)).trans hT3 (fun k hk _ => hk)⟩
            · have HE : Hid (Bt.sev 10 0 0 r.rest = some (n + Y, j + 1)) := by show _ = _; rw [HS3.out]; simp [hx0]
              clear HS3
              go_wp2_with (first | (go_at_call 58; with_reducible refine hk1.mono ?_; rintro e w2 ⟨rfl, hP2, hT2⟩) | (go_at_call 58; with_reducible refine (k2 w2 hP2).mono ?_; rintro e w3 ⟨rfl, hP3, hT3⟩) | (go_at_call 53; with_reducible refine (hk3 w3 hP3).mono ?_; rintro e w4 ⟨rfl, rfl⟩))
              go_ret2
              exact ⟨.inr (.inl ⟨n + Y, j + 1, rfl, HE.out, hP3⟩), (hT.trans hT2 (fun k hk _ => hk)).trans hT3 (fun k hk _ => hk)⟩
    · have hj10 : j = 10 := by omega
      subst hj10
      have HN : Hid (Bt.sev 10 0 0 r.rest = none) := HS.out
      go_wp2_with fail
      go_ret2
      exact ⟨.inl ⟨rfl, HN.out⟩, hT⟩

/-- all three cells are written -/
theorem rewrote {p : Nat} {v : Value} {bs : List Nat} {r r' : Bt.Rd} {w w2 : World} (h : PRd p v bs r w2) (ht : Turned [] w w2) (hl : r'.l = r.l) (hw : r'.wf) :
    PRd p v bs r' (((w2.setCell ⟨p, 0, none⟩ v).setCell ⟨p, 1, none⟩ (.int .i64 (r'.at_ : Int))).setCell ⟨p, 2, none⟩ (.bool r'.fail)) ∧ Turned [p] w (((w2.setCell ⟨p, 0, none⟩ v).setCell ⟨p, 1, none⟩ (.int .i64 (r'.at_ : Int))).setCell ⟨p, 2, none⟩ (.bool r'.fail)) := by
  have hT : Turned [p] w2 (((w2.setCell ⟨p, 0, none⟩ v).setCell ⟨p, 1, none⟩ (.int .i64 (r'.at_ : Int))).setCell ⟨p, 2, none⟩ (.bool r'.fail)) :=
    (((Turned.refl [p] w2).setCell (p := ⟨p, 0, none⟩) (.inl (by simp)) _).setCell (p := ⟨p, 1, none⟩) (.inl (by simp)) _).setCell (p := ⟨p, 2, none⟩) (.inl (by simp)) _
  exact ⟨Rd_at h hl hw (((h.1.set (i := 0) (by simp) v).set (i := 1) (by simp) (.int .i64 (r'.at_ : Int))).set (i := 2) (by simp) (.bool r'.fail)) hT, (ht.mono (S' := [p]) (by simp)).trans hT (fun k hk _ => hk)⟩
/-- the small numbers of a reader that has not failed -/
theorem st_none {r : Bt.Rd} (hf : r.fail = false) (h : Bt.sev 10 0 0 r.rest = none) : r.sTell = 0 ∧ r.sTake = ⟨r.l, r.at_, true⟩ := by
  have e : Bt.small r.rest = none := by rw [Bt.small_sev, h]; rfl
  unfold Bt.Rd.sTell Bt.Rd.sTake
  rw [hf, e]
  exact ⟨rfl, rfl⟩
theorem st_some {r : Bt.Rd} {u c : Nat} (hf : r.fail = false) (h : Bt.sev 10 0 0 r.rest = some (u, c)) : r.sTell = Bt.zag u ∧ r.sTake = ⟨r.l, r.at_ + 8 * c, false⟩ := by
  have e : Bt.small r.rest = some (Bt.zag u, 8 * c) := by rw [Bt.small_sev, h]; rfl
  unfold Bt.Rd.sTell Bt.Rd.sTake
  rw [hf, e]
  exact ⟨rfl, rfl⟩

set_option maxHeartbeats 2000000 in
theorem small_any (p : Nat) (v : Value) (bs : List Nat) (r : Bt.Rd) (w : World) (h : PRd p v bs r w) :
    Calls Try.prog 59 #[.pointer (some ⟨p, 0, none⟩)] w fun e w' => e = .returned (.int .i64 r.sTell) ∧ PRd p v bs r.sTake w' ∧ Turned [p] w w' := by
  have kok := ok_any p v _ r.fail w h.1
  by_cases hf : r.fail = true
  · have e1 : r.sTell = 0 := by unfold Bt.Rd.sTell; rw [if_pos hf]
    have e2 : r.sTake = r := by unfold Bt.Rd.sTake; rw [if_pos hf]
    rw [e1, e2]
    rw [hf] at kok
    go_enter Try.func59, Try.ntmps59
    go_wp2_with (go_at_call 53; refine kok.mono ?_; rintro e w' ⟨rfl, rfl⟩)
    go_ret
    exact ⟨rfl, h, Turned.refl _ _⟩
  · have hf' : r.fail = false := by simpa using hf
    rw [hf'] at kok
    have c0 := (h.1.2 0 _ rfl).1
    have c1 := (h.1.2 1 _ rfl).1
    have c2 := (h.1.2 2 _ rfl).1
    rw [hf'] at c2
    have hps := h.1.1
    obtain ⟨oa, cap, rfl, hr, hd⟩ := h.2.1
    have hq : PRd w.heap.size (.slice oa bs.length cap) bs r (w.alloc (.cells #[.slice oa bs.length cap, .int .i64 (r.at_ : Int), .bool false] 74)) := by
      have ht : Turned [] w (w.alloc (.cells #[.slice oa bs.length cap, .int .i64 (r.at_ : Int), .bool false] 74)) := (Turned.refl [] w).alloc _
      refine ⟨?_, ⟨oa, cap, rfl, hr.turned ht (by simp), fun a ha => ⟨Nat.ne_of_lt (hd a ha).2, Nat.lt_of_lt_of_le (hd a ha).2 ht.size⟩⟩, h.2.2⟩
      rw [hf']
      exact Struct.new w [_, _, _] _
    have ksev := sevens_any w.heap.size (.slice oa bs.length cap) bs r _ hq hf'
    have hTw : ∀ w2, Turned [w.heap.size] (w.alloc (.cells #[.slice oa bs.length cap, .int .i64 (r.at_ : Int), .bool false] 74)) w2 → Turned [] w w2 := fun w2 ht => ((Turned.refl [] w).alloc _).trans ht (by intro k hk hl; simp at hk; omega)
    have hfl := fun w1 (ht : Turned [] w w1) => fails h ht
    have hcells := fun w1 (ht : Turned [] w w1) => (h.keep ht (by simp) (by simp)).1
    have hbk := fun w1 (ht : Turned [] w w1) => h.keep ht (by simp) (by simp)
    clear hq hr hd
    go_enter Try.func59, Try.ntmps59
    go_wp2_with (go_at_call 53; refine kok.mono ?_; rintro e w' ⟨rfl, rfl⟩)
    refine ksev.mono ?_
    rintro e w2 ⟨hS, hT⟩
    have ht := hTw w2 hT
    rcases hS with ⟨rfl, hN⟩ | ⟨u, c, rfl, hS, hP2⟩ | ⟨u, rfl, hN⟩
    · obtain ⟨e1, e2⟩ := st_none hf' hN
      have d2 := ((hcells w2 ht).2 2 _ rfl).1
      have f2 := ((hcells w2 ht).2 2 _ rfl).2
      have HF := hfl w2 ht
      clear hcells hfl hbk c0 c1 c2
      simp only []
      go_at_K
      go_wp2
      go_ret
      rw [e1, e2]
      exact ⟨rfl, HF⟩
    · obtain ⟨e1, e2⟩ := st_some hf' hS
      have hu := Bt.sev_lt hS
      have ku := unfold_any u hu
      have d0 := ((hcells w2 ht).2 0 _ rfl).1
      have d1 := ((hcells w2 ht).2 1 _ rfl).1
      have d2 := ((hcells w2 ht).2 2 _ rfl).1
      have f0 := ((hcells w2 ht).2 0 _ rfl).2
      have f1 := ((hcells w2 ht).2 1 _ rfl).2
      have f2 := ((hcells w2 ht).2 2 _ rfl).2
      have g0 := (hP2.1.2 0 _ rfl).1
      have g1 := (hP2.1.2 1 _ rfl).1
      have g2 := (hP2.1.2 2 _ rfl).1
      have HP := hbk w2 ht
      have HW : Hid (PRd w'.heap.size (.slice oa bs.length cap) bs ⟨r.l, r.at_ + 8 * c, false⟩ w2) := hP2
      clear hcells hfl hbk c0 c1 c2 hP2
      simp only []
      go_at_K
      go_wp2_with (go_at_call 62; refine (ku _).mono ?_; rintro e w3 ⟨rfl, rfl⟩)
      go_ret
      rw [e1, e2]
      exact ⟨rfl, rewrote (r' := ⟨r.l, r.at_ + 8 * c, false⟩) HP ht rfl HW.out.2.2.2.1⟩
    · obtain ⟨e1, e2⟩ := st_none hf' hN
      have d2 := ((hcells w2 ht).2 2 _ rfl).1
      have f2 := ((hcells w2 ht).2 2 _ rfl).2
      have HF := hfl w2 ht
      clear hcells hfl hbk c0 c1 c2
      simp only []
      go_at_K
      go_wp2
      go_ret
      rw [e1, e2]
      exact ⟨rfl, HF⟩
theorem small_nil (w : World) :
    Calls Try.prog 59 #[.pointer none] w fun e w' => e = .returned (.int .i64 0) ∧ w' = w := by
  go_enter Try.func59, Try.ntmps59
  go_wp2_with (go_at_call 53; refine (ok_nil _).mono ?_; rintro e w' ⟨rfl, rfl⟩)
  go_ret
  exact ⟨rfl, rfl⟩

theorem all_zero {l : List Bool} : (Bt.val l == 0) = l.all (fun b => !b) := by
  rw [Bool.eq_iff_iff]
  constructor
  · intro h
    have h0 : Bt.val l = 0 := by simpa using h
    rw [Bt.val_eq_zero h0]
    simp
  · intro h
    have : l = List.replicate l.length false := by
      rw [List.eq_replicate_iff]
      refine ⟨rfl, fun b hb => ?_⟩
      have := List.all_eq_true.1 h b hb
      simpa using this
    rw [this, Bt.val_zeros]
    rfl

set_option maxHeartbeats 1000000 in
theorem done_any (p : Nat) (v : Value) (bs : List Nat) (r : Bt.Rd) (w : World) (h : PRd p v bs r w) :
    Calls Try.prog 28 #[.pointer (some ⟨p, 0, none⟩)] w fun e w' => e = .returned (.bool r.done) ∧ Turned [] w w' := by
  have kok := ok_any p v _ r.fail w h.1
  by_cases hf : r.fail = true
  · have e1 : r.done = false := by unfold Bt.Rd.done; rw [hf]; rfl
    rw [e1]
    rw [hf] at kok
    go_enter Try.func28, Try.ntmps28
    go_wp2_with (go_at_call 53; refine kok.mono ?_; rintro e w' ⟨rfl, rfl⟩)
    go_ret
    exact ⟨rfl, Turned.refl _ _⟩
  · have hf' : r.fail = false := by simpa using hf
    rw [hf'] at kok
    have kl := fun w1 (ht : Turned [] w w1) => left_any p v bs r w1 (h.keep ht (by simp) (by simp))
    have ht0 := Turned.refl [] w
    by_cases h8 : (r.left : Int) < 8
    · have e1 : r.done = (((Bt.val r.rest : Nat) : Int) == 0) := by
        unfold Bt.Rd.done
        rw [hf', ← all_zero]
        have : decide (r.left < 8) = true := by simp; omega
        rw [this]
        refine Eq.trans (b := (Bt.val r.rest == 0)) (by simp) (by rw [Bool.eq_iff_iff]; simp)
      have kn := fun w1 (ht : Turned [] w w1) => next_in p v bs r r.left w1 (h.keep ht (by simp) (by simp)) (by omega) (Nat.le_refl _)
      rw [List.take_of_length_le (by rw [Bt.Rd.rest_length]; exact Nat.le_refl _)] at kn
      rw [e1]
      clear e1 h
      go_enter Try.func28, Try.ntmps28
      go_wp2_with (first | (go_at_call 53; with_reducible refine kok.mono ?_; rintro e w' ⟨rfl, rfl⟩) | (go_at_call 26; with_reducible refine (kl _ ht0).mono ?_; rintro e w1 ⟨rfl, ht1⟩) | (go_at_call 26; with_reducible refine (kl _ ht1).mono ?_; rintro e w2 ⟨rfl, ht2'⟩; have ht2 := ht1.trans ht2' (fun k hk _ => hk)) | (go_at_call 54; with_reducible refine (kn _ ht2).mono ?_; rintro e w3 ⟨rfl, rfl⟩))
      go_ret
      exact ⟨rfl, ht2⟩
    · have e1 : r.done = false := by
        unfold Bt.Rd.done
        have : decide (r.left < 8) = false := by simp; omega
        rw [this]
        simp
      rw [e1]
      clear e1 h
      go_enter Try.func28, Try.ntmps28
      go_wp2_with (first | (go_at_call 53; with_reducible refine kok.mono ?_; rintro e w' ⟨rfl, rfl⟩) | (go_at_call 26; with_reducible refine (kl _ ht0).mono ?_; rintro e w1 ⟨rfl, ht1⟩))
      go_ret
      exact ⟨rfl, ht1⟩
theorem done_nil (w : World) :
    Calls Try.prog 28 #[.pointer none] w fun e w' => e = .returned (.bool false) ∧ w' = w := by
  go_enter Try.func28, Try.ntmps28
  go_wp2_with (go_at_call 53; refine (ok_nil _).mono ?_; rintro e w' ⟨rfl, rfl⟩)
  go_ret
  exact ⟨rfl, rfl⟩

set_option maxHeartbeats 1000000 in
theorem new_any (oa : Option Addr) (n cap : Nat) (bs : List Nat) (w : World) (hn : bs.length = n) (hr : RowOf 1 byEnc oa bs w) (hl : n ≤ 4294967296) (hb : ∀ b ∈ bs, b < 256) :
    Calls Try.prog 22 #[.slice oa n cap] w fun e w' => ∃ p v, e = .returned (.pointer (some ⟨p, 0, none⟩)) ∧ PRd p v bs ⟨Bt.unpack bs, 0, false⟩ w' ∧ Turned [] w w' ∧ w.heap.size ≤ p ∧ ∀ k ∈ rblk v, w.heap.size ≤ k := by
  subst hn
  have kc := BtW.clone_any oa bs.length cap bs w rfl hr (by omega)
  go_enter Try.func22, Try.ntmps22
  go_wp2_with (go_at_call 45; with_reducible refine kc.mono ?_; rintro e w1 ⟨v', rfl, ho1, ht1, hb1⟩; obtain ⟨ob, cb, rfl, _, _, hr1, _⟩ := ho1.rowOf byEnc_len)
  go_ret
  have hlt := ho1.lt
  have hT : Turned [] w1 (w1.alloc (.cells #[.slice ob bs.length cb, .int .i64 0, .bool false] 74)) := (Turned.refl [] w1).alloc _
  refine ⟨w1.heap.size, .slice ob bs.length cb, rfl, ⟨Struct.new w1 [_, _, _] _, ⟨ob, cb, rfl, hr1.turned hT (by simp), ?_⟩, rfl, Nat.zero_le _, hb, by omega⟩, ht1.trans hT (fun k hk _ => hk), ht1.size, ?_⟩
  · intro a ha
    subst ha
    have := hlt a.block (by simp [blk, Value.ownBlock])
    exact ⟨Nat.ne_of_lt this, Nat.lt_of_lt_of_le this hT.size⟩
  · intro k hk
    cases ob with
    | none => simp [rblk] at hk
    | some a =>
      simp [rblk] at hk
      subst hk
      exact hb1 a.block (by simp [blk, Value.ownBlock])

end BtD
end Go.Proofs.Ytjphcbcbaiifhaa

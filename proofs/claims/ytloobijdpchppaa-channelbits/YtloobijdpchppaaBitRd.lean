/- What the program's reader of bits answers, as a call (BtD). -/
import Derived.Test.YtloobijdpchppaaBitWr2
namespace Go.Proofs.Ytloobijdpchppaa
open Go.RowKit
set_option linter.unusedVariables false

namespace BtD
open BtW (int_ret)
theorem bool_ret {a b : Bool} {p : Prop} (h : a = b) (hp : p) : Ending.returned (.bool a) = .returned (.bool b) ∧ p := by rw [h]; exact ⟨rfl, hp⟩

set_option maxHeartbeats 400000 in
theorem ok_any (p : Nat) (v n : Value) (f : Bool) (w : World) (hs : Struct p [v, n, .bool f] w) :
    Calls Try.prog 42 #[.pointer (some ⟨p, 0, none⟩)] w fun e w' => e = .returned (.bool (!f)) ∧ w' = w := by
  have c2 := (hs.2 2 _ rfl).1
  go_enter Try.func42, Try.ntmps42
  go_wp2
  go_ret
  exact ⟨rfl, rfl⟩
theorem ok_nil (w : World) :
    Calls Try.prog 42 #[.pointer none] w fun e w' => e = .returned (.bool false) ∧ w' = w := by
  go_enter Try.func42, Try.ntmps42
  go_wp2
  go_ret
  exact ⟨rfl, rfl⟩

theorem left_eq {bs : List Nat} {r : Bt.Rd} (hl : r.l = Bt.unpack bs) (hw : r.wf) : ((r.left : Nat) : Int) = 8 * (bs.length : Int) - (r.at_ : Int) := by
  unfold Bt.Rd.wf at hw
  rw [hl, Bt.unpack_length] at hw
  unfold Bt.Rd.left
  rw [hl, Bt.unpack_length]
  omega

set_option maxHeartbeats 400000 in
theorem left_any (p : Nat) (v : Value) (bs : List Nat) (r : Bt.Rd) (w : World) (h : PRd p v bs r w) :
    Calls Try.prog 54 #[.pointer (some ⟨p, 0, none⟩)] w fun e w' => e = .returned (.int .i64 (r.left : Int)) ∧ Turned [] w w' := by
  obtain ⟨hs, ⟨oa, cap, rfl, hr, hd⟩, hl, hw, hb, hm⟩ := h
  have c0 := (hs.2 0 _ rfl).1
  have c1 := (hs.2 1 _ rfl).1
  rw [left_eq hl hw]
  have h2 : r.at_ ≤ 8 * bs.length := by unfold Bt.Rd.wf at hw; rw [hl, Bt.unpack_length] at hw; exact hw
  clear hl hw hr
  go_enter Try.func54, Try.ntmps54
  go_wp2_with fail
  go_region
  go_wp2
  go_ret
  exact int_ret (by omega) (Turned.refl _ _).drew
theorem left_nil (w : World) :
    Calls Try.prog 54 #[.pointer none] w fun e w' => e = .returned (.int .i64 0) ∧ w' = w := by
  go_enter Try.func54, Try.ntmps54
  go_wp2
  go_ret
  exact ⟨rfl, rfl⟩

theorem and1_8 (y : Nat) (h : y < 256) : bits .and .u8 (y : Int) 1 = ((y % 2 : Nat) : Int) := by
  have := u8_and_nat y 1 h (by omega)
  rw [Nat.and_one_is_mod] at this
  exact this
theorem or_next {x z k : Nat} (hz : z < 2) (hk : k < 64) (hx : x < 2 ^ k) : bits .or .u64 (x : Int) ((z : Int) * 2 ^ k % 18446744073709551616) = ((x + 2 ^ k * z : Nat) : Int) := by
  have hp : 2 ^ k ≤ 2 ^ 63 := Nat.pow_le_pow_right (by omega) (by omega)
  have h2 : ((2 ^ k : Nat) : Int) = (2 : Int) ^ k := by simp
  have e : ((z : Int) * 2 ^ k % 18446744073709551616) = ((2 ^ k * z : Nat) : Int) := by
    have : z = 0 ∨ z = 1 := by omega
    rcases this with rfl | rfl
    · simp
    · rw [Nat.mul_one, show ((1 : Nat) : Int) = 1 from rfl, Int.one_mul, ← h2]
      omega
  have hz2 : 2 ^ k * z < 18446744073709551616 := by
    have : z = 0 ∨ z = 1 := by omega
    rcases this with rfl | rfl
    · simp
    · omega
  rw [e, u64_or_nat x _ (by omega) hz2]
  congr 1
  rw [Nat.or_comm, ← Nat.two_pow_add_eq_or_of_lt hx, Nat.add_comm]
theorem next_eq {x y e k : Nat} (hy : y < 256) (hk : k < 64) (hx : x < 2 ^ k) : bits .or .u64 (x : Int) (IntKind.u64.wrap (IntKind.u64.wrap (bits .and .u8 ((y : Int) / 2 ^ e) 1) * 2 ^ k)) = ((x + 2 ^ k * (y / 2 ^ e % 2) : Nat) : Int) := by
  have h1 : (y : Int) / 2 ^ e = ((y / 2 ^ e : Nat) : Int) := by simp
  have hq : y / 2 ^ e < 256 := Nat.lt_of_le_of_lt (Nat.div_le_self _ _) hy
  rw [h1, and1_8 _ hq]
  have hz : y / 2 ^ e % 2 < 2 := by omega
  generalize y / 2 ^ e % 2 = z at *
  have h2 : IntKind.u64.wrap (z : Int) = (z : Int) := by simp [IntKind.wrap, IntKind.bits, IntKind.signed]; omega
  rw [h2, ← or_next hz hk hx]
  simp [IntKind.wrap, IntKind.bits, IntKind.signed]
theorem rest_next {r : Bt.Rd} {bs : List Nat} {k : Nat} (hl : r.l = Bt.unpack bs) (h : r.at_ + k < 8 * bs.length) : Bt.val (r.rest.take (k + 1)) = Bt.val (r.rest.take k) + 2 ^ k * (bs.getD ((r.at_ + k) / 8) 0 / 2 ^ ((r.at_ + k) % 8) % 2) := by
  have hlen : r.rest.length = 8 * bs.length - r.at_ := by unfold Bt.Rd.rest; rw [List.length_drop, hl, Bt.unpack_length]
  have e := Bt.unpack_at (b := bs) (i := r.at_ + k) h
  have hk : k < r.rest.length := by omega
  have e2 : r.rest[k]? = some (bs.getD ((r.at_ + k) / 8) 0 / 2 ^ ((r.at_ + k) % 8) % 2 == 1) := by
    unfold Bt.Rd.rest
    rw [List.getElem?_drop, hl, ← e]
    simp [List.getD, List.getElem?_eq_getElem (show r.at_ + k < (Bt.unpack bs).length by rw [Bt.unpack_length]; exact h)]
  rw [List.take_add_one, e2, show ∀ b : Bool, (some b).toList = [b] from fun _ => rfl, Bt.val_snoc, List.length_take, Nat.min_eq_left (by omega)]
  generalize bs.getD ((r.at_ + k) / 8) 0 / 2 ^ ((r.at_ + k) % 8) = q
  have : q % 2 = 0 ∨ q % 2 = 1 := by omega
  rcases this with h | h <;> rw [h] <;> rfl

set_option maxHeartbeats 1000000 in
theorem next_in (p : Nat) (v : Value) (bs : List Nat) (r : Bt.Rd) (n : Nat) (w : World) (h : PRd p v bs r w) (hn : n ≤ 64) (hnl : n ≤ r.left) :
    Calls Try.prog 55 #[.pointer (some ⟨p, 0, none⟩), .int .i64 (n : Int)] w fun e w' => e = .returned (.int .u64 ((Bt.val (r.rest.take n) : Nat) : Int)) ∧ w' = w := by
  have hle := left_eq h.2.2.1 h.2.2.2.1
  obtain ⟨hs, ⟨oa, cap, rfl, hr, hd⟩, hl, hw, hb, hm⟩ := h
  have c0 := (hs.2 0 _ rfl).1
  have c1 := (hs.2 1 _ rfl).1
  have hat : r.at_ + n ≤ 8 * bs.length := by omega
  clear hle hnl hw
  go_enter Try.func55, Try.ntmps55
  go_wp2_with fail
  go_loop [5, 10] (fun x i => ∃ k : Nat, k ≤ n ∧ i = .int .i64 (k : Int) ∧ x = .int .u64 ((Bt.val (r.rest.take k) : Nat) : Int)) (fun _ i => n - (intOf i).toNat)
  case atStart => exact ⟨0, by omega, rfl, by simp [Bt.val]⟩
  case round =>
    obtain ⟨k, hk, rfl, rfl⟩ := hrel
    by_cases hlt : (k : Int) < (n : Int)
    · have hak : r.at_ + k < 8 * bs.length := by omega
      have hnext := rest_next hl hak
      have hi : (r.at_ + k) / 8 < bs.length := by omega
      have hi' : ((r.at_ : Int) + (k : Int)) / 8 < (bs.length : Int) := by omega
      obtain ⟨g, off, rfl, hg, hc⟩ := hr ((r.at_ + k) / 8) _ (List.getElem?_eq_getElem hi)
      have e0 := hc 0 _ rfl
      have hyb := hb _ (List.getElem_mem hi)
      have hgd : bs.getD ((r.at_ + k) / 8) 0 = bs[(r.at_ + k) / 8] := by simp [List.getD, List.getElem?_eq_getElem hi]
      rw [hgd] at hnext
      obtain ⟨y, hy⟩ : ∃ y, y = bs[(r.at_ + k) / 8] := ⟨_, rfl⟩
      rw [← hy] at hnext hyb e0
      clear hy hgd hc
      rw [Nat.mul_one, Nat.add_zero] at e0
      have hxl := Bt.val_lt (r.rest.take k)
      have hxk : (r.rest.take k).length ≤ k := by rw [List.length_take]; omega
      have hx : Bt.val (r.rest.take k) < 2 ^ k := Nat.lt_of_lt_of_le hxl (Nat.pow_le_pow_right (by omega) hxk)
      have HX : Hid (Bt.val (r.rest.take k) < 2 ^ k) := hx
      have HN : Hid (Bt.val (r.rest.take (k + 1)) = Bt.val (r.rest.take k) + 2 ^ k * (y / 2 ^ ((r.at_ + k) % 8) % 2)) := hnext
      clear hnext hxl hxk hx
      go_wp2_with fail
      go_round
      case rel => exact ⟨k + 1, by omega, by go_num, by rw [HN.out, next_eq hyb (by omega) HX.out]⟩
      case measure => simp [intOf]; omega
    · have : k = n := by omega
      subst this
      go_wp2_with fail
      go_ret
      exact ⟨rfl, rfl⟩

/-- a reader's second and third cells are written -/
theorem Rd_at {p : Nat} {v : Value} {bs : List Nat} {r r' : Bt.Rd} {w w' : World} (h : PRd p v bs r w) (hl : r'.l = r.l) (hw : r'.wf) (hs : Struct p [v, .int .i64 (r'.at_ : Int), .bool r'.fail] w') (ht : Turned [p] w w') : PRd p v bs r' w' := by
  obtain ⟨_, ⟨oa, cap, rfl, hr, hd⟩, h1, h2, h3⟩ := h
  exact ⟨hs, ⟨oa, cap, rfl, hr.turned ht fun a ha => by have := (hd a ha).1; simp; exact this, fun a ha => ⟨(hd a ha).1, Nat.lt_of_lt_of_le (hd a ha).2 ht.size⟩⟩, by rw [hl]; exact h1, hw, h3⟩
theorem fails {p : Nat} {v : Value} {bs : List Nat} {r : Bt.Rd} {w w1 : World} (h : PRd p v bs r w) (ht : Turned [] w w1) : PRd p v bs ⟨r.l, r.at_, true⟩ (w1.setCell ⟨p, 2, none⟩ (.bool true)) ∧ Turned [p] w (w1.setCell ⟨p, 2, none⟩ (.bool true)) := by
  have h1 := h.keep ht (by simp) (by simp)
  have hT : Turned [p] w1 (w1.setCell ⟨p, 2, none⟩ (.bool true)) := (Turned.refl [p] w1).setCell (p := ⟨p, 2, none⟩) (.inl (by simp)) _
  exact ⟨Rd_at h1 rfl h.2.2.2.1 (h1.1.set (i := 2) (by simp) _) hT, (ht.mono (S' := [p]) (by simp)).trans hT (fun k hk _ => hk)⟩
theorem moves {p : Nat} {v : Value} {bs : List Nat} {r : Bt.Rd} {w w1 : World} {n : Nat} (h : PRd p v bs r w) (ht : Turned [] w w1) (hf : r.fail = false) (hn : n ≤ r.left) : PRd p v bs ⟨r.l, r.at_ + n, false⟩ (w1.setCell ⟨p, 1, none⟩ (.int .i64 ((r.at_ + n : Nat) : Int))) ∧ Turned [p] w (w1.setCell ⟨p, 1, none⟩ (.int .i64 ((r.at_ + n : Nat) : Int))) := by
  have h1 := h.keep ht (by simp) (by simp)
  have hT : Turned [p] w1 (w1.setCell ⟨p, 1, none⟩ (.int .i64 ((r.at_ + n : Nat) : Int))) := (Turned.refl [p] w1).setCell (p := ⟨p, 1, none⟩) (.inl (by simp)) _
  refine ⟨Rd_at h1 rfl ?_ ?_ hT, (ht.mono (S' := [p]) (by simp)).trans hT (fun k hk _ => hk)⟩
  · have := h.2.2.2.1
    unfold Bt.Rd.wf Bt.Rd.left at *
    show r.at_ + n ≤ r.l.length
    omega
  · have := h1.1.set (i := 1) (by simp) (.int .i64 ((r.at_ + n : Nat) : Int))
    rw [hf] at this
    exact this

set_option maxHeartbeats 1000000 in
theorem take_any (p : Nat) (v : Value) (bs : List Nat) (r : Bt.Rd) (n : Int) (w : World) (h : PRd p v bs r w) :
    Calls Try.prog 41 #[.pointer (some ⟨p, 0, none⟩), .int .i64 n] w fun e w' => e = .returned (.int .u64 ((r.tell n : Nat) : Int)) ∧ PRd p v bs (r.take n) w' ∧ Turned [p] w w' := by
  have kok := ok_any p v _ r.fail w h.1
  by_cases hf : r.fail = true
  · have hc : ¬ r.can n = true := by rw [Bt.Rd.can_iff, hf]; simp
    have e1 : r.tell n = 0 := by unfold Bt.Rd.tell; rw [if_neg hc]
    have e2 : r.take n = r := by
      unfold Bt.Rd.take; rw [if_neg hc]
      obtain ⟨a, b, c⟩ := r
      simp at hf
      subst hf
      rfl
    rw [e1, e2]
    rw [hf] at kok
    clear hc e1 e2
    go_enter Try.func41, Try.ntmps41
    go_wp2_with (go_at_call 42; refine kok.mono ?_; rintro e w' ⟨rfl, rfl⟩)
    go_ret
    exact ⟨rfl, h, Turned.refl _ _⟩
  · have hf' : r.fail = false := by simpa using hf
    rw [hf'] at kok
    have kl := left_any p v bs r w h
    by_cases hc : r.can n = true
    · have e1 : r.tell n = Bt.val (r.rest.take n.toNat) := by unfold Bt.Rd.tell; rw [if_pos hc]
      have e2 : r.take n = ⟨r.l, r.at_ + n.toNat, false⟩ := by unfold Bt.Rd.take; rw [if_pos hc]
      rw [e1, e2]
      obtain ⟨_, h0, h64, hnl⟩ := Bt.Rd.can_iff.1 hc
      obtain ⟨m, rfl⟩ := Int.eq_ofNat_of_zero_le h0
      rw [Int.toNat_natCast]
      have kn := fun w1 (ht : Turned [] w w1) => next_in p v bs r m w1 (h.keep ht (by simp) (by simp)) (by omega) (by omega)
      have hcells := fun w1 (ht : Turned [] w w1) => (h.keep ht (by simp) (by simp)).1
      have hmv := fun w1 (ht : Turned [] w w1) => moves (n := m) h ht hf' (by omega)
      have hl1 : r.at_ + m ≤ 8 * bs.length := by have := left_eq h.2.2.1 h.2.2.2.1; omega
      have hm := h.2.2.2.2.2
      clear hc e1 e2 hf h
      go_enter Try.func41, Try.ntmps41
      go_wp2_with (first | (go_at_call 42; refine kok.mono ?_; rintro e w' ⟨rfl, rfl⟩) | (go_at_call 54; refine kl.mono ?_; rintro e w1 ⟨rfl, ht⟩; have c1 := ((hcells w1 ht).2 1 _ rfl).1; have f1 := ((hcells w1 ht).2 1 _ rfl).2) | (go_at_call 55; refine (kn w1 ht).mono ?_; rintro e w2 ⟨rfl, rfl⟩))
      go_ret
      exact ⟨rfl, hmv _ ht⟩
    · have e1 : r.tell n = 0 := by unfold Bt.Rd.tell; rw [if_neg hc]
      have e2 : r.take n = ⟨r.l, r.at_, true⟩ := by unfold Bt.Rd.take; rw [if_neg hc]
      rw [e1, e2]
      have hn : n < 0 ∨ 64 < n ∨ (r.left : Int) < n := by
        rw [Bt.Rd.can_iff, hf'] at hc
        simp at hc
        omega
      have hcells := fun w1 (ht : Turned [] w w1) => (h.keep ht (by simp) (by simp)).1
      have hfl := fun w1 (ht : Turned [] w w1) => fails h ht
      have ht0 := Turned.refl [] w
      have f2 := ((hcells w ht0).2 2 _ rfl).2
      have c2 := ((hcells w ht0).2 2 _ rfl).1
      clear hc e1 e2 hf h
      by_cases h0 : n < 0
      · clear hn
        go_enter Try.func41, Try.ntmps41
        go_wp2_with (first | (go_at_call 42; refine kok.mono ?_; rintro e w' ⟨rfl, rfl⟩))
        go_ret
        exact ⟨rfl, hfl _ ht0⟩
      · by_cases h64 : 64 < n
        · clear hn
          go_enter Try.func41, Try.ntmps41
          go_wp2_with (first | (go_at_call 42; refine kok.mono ?_; rintro e w' ⟨rfl, rfl⟩))
          go_ret
          exact ⟨rfl, hfl _ ht0⟩
        · have hn' : (r.left : Int) < n := by omega
          clear hn f2 c2
          go_enter Try.func41, Try.ntmps41
          go_wp2_with (first | (go_at_call 42; refine kok.mono ?_; rintro e w' ⟨rfl, rfl⟩) | (go_at_call 54; refine kl.mono ?_; rintro e w1 ⟨rfl, ht⟩; have c1 := ((hcells w1 ht).2 2 _ rfl).1; have f1 := ((hcells w1 ht).2 2 _ rfl).2))
          go_ret
          exact ⟨rfl, hfl _ ht⟩
theorem take_nil (n : Int) (w : World) :
    Calls Try.prog 41 #[.pointer none, .int .i64 n] w fun e w' => e = .returned (.int .u64 0) ∧ w' = w := by
  go_enter Try.func41, Try.ntmps41
  go_wp2_with (go_at_call 42; refine (ok_nil _).mono ?_; rintro e w' ⟨rfl, rfl⟩)
  go_ret
  exact ⟨rfl, rfl⟩

end BtD
end Go.Proofs.Ytloobijdpchppaa

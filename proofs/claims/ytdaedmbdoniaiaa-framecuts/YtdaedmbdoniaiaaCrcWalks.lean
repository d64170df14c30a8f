/- What the functions of layer 5 answer, as a call: the program's (CrW). Nothing turns in memory. -/
import Derived.Test.YtdaedmbdoniaiaaRows
import Derived.Test.YtdaedmbdoniaiaaCrcRow
import Derived.WalkKit
import Derived.WalkSpells
import Derived.WalkSmall
import Derived.Below
namespace Go.Proofs.Ytdaedmbdoniaiaa
open Go.RowKit
set_option linter.unusedVariables false

theorem u32_ret {a b : Int} {p : Prop} (h : a = b) (hp : p) : Ending.returned (.int .u32 a) = .returned (.int .u32 b) ∧ p := by rw [h]; exact ⟨rfl, hp⟩
namespace CrW
theorem low_eq (n : Nat) (h : n < 4294967296) : bits .and .u32 (n : Int) 1 = ((n % 2 : Nat) : Int) := by
  have := u32_and_nat n 1 h (by omega)
  rw [Nat.and_one_is_mod] at this
  exact this
theorem not_eq {x : Nat} (h : x < 4294967296) : bits .xor .u32 IntKind.u32.max (x : Int) = 4294967295 - (x : Int) := by
  have e : bits .xor .u32 ((4294967295 : Nat) : Int) (x : Int) = ((4294967295 ^^^ x : Nat) : Int) := u32_xor_nat 4294967295 x (by omega) h
  rw [← Cr.turned h] at e
  refine Eq.trans ?_ (e.trans (by omega))
  rfl

set_option maxHeartbeats 400000 in
theorem shift_any (n : Nat) (h : n < 4294967296) (w : World) :
    Calls Try.prog 22 #[.int .u32 (n : Int)] w fun e w' => e = .returned (.int .u32 ((Cr.bs n : Nat) : Int)) ∧ w' = w := by
  have hl := low_eq n h
  have hx := u32_xor_nat (n / 2) 3988292384 (by omega) (by omega)
  by_cases h1 : n % 2 = 1
  · have e : Cr.bs n = n / 2 ^^^ 3988292384 := by unfold Cr.bs; rw [if_pos h1]
    rw [e]
    rw [h1] at hl
    go_enter Try.func22, Try.ntmps22
    go_wp2
    go_ret
    exact u32_ret hx rfl
  · have e : Cr.bs n = n / 2 := by unfold Cr.bs; rw [if_neg h1]
    rw [e]
    rw [show n % 2 = 0 by omega] at hl
    go_enter Try.func22, Try.ntmps22
    go_wp2
    go_ret
    exact ⟨rfl, rfl⟩

set_option maxHeartbeats 400000 in
theorem lay_any (n b : Nat) (h : n < 4294967296) (hb : b < 256) (w : World) :
    Calls Try.prog 21 #[.int .u32 (n : Int), .int .u8 (b : Int)] w fun e w' => e = .returned (.int .u32 ((Cr.by8 n b : Nat) : Int)) ∧ w' = w := by
  have hx := u32_xor_nat n b h (by omega)
  have hlt := Cr.xor_lt h (show b < 4294967296 by omega)
  go_enter Try.func21, Try.ntmps21
  go_wp2_with fail
  go_loop [0, 9] (fun s i => ∃ k : Nat, k ≤ 8 ∧ i = .int .i64 k ∧ s = .int .u32 ((Cr.bsn k (n ^^^ b) : Nat) : Int)) (fun _ i => 8 - (intOf i).toNat)
  case atStart => exact ⟨0, by omega, rfl, rfl⟩
  case round =>
    obtain ⟨k, hk, rfl, rfl⟩ := hrel
    have hs := Cr.bsn_lt hlt k
    go_wp2_with (go_at_call 22; refine (shift_any _ hs _).mono ?_; rintro e w' ⟨rfl, rfl⟩)
    · go_round
      case rel => exact ⟨k + 1, by omega, by go_num, by rw [Cr.bsn_succ]⟩
      case measure => simp [intOf]; omega
    · have : k = 8 := by omega
      subst this
      go_ret
      exact ⟨rfl, rfl⟩
theorem lay_mod (n x : Nat) (h : n < 4294967296) (w : World) :
    Calls Try.prog 21 #[.int .u32 (n : Int), .int .u8 ((x : Int) % 256)] w fun e w' => e = .returned (.int .u32 ((Cr.by8 n (x % 256) : Nat) : Int)) ∧ w' = w :=
  lay_any n (x % 256) h (by omega) w

set_option maxHeartbeats 400000 in
theorem layFour_any (s n : Nat) (h : s < 4294967296) (hn : n < 4294967296) (w : World) :
    Calls Try.prog 20 #[.int .u32 (s : Int), .int .u32 (n : Int)] w fun e w' => e = .returned (.int .u32 ((Cr.fold s (Cr.four4 n) : Nat) : Int)) ∧ w' = w := by
  go_enter Try.func20, Try.ntmps20
  go_wp2_with fail
  go_loop [0, 1, 5] (fun t m i => ∃ k x : Nat, k ≤ 4 ∧ i = .int .i64 k ∧ t = .int .u32 ((Cr.fold s ((Cr.four4 n).take k) : Nat) : Int) ∧ m = .int .u32 (x : Int) ∧ x = n / 256 ^ k) (fun _ _ i => 4 - (intOf i).toNat)
  case atStart => exact ⟨0, n, by omega, rfl, rfl, rfl, by simp⟩
  case round =>
    obtain ⟨k, x, hk, rfl, rfl, rfl, hx⟩ := hrel
    have hs := Cr.fold_lt h (Cr.take_lt (Cr.four4_lt n) k)
    have hxl : x < 4294967296 := by rw [hx]; exact Nat.lt_of_le_of_lt (Nat.div_le_self _ _) hn
    have HX : Hid (x = n / 256 ^ k) := hx
    clear hx
    go_wp2_with (go_at_call 21; with_reducible refine (lay_mod _ x hs _).mono ?_; rintro e w' ⟨rfl, rfl⟩)
    · have hx : x = n / 256 ^ k := HX
      go_round
      case rel => exact ⟨k + 1, x / 256, by omega, by go_num, by rw [Cr.four4_take s (by omega), ← hx], by go_num, by rw [hx, Cr.pow_step]⟩
      case measure => simp [intOf]; omega
    · have : k = 4 := by omega
      subst this
      go_ret
      exact ⟨rfl, rfl⟩
theorem layFour_start (n : Nat) (hn : n < 4294967296) (w : World) :
    Calls Try.prog 20 #[.int .u32 4294967295, .int .u32 (n : Int)] w fun e w' => e = .returned (.int .u32 ((Cr.fold 4294967295 (Cr.four4 n) : Nat) : Int)) ∧ w' = w :=
  layFour_any 4294967295 n (by omega) hn w

set_option maxHeartbeats 400000 in
theorem mix_any (a b : Nat) (ha : a < 4294967296) (hb : b < 4294967296) (w : World) :
    Calls Try.prog 18 #[.int .u32 (a : Int), .int .u32 (b : Int)] w fun e w' => e = .returned (.int .u32 ((Cr.sum (Cr.four4 a ++ Cr.four4 b) : Nat) : Int)) ∧ w' = w := by
  have h0 : (4294967295 : Nat) < 4294967296 := by omega
  have h1 := Cr.fold_lt h0 (Cr.four4_lt a)
  have h2 := Cr.fold_lt h1 (Cr.four4_lt b)
  have he := Cr.sum_eq (Cr.append_lt (Cr.four4_lt a) (Cr.four4_lt b))
  rw [Cr.fold_append] at he
  go_enter Try.func18, Try.ntmps18
  go_wp2_with (first | (go_at_call 20; with_reducible refine (layFour_start a ha _).mono ?_; rintro e w' ⟨rfl, rfl⟩) | (go_at_call 20; with_reducible refine (layFour_any _ b h1 hb _).mono ?_; rintro e w' ⟨rfl, rfl⟩))
  go_ret
  exact u32_ret (not_eq (by assumption)) rfl

set_option maxHeartbeats 400000 in
theorem sum_any (oa : Option Addr) (l : List Nat) (len cap : Nat) (w : World) (hlen : l.length = len) (hm : len ≤ 9223372036854775807) (hr : Row oa l w) (hb : ∀ x ∈ l, x < 256) :
    Calls Try.prog 19 #[.slice oa len cap] w fun e w' => e = .returned (.int .u32 ((Cr.sum l : Nat) : Int)) ∧ w' = w := by
  have h0 : (4294967295 : Nat) < 4294967296 := by omega
  have he := Cr.sum_eq hb
  go_enter Try.func19, Try.ntmps19
  go_wp2_with fail
  go_loop [3, 8] (fun s i => ∃ k : Nat, k ≤ len ∧ i = .int .i64 k ∧ s = .int .u32 ((Cr.fold 4294967295 (l.take k) : Nat) : Int)) (fun _ i => len - (intOf i).toNat)
  case atStart => exact ⟨0, by omega, rfl, rfl⟩
  case round =>
    obtain ⟨k, hk, rfl, rfl⟩ := hrel
    have hs := Cr.fold_lt h0 (Cr.take_lt hb k)
    by_cases hlt : k < len
    · obtain ⟨b, off, rfl, hbl, hc⟩ := hr k (by omega)
      have h8 := byte_at hb k
      obtain ⟨z, hz⟩ : ∃ z, z = l.getD k 0 := ⟨_, rfl⟩
      rw [← hz] at hc h8
      have HZ : Hid (z = l.getD k 0) := hz
      clear hz he
      go_wp2_with (go_at_call 21; refine (lay_any _ z hs h8 _).mono ?_; rintro e w' ⟨rfl, rfl⟩)
      go_round
      case rel => exact ⟨k + 1, by omega, by go_num, by have hz : z = l.getD k 0 := HZ; rw [Cr.fold_take _ (by omega), ← hz]⟩
      case measure => simp [intOf]; omega
    · have : k = len := by omega
      subst this
      rw [← hlen, List.take_length] at hs ⊢
      go_wp2
      go_ret
      exact u32_ret (not_eq (by assumption)) rfl
end CrW
end Go.Proofs.Ytdaedmbdoniaiaa

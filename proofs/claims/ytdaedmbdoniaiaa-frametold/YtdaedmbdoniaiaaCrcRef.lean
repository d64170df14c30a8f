/- What the reference's functions of layer 5 answer, as a call (CrR). -/
import Derived.Test.YtdaedmbdoniaiaaCrcWalks
import Derived.Test.YtdaedmbdoniaiaaOwn
namespace Go.Proofs.Ytdaedmbdoniaiaa
open Go.RowKit
set_option linter.unusedVariables false

namespace CrR
set_option maxHeartbeats 1000000 in
theorem sum_any (oa : Option Addr) (l : List Nat) (len cap : Nat) (w : World) (hlen : l.length = len) (hm : len ≤ 9223372036854775807) (hr : Row oa l w) (hb : ∀ x ∈ l, x < 256) :
    Calls Try.prog 16 #[.slice oa len cap] w fun e w' => e = .returned (.int .u32 ((Cr.sum l : Nat) : Int)) ∧ w' = w := by
  have h0 : (4294967295 : Nat) < 4294967296 := by omega
  go_enter Try.func16, Try.ntmps16
  go_wp2_with fail
  go_loop [3, 4] (fun s i => ∃ k : Nat, k ≤ len ∧ i = .int .i64 k ∧ s = .int .u32 ((Cr.fold 4294967295 (l.take k) : Nat) : Int)) (fun _ i => len - (intOf i).toNat)
  case atStart => exact ⟨0, by omega, rfl, rfl⟩
  case round =>
    obtain ⟨k, hk, rfl, rfl⟩ := hrel
    have hs := Cr.fold_lt h0 (Cr.take_lt hb k)
    by_cases hlt : k < len
    · obtain ⟨b, off, rfl, hbl, hc⟩ := hr k (by omega)
      have h8 := byte_at hb k
      have hstep := Cr.fold_take 4294967295 (show k < l.length by omega)
      obtain ⟨z, hz⟩ : ∃ z, z = l.getD k 0 := ⟨_, rfl⟩
      rw [← hz] at hc h8 hstep
      clear hz
      obtain ⟨f, hf⟩ : ∃ f, f = Cr.fold 4294967295 (l.take k) := ⟨_, rfl⟩
      rw [← hf] at hs hstep ⊢
      clear hf
      have HS : Hid (Cr.fold 4294967295 (l.take (k + 1)) = Cr.by8 f z) := hstep
      clear hstep
      have hx := u32_xor_nat f z hs (by omega)
      have hxl := Cr.xor_lt hs (show z < 4294967296 by omega)
      go_wp2_with fail
      go_loop [3, 5] (fun s i => ∃ j : Nat, j ≤ 8 ∧ i = .int .i64 j ∧ s = .int .u32 ((Cr.bsn j (f ^^^ z) : Nat) : Int)) (fun _ i => 8 - (intOf i).toNat)
      case atStart => exact ⟨0, by omega, rfl, rfl⟩
      case round =>
        obtain ⟨j, hj, rfl, rfl⟩ := hrel
        have hjl := Cr.bsn_lt hxl j
        have hsj := Cr.bsn_succ j (f ^^^ z)
        obtain ⟨g, hg⟩ : ∃ g, g = Cr.bsn j (f ^^^ z) := ⟨_, rfl⟩
        by_cases hlj : j < 8
        · rw [← hg] at hjl hsj ⊢
          clear hg
          have HJ : Hid (Cr.bsn (j + 1) (f ^^^ z) = Cr.bs g) := hsj.symm
          clear hsj
          have hxg := u32_xor_nat (g / 2) 3988292384 (by omega) (by omega)
          by_cases h1 : g % 2 = 1
          · have e : Cr.bs g = g / 2 ^^^ 3988292384 := by unfold Cr.bs; rw [if_pos h1]
            have h1' : ((g : Int) % 2) = 1 := by omega
            go_wp2_with fail
            go_round
            case rel => exact ⟨j + 1, by omega, by go_num, by have := HJ.out; rw [this, e]; first | rfl | exact congrArg _ hxg⟩
            case measure => simp [intOf]; omega
          · have e : Cr.bs g = g / 2 := by unfold Cr.bs; rw [if_neg h1]
            have h1' : ((g : Int) % 2) = 0 := by omega
            go_wp2_with fail
            go_round
            case rel => exact ⟨j + 1, by omega, by go_num, by have := HJ.out; rw [this, e]; first | rfl | go_num⟩
            case measure => simp [intOf]; omega
        · have : j = 8 := by omega
          subst this
          go_wp2_with fail
          go_round
          case rel => exact ⟨k + 1, by omega, by go_num, by have := HS.out; rw [this]; rfl⟩
          case measure => simp [intOf]; omega
    · have : k = len := by omega
      subst this
      rw [← hlen, List.take_length] at hs ⊢
      have he := Cr.sum_eq hb
      go_wp2
      go_ret
      exact u32_ret rfl rfl

theorem four_next {n k x : Nat} (h : k < 4) (hx : x = n / 256 ^ k) : (Cr.four4 n).take k ++ [x % 256] = (Cr.four4 n).take (k + 1) := by
  have e := Cr.four4_at n k h
  have hk : k < (Cr.four4 n).length := h
  rw [List.take_add_one, List.getElem?_eq_getElem hk]
  simp [List.getD, List.getElem?_eq_getElem hk] at e
  simp [e, hx]
theorem four_len (n k : Nat) : ((Cr.four4 n).take k).length ≤ 4 := by rw [List.length_take]; exact Nat.min_le_right _ _

set_option maxHeartbeats 1000000 in
theorem mix_any (a b : Nat) (ha : a < 4294967296) (hb : b < 4294967296) (w : World) :
    Calls Try.prog 15 #[.int .u32 (a : Int), .int .u32 (b : Int)] w fun e w' => e = .returned (.int .u32 ((Cr.sum (Cr.four4 a ++ Cr.four4 b) : Nat) : Int)) ∧ Below w.heap.size w w' := by
  go_enter Try.func15, Try.ntmps15
  go_wp2_with fail
  go_loopw [0, 5, 6] (fun m v i wr => ∃ k x : Nat, k ≤ 4 ∧ i = .int .i64 k ∧ m = .int .u32 (x : Int) ∧ x = a / 256 ^ k ∧ Own w.heap.size v ((Cr.four4 a).take k) wr ∧ Below w.heap.size w wr) (fun _ _ i _ => 4 - (intOf i).toNat)
  case atStart => exact ⟨0, a, by omega, rfl, rfl, by simp, Own.nil _ _, Below.refl _ _⟩
  case round =>
    obtain ⟨k, x, hk, rfl, rfl, hx, hown, hbel⟩ := hrel
    have hxl : x < 4294967296 := by rw [hx]; exact Nat.lt_of_le_of_lt (Nat.div_le_self _ _) ha
    have HX : Hid (x = a / 256 ^ k) := hx
    clear hx
    by_cases hlt : k < 4
    · have hle := four_len a k
      have hsz := hbel.size
      go_wp2_with (at_builtin; refine wp_put _ rfl _ _ rfl w.heap.size _ _ rfl (hown.alloc _) wr.heap.size (x % 256) rfl (by simp) (by omega) (by simp; omega) ?_; intro v' w1 hown' hb'; have HB := hb'; clear hb')
      go_roundw
      case rel => exact ⟨k + 1, x / 256, by omega, by go_num, by go_num, by rw [HX.out, Cr.pow_step], by rw [← four_next hlt HX.out]; exact hown', (hbel.alloc hsz _).trans HB⟩
      case measure => simp [intOf]; omega
    · obtain rfl : k = 4 := by omega
      have hown4 : Own w.heap.size u5 (Cr.four4 a) wr := hown
      clear hown HX hlt hk
      rw [show ((4 : Nat) : Int) = 4 from rfl]
      go_wp2_with fail
      go_loopw [1, 5, 7] (fun m v i wq => ∃ k x : Nat, k ≤ 4 ∧ i = .int .i64 k ∧ m = .int .u32 (x : Int) ∧ x = b / 256 ^ k ∧ Own w.heap.size v (Cr.four4 a ++ (Cr.four4 b).take k) wq ∧ Below w.heap.size w wq) (fun _ _ i _ => 4 - (intOf i).toNat)
      case atStart => exact ⟨0, b, by omega, rfl, rfl, by simp, by simpa using hown4, hbel⟩
      case round =>
        clear hown4 hbel
        obtain ⟨k, x, hk, rfl, rfl, hx, hown, hbel⟩ := hrel
        have hxl : x < 4294967296 := by rw [hx]; exact Nat.lt_of_le_of_lt (Nat.div_le_self _ _) hb
        have HX : Hid (x = b / 256 ^ k) := hx
        clear hx
        by_cases hlt : k < 4
        · have hle := four_len b k
          have hla : (Cr.four4 a).length = 4 := rfl
          have hsz := hbel.size
          go_wp2_with (at_builtin; refine wp_put _ rfl _ _ rfl w.heap.size _ _ rfl (hown.alloc _) wr.heap.size (x % 256) rfl (by simp) (by rw [List.length_append]; omega) (by simp; omega) ?_; intro v' w1 hown' hb'; have HB := hb'; clear hb')
          go_roundw
          case rel => exact ⟨k + 1, x / 256, by omega, by go_num, by go_num, by rw [HX.out, Cr.pow_step], by rw [← four_next hlt HX.out, ← List.append_assoc]; exact hown', (hbel.alloc hsz _).trans HB⟩
          case measure => simp [intOf]; omega
        · obtain rfl : k = 4 := by omega
          have hown8 : Own w.heap.size u5 (Cr.four4 a ++ Cr.four4 b) wr := hown
          clear hown HX hlt hk
          obtain ⟨oa, cap, rfl, hrow, hmax⟩ := hown8.row
          clear hown8 hmax
          go_wp2_with (go_at_call 16; refine (sum_any _ _ _ _ _ rfl (by show 8 ≤ _; omega) hrow (Cr.append_lt (Cr.four4_lt a) (Cr.four4_lt b))).mono ?_; rintro e w' ⟨rfl, rfl⟩)
          go_ret
          exact u32_ret rfl hbel

end CrR
end Go.Proofs.Ytdaedmbdoniaiaa

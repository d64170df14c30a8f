/- What the functions of layer 4 answer, as a call: the program's (SrW). Nothing that lay in memory before turns. -/
import Derived.Test.YtloobijdpchppaaRows
import Derived.Test.YtloobijdpchppaaSerPlain
import Derived.Test.YtloobijdpchppaaKept
import Derived.Test.YtloobijdpchppaaLie
import Derived.WalkKit
import Derived.WalkSpells
import Derived.WalkSmall
import Derived.Below
import Derived.BigQuiet
import Derived.Deep.QuietTactic
import Derived.Deep.RegionWith
import Derived.BigRegion
namespace Go.Proofs.Ytloobijdpchppaa
open Go.RowKit
set_option linter.unusedVariables false

theorem bool_eq {a b : Bool} {p : Prop} (h : a = b) (hp : p) : Ending.returned (.bool a) = .returned (.bool b) ∧ p := by rw [h]; exact ⟨rfl, hp⟩
theorem int_eq {k : IntKind} {a b : Int} {p : Prop} (h : a = b) (hp : p) : Ending.returned (.int k a) = .returned (.int k b) ∧ p := by rw [h]; exact ⟨rfl, hp⟩

theorem below_one (w : World) (o1 : Obj) : Below w.heap.size w (w.alloc o1) := (Below.refl _ _).alloc (Nat.le_refl _) _
theorem below_two (w : World) (o o' : Obj) : Below w.heap.size w ((w.alloc o).alloc o') :=
  ((Below.refl _ _).alloc (Nat.le_refl _) _).alloc (by simp) _
theorem bcell {W w1 : World} (hb : Below W.heap.size W w1) : (∀ b o, b < W.heap.size → w1.cell? ⟨b, o, none⟩ = W.cell? ⟨b, o, none⟩) ∧ (∀ b o, b < W.heap.size → w1.frozen? ⟨b, o, none⟩ = W.frozen? ⟨b, o, none⟩) :=
  ⟨fun b o h => hb.cell (p := ⟨b, o, none⟩) h, fun b o h => hb.frozen (p := ⟨b, o, none⟩) h⟩
theorem below_set3 {w w' : World} {b : Nat} (h : Below w.heap.size w w') (hb : w.heap.size ≤ b) (v0 v1 v2 : Value) :
    Below w.heap.size w (((w'.setCell ⟨b, 0, none⟩ v0).setCell ⟨b, 1, none⟩ v1).setCell ⟨b, 2, none⟩ v2) :=
  ((h.setCell hb v0).setCell hb v1).setCell hb v2
namespace SrW
theorem neg_eq {x : Int} (h1 : -32768 ≤ x) (h2 : x ≤ 32767) : IntKind.i64.wrap (-x) = -x := by
  simp [IntKind.wrap, IntKind.bits, IntKind.signed]; split <;> omega
theorem shl_eq {m s : Int} (hm0 : 0 ≤ m) (h : 0 ≤ s) : m * 2 ^ min s.toNat 32 % 4294967296 = Sr.shl m s := by
  obtain ⟨x, rfl⟩ := Int.eq_ofNat_of_zero_le hm0
  unfold Sr.shl
  rw [Int.toNat_natCast]
  by_cases hs : s.toNat ≤ 32
  · rw [Nat.min_eq_left hs]; simp
  · rw [Nat.min_eq_right (by omega)]
    obtain ⟨d, hd⟩ : ∃ d, s.toNat = 32 + d := ⟨s.toNat - 32, by omega⟩
    rw [hd, Nat.pow_add, ← Nat.mul_assoc, Nat.mul_comm x, Nat.mul_assoc, show (2 : Nat) ^ 32 = 4294967296 from rfl, Nat.mul_mod_right]
    show (x : Int) * 4294967296 % 4294967296 = 0
    omega
theorem or_eq {a b : Int} (h1 : 0 ≤ a) (h2 : a < 4294967296) (h3 : 0 ≤ b) (h4 : b < 4294967296) : bits .or .u32 a b = Sr.or a b := u32_or a b h1 h2 h3 h4
theorem no_of {l m n : Int} (hm0 : 0 ≤ m) (hm : m < 4294967296) (h : Sr.steps l n < 0) (ho : Sr.ok true l m n = false) : Sr.bit (-(Sr.steps l n)) = 0 ∨ bits .and .u32 m (Sr.bit (-(Sr.steps l n))) ≠ 0 := by
  by_cases hk : -32 ≤ Sr.steps l n
  · right
    rw [u32_and m _ hm0 hm (Sr.bit_lo _) (Sr.bit_hi _), Sr.and_bit hm]
    rw [Sr.ok_back h hk] at ho
    have hb := Sr.bit_pos (k := -(Sr.steps l n)) (by omega)
    rw [if_pos (by simpa using ho)]; omega
  · left; exact Sr.bit_far (by omega)
theorem yes_of {l m n : Int} (hm0 : 0 ≤ m) (hm : m < 4294967296) (h : Sr.steps l n < 0) (ho : Sr.ok true l m n = true) : Sr.bit (-(Sr.steps l n)) ≠ 0 ∧ bits .and .u32 m (Sr.bit (-(Sr.steps l n))) = 0 := by
  by_cases hk : -32 ≤ Sr.steps l n
  · rw [Sr.ok_back h hk] at ho
    have hb := Sr.bit_pos (k := -(Sr.steps l n)) (by omega)
    rw [u32_and m _ hm0 hm (Sr.bit_lo _) (Sr.bit_hi _), Sr.and_bit hm, if_neg (by simpa using ho)]
    exact ⟨by omega, rfl⟩
  · rw [Sr.ok_far (by omega)] at ho; cases ho

theorem steps_eq (a b : Int) : wrap64 (IntKind.i16.wrap (IntKind.u16.wrap (b - a))) = Sr.steps a b := by
  unfold Sr.steps
  simp [wrap64, IntKind.wrap, IntKind.bits, IntKind.signed]
  split <;> omega

set_option maxHeartbeats 400000 in
theorem steps_any (a b : Int) (w : World) :
    Calls Try.prog 47 #[.int .u16 a, .int .u16 b] w fun e w' => e = .returned (.int .i64 (Sr.steps a b)) ∧ w' = w := by
  go_enter Try.func47, Try.ntmps47
  go_wp2
  go_ret
  exact int_eq (steps_eq a b) rfl

theorem bit_eq {k : Int} (h1 : 1 ≤ k) : (2 : Int) ^ min (k.toNat - 1) 32 % 4294967296 = Sr.bit k := by
  by_cases h : k ≤ 32
  · rw [Sr.bit_of h, Nat.min_eq_left (by omega), show (k - 1).toNat = k.toNat - 1 by omega]
    have : (2 : Nat) ^ (k.toNat - 1) ≤ 2 ^ 31 := Nat.pow_le_pow_right (by omega) (by omega)
    have e : ((2 ^ (k.toNat - 1) : Nat) : Int) = (2 : Int) ^ (k.toNat - 1) := by simp
    rw [e]
    generalize (2 : Int) ^ (k.toNat - 1) = c at *
    generalize (2 : Nat) ^ (k.toNat - 1) = d at *
    omega
  · rw [Sr.bit_far (by omega), Nat.min_eq_right (by omega)]; decide

set_option maxHeartbeats 400000 in
theorem bit_any (k : Int) (w : World) (h1 : 1 ≤ k) (h2 : k ≤ 32768) :
    Calls Try.prog 50 #[.int .i64 k] w fun e w' => e = .returned (.int .u32 (Sr.bit k)) ∧ w' = w := by
  go_enter Try.func50, Try.ntmps50
  go_wp2
  go_ret
  exact int_eq (bit_eq h1) rfl

theorem and_has {m s : Int} (hm0 : 0 ≤ m) (hm : m < 4294967296) (h : s < 0) (h2 : -32768 ≤ s) : (bits .and .u32 m (Sr.bit (-s)) != 0) = Sr.tb m (-s) := by
  rw [u32_and m _ hm0 hm (Sr.bit_lo _) (Sr.bit_hi _), Sr.and_bit hm]
  cases ht : Sr.tb m (-s)
  · simp
  · have hk : -s ≤ 32 := by
      by_cases hk : -s ≤ 32
      · exact hk
      · rw [Sr.tb_far hm (by omega)] at ht; cases ht
    have := Sr.bit_pos hk
    simp; omega

set_option maxHeartbeats 400000 in
theorem has_any (y : Bool) (l m n : Int) (w : World) (hm0 : 0 ≤ m) (hm : m < 4294967296) :
    Calls Try.prog 33 #[.agg #[.bool y, .int .u16 l, .int .u32 m], .int .u16 n] w fun e w' => e = .returned (.bool (Sr.has y l m n)) ∧ Below w.heap.size w w' := by
  have b1 := Sr.steps_lo l n
  have b2 := Sr.steps_hi l n
  cases y
  · go_enter Try.func33, Try.ntmps33
    go_wp2
    go_ret
    exact bool_eq rfl (below_one _ _)
  · by_cases h : 0 ≤ Sr.steps l n
    · go_enter Try.func33, Try.ntmps33
      go_wp2_with (go_at_call 47; refine (steps_any _ _ _).mono ?_; rintro e w' ⟨rfl, rfl⟩)
      go_ret
      exact bool_eq (Sr.has_ge h).symm (below_one _ _)
    · go_enter Try.func33, Try.ntmps33
      go_wp2_with (go_at_call 47; refine (steps_any _ _ _).mono ?_; rintro e w' ⟨rfl, rfl⟩)
      go_quiet ((go_at_call 50; exact Calls.quiet_of_same (bit_any _ _ (by omega) (by omega))))
      go_wp2
      go_ret
      exact bool_eq ((and_has hm0 hm (by omega) b1).trans (Sr.has_lt (by omega)).symm) (below_drewN (below_one _ _) _)

set_option maxHeartbeats 400000 in
theorem forward_any (y : Bool) (l m n s : Int) (w : World) (hm0 : 0 ≤ m) (hm : m < 4294967296) (h1 : 1 ≤ s) (h2 : s ≤ 32767) :
    Calls Try.prog 48 #[.agg #[.bool y, .int .u16 l, .int .u32 m], .int .u16 n, .int .i64 s] w fun e w' => e = .returned (.agg #[.bool true, .int .u16 n, .int .u32 (Sr.or (Sr.shl m s) (Sr.bit s))]) ∧ Below w.heap.size w w' := by
  have h0 : 0 ≤ s := by omega
  have e1 : IntKind.u32.wrap (m * 2 ^ min s.toNat 32) = Sr.shl m s := by rw [IntKind.wrap_u32']; exact shl_eq hm0 h0
  have e2 := or_eq (Sr.shl_lo m s) (Sr.shl_hi m s) (Sr.bit_lo s) (Sr.bit_hi s)
  go_enter Try.func48, Try.ntmps48
  go_wp2_with fail
  go_region_with ((go_at_call 50; refine (bit_any _ _ (by omega) (by omega)).mono ?_; rintro e w' ⟨rfl, rfl⟩))
  all_goals go_wp2
  all_goals exact bodyPost_ret (by simp [results, Try.results48, go_sem]) rfl (And.intro rfl (below_two _ _ _).drew)

set_option maxHeartbeats 400000 in
theorem fill_no (l m o : Int) (w : World) (h : o = 0 ∨ bits .and .u32 m o ≠ 0) :
    Calls Try.prog 49 #[.agg #[.bool true, .int .u16 l, .int .u32 m], .int .u32 o] w fun e w' => e = .returned (.tuple #[.agg #[.bool true, .int .u16 l, .int .u32 m], .bool false]) ∧ Below w.heap.size w w' := by
  by_cases h0 : o = 0
  · subst h0
    go_enter Try.func49, Try.ntmps49
    go_wp2
    exact bodyPost_ret (by simp [results, Try.results49, go_sem]) rfl (And.intro rfl (below_two _ _ _))
  · have h1 : (bits .and .u32 m o != 0) = true := by simpa [h0] using h
    have h2 : (o == 0) = false := by simpa using h0
    clear h h0
    go_enter Try.func49, Try.ntmps49
    go_wp2
    exact bodyPost_ret (by simp [results, Try.results49, go_sem]) rfl (And.intro rfl (below_two _ _ _))

set_option maxHeartbeats 400000 in
theorem fill_yes (l m o : Int) (w : World) (h0 : o ≠ 0) (h1 : bits .and .u32 m o = 0) :
    Calls Try.prog 49 #[.agg #[.bool true, .int .u16 l, .int .u32 m], .int .u32 o] w fun e w' => e = .returned (.tuple #[.agg #[.bool true, .int .u16 l, .int .u32 (bits .or .u32 m o)], .bool true]) ∧ Below w.heap.size w w' := by
  go_enter Try.func49, Try.ntmps49
  go_wp2
  exact bodyPost_ret (by simp [results, Try.results49, go_sem]) rfl (And.intro rfl (below_two _ _ _))

set_option maxHeartbeats 1000000 in
theorem take_any (y : Bool) (l m n : Int) (w : World) (hm0 : 0 ≤ m) (hm : m < 4294967296) :
    Calls Try.prog 29 #[.agg #[.bool y, .int .u16 l, .int .u32 m], .int .u16 n] w fun e w' => e = .returned (.tuple #[.agg #[.bool true, .int .u16 (Sr.last y l n), .int .u32 (Sr.mask y l m n)], .bool (Sr.ok y l m n)]) ∧ Below w.heap.size w w' := by
  have b1 := Sr.steps_lo l n
  have b2 := Sr.steps_hi l n
  have hw : IntKind.i64.wrap (-Sr.steps l n) = -Sr.steps l n := neg_eq b1 b2
  cases y
  · rw [Sr.last_none, Sr.mask_none, Sr.ok_none]
    go_enter Try.func29, Try.ntmps29
    go_wp2
    exact bodyPost_ret (by simp [results, Try.results29, go_sem]) rfl (And.intro rfl (below_two _ _ _))
  · rcases Int.lt_trichotomy (Sr.steps l n) 0 with h | h | h
    · cases ho : Sr.ok true l m n
      · rw [Sr.last_stay (by omega), Sr.mask_stay (by omega) ho]
        go_enter Try.func29, Try.ntmps29
        go_wp2_with (go_at_call 47; refine (steps_any _ _ _).mono ?_; rintro e w' ⟨rfl, rfl⟩)
        go_region_with (first | (go_at_call 50; refine (bit_any _ _ (by omega) (by omega)).mono ?_; rintro e w' ⟨rfl, rfl⟩) | (go_at_call 49; refine (fill_no _ _ _ _ (no_of hm0 hm h ho)).mono ?_; rintro e w' ⟨rfl, hb⟩; obtain ⟨hc, hf⟩ := bcell hb))
        all_goals go_wp2
        all_goals exact bodyPost_ret (by simp [results, Try.results29, go_sem, hc]) rfl (And.intro rfl (below_set3 ((below_two _ _ _).drew.trans (hb.mono (by simp; omega))) (by simp) _ _ _))
      · obtain ⟨y1, y2⟩ := yes_of hm0 hm h ho
        rw [Sr.last_stay (by omega), Sr.mask_fill (by omega) ho]
        have e2 := or_eq hm0 hm (Sr.bit_lo (-(Sr.steps l n))) (Sr.bit_hi (-(Sr.steps l n)))
        go_enter Try.func29, Try.ntmps29
        go_wp2_with (go_at_call 47; refine (steps_any _ _ _).mono ?_; rintro e w' ⟨rfl, rfl⟩)
        go_region_with (first | (go_at_call 50; refine (bit_any _ _ (by omega) (by omega)).mono ?_; rintro e w' ⟨rfl, rfl⟩) | (go_at_call 49; refine (fill_yes _ _ _ _ y1 y2).mono ?_; rintro e w' ⟨rfl, hb⟩; rw [e2]; obtain ⟨hc, hf⟩ := bcell hb))
        all_goals go_wp2
        all_goals exact bodyPost_ret (by simp [results, Try.results29, go_sem, hc]) rfl (And.intro rfl (below_set3 ((below_two _ _ _).drew.trans (hb.mono (by simp; omega))) (by simp) _ _ _))
    · have ho : Sr.ok true l m n = false := Sr.ok_at h
      rw [Sr.last_stay (by omega), Sr.mask_stay (by omega) ho, ho]
      go_enter Try.func29, Try.ntmps29
      go_wp2_with (go_at_call 47; refine (steps_any _ _ _).mono ?_; rintro e w' ⟨rfl, rfl⟩)
      exact bodyPost_ret (by simp [results, Try.results29, go_sem]) rfl (And.intro rfl (below_two _ _ _))
    · rw [Sr.last_on h, Sr.mask_on h, Sr.ok_on h]
      go_enter Try.func29, Try.ntmps29
      go_wp2_with (first | (go_at_call 47; refine (steps_any _ _ _).mono ?_; rintro e w' ⟨rfl, rfl⟩) | (go_at_call 48; refine (forward_any _ _ _ _ _ _ hm0 hm (by omega) (by omega)).mono ?_; rintro e w' ⟨rfl, hb⟩; obtain ⟨hc, hf⟩ := bcell hb))
      exact bodyPost_ret (by simp [results, Try.results29, go_sem, hc]) rfl (And.intro rfl (below_set3 ((below_two _ _ _).trans (hb.mono (by simp; omega))) (by simp) _ _ _))
end SrW
end Go.Proofs.Ytloobijdpchppaa

/- What the reference's Take answers, as a call (SrR): the loop over the mask's bits. -/
import Derived.Test.YtloobijdpchppaaSerRef
namespace Go.Proofs.Ytloobijdpchppaa
open Go.RowKit
set_option linter.unusedVariables false

namespace Sr
/-- the number k ahead of l -/
def ahead (l k : Int) : Int := (l - k) % 65536
/-- the mask's lowest j bits -/
def low (m : Int) (j : Nat) : Int := ((m.toNat % 2 ^ j : Nat) : Int)
def pow (j : Nat) : Int := ((2 ^ j % 4294967296 : Nat) : Int)
theorem low_zero (m : Int) : low m 0 = 0 := by unfold low; rw [Nat.pow_zero, Nat.mod_one]; rfl
theorem low_all {m : Int} (h0 : 0 ≤ m) (h : m < 4294967296) : low m 32 = m := by
  unfold low; rw [Nat.mod_eq_of_lt (by show _ < 4294967296; omega)]; omega
theorem low_lo (m : Int) (j : Nat) : 0 ≤ low m j := Int.natCast_nonneg _
theorem low_lt (m : Int) (j : Nat) : low m j < ((2 ^ j : Nat) : Int) := by
  unfold low; exact Int.ofNat_lt.2 (Nat.mod_lt _ (Nat.two_pow_pos j))
theorem pow_of {j : Nat} (h : j < 32) : pow j = ((2 ^ j : Nat) : Int) := by
  unfold pow
  rw [Nat.mod_eq_of_lt]
  exact Nat.pow_lt_pow_right (by omega) h
theorem low_succ (m : Int) (j : Nat) : low m (j + 1) = low m j + if tb m (j + 1) = true then ((2 ^ j : Nat) : Int) else 0 := by
  unfold low tb
  rw [Nat.pow_succ, Nat.mod_mul, Nat.testBit_eq_decide_div_mod_eq, show ((j : Int) + 1 - 1).toNat = j by omega]
  have hlt : m.toNat / 2 ^ j % 2 < 2 := Nat.mod_lt _ (by omega)
  generalize m.toNat / 2 ^ j % 2 = c at *
  generalize m.toNat % 2 ^ j = d
  generalize 2 ^ j = p
  obtain rfl | rfl : c = 0 ∨ c = 1 := by omega
  · simp
  · simp
theorem pow_succ (j : Nat) : pow j * 2 % 4294967296 = pow (j + 1) := by
  unfold pow
  rw [Nat.pow_succ]
  generalize 2 ^ j = p
  omega
theorem low_set {m : Int} {j : Nat} (hj : j < 32) (h : tb m (j + 1) = true) : (low m j + pow j) % 4294967296 = low m (j + 1) := by
  rw [low_succ, if_pos h, pow_of hj]
  have h1 := low_lo m j
  have h2 := low_lt m j
  have h3 : (2 : Nat) ^ j ≤ 2 ^ 31 := Nat.pow_le_pow_right (by omega) (by omega)
  generalize 2 ^ j = p at *
  omega
theorem low_skip {m : Int} {j : Nat} (h : tb m (j + 1) = false) : low m j = low m (j + 1) := by
  rw [low_succ, if_neg (by simp [h])]; omega

variable {l m n k : Int}
/-- forward: the number k ahead of n -/
theorem ahead_on (hn0 : 0 ≤ n) (hn : n < 65536) (h : 0 < steps l n) (h1 : 1 ≤ k) (h2 : k ≤ 32) : steps l (ahead n k) = steps l n - k ∧ ahead n k ≠ n := by
  unfold steps ahead at *; omega
theorem ahead_back (hl0 : 0 ≤ l) (hl : l < 65536) (hn0 : 0 ≤ n) (hn : n < 65536) (h1 : 1 ≤ k) (h2 : k ≤ 32) : steps l (ahead l k) = -k ∧ (ahead l k = n ↔ steps l n = -k) := by
  unfold steps ahead at *; omega
theorem ahead_lo (l k : Int) : 0 ≤ ahead l k := by unfold ahead; omega
theorem ahead_hi (l k : Int) : ahead l k < 65536 := by unfold ahead; omega
/-- of each number within the window behind, whether it came -/
theorem take_bit (hl0 : 0 ≤ l) (hl : l < 65536) (hn0 : 0 ≤ n) (hn : n < 65536) (hm0 : 0 ≤ m) (hm : m < 4294967296) (ho : ok true l m n = true) (h1 : 1 ≤ k) (h2 : k ≤ 32) :
    -32 ≤ steps l (ahead (last true l n) k) ∧ (0 < steps l (ahead (last true l n) k) → ahead (last true l n) k ≠ n ∧ tb (mask true l m n) k = false) ∧
      (ahead (last true l n) k = n → tb (mask true l m n) k = true) ∧
      (steps l (ahead (last true l n) k) ≤ 0 → ahead (last true l n) k ≠ n → tb (mask true l m n) k = has true l m (ahead (last true l n) k)) := by
  by_cases h : 0 < steps l n
  · obtain ⟨e, hne⟩ := ahead_on hn0 hn h h1 h2
    rw [last_on h, mask_on h, tb_or, tb_shl (by omega) h1 h2, tb_bit (by omega) h1]
    refine ⟨by omega, fun hp => ⟨hne, ?_⟩, fun hx => absurd hx hne, fun hle _ => ?_⟩
    · rw [decide_eq_false (show ¬ steps l n < k by omega), decide_eq_false (show ¬ steps l n = k by omega)]; simp
    · by_cases hz : steps l n = k
      · rw [has_ge (by omega), decide_eq_true hz, decide_eq_true (show steps l n ≤ 32 by omega), e]
        simp; omega
      · rw [has_lt (by omega), decide_eq_true (show steps l n < k by omega), decide_eq_false hz, e, show -(steps l n - k) = k - steps l n by omega]
        simp
  · have hd : steps l n < 0 ∧ -32 ≤ steps l n := by
      by_cases h0 : steps l n = 0
      · rw [ok_at h0] at ho; cases ho
      · by_cases hf : steps l n < -32
        · rw [ok_far hf] at ho; cases ho
        · omega
    obtain ⟨e, hx⟩ := ahead_back hl0 hl hn0 hn h1 h2
    rw [last_stay h, mask_fill h ho, tb_or, tb_bit (by omega) h1, e]
    refine ⟨by omega, fun hp => by omega, fun hq => ?_, fun hle hne => ?_⟩
    · have := hx.1 hq
      rw [decide_eq_true (show -steps l n ≤ 32 by omega), decide_eq_true (show -steps l n = k by omega)]; simp
    · have hne' : ¬ -steps l n = k := fun hc => hne (hx.2 (by omega))
      rw [decide_eq_false hne', has_lt (by omega), e]; simp
/-- what the reference asks: is it had, or too far? -/
theorem has_of_ok (ho : ok true l m n = true) : has true l m n = false ∧ -32 ≤ steps l n := by
  by_cases h : 0 < steps l n
  · rw [has_ge (by omega)]
    exact ⟨by simp; omega, by omega⟩
  · by_cases h0 : steps l n = 0
    · rw [ok_at h0] at ho; cases ho
    · by_cases hf : steps l n < -32
      · rw [ok_far hf] at ho; cases ho
      · rw [ok_back (by omega) (by omega)] at ho
        rw [has_lt (by omega)]
        exact ⟨by simpa using ho, by omega⟩
theorem has_of_not (hf : -32 ≤ steps l n) (ho : ok true l m n = false) : has true l m n = true := by
  by_cases h : 0 < steps l n
  · rw [ok_on h] at ho; cases ho
  · by_cases h0 : steps l n = 0
    · rw [has_ge (by omega)]; simp [h0]
    · rw [ok_back (by omega) hf] at ho
      rw [has_lt (by omega)]; simpa using ho
theorem not_on (ho : ok true l m n = false) : ¬ 0 < steps l n := by
  intro h; rw [ok_on h] at ho; cases ho
end Sr

/-- three cells laid just now -/
theorem Keep.name3 {w u : World} {bs : List (Nat × List Value)} {v0 v1 v2 : Value} {t : TypeId} (h : Keep w bs u) : Keep w ((u.heap.size, [v0, v1, v2]) :: bs) (u.alloc (.cells #[v0, v1, v2] t)) :=
  (h.alloc _).more (by simp [LieAt, go_sem])
/-- the third cell of the first block is written -/
theorem Keep.put2 {w u : World} {bs : List (Nat × List Value)} {c : Nat} {v0 v1 v2 : Value} (h : Keep w ((c, [v0, v1, v2]) :: bs) u) (hm : w.heap.size ≤ c) (hf : ∀ b ∈ bs, b.1 ≠ c) (v : Value) :
    Keep w ((c, [v0, v1, v]) :: bs) (u.setCell ⟨c, 2, none⟩ v) := by
  refine (h.less.far hm hf).more ?_
  have hz : LieAt c 0 [v0, v1, v2] u := h.1.1
  simp only [LieAt, Nat.reduceAdd] at hz ⊢
  obtain ⟨z0, y0, z1, y1, z2, y2, hl⟩ := hz
  simp [World.cell?_setCell_same', World.cell?_setCell_other, z0, z1, z2, y0, y1, y2, hl]
namespace SrR

set_option maxHeartbeats 1000000 in
theorem take_no (y : Bool) (l m n : Int) (w : World) (hl0 : 0 ≤ l) (hl : l < 65536) (hm0 : 0 ≤ m) (hm : m < 4294967296) (hn0 : 0 ≤ n) (hn : n < 65536) (ho : Sr.ok y l m n = false) :
    Calls Try.prog 35 #[.agg #[.bool y, .int .u16 l, .int .u32 m], .int .u16 n] w fun e w' => e = .returned (.tuple #[.agg #[.bool true, .int .u16 (Sr.last y l n), .int .u32 (Sr.mask y l m n)], .bool (Sr.ok y l m n)]) ∧ Below w.heap.size w w' := by
  cases y
  · rw [Sr.ok_none] at ho; cases ho
  · have h0 := Sr.not_on ho
    rw [Sr.last_stay h0, Sr.mask_stay h0 ho, ho]
    by_cases hf : Sr.steps l n < -32
    · go_enter Try.func35, Try.ntmps35
      go_wp2_with (go_at_call 51; refine (steps_any _ _ _ hl0 hl hn0 hn).mono ?_; rintro e w' ⟨rfl, rfl⟩)
      exact bodyPost_ret (by simp [results, Try.results35, go_sem]) rfl (And.intro rfl (below_two _ _ _))
    · have hh := Sr.has_of_not (by omega) ho
      go_enter Try.func35, Try.ntmps35
      go_wp2_with (first | (go_at_call 51; refine (steps_any _ _ _ hl0 hl hn0 hn).mono ?_; rintro e w' ⟨rfl, rfl⟩) | (go_at_call 36; refine (has_any _ _ _ _ _ hl0 hl hm0 hm hn0 hn).mono ?_; rintro e w' ⟨rfl, hb⟩; obtain ⟨hc, hf⟩ := bcell hb))
      exact bodyPost_ret (by simp [results, Try.results35, go_sem, hc]) rfl (And.intro rfl (below_set3 ((below_two _ _ _).trans (hb.mono (by simp; omega))) (by simp) _ _ _))

set_option maxHeartbeats 2000000 in
theorem take_on (l m n : Int) (w : World) (hl0 : 0 ≤ l) (hl : l < 65536) (hm0 : 0 ≤ m) (hm : m < 4294967296) (hn0 : 0 ≤ n) (hn : n < 65536) (ho : Sr.ok true l m n = true) (hp : 0 < Sr.steps l n) :
    Calls Try.prog 35 #[.agg #[.bool true, .int .u16 l, .int .u32 m], .int .u16 n] w fun e w' => e = .returned (.tuple #[.agg #[.bool true, .int .u16 n, .int .u32 (Sr.mask true l m n)], .bool true]) ∧ Below w.heap.size w w' := by
  obtain ⟨hh, hf⟩ := Sr.has_of_ok ho
  have HL : Hid (Sr.last true l n = n) := Sr.last_on hp
  have HO : Hid (Sr.ok true l m n = true) := ho
  clear ho
  go_enter Try.func35, Try.ntmps35
  go_wp2_with (first | (go_at_call 51; refine (steps_any _ _ _ hl0 hl hn0 hn).mono ?_; rintro e w' ⟨rfl, rfl⟩) | (go_at_call 36; refine (has_any _ _ _ _ _ hl0 hl hm0 hm hn0 hn).mono ?_; rintro e w' ⟨rfl, hb⟩; obtain ⟨hc, hf⟩ := bcell hb))
  have hz : w.heap.size + 2 ≤ w'.heap.size := by have := hb.size; simp at this; omega
  have hK0 : Keep w [(w.heap.size, [.bool true, .int .u16 l, .int .u32 m]), (w.heap.size + 1, [.bool false, .int .u16 0, .int .u32 0])] w' := Keep.on ⟨by simp [Lie, LieAt, go_sem, World.cell?_alloc_past, World.frozen?_alloc_past], by simp; omega, below_two _ _ _⟩ hb
  have hK := Keep.name3 (v0 := .bool true) (v1 := .int .u16 n) (v2 := .int .u32 0) (t := 33) hK0
  clear hb hc hf hK0
  generalize w'.alloc (.cells #[.bool true, .int .u16 n, .int .u32 0] 33) = U at *
  generalize w'.heap.size = c at *
  go_loopw [8, 9] (fun o k wr => ∃ j : Nat, j ≤ 32 ∧ k = .int .i64 (j + 1) ∧ o = .int .u32 (Sr.pow j) ∧ Keep w [(c, [.bool true, .int .u16 n, .int .u32 (Sr.low (Sr.mask true l m n) j)]), (w.heap.size, [.bool true, .int .u16 l, .int .u32 m]), (w.heap.size + 1, [.bool false, .int .u16 0, .int .u32 0])] wr) (fun _ k _ => 33 - (intOf k).toNat)
  case atStart => exact ⟨0, by omega, rfl, rfl, by rw [Sr.low_zero]; exact hK⟩
  case round =>
    obtain ⟨j, hj, rfl, rfl, hk⟩ := hrel
    have hS := hk
    simp only [Keep, Lie, LieAt, Nat.reduceAdd] at hS
    obtain ⟨⟨⟨c0, f0, c1, f1, c2, f2, l0⟩, ⟨c3, f3, c4, f4, c5, f5, l1⟩, ⟨c6, f6, c7, f7, c8, f8, l2⟩, -⟩, -⟩ := hS
    by_cases hlt : j < 32
    · obtain ⟨t1, t2, t3, t4⟩ := Sr.take_bit hl0 hl hn0 hn hm0 hm HO.out (k := j + 1) (by omega) (by omega)
      rw [HL.out] at t1 t2 t3 t4
      have x0 := Sr.ahead_lo n (j + 1)
      have x1 := Sr.ahead_hi n (j + 1)
      have hx : (n - ((j : Int) + 1)) % 65536 = Sr.ahead n (j + 1) := rfl
      generalize Sr.ahead n (j + 1) = x at *
      by_cases hs : 0 < Sr.steps l x
      · obtain ⟨hne, htb⟩ := t2 hs
        have hy : (x == n) = false := by simpa using hne
        have HT : Hid (Sr.tb (Sr.mask true l m n) (j + 1) = false) := htb
        clear t1 t2 t3 t4 hne htb
        go_wp2_with (first | (go_at_call 51; refine (steps_any _ _ _ hl0 hl x0 x1).mono ?_; rintro e w' ⟨rfl, rfl⟩) | (go_at_call 36; refine (has_any _ _ _ _ _ hl0 hl hm0 hm x0 x1).mono ?_; rintro e w1 ⟨rfl, hb⟩; have hk := Keep.on hk hb; obtain ⟨hc, hf⟩ := bcell hb))
        go_roundw
        case rel => exact ⟨j + 1, by omega, by go_num, by rw [Sr.pow_succ], by rw [← Sr.low_skip HT.out]; exact hk⟩
        case measure => simp [intOf]; omega
      · by_cases he : x = n
        · have HT : Hid (Sr.tb (Sr.mask true l m n) (j + 1) = true) := t3 he
          have hy : (x == n) = true := by simpa using he
          clear t2 t3 t4 he
          go_wp2_with (first | (go_at_call 51; refine (steps_any _ _ _ hl0 hl x0 x1).mono ?_; rintro e w' ⟨rfl, rfl⟩) | (go_at_call 36; refine (has_any _ _ _ _ _ hl0 hl hm0 hm x0 x1).mono ?_; rintro e w1 ⟨rfl, hb⟩; have hk := Keep.on hk hb; obtain ⟨hc, hf⟩ := bcell hb))
          go_roundw
          case rel => exact ⟨j + 1, by omega, by go_num, by rw [Sr.pow_succ], by rw [Sr.low_set hlt HT.out]; exact Keep.put2 hk (by omega) (by simp; omega) _⟩
          case measure => simp [intOf]; omega
        · have hy : (x == n) = false := by simpa using he
          have HT : Hid (Sr.tb (Sr.mask true l m n) (j + 1) = Sr.has true l m x) := t4 (by omega) he
          clear t2 t3 t4 he
          have d1 : decide (0 < Sr.steps l x) = false := by simpa using hs
          have d2 : decide (Sr.steps l x < -32) = false := by simpa using t1
          cases hv : Sr.has true l m x
          · go_wp2_with (first | (go_at_call 51; refine (steps_any _ _ _ hl0 hl x0 x1).mono ?_; rintro e w' ⟨rfl, rfl⟩) | (go_at_call 36; refine (has_any _ _ _ _ _ hl0 hl hm0 hm x0 x1).mono ?_; rintro e w1 ⟨rfl, hb⟩; have hk := Keep.on hk hb; obtain ⟨hc, hf⟩ := bcell hb))
            go_roundw
            case rel => exact ⟨j + 1, by omega, by go_num, by rw [Sr.pow_succ], by rw [← Sr.low_skip (HT.out.trans hv)]; exact hk⟩
            case measure => simp [intOf]; omega
          · go_wp2_with (first | (go_at_call 51; refine (steps_any _ _ _ hl0 hl x0 x1).mono ?_; rintro e w' ⟨rfl, rfl⟩) | (go_at_call 36; refine (has_any _ _ _ _ _ hl0 hl hm0 hm x0 x1).mono ?_; rintro e w1 ⟨rfl, hb⟩; have hk := Keep.on hk hb; obtain ⟨hc, hf⟩ := bcell hb))
            go_roundw
            case rel => exact ⟨j + 1, by omega, by go_num, by rw [Sr.pow_succ], by rw [Sr.low_set hlt (HT.out.trans hv)]; exact Keep.put2 hk (by omega) (by simp; omega) _⟩
            case measure => simp [intOf]; omega
    · obtain rfl : j = 32 := by omega
      have hlow := Sr.low_all (Sr.mask_in (any := true) (l := l) (n := n) hm0 hm).1 (Sr.mask_in (any := true) (l := l) (n := n) hm0 hm).2
      go_wp2
      exact bodyPost_ret (by simp [results, Try.results35, go_sem, *]) rfl (And.intro rfl (below_set3 hk.2.2 (by omega) _ _ _))

set_option maxHeartbeats 2000000 in
theorem take_back (l m n : Int) (w : World) (hl0 : 0 ≤ l) (hl : l < 65536) (hm0 : 0 ≤ m) (hm : m < 4294967296) (hn0 : 0 ≤ n) (hn : n < 65536) (ho : Sr.ok true l m n = true) (hp : ¬ 0 < Sr.steps l n) :
    Calls Try.prog 35 #[.agg #[.bool true, .int .u16 l, .int .u32 m], .int .u16 n] w fun e w' => e = .returned (.tuple #[.agg #[.bool true, .int .u16 l, .int .u32 (Sr.mask true l m n)], .bool true]) ∧ Below w.heap.size w w' := by
  obtain ⟨hh, hf⟩ := Sr.has_of_ok ho
  have HL : Hid (Sr.last true l n = l) := Sr.last_stay hp
  have HO : Hid (Sr.ok true l m n = true) := ho
  clear ho
  go_enter Try.func35, Try.ntmps35
  go_wp2_with (first | (go_at_call 51; refine (steps_any _ _ _ hl0 hl hn0 hn).mono ?_; rintro e w' ⟨rfl, rfl⟩) | (go_at_call 36; refine (has_any _ _ _ _ _ hl0 hl hm0 hm hn0 hn).mono ?_; rintro e w' ⟨rfl, hb⟩; obtain ⟨hc, hf⟩ := bcell hb))
  have hz : w.heap.size + 2 ≤ w'.heap.size := by have := hb.size; simp at this; omega
  have hK0 : Keep w [(w.heap.size, [.bool true, .int .u16 l, .int .u32 m]), (w.heap.size + 1, [.bool false, .int .u16 0, .int .u32 0])] w' := Keep.on ⟨by simp [Lie, LieAt, go_sem, World.cell?_alloc_past, World.frozen?_alloc_past], by simp; omega, below_two _ _ _⟩ hb
  have hK := Keep.name3 (v0 := .bool true) (v1 := .int .u16 l) (v2 := .int .u32 0) (t := 33) hK0
  clear hb hc hf hK0
  generalize w'.alloc (.cells #[.bool true, .int .u16 l, .int .u32 0] 33) = U at *
  generalize w'.heap.size = c at *
  go_loopw [8, 9] (fun o k wr => ∃ j : Nat, j ≤ 32 ∧ k = .int .i64 (j + 1) ∧ o = .int .u32 (Sr.pow j) ∧ Keep w [(c, [.bool true, .int .u16 l, .int .u32 (Sr.low (Sr.mask true l m n) j)]), (w.heap.size, [.bool true, .int .u16 l, .int .u32 m]), (w.heap.size + 1, [.bool false, .int .u16 0, .int .u32 0])] wr) (fun _ k _ => 33 - (intOf k).toNat)
  case atStart => exact ⟨0, by omega, rfl, rfl, by rw [Sr.low_zero]; exact hK⟩
  case round =>
    obtain ⟨j, hj, rfl, rfl, hk⟩ := hrel
    have hS := hk
    simp only [Keep, Lie, LieAt, Nat.reduceAdd] at hS
    obtain ⟨⟨⟨c0, f0, c1, f1, c2, f2, l0⟩, ⟨c3, f3, c4, f4, c5, f5, l1⟩, ⟨c6, f6, c7, f7, c8, f8, l2⟩, -⟩, -⟩ := hS
    by_cases hlt : j < 32
    · obtain ⟨t1, t2, t3, t4⟩ := Sr.take_bit hl0 hl hn0 hn hm0 hm HO.out (k := j + 1) (by omega) (by omega)
      rw [HL.out] at t1 t2 t3 t4
      have x0 := Sr.ahead_lo l (j + 1)
      have x1 := Sr.ahead_hi l (j + 1)
      have hx : (l - ((j : Int) + 1)) % 65536 = Sr.ahead l (j + 1) := rfl
      generalize Sr.ahead l (j + 1) = x at *
      by_cases hs : 0 < Sr.steps l x
      · obtain ⟨hne, htb⟩ := t2 hs
        have hy : (x == n) = false := by simpa using hne
        have HT : Hid (Sr.tb (Sr.mask true l m n) (j + 1) = false) := htb
        clear t1 t2 t3 t4 hne htb
        go_wp2_with (first | (go_at_call 51; refine (steps_any _ _ _ hl0 hl x0 x1).mono ?_; rintro e w' ⟨rfl, rfl⟩) | (go_at_call 36; refine (has_any _ _ _ _ _ hl0 hl hm0 hm x0 x1).mono ?_; rintro e w1 ⟨rfl, hb⟩; have hk := Keep.on hk hb; obtain ⟨hc, hf⟩ := bcell hb))
        go_roundw
        case rel => exact ⟨j + 1, by omega, by go_num, by rw [Sr.pow_succ], by rw [← Sr.low_skip HT.out]; exact hk⟩
        case measure => simp [intOf]; omega
      · by_cases he : x = n
        · have HT : Hid (Sr.tb (Sr.mask true l m n) (j + 1) = true) := t3 he
          have hy : (x == n) = true := by simpa using he
          clear t2 t3 t4 he
          go_wp2_with (first | (go_at_call 51; refine (steps_any _ _ _ hl0 hl x0 x1).mono ?_; rintro e w' ⟨rfl, rfl⟩) | (go_at_call 36; refine (has_any _ _ _ _ _ hl0 hl hm0 hm x0 x1).mono ?_; rintro e w1 ⟨rfl, hb⟩; have hk := Keep.on hk hb; obtain ⟨hc, hf⟩ := bcell hb))
          go_roundw
          case rel => exact ⟨j + 1, by omega, by go_num, by rw [Sr.pow_succ], by rw [Sr.low_set hlt HT.out]; exact Keep.put2 hk (by omega) (by simp; omega) _⟩
          case measure => simp [intOf]; omega
        · have hy : (x == n) = false := by simpa using he
          have HT : Hid (Sr.tb (Sr.mask true l m n) (j + 1) = Sr.has true l m x) := t4 (by omega) he
          clear t2 t3 t4 he
          have d1 : decide (0 < Sr.steps l x) = false := by simpa using hs
          have d2 : decide (Sr.steps l x < -32) = false := by simpa using t1
          cases hv : Sr.has true l m x
          · go_wp2_with (first | (go_at_call 51; refine (steps_any _ _ _ hl0 hl x0 x1).mono ?_; rintro e w' ⟨rfl, rfl⟩) | (go_at_call 36; refine (has_any _ _ _ _ _ hl0 hl hm0 hm x0 x1).mono ?_; rintro e w1 ⟨rfl, hb⟩; have hk := Keep.on hk hb; obtain ⟨hc, hf⟩ := bcell hb))
            go_roundw
            case rel => exact ⟨j + 1, by omega, by go_num, by rw [Sr.pow_succ], by rw [← Sr.low_skip (HT.out.trans hv)]; exact hk⟩
            case measure => simp [intOf]; omega
          · go_wp2_with (first | (go_at_call 51; refine (steps_any _ _ _ hl0 hl x0 x1).mono ?_; rintro e w' ⟨rfl, rfl⟩) | (go_at_call 36; refine (has_any _ _ _ _ _ hl0 hl hm0 hm x0 x1).mono ?_; rintro e w1 ⟨rfl, hb⟩; have hk := Keep.on hk hb; obtain ⟨hc, hf⟩ := bcell hb))
            go_roundw
            case rel => exact ⟨j + 1, by omega, by go_num, by rw [Sr.pow_succ], by rw [Sr.low_set hlt (HT.out.trans hv)]; exact Keep.put2 hk (by omega) (by simp; omega) _⟩
            case measure => simp [intOf]; omega
    · obtain rfl : j = 32 := by omega
      have hlow := Sr.low_all (Sr.mask_in (any := true) (l := l) (n := n) hm0 hm).1 (Sr.mask_in (any := true) (l := l) (n := n) hm0 hm).2
      go_wp2
      exact bodyPost_ret (by simp [results, Try.results35, go_sem, *]) rfl (And.intro rfl (below_set3 hk.2.2 (by omega) _ _ _))

set_option maxHeartbeats 1000000 in
theorem take_any (y : Bool) (l m n : Int) (w : World) (hl0 : 0 ≤ l) (hl : l < 65536) (hm0 : 0 ≤ m) (hm : m < 4294967296) (hn0 : 0 ≤ n) (hn : n < 65536) :
    Calls Try.prog 35 #[.agg #[.bool y, .int .u16 l, .int .u32 m], .int .u16 n] w fun e w' => e = .returned (.tuple #[.agg #[.bool true, .int .u16 (Sr.last y l n), .int .u32 (Sr.mask y l m n)], .bool (Sr.ok y l m n)]) ∧ Below w.heap.size w w' := by
  cases ho : Sr.ok y l m n
  · rw [← ho]; exact take_no y l m n w hl0 hl hm0 hm hn0 hn ho
  · cases y
    · rw [Sr.last_none, Sr.mask_none]
      go_enter Try.func35, Try.ntmps35
      go_wp2
      exact bodyPost_ret (by simp [results, Try.results35, go_sem]) rfl (And.intro rfl (below_two _ _ _))
    · by_cases hp : 0 < Sr.steps l n
      · rw [Sr.last_on hp]; exact take_on l m n w hl0 hl hm0 hm hn0 hn ho hp
      · rw [Sr.last_stay hp]; exact take_back l m n w hl0 hl hm0 hm hn0 hn ho hp

end SrR
end Go.Proofs.Ytloobijdpchppaa

/- What the reference's functions of layer 7 answer, as a call (FrR). -/
import Derived.Test.YtdaedmbdoniaiaaFrAll
import Derived.Test.YtdaedmbdoniaiaaCrcRef
namespace Go.Proofs.Ytdaedmbdoniaiaa
open Go.RowKit
set_option linter.unusedVariables false

namespace FrR
set_option maxHeartbeats 1000000 in
theorem wrap_any (key : Nat) (hk : key < 4294967296) (oa : Option Addr) (l : List Nat) (len cap : Nat) (w : World) (hlen : l.length = len) (hm : (len : Int) ≤ 1400) (hr : RowOf 1 byEnc oa l w) (hb : ∀ x ∈ l, x < 256) :
    Calls Try.prog 10 #[.int .u32 (key : Int), .slice oa len cap] w fun e w' => ∃ v, e = .returned (.tuple #[v, .int .i64 0]) ∧ OwnL 5 1 byEnc v (Fr.wrap key l) w' ∧ Turned [] w w' ∧ ∀ k ∈ blk v, w.heap.size ≤ k := by
  have hL : len < 4294967296 := by omega
  have k1 := CrR.sum_any oa l len cap w hlen (by omega) hr.row hb
  have k2 := CrR.mix_any key len hk hL w
  have e1 : Cr.sum (Cr.four4 key ++ Cr.four4 len) = Fr.mix key len := rfl
  rw [e1] at k2
  have k3 := fun u => CrR.mix_any (Cr.sum l) (Fr.mix key len) (Cr.sum_lt _) (Fr.mix_lt _ _) u
  have e3 : Cr.sum (Cr.four4 (Cr.sum l) ++ Cr.four4 (Fr.mix key len)) = Fr.sum key l := by unfold Fr.sum; rw [hlen]; rfl
  rw [e3] at k3
  have hs := Fr.sum_lt key l
  have ew : Fr.wrap key l = Cr.four4 (Fr.sum key l) ++ l := rfl
  rw [ew]
  generalize Fr.sum key l = s at k3 hs ⊢
  clear e1 e3 hL ew
  go_enter Try.func10, Try.ntmps10
  go_wp2_with (first | (go_at_call 16; with_reducible refine k1.mono ?_; rintro e w' ⟨rfl, rfl⟩) | (go_at_call 15; with_reducible refine k2.mono ?_; rintro e w1 ⟨rfl, hb1⟩) | (go_at_call 15; with_reducible refine (k3 _).mono ?_; rintro e w2 ⟨rfl, hb2⟩))
  have hB : Below w'.heap.size w' w2 := ((Turned.ofBelow hb1).trans (Turned.ofBelow hb2) (by simp)).none
  clear k1 k2 k3 hb1 hb2
  go_loopw [6, 7, 8] (fun m v i wr => ∃ k x : Nat, k ≤ 4 ∧ i = .int .i64 k ∧ m = .int .u32 (x : Int) ∧ x = s / 256 ^ k ∧ Own w'.heap.size v ((Cr.four4 s).take k) wr ∧ Below w'.heap.size w' wr) (fun _ _ i _ => 4 - (intOf i).toNat)
  case atStart => exact ⟨0, s, by omega, rfl, rfl, by simp, Own.nil _ _, hB⟩
  case round =>
    clear hB
    obtain ⟨k, x, hk, rfl, rfl, hx, hown, hbel⟩ := hrel
    have hxl : x < 4294967296 := by rw [hx]; exact Nat.lt_of_le_of_lt (Nat.div_le_self _ _) hs
    have HX : Hid (x = s / 256 ^ k) := hx
    clear hx
    by_cases hlt : k < 4
    · have hle := CrR.four_len s k
      have hsz := hbel.size
      go_wp2_with (at_builtin; refine wp_put _ rfl _ _ rfl w'.heap.size _ _ rfl (hown.alloc _) wr.heap.size (x % 256) rfl (by simp) (by omega) (by simp; omega) ?_; intro v' w1 hown' hb'; have HB := hb'; clear hb')
      go_roundw
      case rel => exact ⟨k + 1, x / 256, by omega, by go_num, by go_num, by rw [HX.out, Cr.pow_step], by rw [← CrR.four_next hlt HX.out]; exact hown', (hbel.alloc hsz _).trans HB⟩
      case measure => simp [intOf]; omega
    · obtain rfl : k = 4 := by omega
      have hown4 : Own w'.heap.size u7 (Cr.four4 s) wr := hown
      have ho4 := hown4.ownL
      have hge : ∀ k ∈ blk u7, w'.heap.size ≤ k := fun k hk => (World.ownsRow.lt hown4 k (by simpa [blk] using hk)).1
      have ht4 := Turned.ofBelow hbel
      have hr4 := hr.turned ht4 (by simp)
      have HL : Hid ((Cr.four4 s).length + len ≤ 100000) := by show 4 + len ≤ _; omega
      clear hown hown4 HX hlt hk hbel hr
      rw [show ((4 : Nat) : Int) = 4 from rfl]
      go_wp2_with (at_builtin; refine wp_pushAll elem_u8 rfl _ _ rfl rfl ho4 oa len cap l hlen rfl hr4 byEnc_len byEnc_one (by have := HL.out; unfold maxLen; omega) (by have := HL.out; omega) ?_; intro v' w3 ho3 ht3 hb3)
      go_ret2
      refine ⟨v', rfl, ho3, ht4.trans ht3 ?_, ?_⟩
      · intro k hkb hl
        have := hge k hkb
        omega
      · intro k hkb
        rcases hb3 with h | h
        · rw [h] at hkb; exact hge k hkb
        · rw [h] at hkb; simp at hkb; have := ht4.size; omega

set_option maxHeartbeats 400000 in
theorem wrap_long (key : Int) (oa : Option Addr) (len cap : Nat) (w : World) (hm : 1400 < (len : Int)) (hm' : (len : Int) ≤ 9223372036854775807) :
    Calls Try.prog 10 #[.int .u32 key, .slice oa len cap] w fun e w' => e = .returned (.tuple #[.slice none 0 0, .int .i64 3]) ∧ w' = w := by
  go_enter Try.func10, Try.ntmps10
  go_wp2
  go_ret2
  exact ⟨rfl, rfl⟩

theorem wrap_all (key : Nat) (hk : key < 4294967296) (oa : Option Addr) (l : List Nat) (len cap : Nat) (w : World) (hlen : l.length = len) (hm : (len : Int) ≤ 1000000) (hr : RowOf 1 byEnc oa l w) (hb : ∀ x ∈ l, x < 256) :
    Calls Try.prog 10 #[.int .u32 (key : Int), .slice oa len cap] w fun e w' => ∃ v, e = .returned (.tuple #[v, .int .i64 (Fr.wrapC l)]) ∧ OwnL 5 1 byEnc v (Fr.wrapL key l) w' ∧ Turned [] w w' ∧ ∀ k ∈ blk v, w.heap.size ≤ k := by
  by_cases h : l.length ≤ 1400
  · rw [Fr.wrapC_ok h, Fr.wrapL_ok h]
    exact wrap_any key hk oa l len cap w hlen (by omega) hr hb
  · rw [Fr.wrapC_long h, Fr.wrapL_long h]
    refine (wrap_long _ oa len cap w (by omega) (by omega)).mono ?_
    rintro e w' ⟨rfl, rfl⟩
    exact ⟨_, rfl, OwnL.nil _ _ _ _, Turned.refl _ _, by simp [blk_nil]⟩

set_option maxHeartbeats 400000 in
theorem open_short (key : Int) (oa : Option Addr) (len cap : Nat) (w : World) (hm : (len : Int) < 4) :
    Calls Try.prog 12 #[.int .u32 key, .slice oa len cap] w fun e w' => e = .returned (.tuple #[.slice none 0 0, .int .i64 4]) ∧ w' = w := by
  go_enter Try.func12, Try.ntmps12
  go_wp2
  go_ret2
  exact ⟨rfl, rfl⟩

set_option maxHeartbeats 400000 in
theorem open_long (key : Int) (g off : Nat) (len cap : Nat) (w : World) (hm : 1404 < (len : Int)) (hm' : (len : Int) ≤ 1000000) (hc : (len : Int) ≤ (cap : Int)) :
    Calls Try.prog 12 #[.int .u32 key, .slice (some ⟨g, off, none⟩) len cap] w fun e w' => e = .returned (.tuple #[.slice none 0 0, .int .i64 3]) ∧ w' = w := by
  have hcap : ¬ cap = 4 := by omega
  have k := wrap_long key (some ⟨g, off + 4, none⟩) (len - 4) (cap - 4) w (by omega) (by omega)
  go_enter Try.func12, Try.ntmps12
  go_wp2_with (go_at_call 10; with_reducible refine k.mono ?_; rintro e w' ⟨rfl, hw⟩; subst hw)
  go_ret2
  exact ⟨rfl, rfl⟩

set_option maxHeartbeats 1000000 in
theorem open_in (key : Nat) (hk : key < 4294967296) (g off : Nat) (l : List Nat) (cap : Nat) (w : World) (hm4 : 4 ≤ (l.length : Int)) (hm : (l.length : Int) ≤ 1404) (hc : (l.length : Int) ≤ (cap : Int)) (hr : RowOf 1 byEnc (some ⟨g, off, none⟩) l w) (hb : ∀ x ∈ l, x < 256) :
    Calls Try.prog 12 #[.int .u32 (key : Int), .slice (some ⟨g, off, none⟩) l.length cap] w fun e w' => (Fr.opens key l = true → ∃ oa c, e = .returned (.tuple #[.slice oa (l.length - 4) c, .int .i64 0]) ∧ RowOf 1 byEnc oa (l.drop 4) w') ∧ (Fr.opens key l = false → e = .returned (.tuple #[.slice none 0 0, .int .i64 5])) ∧ Turned [] w w' := by
  have hl4 : (l.drop 4).length = l.length - 4 := by rw [List.length_drop]
  have hb4 : ∀ x ∈ l.drop 4, x < 256 := fun x hx => hb x (List.mem_of_mem_drop hx)
  have hrd := hr.rest (a := 4)
  have h0 : cap = 4 → RowOf 1 byEnc (some ⟨g, off, none⟩) (l.drop 4) w := by
    intro h
    have : l.drop 4 = [] := List.drop_eq_nil_of_le (by omega)
    rw [this]
    intro i a hi
    simp at hi
  have km : ∀ o c, RowOf 1 byEnc (some ⟨g, o, none⟩) (l.drop 4) w → Calls Try.prog 10 #[.int .u32 (key : Int), .slice (some ⟨g, o, none⟩) (l.length - 4) c] w fun e w' => ∃ ob cb, e = .returned (.tuple #[.slice ob (Fr.wrap key (l.drop 4)).length cb, .int .i64 0]) ∧ RowOf 1 byEnc ob (Fr.wrap key (l.drop 4)) w' ∧ Turned [] w w' := by
    intro o c hu
    refine (wrap_any key hk _ (l.drop 4) (l.length - 4) c w hl4 (by omega) hu hb4).mono ?_
    rintro e w' ⟨v, rfl, ho, ht, _⟩
    obtain ⟨ob, cb, hv, _, _, hrow, _⟩ := ho.rowOf byEnc_len
    exact ⟨ob, cb, by rw [hv], hrow, ht⟩
  have hlw : (Fr.wrap key (l.drop 4)).length ≤ 1099511627776 := by rw [Fr.wrap_length]; omega
  have hll : l.length ≤ 1099511627776 := by omega
  have ke := fun ob cb u h1 h2 => BtL.same_any (some ⟨g, off, none⟩) ob cap cb l (Fr.wrap key (l.drop 4)) u h1 h2 hll hlw
  have eq : decide (l = Fr.wrap key (l.drop 4)) = Fr.opens key l := by
    unfold Fr.opens
    rw [Bool.eq_iff_iff, decide_eq_true_iff, beq_iff_eq]
  rw [eq] at ke
  generalize Fr.opens key l = q at ke ⊢
  clear eq hlw hll hb4 hb
  by_cases hcap : cap = 4
  · have km' := fun c => km _ c (h0 hcap)
    have hr4 := h0 hcap
    subst hcap
    clear h0 hrd km
    go_enter Try.func12, Try.ntmps12
    cases q
    · go_wp2_with (first | (go_at_call 10; with_reducible refine (km' _).mono ?_; rintro e w1 ⟨ob, cb, rfl, hrow, ht1⟩) | (go_at_call 13; with_reducible refine (ke _ _ _ (hr.turned ht1 (by simp)) hrow).mono ?_; rintro e w2 ⟨rfl, ht2⟩))
      go_ret2
      exact ⟨rfl, ht1.trans ht2 (fun k hk _ => hk)⟩
    · go_wp2_with (first | (go_at_call 10; with_reducible refine (km' _).mono ?_; rintro e w1 ⟨ob, cb, rfl, hrow, ht1⟩) | (go_at_call 13; with_reducible refine (ke _ _ _ (hr.turned ht1 (by simp)) hrow).mono ?_; rintro e w2 ⟨rfl, ht2⟩))
      go_ret2
      exact ⟨⟨_, ⟨_, rfl⟩, (hr4.turned ht1 (by simp)).turned ht2 (by simp)⟩, ht1.trans ht2 (fun k hk _ => hk)⟩
  · have km' := fun c => km _ c hrd
    have hr4 := hrd
    clear h0 hrd km
    go_enter Try.func12, Try.ntmps12
    cases q
    · go_wp2_with (first | (go_at_call 10; with_reducible refine (km' _).mono ?_; rintro e w1 ⟨ob, cb, rfl, hrow, ht1⟩) | (go_at_call 13; with_reducible refine (ke _ _ _ (hr.turned ht1 (by simp)) hrow).mono ?_; rintro e w2 ⟨rfl, ht2⟩))
      go_ret2
      exact ⟨rfl, ht1.trans ht2 (fun k hk _ => hk)⟩
    · go_wp2_with (first | (go_at_call 10; with_reducible refine (km' _).mono ?_; rintro e w1 ⟨ob, cb, rfl, hrow, ht1⟩) | (go_at_call 13; with_reducible refine (ke _ _ _ (hr.turned ht1 (by simp)) hrow).mono ?_; rintro e w2 ⟨rfl, ht2⟩))
      go_ret2
      exact ⟨⟨_, ⟨_, rfl⟩, (hr4.turned ht1 (by simp)).turned ht2 (by simp)⟩, ht1.trans ht2 (fun k hk _ => hk)⟩

theorem open_all (key : Nat) (hk : key < 4294967296) (oa : Option Addr) (l : List Nat) (cap : Nat) (w : World) (hm : (l.length : Int) ≤ 1000000) (hc : (l.length : Int) ≤ (cap : Int)) (hr : RowOf 1 byEnc oa l w) (hb : ∀ x ∈ l, x < 256) :
    Calls Try.prog 12 #[.int .u32 (key : Int), .slice oa l.length cap] w fun e w' => ∃ oa c, e = .returned (.tuple #[.slice oa (Fr.openL key l).length c, .int .i64 (Fr.openC key l)]) ∧ RowOf 1 byEnc oa (Fr.openL key l) w' ∧ Turned [] w w' := by
  have hnil : ∀ w, RowOf 1 byEnc none ([] : List Nat) w := by
    intro w i a hi
    simp at hi
  by_cases h4 : l.length < 4
  · rw [Fr.openL_of (Fr.openC_short h4) (by decide), Fr.openC_short h4]
    refine (open_short _ oa l.length cap w (by omega)).mono ?_
    rintro e w' ⟨rfl, rfl⟩
    exact ⟨_, _, rfl, hnil _, Turned.refl _ _⟩
  · obtain ⟨g, off, rfl⟩ := hr.addr (by omega)
    by_cases h : 1404 < l.length
    · rw [Fr.openL_of (Fr.openC_long h) (by decide), Fr.openC_long h]
      refine (open_long _ g off l.length cap w (by omega) (by omega) hc).mono ?_
      rintro e w' ⟨rfl, rfl⟩
      exact ⟨_, _, rfl, hnil _, Turned.refl _ _⟩
    · refine (open_in key hk g off l cap w (by omega) (by omega) hc hr hb).mono ?_
      rintro e w' ⟨h1, h2, h3⟩
      have hC := Fr.openC_in (key := key) (l := l) (by omega) (by omega)
      cases ho : Fr.opens key l with
      | false =>
        rw [ho, if_neg (by simp)] at hC
        rw [Fr.openL_of hC (by decide), hC, h2 ho]
        exact ⟨_, _, rfl, hnil _, h3⟩
      | true =>
        rw [ho, if_pos rfl] at hC
        obtain ⟨ob, c, rfl, h5⟩ := h1 ho
        rw [Fr.openL_ok hC, hC, List.length_drop]
        exact ⟨_, _, rfl, h5, h3⟩
end FrR
end Go.Proofs.Ytdaedmbdoniaiaa

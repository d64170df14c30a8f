/- What the reference's reader of bits answers, as a call: small numbers (BtG). -/
import Derived.Test.YtjphcbcbaiifhaaBitRg
namespace Go.Proofs.Ytjphcbcbaiifhaa
open Go.RowKit
set_option linter.unusedVariables false

namespace BtG
open BtR (RB)
open BtW (int_ret puts)
theorem take_same {l s : List Bool} {k : Nat} {a b : Bool} (h : l.take k = s.take k) (ha : l[k]? = some a) (hb : s[k]? = some b) : (l.take (k + 1) = s.take (k + 1)) ↔ a = b := by
  rw [List.take_add_one, List.take_add_one, ha, hb, h]
  simp
theorem ne_of_take {l s : List Bool} {k : Nat} {a b : Bool} (ha : l[k]? = some a) (hb : s[k]? = some b) (hab : a ≠ b) : l ≠ s := by
  rintro rfl
  rw [ha] at hb
  exact hab (by simpa using hb)

set_option maxHeartbeats 2000000 in
theorem same_any (oa : Option Addr) (cap : Nat) (ls : List Bool) (x : Int) (h1 : -9223372036854775808 ≤ x) (h2 : x < 9223372036854775808) (w : World) (hr : RowOf 1 bEnc oa ls w) (hl : ls.length ≤ 1099511627776) :
    Calls Try.prog 60 #[.slice oa ls.length cap, .int .i64 x] w fun e w' => e = .returned (.bool (decide (ls = Bt.sm (Bt.zig x)))) ∧ Turned [] w w' := by
  have h0 := RBits.new 4 w 40
  have ks := BtR.small_any w.heap.size [] [w.heap.size] x h1 h2 _ h0 (by simp)
  have hz := Bt.eights_ten (Bt.zig_lt h1 h2)
  have hsl := Bt.sm_length (Bt.zig x)
  rw [List.nil_append] at ks
  obtain ⟨s, hs⟩ : ∃ s, s = Bt.sm (Bt.zig x) := ⟨_, rfl⟩
  rw [← hs] at ks hsl ⊢
  have hs80 : s.length ≤ 80 := by omega
  clear hz hsl hs h1 h2 h0
  have hT0 : ∀ (F2 : List Nat) (w2 : World), Moved [w.heap.size] F2 (w.alloc (.cells #[.slice none 0 0] 40)) w2 → Turned [] w w2 := fun F2 w2 hm => ((Turned.refl [] w).alloc _).trans hm.1 (by intro k hk hl; simp at hk; omega)
  have hcs : ∀ (F2 : List Nat) (w2 : World), RB w.heap.size s F2 w2 → ∃ ob cb, w2.cell? ⟨w.heap.size, 0, none⟩ = some (.slice ob s.length cb) ∧ RowOf 1 bEnc ob s w2 := by
    intro F2 w2 hrb
    obtain ⟨v, hs, ho, rfl, hn⟩ := hrb
    obtain ⟨ob, cb, rfl, _, _, hr, _⟩ := ho.rowOf bEnc_len
    exact ⟨ob, cb, (hs.2 0 _ rfl).1, hr⟩
  by_cases hlen : ls.length = s.length
  · go_enter Try.func60, Try.ntmps60
    go_wp2_with (go_at_call 44; with_reducible refine ks.mono ?_; rintro e w2 ⟨rfl, F2, hrb, hmv⟩; obtain ⟨ob, cb, c0, hrs⟩ := hcs F2 w2 hrb)
    have hT := hT0 F2 w2 hmv
    have hrl := hr.turned hT (by simp)
    clear hT0 hcs ks hr hrb hmv
    go_loopw [6] (fun i wr => ∃ k : Nat, k ≤ s.length ∧ i = .int .i64 (k : Int) ∧ ls.take k = s.take k ∧ Turned [] w2 wr) (fun i _ => s.length - (intOf i).toNat)
    case atStart => exact ⟨0, by omega, rfl, by simp, Turned.refl _ _⟩
    case round =>
      obtain ⟨k, hk, rfl, htk, hT2⟩ := hrel
      have d0 : wr.cell? ⟨w.heap.size, 0, none⟩ = some (.slice ob s.length cb) := (hT2.cell (World.block_lt_of_cell? _ _ c0) (by simp)).trans c0
      have hrl2 := hrl.turned hT2 (by simp)
      have hrs2 := hrs.turned hT2 (by simp)
      clear hrl hrs c0
      by_cases hlt : (k : Int) < (s.length : Int)
      · have hk1 : k < ls.length := by omega
        have hk2 : k < s.length := by omega
        obtain ⟨a, ha⟩ : ∃ a, ls[k]? = some a := ⟨_, List.getElem?_eq_getElem hk1⟩
        obtain ⟨b, hb⟩ : ∃ b, s[k]? = some b := ⟨_, List.getElem?_eq_getElem hk2⟩
        obtain ⟨g1, o1, rfl, hg1, hc1⟩ := hrl2 _ _ ha
        obtain ⟨g2, o2, rfl, hg2, hc2⟩ := hrs2 _ _ hb
        have e1 := hc1 0 _ rfl
        have e2 := hc2 0 _ rfl
        rw [Nat.mul_one, Nat.add_zero] at e1 e2
        clear hc1 hc2 hrl2 hrs2
        by_cases hab : a = b
        · have HT : Hid (ls.take (k + 1) = s.take (k + 1)) := (take_same htk ha hb).2 hab
          clear htk ha hb
          subst hab
          cases a
          all_goals
            go_wp2_with fail
            go_region
            go_wp2_with fail
            go_roundw
            case rel => exact ⟨k + 1, by omega, by go_num, HT.out, hT2.drew⟩
            case measure => simp [intOf]; omega
        · have HN : Hid (decide (ls = s) = false) := by show _ = _; simpa using ne_of_take ha hb hab
          clear htk ha hb
          cases a <;> cases b
          · exact absurd rfl hab
          · clear hab
            go_wp2_with fail
            go_region
            go_wp2_with fail
            go_ret
            exact bool_ret HN.out.symm (hT.trans hT2.drew (fun k hk _ => hk))
          · clear hab
            go_wp2_with fail
            go_region
            go_wp2_with fail
            go_ret
            exact bool_ret HN.out.symm (hT.trans hT2.drew (fun k hk _ => hk))
          · exact absurd rfl hab
      · have hk' : k = s.length := by omega
        subst hk'
        have HE : Hid (decide (ls = s) = true) := by
          show _ = _
          rw [List.take_length, ← hlen, List.take_length] at htk
          simpa using htk
        clear htk
        go_wp2_with fail
        go_ret
        exact bool_ret HE.out.symm (hT.trans hT2 (fun k hk _ => hk))
  · have HN : Hid (decide (ls = s) = false) := by
      show _ = _
      simp
      rintro rfl
      exact hlen rfl
    have hlen' : ¬ (s.length : Int) = (ls.length : Int) := by omega
    go_enter Try.func60, Try.ntmps60
    go_wp2_with (go_at_call 44; with_reducible refine ks.mono ?_; rintro e w2 ⟨rfl, F2, hrb, hmv⟩; obtain ⟨ob, cb, c0, hrs⟩ := hcs F2 w2 hrb)
    go_ret
    exact bool_ret HN.out.symm (hT0 F2 w2 hmv)

/-- behind j times eight bits that told n: what grp tells of what is left, and of all -/
def glay (j n : Nat) : Option (Nat × Nat) → Option (Nat × Nat)
  | none => none
  | some (u, c) => some (n + 128 ^ j * u, c + j)
theorem grp_next {k j n : Nat} {r : List Bool} (h7 : ¬ r.length < 7) : glay j n (Bt.grp (k + 1) (true :: r)) = glay (j + 1) (n + 128 ^ j * Bt.val (r.take 7)) (Bt.grp k (r.drop 7)) := by
  rw [Bt.grp_true k h7]
  cases Bt.grp k (r.drop 7) with
  | none => rfl
  | some q =>
    obtain ⟨u, c⟩ := q
    show some (n + 128 ^ j * (Bt.val (r.take 7) + 128 * u), c + 1 + j) = some (n + 128 ^ j * Bt.val (r.take 7) + 128 ^ (j + 1) * u, c + (j + 1))
    rw [Nat.mul_add, Nat.pow_succ, ← Nat.mul_assoc, ← Nat.add_assoc, show c + 1 + j = c + (j + 1) by omega]
theorem grp_end {k j n : Nat} {r : List Bool} (h7 : ¬ r.length < 7) : glay j n (Bt.grp (k + 1) (false :: r)) = some (n + 128 ^ j * Bt.val (r.take 7), j + 1) := by
  rw [Bt.grp_false k h7]
  show some (n + 128 ^ j * Bt.val (r.take 7), 1 + j) = _
  rw [Nat.add_comm 1 j]
theorem grp_short {k j n : Nat} {l : List Bool} (h : l.length < 8) : glay j n (Bt.grp k l) = none := by
  cases k with
  | zero => rfl
  | succ k =>
    cases l with
    | nil => rfl
    | cons m r =>
      have : Bt.grp (k + 1) (m :: r) = none := by
        unfold Bt.grp
        simp only []
        rw [if_pos (by rw [List.length_cons] at h; omega)]
      rw [this]; rfl
/-- read, and put again -/
theorem small_same {l : List Bool} {U c : Nat} (h : Bt.grp 10 l = some (U, c)) : Bt.small l = if l.take (8 * c) = Bt.sm (Bt.zig (Bt.zag (U % 18446744073709551616))) then some (Bt.zag (U % 18446744073709551616), 8 * c) else none := by
  rw [Bt.zig_zag]
  have hV : U % 18446744073709551616 < 18446744073709551616 := Nat.mod_lt _ (by omega)
  obtain ⟨g1, g2, g3, g4, g5, g6⟩ := Bt.grp_some h
  by_cases he : l.take (8 * c) = Bt.sm (U % 18446744073709551616)
  · rw [if_pos he]
    have hl : l = Bt.sm (U % 18446744073709551616) ++ l.drop (8 * c) := by rw [← he, List.take_append_drop]
    have hlen := congrArg List.length he
    rw [List.length_take, Nat.min_eq_left g3, Bt.sm_length] at hlen
    rw [Bt.small_iff, Bt.zig_zag]
    exact ⟨hV, hlen, _, hl⟩
  · rw [if_neg he]
    cases hs : Bt.small l with
    | none => rfl
    | some q =>
      obtain ⟨x, n⟩ := q
      obtain ⟨h1, h2, r, h3⟩ := Bt.small_iff.1 hs
      have h4 := Bt.grp_sm r (Bt.eights_ten h1)
      rw [← h3, h] at h4
      simp at h4
      obtain ⟨rfl, rfl⟩ := h4
      exfalso
      apply he
      rw [Nat.mod_eq_of_lt h1]
      exact g6 rfl
theorem small_no {l : List Bool} (h : Bt.grp 10 l = none) : Bt.small l = none := by unfold Bt.small; rw [h]
theorem st_none {r : Bt.Rd} (hf : r.fail = false) (e : Bt.small r.rest = none) : r.sTell = 0 ∧ r.sTake = ⟨r.l, r.at_, true⟩ := by
  unfold Bt.Rd.sTell Bt.Rd.sTake
  rw [hf, e]
  exact ⟨rfl, rfl⟩
theorem st_some {r : Bt.Rd} {x : Int} {c : Nat} (hf : r.fail = false) (e : Bt.small r.rest = some (x, c)) : r.sTell = x ∧ r.sTake = ⟨r.l, r.at_ + c, false⟩ := by
  unfold Bt.Rd.sTell Bt.Rd.sTake
  rw [hf, e]
  exact ⟨rfl, rfl⟩

end BtG
end Go.Proofs.Ytjphcbcbaiifhaa

/- One more sign is taken, or not; whether a text may end: the program's (TiW). -/
import Derived.Test.YtbfffgnalopfbaaTilWTake2
namespace Go.Proofs.Ytbfffgnalopfbaa
open Go.RowKit
set_option linter.unusedVariables false
set_option linter.unusedSimpArgs false

namespace TiW
variable {B I : Nat} {o : Obj} {w0 w : World} {st : Ti.S} {va vb : Value}
/-- the rune that stands where a sign stands, or none -/
def Stands (k : Nat) (r : Int) : Prop := (1 ≤ k ∧ k ≤ 4 ∧ r = Ti.rune k) ∨ (k = 0 ∧ r ≠ 9608 ∧ r ≠ 183 ∧ r ≠ 9678 ∧ r ≠ 10)
theorem stands_line {k : Nat} {r : Int} (h : Stands k r) (hk : k ≠ 4) : (r == 10) = false := by
  rw [beq_eq_false_iff_ne]
  rcases h with ⟨h1, h2, h3⟩ | ⟨h1, h2, h3, h4, h5⟩
  · have : k = 1 ∨ k = 2 ∨ k = 3 := by omega
    rcases this with rfl | rfl | rfl <;> (rw [h3]; decide)
  · exact h5

set_option maxHeartbeats 4000000 in
theorem take_bad (h : RP B I o w0 st va vb w) {a k : Nat} {r : Int} (hi : Ti.Inv a st) (hxw : 0 < st.H → st.x ≤ st.W) (hr : Stands k r) (hb : Ti.bad k st) :
    Calls Try.prog 27 #[.pointer (some ⟨B, 0, none⟩), .int .i32 r] w fun e w' => e = .returned (.bool false) ∧ Turned [] w w' := by
  have hl := h.own.1
  have d1 := (h.own.2 1 _ rfl).1
  by_cases hH : st.H = 32
  · have i1 : ((st.H : Int) == 32) = true := by rw [beq_iff_eq]; omega
    clear hH hb
    go_enter Try.func27, Try.ntmps27
    go_wp2
    go_ret
    exact ⟨rfl, Turned.refl _ _⟩
  · have hH32 := hi.h
    have i1 : ((st.H : Int) == 32) = false := by rw [beq_eq_false_iff_ne]; omega
    by_cases hk : k = 4
    · subst hk
      have hr10 : r = 10 := by
        rcases hr with ⟨_, _, h3⟩ | ⟨h1, _⟩
        · exact h3
        · omega
      have kl := line_bad h hxw hb
      subst hr10
      clear hb hr hH hi hxw
      go_enter Try.func27, Try.ntmps27
      go_wp2_with (go_at_call 51; (with_reducible refine kl.mono ?_); rintro e u ⟨rfl, hT⟩)
      go_ret
      exact ⟨rfl, hT⟩
    · have i2 := stands_line hr hk
      have km := fun (v : KeptW w) => kept_same (most_any (h.keep (Turned.ofBelow v.h)))
      have d4 := KeptW.at hl (h.own.2 4 _ rfl).1
      have ne : Nonempty (KeptW w) := KeptW.one w
      unfold Ti.bad at hb
      rw [if_neg hk] at hb
      by_cases hm : st.x < most st
      · have i3 : decide (st.x < most st) = true := by simpa using hm
        have hk0 : k = 0 := by
          rcases hb with h1 | h1 | h1 | ⟨h1, h2⟩
          · exact h1
          · omega
          · exfalso; unfold most at hm; split at hm
            · omega
            · have := hi.w; omega
          · exfalso; unfold most at hm; rw [if_neg (by omega)] at hm; omega
        have hn : r ≠ 9608 ∧ r ≠ 183 ∧ r ≠ 9678 := by
          rcases hr with ⟨h1, _⟩ | ⟨_, h2, h3, h4, _⟩
          · omega
          · exact ⟨h2, h3, h4⟩
        have kt := fun (v : KeptW w) => kept_same (tile_no r hn.1 hn.2.1 hn.2.2 B v.u)
        clear hb hr hH hi hxw hm hk0 hn h
        go_enter Try.func27, Try.ntmps27
        go_wp2_with fail
        refine wp_region_kept (by kernel_rfl) (by kernel_rfl) ?_
        repeat (go_big_quiet_step (first | (go_at_call 52; with_reducible exact km _) | (go_at_call 53; with_reducible exact kt _)))
        refine wpQuiet_nil ?_
        rintro _ ⟨v, rfl⟩
        go_wp2_with fail
        go_ret
        exact ⟨rfl, Turned.ofBelow v.h⟩
      · have i3 : decide (st.x < most st) = false := by simpa using hm
        clear hb hr hH hi hxw hm h
        go_enter Try.func27, Try.ntmps27
        go_wp2_with fail
        refine wp_region_kept (by kernel_rfl) (by kernel_rfl) ?_
        repeat (go_big_quiet_step (first | (go_at_call 52; with_reducible exact km _)))
        refine wpQuiet_nil ?_
        rintro _ ⟨v, rfl⟩
        go_wp2_with fail
        go_ret
        exact ⟨rfl, Turned.ofBelow v.h⟩

/-- what takeTile does of a sign that fits -/
theorem fits_any (h : RP B I o w0 st va vb w) {a k : Nat} (hi : Ti.Inv a st) (ha : a ≤ 1000000) (hb : ¬ Ti.bad k st) (h1 : 1 ≤ k) (h3 : k ≤ 3) :
    Calls Try.prog 53 #[.pointer (some ⟨B, 0, none⟩), .int .i32 (Ti.rune k)] w fun e w' => e = .returned (.bool true) ∧ ∃ va' vb', RP B I o w0 (Ti.next k st) va' vb' w' := by
  have hws := hi.ws
  have hsp := hi.sp
  unfold Ti.bad at hb
  rw [if_neg (by omega)] at hb
  have hx : st.x < 32 := by
    by_cases e : st.x < 32
    · exact e
    · exact absurd (.inr (.inr (.inl (by omega)))) hb
  have hH : st.H < 32 := by
    by_cases e : st.H < 32
    · exact e
    · exact absurd (.inr (.inl (by omega))) hb
  have hk : k = 1 ∨ k = 2 ∨ k = 3 := by omega
  rcases hk with rfl | rfl | rfl
  · exact tile_one h hx (by omega)
  · exact tile_two h hx (by omega)
  · exact tile_three h hx hH (by omega) (by omega)

set_option maxHeartbeats 4000000 in
theorem take_any (h : RP B I o w0 st va vb w) {a k : Nat} {r : Int} (hi : Ti.Inv a st) (ha : a ≤ 1000000) (hr : Stands k r) (hb : ¬ Ti.bad k st) :
    Calls Try.prog 27 #[.pointer (some ⟨B, 0, none⟩), .int .i32 r] w fun e w' => e = .returned (.bool true) ∧ ∃ va' vb', RP B I o w0 (Ti.next k st) va' vb' w' := by
  have hl := h.own.1
  have d1 := (h.own.2 1 _ rfl).1
  have hk0 : k ≠ 0 := by
    intro e
    apply hb
    unfold Ti.bad
    rw [if_neg (by omega)]
    exact .inl e
  have hk4 : 1 ≤ k ∧ k ≤ 4 ∧ r = Ti.rune k := by
    rcases hr with h1 | ⟨h1, _⟩
    · exact h1
    · exact absurd h1 hk0
  by_cases hk : k = 4
  · subst hk
    have hr10 : r = 10 := hk4.2.2
    have hH : st.H < 32 := by
      refine hi.hx ?_
      by_cases e : st.x = 0
      · exact absurd (by unfold Ti.bad; rw [if_pos rfl]; exact .inl e) hb
      · omega
    have i1 : ((st.H : Int) == 32) = false := by rw [beq_eq_false_iff_ne]; omega
    have kl := line_any h (by omega) hb
    subst hr10
    clear hb hr hH hi hk4 hk0
    go_enter Try.func27, Try.ntmps27
    go_wp2_with (go_at_call 51; (with_reducible refine kl.mono ?_); rintro e u ⟨rfl, hT⟩)
    go_ret
    exact ⟨rfl, _, _, hT⟩
  · have i2 := stands_line hr hk
    have hb' := hb
    unfold Ti.bad at hb'
    rw [if_neg hk] at hb'
    have hH : st.H < 32 := by
      by_cases e : st.H < 32
      · exact e
      · exact absurd (.inr (.inl (by omega))) hb'
    have hm : st.x < most st := by
      unfold most
      split
      · by_cases e : st.x < 32
        · exact e
        · exact absurd (.inr (.inr (.inl (by omega)))) hb'
      · by_cases e : st.x < st.W
        · exact e
        · exact absurd (.inr (.inr (.inr ⟨by omega, by omega⟩))) hb'
    have i1 : ((st.H : Int) == 32) = false := by rw [beq_eq_false_iff_ne]; omega
    have i3 : decide (st.x < most st) = true := by simpa using hm
    have hrd := h.keep ((Turned.refl [] w).drew)
    have km := most_any hrd
    have kt := fits_any hrd hi ha hb hk4.1 (by omega)
    have d4 := (hrd.own.2 4 _ rfl).1
    obtain ⟨_, _, hrr⟩ := hk4
    rw [← hrr] at kt
    clear hb hb' hr hH hi hm hk0 hrr
    go_enter Try.func27, Try.ntmps27
    go_wp2_with fail
    go_region_with (first | (go_at_call 52; (with_reducible refine km.mono ?_); rintro e u ⟨rfl, rfl⟩) | (go_at_call 53; (with_reducible refine kt.mono ?_); rintro e u ⟨rfl, va', vb', hR⟩))
    all_goals
      go_wp2_with fail
      go_ret
      exact ⟨rfl, _, _, hR⟩

set_option maxHeartbeats 1000000 in
theorem whole_any (h : RP B I o w0 st va vb w) :
    Calls Try.prog 28 #[.pointer (some ⟨B, 0, none⟩)] w fun e w' => e = .returned (.bool (!decide (0 < st.x ∨ st.sp = []))) ∧ Turned [] w w' := by
  obtain ⟨ob, cb, rfl, hcb, hcm2⟩ := h.sp.form
  have d4 := (h.own.2 4 _ rfl).1
  have d3 := (h.own.2 3 _ rfl).1
  obtain ⟨n, hn⟩ : ∃ n, n = st.sp.length := ⟨_, rfl⟩
  rw [← hn] at d3
  by_cases hx : st.x = 0
  · have i1 : ((st.x : Int) == 0) = true := by rw [beq_iff_eq]; omega
    by_cases hs : st.sp = []
    · have HA : Hid ((!decide (0 < st.x ∨ st.sp = [])) = false) := by show _ = _; simp [hs]
      have i2 : decide (0 < n) = false := by rw [hn, hs]; rfl
      clear hx hs hn
      go_enter Try.func28, Try.ntmps28
      go_wp2_with fail
      go_ret
      exact ti_bool HA.out.symm (Turned.refl _ _)
    · have HA : Hid ((!decide (0 < st.x ∨ st.sp = [])) = true) := by show _ = _; simp [hs, hx]
      have i2 : decide (0 < n) = true := by rw [hn, decide_eq_true_eq]; exact List.length_pos_iff.2 hs
      clear hx hs hn
      go_enter Try.func28, Try.ntmps28
      go_wp2_with fail
      go_ret
      exact ti_bool HA.out.symm (Turned.refl _ _)
  · have i1 : ((st.x : Int) == 0) = false := by rw [beq_eq_false_iff_ne]; omega
    have HA : Hid ((!decide (0 < st.x ∨ st.sp = [])) = false) := by show _ = _; simp; omega
    clear hx hn
    go_enter Try.func28, Try.ntmps28
    go_wp2_with fail
    go_ret
    exact ti_bool HA.out.symm (Turned.refl _ _)
end TiW
end Go.Proofs.Ytbfffgnalopfbaa

/- One more sign is taken: the program's (TiW). -/
import Derived.Test.YtbfffgnalopfbaaTilDec
import Derived.Test.YtbfffgnalopfbaaTilRead2
import Derived.Test.YtbfffgnalopfbaaTilWForm
namespace Go.Proofs.Ytbfffgnalopfbaa
open Go.RowKit
set_option linter.unusedVariables false
set_option linter.unusedSimpArgs false

namespace TiW
variable {B I : Nat} {o : Obj} {w0 w : World} {st : Ti.S} {va vb : Value}
/-- how many signs the line may have -/
def most (st : Ti.S) : Nat := if st.H = 0 then 32 else st.W
set_option maxHeartbeats 400000 in
theorem most_any (h : RP B I o w0 st va vb w) :
    Calls Try.prog 52 #[.pointer (some ⟨B, 0, none⟩)] w fun e w' => e = .returned (.int .i64 ((most st : Nat) : Int)) ∧ w' = w := by
  have d0 := (h.own.2 0 _ rfl).1
  have d1 := (h.own.2 1 _ rfl).1
  by_cases hH : st.H = 0
  · have HM : Hid (most st = 32) := by show _ = _; unfold most; rw [if_pos hH]
    have i1 : ((st.H : Int) == 0) = true := by rw [beq_iff_eq]; omega
    clear hH
    go_enter Try.func52, Try.ntmps52
    go_wp2
    go_ret
    rw [HM.out]
    exact ⟨rfl, rfl⟩
  · have HM : Hid (most st = st.W) := by show _ = _; unfold most; rw [if_neg hH]
    have i1 : ((st.H : Int) == 0) = false := by rw [beq_eq_false_iff_ne]; omega
    clear hH
    go_enter Try.func52, Try.ntmps52
    go_wp2
    go_ret
    rw [HM.out]
    exact ⟨rfl, rfl⟩

set_option maxHeartbeats 2000000 in
theorem line_bad (h : RP B I o w0 st va vb w) (hxw : 0 < st.H → st.x ≤ st.W) (hb : Ti.bad 4 st) :
    Calls Try.prog 51 #[.pointer (some ⟨B, 0, none⟩)] w fun e w' => e = .returned (.bool false) ∧ Turned [] w w' := by
  have hl := h.own.1
  have d0 := KeptW.at hl (h.own.2 0 _ rfl).1
  have d1 := KeptW.at hl (h.own.2 1 _ rfl).1
  have d4 := KeptW.at hl (h.own.2 4 _ rfl).1
  have ne : Nonempty (KeptW w) := KeptW.one w
  unfold Ti.bad at hb
  rw [if_pos rfl] at hb
  by_cases hx : st.x = 0
  · have i1 : ((st.x : Int) == 0) = true := by rw [beq_iff_eq]; omega
    clear hb hx hxw
    go_enter Try.func51, Try.ntmps51
    go_wp2_with fail
    refine wp_region_kept (by kernel_rfl) (by kernel_rfl) ?_
    repeat (go_big_quiet_step (fail))
    refine wpQuiet_nil ?_
    rintro _ ⟨v, rfl⟩
    go_wp2_with fail
    go_ret
    exact ⟨rfl, Turned.ofBelow v.h⟩
  · have i1 : ((st.x : Int) == 0) = false := by rw [beq_eq_false_iff_ne]; omega
    have hH : 0 < st.H ∧ st.x ≠ st.W := by
      rcases hb with h | h
      · exact absurd h hx
      · exact h
    have i2 : decide (0 < st.H) = true := by simp; omega
    have i3 : decide (st.x < st.W) = true := by have := hxw hH.1; simp; omega
    clear hb hx hxw hH
    go_enter Try.func51, Try.ntmps51
    go_wp2_with fail
    refine wp_region_kept (by kernel_rfl) (by kernel_rfl) ?_
    repeat (go_big_quiet_step (fail))
    refine wpQuiet_nil ?_
    rintro _ ⟨v, rfl⟩
    go_wp2_with fail
    go_ret
    exact ⟨rfl, Turned.ofBelow v.h⟩

set_option maxHeartbeats 4000000 in
theorem line_any (h : RP B I o w0 st va vb w) (hH32 : st.H ≤ 32) (hb : ¬ Ti.bad 4 st) :
    Calls Try.prog 51 #[.pointer (some ⟨B, 0, none⟩)] w fun e w' => e = .returned (.bool true) ∧ RP B I o w0 (Ti.next 4 st) va vb w' := by
  have hl := h.own.1
  have d0 := KeptW.at hl (h.own.2 0 _ rfl).1
  have d1 := KeptW.at hl (h.own.2 1 _ rfl).1
  have d4 := KeptW.at hl (h.own.2 4 _ rfl).1
  have ne : Nonempty (KeptW w) := KeptW.one w
  unfold Ti.bad at hb
  rw [if_pos rfl] at hb
  have hx : st.x ≠ 0 := fun e => hb (.inl e)
  have i1 : ((st.x : Int) == 0) = false := by rw [beq_eq_false_iff_ne]; omega
  by_cases hH : st.H = 0
  · have i2 : decide (0 < st.H) = false := by simp; omega
    clear hb hx hH
    go_enter Try.func51, Try.ntmps51
    go_wp2_with fail
    refine wp_region_kept (by kernel_rfl) (by kernel_rfl) ?_
    repeat (go_big_quiet_step (fail))
    refine wpQuiet_nil ?_
    rintro _ ⟨v, rfl⟩
    have hr := h.keep (Turned.ofBelow v.h)
    clear d0 d1 d4 ne h
    have d0 := (hr.own.2 0 _ rfl).1
    have f0 := (hr.own.2 0 _ rfl).2
    have d1 := (hr.own.2 1 _ rfl).1
    have f1 := (hr.own.2 1 _ rfl).2
    have d4 := (hr.own.2 4 _ rfl).1
    have f4 := (hr.own.2 4 _ rfl).2
    go_wp2_with fail
    go_ret
    exact ⟨rfl, hr.line⟩
  · have i2 : decide (0 < st.H) = true := by simp; omega
    have hw : st.x = st.W := by
      by_cases e : st.x = st.W
      · exact e
      · exact absurd (.inr ⟨by omega, e⟩) hb
    have i3 : decide (st.x < st.W) = false := by simp; omega
    clear hb hx hH hw
    go_enter Try.func51, Try.ntmps51
    go_wp2_with fail
    refine wp_region_kept (by kernel_rfl) (by kernel_rfl) ?_
    repeat (go_big_quiet_step (fail))
    refine wpQuiet_nil ?_
    rintro _ ⟨v, rfl⟩
    have hr := h.keep (Turned.ofBelow v.h)
    clear d0 d1 d4 ne h
    have d0 := (hr.own.2 0 _ rfl).1
    have f0 := (hr.own.2 0 _ rfl).2
    have d1 := (hr.own.2 1 _ rfl).1
    have f1 := (hr.own.2 1 _ rfl).2
    have d4 := (hr.own.2 4 _ rfl).1
    have f4 := (hr.own.2 4 _ rfl).2
    go_wp2_with fail
    go_ret
    exact ⟨rfl, hr.line⟩
end TiW
end Go.Proofs.Ytbfffgnalopfbaa

/- What each function of layer 1 answers, as a call: contracts of the program's functions. -/
import Derived.Test.YtbfffgnalopfbaaRows
import Derived.Test.YtbfffgnalopfbaaFixPlain
import Derived.WalkKit
import Derived.WalkSpells
namespace Go.Proofs.Ytbfffgnalopfbaa
open Go.RowKit
set_option linter.unusedVariables false
namespace FxW

theorem ret_int {k : IntKind} {a b : Int} {w : World} (h : a = b) : Ending.returned (.int k a) = .returned (.int k b) ∧ w = w := by rw [h]; exact ⟨rfl, rfl⟩

set_option maxHeartbeats 400000 in
theorem hold_any (x : Int) (w : World) :
    Calls Try.prog 59 #[.int .i64 x] w fun e w' => e = .returned (.int .i64 (Fx.hold x)) ∧ w' = w := by
  by_cases h1 : x < -2147483648
  · rw [Fx.hold_below h1]
    go_enter Try.func59, Try.ntmps59
    go_wp2
    go_ret
    exact ⟨rfl, rfl⟩
  · by_cases h2 : 2147483647 < x
    · rw [Fx.hold_above h2]
      go_enter Try.func59, Try.ntmps59
      go_wp2
      go_ret
      exact ⟨rfl, rfl⟩
    · rw [Fx.hold_of (by omega) (by omega)]
      go_enter Try.func59, Try.ntmps59
      go_wp2
      go_ret
      exact ⟨rfl, rfl⟩

set_option maxHeartbeats 400000 in
theorem held_any (x : Int) (w : World) :
    Calls Try.prog 61 #[.int .i64 x] w fun e w' => e = .returned (.int .i64 (Fx.hold x)) ∧ w' = w := by
  have b1 := Fx.hold_lo x
  have b2 := Fx.hold_hi x
  go_enter Try.func61, Try.ntmps61
  go_wp2_with (go_at_call 59; refine (hold_any _ _).mono ?_; rintro e w' ⟨rfl, rfl⟩)
  go_ret
  exact ⟨rfl, rfl⟩

set_option maxHeartbeats 400000 in
theorem of_any (n : Int) (w : World) :
    Calls Try.prog 31 #[.int .i64 n] w fun e w' => e = .returned (.int .i64 (Fx.ofI n)) ∧ w' = w := by
  unfold Fx.ofI
  have b1 := Fx.hold_lo n
  have b2 := Fx.hold_hi n
  go_enter Try.func31, Try.ntmps31
  go_wp2_with (go_at_call 59; refine (hold_any _ _).mono ?_; rintro e w' ⟨rfl, rfl⟩)
  go_ret
  exact ⟨rfl, rfl⟩

set_option maxHeartbeats 400000 in
theorem add_any (a b : Int) (w : World) :
    Calls Try.prog 62 #[.int .i64 a, .int .i64 b] w fun e w' => e = .returned (.int .i64 (Fx.add a b)) ∧ w' = w := by
  unfold Fx.add
  have b1 := Fx.hold_lo a
  have b2 := Fx.hold_hi a
  have b3 := Fx.hold_lo b
  have b4 := Fx.hold_hi b
  go_enter Try.func62, Try.ntmps62
  go_wp2_with (first | (go_at_call 61; refine (held_any _ _).mono ?_; rintro e w' ⟨rfl, rfl⟩) | (go_at_call 59; refine (hold_any _ _).mono ?_; rintro e w' ⟨rfl, rfl⟩))
  go_ret
  exact ⟨rfl, rfl⟩

set_option maxHeartbeats 400000 in
theorem sub_any (a b : Int) (w : World) :
    Calls Try.prog 72 #[.int .i64 a, .int .i64 b] w fun e w' => e = .returned (.int .i64 (Fx.sub a b)) ∧ w' = w := by
  unfold Fx.sub
  have b1 := Fx.hold_lo a
  have b2 := Fx.hold_hi a
  have b3 := Fx.hold_lo b
  have b4 := Fx.hold_hi b
  go_enter Try.func72, Try.ntmps72
  go_wp2_with (first | (go_at_call 61; refine (held_any _ _).mono ?_; rintro e w' ⟨rfl, rfl⟩) | (go_at_call 59; refine (hold_any _ _).mono ?_; rintro e w' ⟨rfl, rfl⟩))
  go_ret
  exact ⟨rfl, rfl⟩

set_option maxHeartbeats 400000 in
theorem floor_any (a : Int) (w : World) :
    Calls Try.prog 40 #[.int .i64 a] w fun e w' => e = .returned (.int .i64 (Fx.floor a)) ∧ w' = w := by
  unfold Fx.floor
  have b1 := Fx.hold_lo a
  have b2 := Fx.hold_hi a
  go_enter Try.func40, Try.ntmps40
  go_wp2_with (first | (go_at_call 61; refine (held_any _ _).mono ?_; rintro e w' ⟨rfl, rfl⟩) | (go_at_call 59; refine (hold_any _ _).mono ?_; rintro e w' ⟨rfl, rfl⟩))
  go_ret
  exact ⟨rfl, rfl⟩

set_option maxHeartbeats 400000 in
theorem outer_any (a : Int) (w : World) :
    Calls Try.prog 58 #[.int .i64 a] w fun e w' => e = .returned (.int .i64 (Fx.outer a)) ∧ w' = w := by
  by_cases h1 : 0 < a
  · have e1 : Fx.outer a = 2147483647 := by unfold Fx.outer; rw [if_pos h1]
    rw [e1]; clear e1
    go_enter Try.func58, Try.ntmps58
    go_wp2
    go_ret
    exact ⟨rfl, rfl⟩
  · by_cases h2 : a < 0
    · have e1 : Fx.outer a = -2147483648 := by unfold Fx.outer; rw [if_neg h1, if_pos h2]
      rw [e1]; clear e1
      go_enter Try.func58, Try.ntmps58
      go_wp2
      go_ret
      exact ⟨rfl, rfl⟩
    · have e1 : Fx.outer a = 0 := by unfold Fx.outer; rw [if_neg h1, if_neg h2]
      rw [e1]; clear e1
      go_enter Try.func58, Try.ntmps58
      go_wp2
      go_ret
      exact ⟨rfl, rfl⟩

set_option maxHeartbeats 400000 in
theorem ddown_any (n d : Int) (h : (d == 0) = false) (h1 : -4611686018427387904 ≤ n) (h2 : n ≤ 4611686018427387904) (w : World) :
    Calls Try.prog 60 #[.int .i64 n, .int .i64 d] w fun e w' => e = .returned (.int .i64 (n.fdiv d)) ∧ w' = w := by
  have hd : d ≠ 0 := by simpa using h
  obtain ⟨b1, b2⟩ := Fx.tdiv_bd (n := n) (d := d) (m := 4611686018427387904) (by omega) (by omega)
  by_cases c1 : n.tmod d = 0
  · have e1 := Fx.fdiv_zero_mod c1
    rw [← e1]; clear e1
    have c1' : (n.tmod d != 0) = false := by simp [c1]
    clear c1
    go_enter Try.func60, Try.ntmps60
    go_wp2
    go_ret
    exact ⟨rfl, rfl⟩
  · have c1' : (n.tmod d != 0) = true := by simp [c1]
    by_cases c2 : (!decide (n < 0) == decide (d < 0)) = true
    · have e1 := Fx.fdiv_other hd c1 c2
      rw [← e1]; clear e1 c1
      go_enter Try.func60, Try.ntmps60
      go_wp2
      go_ret
      exact ⟨rfl, rfl⟩
    · have c3 : (!decide (n < 0) == decide (d < 0)) = false := by simpa using c2
      have e1 := Fx.fdiv_same hd c1 c3
      rw [← e1]; clear e1 c1 c2
      go_enter Try.func60, Try.ntmps60
      go_wp2
      go_ret
      exact ⟨rfl, rfl⟩

set_option maxHeartbeats 400000 in
theorem div_any (a b : Int) (w : World) :
    Calls Try.prog 30 #[.int .i64 a, .int .i64 b] w fun e w' => e = .returned (.int .i64 (Fx.div a b)) ∧ w' = w := by
  by_cases h : b = 0
  · have e1 : Fx.div a b = Fx.outer a := by unfold Fx.div; rw [if_pos h]
    rw [e1]; clear e1; subst h
    go_enter Try.func30, Try.ntmps30
    go_wp2_with (go_at_call 58; refine (outer_any _ _).mono ?_; rintro e w' ⟨rfl, rfl⟩)
    go_ret
    exact ⟨rfl, rfl⟩
  · have e1 : Fx.div a b = Fx.hold ((Fx.hold a * 65536).fdiv (Fx.hold b)) := by unfold Fx.div; rw [if_neg h]
    rw [e1]; clear e1
    have hb : (b == 0) = false := by simp [h]
    have hb' : (Fx.hold b == 0) = false := by simp [Fx.hold_zero, h]
    clear h
    have b1 := Fx.hold_lo a
    have b2 := Fx.hold_hi a
    go_enter Try.func30, Try.ntmps30
    go_wp2_with (first | (go_at_call 61; refine (held_any _ _).mono ?_; rintro e w' ⟨rfl, rfl⟩) | (go_at_call 59; refine (hold_any _ _).mono ?_; rintro e w' ⟨rfl, rfl⟩) | (go_at_call 60; refine (ddown_any _ _ hb' (by omega) (by omega) _).mono ?_; rintro e w' ⟨rfl, rfl⟩))
    go_ret
    exact ⟨rfl, rfl⟩
end FxW
end Go.Proofs.Ytbfffgnalopfbaa

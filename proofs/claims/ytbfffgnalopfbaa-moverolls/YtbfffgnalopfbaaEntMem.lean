/- Entities in memory: their cells, rows of them; whether one is formed: the reference's (EnR). -/
import Derived.Test.YtbfffgnalopfbaaRows
import Derived.Test.YtbfffgnalopfbaaEntPlain2
import Derived.Test.YtbfffgnalopfbaaPush
import Derived.Test.YtbfffgnalopfbaaKept
import Derived.WalkSpells
import Derived.WalkSmall
import Derived.Laws.StructEq
namespace Go.Proofs.Ytbfffgnalopfbaa
open Go.RowKit
set_option linter.unusedVariables false
set_option linter.unusedSimpArgs false

/-- an entity's cells -/
def enEnc (e : En.E) : List Value := [.int .i64 e.id, .int .i64 e.kind, .int .i64 e.ax, .int .i64 e.ay, .int .i64 e.vx, .int .i64 e.vy, .int .i64 e.h, .int .i64 e.t]
abbrev enVal (e : En.E) : Value := .agg #[.int .i64 e.id, .int .i64 e.kind, .int .i64 e.ax, .int .i64 e.ay, .int .i64 e.vx, .int .i64 e.vy, .int .i64 e.h, .int .i64 e.t]
theorem enEnc_len {l : List En.E} : ∀ a ∈ l, (enEnc a).length = 8 := fun _ _ => rfl
theorem enEnc_one {l : List En.E} : ∀ a ∈ l, ∀ u ∈ enEnc a, u.oneCell' = true := by
  intro a _ u hu
  simp [enEnc] at hu
  rcases hu with rfl | rfl | rfl | rfl | rfl | rfl | rfl | rfl <;> rfl

theorem en_at {oa : Option Addr} {l : List En.E} {w : World} (h : RowOf 8 enEnc oa l w) {k : Nat} {e : En.E} (hk : l[k]? = some e) :
    ∃ g off, oa = some ⟨g, off, none⟩ ∧ g < w.heap.size ∧ w.cell? ⟨g, off + k * 8, none⟩ = some (.int .i64 e.id) ∧ w.cell? ⟨g, off + k * 8 + 1, none⟩ = some (.int .i64 e.kind) ∧ w.cell? ⟨g, off + k * 8 + 2, none⟩ = some (.int .i64 e.ax) ∧ w.cell? ⟨g, off + k * 8 + 3, none⟩ = some (.int .i64 e.ay) ∧ w.cell? ⟨g, off + k * 8 + 4, none⟩ = some (.int .i64 e.vx) ∧ w.cell? ⟨g, off + k * 8 + 5, none⟩ = some (.int .i64 e.vy) ∧ w.cell? ⟨g, off + k * 8 + 6, none⟩ = some (.int .i64 e.h) ∧ w.cell? ⟨g, off + k * 8 + 7, none⟩ = some (.int .i64 e.t) := by
  obtain ⟨g, off, ho, hlt, hc⟩ := h k _ hk
  exact ⟨g, off, ho, hlt, hc 0 _ rfl, hc 1 _ rfl, hc 2 _ rfl, hc 3 _ rfl, hc 4 _ rfl, hc 5 _ rfl, hc 6 _ rfl, hc 7 _ rfl⟩
theorem bool_ret {a b : Bool} {p : Prop} (h : a = b) (hp : p) : Ending.returned (.bool a) = .returned (.bool b) ∧ p := by rw [h]; exact ⟨rfl, hp⟩

namespace EnR
set_option maxHeartbeats 400000 in
theorem between_any (x a b : Int) (w : World) :
    Calls Try.prog 35 #[.int .i64 x, .int .i64 a, .int .i64 b] w fun e w' => e = .returned (.bool (decide (a ≤ x ∧ x ≤ b))) ∧ w' = w := by
  by_cases h1 : a ≤ x
  · go_enter Try.func35, Try.ntmps35
    go_wp2
    go_ret
    exact bool_ret (by simp [h1]) rfl
  · go_enter Try.func35, Try.ntmps35
    go_wp2
    go_ret
    exact bool_ret (by simp; omega) rfl

set_option maxHeartbeats 400000 in
theorem place_any (x y : Int) (w : World) :
    Calls Try.prog 36 #[.agg #[.int .i64 x, .int .i64 y]] w fun e w' => e = .returned (.bool (decide (-134217728 ≤ x ∧ x ≤ 134217728 ∧ -134217728 ≤ y ∧ y ≤ 134217728))) ∧ Turned [] w w' := by
  have HT : ∀ o, Turned [] w (w.alloc o) := fun o => (Turned.refl _ _).alloc o
  go_enter Try.func36, Try.ntmps36
  go_wp2
  all_goals go_ret
  all_goals refine bool_ret ?_ (HT _)
  all_goals refine Bool.eq_iff_iff.2 ?_
  all_goals simp only [decide_eq_true_iff, Bool.and_eq_true, Bool.false_eq_true, false_iff, true_iff]
  all_goals (try simp only [beq_iff_eq] at *)
  all_goals omega

set_option maxRecDepth 20000 in
set_option maxHeartbeats 8000000 in
theorem formed_any (e : En.E) (w : World) :
    Calls Try.prog 21 #[enVal e] w fun r w' => r = .returned (.bool (decide (En.Formed e))) ∧ Turned [] w w' := by
  obtain ⟨id, kind, ax, ay, vx, vy, h, t⟩ := e
  have kb := fun x a b u => between_any x a b u
  have kp := fun u => place_any ax ay u
  unfold enVal
  go_enter Try.func21, Try.ntmps21
  go_wp2_with (first | (go_at_call 35; (with_reducible refine (kb _ _ _ _).mono ?_); rintro e u ⟨rfl, rfl⟩) | (go_at_call 36; (with_reducible refine (kp _).mono ?_); rintro e u ⟨rfl, HT1⟩; have HT := ((Turned.refl [] w).alloc _).trans HT1 (by simp); have hS := (Struct.new w _ 30).keep HT1 (by simp); have c4 := (hS.2 4 _ rfl).1; have c5 := (hS.2 5 _ rfl).1; have c6 := (hS.2 6 _ rfl).1; have c7 := (hS.2 7 _ rfl).1))
  all_goals go_ret
  all_goals refine bool_ret ?_ (by first | assumption | exact (Turned.refl _ _).alloc _)
  all_goals refine Bool.eq_iff_iff.2 ?_
  all_goals simp only [En.Formed, decide_eq_true_iff, Bool.and_eq_true, Bool.false_eq_true, false_iff, true_iff]
  all_goals (try simp only [beq_iff_eq, decide_eq_true_iff, decide_eq_false_iff_not] at *)
  all_goals omega
end EnR
end Go.Proofs.Ytbfffgnalopfbaa

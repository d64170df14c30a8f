/- Commands in memory: their cells, rows of them, whether one is formed: the program's (CmW) and the reference's (CmR). -/
import Derived.Test.YtodfgekhffeapaaRows
import Derived.Test.YtodfgekhffeapaaCmdPlain2
import Derived.Test.YtodfgekhffeapaaPush
import Derived.WalkSpells
import Derived.WalkSmall
import Derived.Laws.StructEq
namespace Go.Proofs.Ytodfgekhffeapaa
open Go.RowKit
set_option linter.unusedVariables false
set_option linter.unusedSimpArgs false

/-- a command's cells -/
def cmEnc (c : Cm.C) : List Value := [.int .u32 (c.n : Int), .int .i8 c.x, .int .i8 c.y, .bool c.f, .int .u32 (c.v : Int), .int .u8 (c.q : Int)]
abbrev cmVal (c : Cm.C) : Value := .agg #[.int .u32 (c.n : Int), .int .i8 c.x, .int .i8 c.y, .bool c.f, .int .u32 (c.v : Int), .int .u8 (c.q : Int)]
theorem cmEnc_len {l : List Cm.C} : ∀ a ∈ l, (cmEnc a).length = 6 := fun _ _ => rfl
theorem cmEnc_one {l : List Cm.C} : ∀ a ∈ l, ∀ u ∈ cmEnc a, u.oneCell' = true := by
  intro a _ u hu
  simp [cmEnc] at hu
  rcases hu with rfl | rfl | rfl | rfl | rfl | rfl <;> rfl
theorem elem_cm : ElemOk Try.prog 26 25 (.agg #[.int .u32 0, .int .i8 0, .int .i8 0, .bool false, .int .u32 0, .int .u8 0]) 6 16 := ⟨by kernel_rfl, by kernel_rfl, rfl, by decide⟩
theorem cm_at {oa : Option Addr} {l : List Cm.C} {w : World} (h : RowOf 6 cmEnc oa l w) {k : Nat} {c : Cm.C} (hk : l[k]? = some c) :
    ∃ g off, oa = some ⟨g, off, none⟩ ∧ g < w.heap.size ∧ w.cell? ⟨g, off + k * 6, none⟩ = some (.int .u32 (c.n : Int)) ∧ w.cell? ⟨g, off + k * 6 + 1, none⟩ = some (.int .i8 c.x) ∧ w.cell? ⟨g, off + k * 6 + 2, none⟩ = some (.int .i8 c.y) ∧ w.cell? ⟨g, off + k * 6 + 3, none⟩ = some (.bool c.f) ∧ w.cell? ⟨g, off + k * 6 + 4, none⟩ = some (.int .u32 (c.v : Int)) ∧ w.cell? ⟨g, off + k * 6 + 5, none⟩ = some (.int .u8 (c.q : Int)) := by
  obtain ⟨g, off, ho, hlt, hc⟩ := h k _ hk
  exact ⟨g, off, ho, hlt, hc 0 _ rfl, hc 1 _ rfl, hc 2 _ rfl, hc 3 _ rfl, hc 4 _ rfl, hc 5 _ rfl⟩
theorem bool_ret {a b : Bool} {p : Prop} (h : a = b) (hp : p) : Ending.returned (.bool a) = .returned (.bool b) ∧ p := by rw [h]; exact ⟨rfl, hp⟩

namespace CmW
set_option maxHeartbeats 1000000 in
theorem formed_any (c : Cm.C) (hw : c.wf) (w : World) :
    Calls Try.prog 12 #[cmVal c] w fun e w' => e = .returned (.bool (decide (Cm.Formed c))) ∧ Turned [] w w' := by
  obtain ⟨n, x, y, f, v, q⟩ := c
  obtain ⟨h1, h2, h3, h4, h5, h6, h7⟩ := hw
  simp only at h1 h2 h3 h4 h5 h6 h7
  have HT : ∀ o, Turned [] w (w.alloc o) := fun o => (Turned.refl _ _).alloc o
  unfold cmVal
  cases f
  all_goals
    go_enter Try.func12, Try.ntmps12
    go_wp2
    all_goals go_ret
    all_goals refine bool_ret ?_ (HT _)
    all_goals refine Bool.eq_iff_iff.2 ?_
    all_goals simp only [Cm.Formed, decide_eq_true_iff, beq_iff_eq, Bool.and_eq_true, Bool.false_eq_true, false_or, true_or, and_true, true_iff, false_iff]
    all_goals (try simp only [beq_iff_eq] at *)
    all_goals omega
end CmW

namespace CmR
set_option maxHeartbeats 1000000 in
theorem formed_any (c : Cm.C) (hw : c.wf) (w : World) :
    Calls Try.prog 13 #[cmVal c] w fun e w' => e = .returned (.bool (decide (Cm.Formed c))) ∧ Turned [] w w' := by
  obtain ⟨n, x, y, f, v, q⟩ := c
  obtain ⟨h1, h2, h3, h4, h5, h6, h7⟩ := hw
  simp only at h1 h2 h3 h4 h5 h6 h7
  have HT : ∀ o, Turned [] w (w.alloc o) := fun o => (Turned.refl _ _).alloc o
  unfold cmVal
  cases f
  all_goals
    go_enter Try.func13, Try.ntmps13
    go_wp2
    all_goals go_ret
    all_goals refine bool_ret ?_ (HT _)
    all_goals refine Bool.eq_iff_iff.2 ?_
    all_goals simp only [Cm.Formed, decide_eq_true_iff, beq_iff_eq, Bool.and_eq_true, Bool.false_eq_true, false_or, true_or, and_true, true_iff, false_iff]
    all_goals (try simp only [beq_iff_eq] at *)
    all_goals omega
end CmR
end Go.Proofs.Ytodfgekhffeapaa

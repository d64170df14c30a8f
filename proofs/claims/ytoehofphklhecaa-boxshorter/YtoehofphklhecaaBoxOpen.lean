/- How a box that came in is opened: four numbers. -/
import Derived.Test.YtoehofphklhecaaChecked
import Derived.ProofKit
import Derived.OpenShut
import Derived.ChangeOld
import Derived.Lib.SmallJoins
import Derived.Laws.IdiomArrays
namespace Go.Proofs.Ytoehofphklhecaa
open Go.ChangeShapes Go.WideShapes Go.ChangeAt Go.RowKit
set_option linter.unusedVariables false

theorem cellsVec : Try.prog.cellsOf 24 = 2 := by kernel_rfl
theorem cellsBox : Try.prog.cellsOf 26 = 4 := by kernel_rfl
theorem cellsFix : Try.prog.cellsOf 22 = 1 := by kernel_rfl

theorem open_box {H : Type} {enc : TypeId × Value → H} {w : World} {base : Nat} {spare : Nat → Bool} {held : Bool} {r : Reach} {b0 : Nat} {v : Value} {d : DataW H} {p : List MemPlace}
    (hv : Value.okWide Try.prog w r b0 26 v) (h : DataW.Trod enc Try.prog w base spare held 26 v d p) :
    ∃ a0 a1 a2 a3 : Int, v = .agg #[.int .i64 a0, .int .i64 a1, .int .i64 a2, .int .i64 a3] ∧ (Lit.int .i64 a0).wf = true ∧ (Lit.int .i64 a1).wf = true ∧ (Lit.int .i64 a2).wf = true ∧ (Lit.int .i64 a3).wf = true := by
  obtain ⟨cs, rfl, hsz⟩ := okWide_struct Try.underlying26 hv
  obtain ⟨c0, c1, c2, c3, rfl⟩ := Go.Joins.array4 (hsz.trans cellsBox)
  obtain ⟨fuel, hf⟩ := h
  obtain ⟨y0, y1, n, hx, _, h0, h1⟩ := trod_struct2 Try.underlying26 hf
  have g0 : DataW.trod enc Try.prog w base spare held n 24 [c0, c1] = some y0 := by simpa [Value.cells, cellsVec] using h0
  have g1 : DataW.trod enc Try.prog w base spare held n 24 [c2, c3] = some y1 := by simpa [Value.cells, cellsVec] using h1
  obtain ⟨z0, z1, m, _, _, k0, k1⟩ := trod_struct2 Try.underlying24 g0
  obtain ⟨z2, z3, m', _, _, k2, k3⟩ := trod_struct2 Try.underlying24 g1
  have q0 : DataW.trod enc Try.prog w base spare held m 22 [c0] = some z0 := by simpa [cellsFix] using k0
  have q1 : DataW.trod enc Try.prog w base spare held m 22 [c1] = some z1 := by simpa [cellsFix] using k1
  have q2 : DataW.trod enc Try.prog w base spare held m' 22 [c2] = some z2 := by simpa [cellsFix] using k2
  have q3 : DataW.trod enc Try.prog w base spare held m' 22 [c3] = some z3 := by simpa [cellsFix] using k3
  obtain ⟨a0, e0, _, w0⟩ := DataW.trod_int Try.underlying22 q0
  obtain ⟨a1, e1, _, w1⟩ := DataW.trod_int Try.underlying22 q1
  obtain ⟨a2, e2, _, w2⟩ := DataW.trod_int Try.underlying22 q2
  obtain ⟨a3, e3, _, w3⟩ := DataW.trod_int Try.underlying22 q3
  simp at e0 e1 e2 e3
  subst e0 e1 e2 e3
  exact ⟨a0, a1, a2, a3, rfl, w0, w1, w2, w3⟩
end Go.Proofs.Ytoehofphklhecaa

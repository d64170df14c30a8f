/- The ends of a region that draws its order, joined: what holds where it runs to its end; a window laid in a block of the call's own. -/
import Derived.Test.YtloobijdpchppaaByteMem
namespace Go.Proofs.Ytloobijdpchppaa
open Go.RowKit
set_option linter.unusedVariables false
set_option linter.unusedSimpArgs false

/-- a window laid in a block of the call's own, behind whatever order -/
def Put3 (wa : World) (n : Nat) (L M : Int) (W : World) : Prop := Turned [] wa W ∧ Struct n [.bool true, .int .u16 L, .int .u32 M] W ∧ wa.heap.size ≤ n
theorem Put3.late {wa X u : World} {L M : Int} {t : TypeId} (hX : Turned [] wa X) (hb : Below X.heap.size X u) : Put3 wa u.heap.size L M (u.alloc (.cells #[.bool true, .int .u16 L, .int .u32 M] t)) :=
  ⟨(hX.trans (Turned.ofBelow hb) (by simp)).alloc _, Struct.new u [_, _, _] t, (hX.trans (Turned.ofBelow hb) (by simp)).size⟩
theorem Put3.early {wa Y u : World} {L M : Int} {z0 z1 z2 : Value} {n : Nat} (hn : n = wa.heap.size) (hY : Turned [] wa Y) (hs : Struct n [z0, z1, z2] Y) (hb : Below Y.heap.size Y u) :
    Put3 wa n L M (((u.setCell ⟨n, 0, none⟩ (.bool true)).setCell ⟨n, 1, none⟩ (.int .u16 L)).setCell ⟨n, 2, none⟩ (.int .u32 M)) := by
  have hu := hY.trans (Turned.ofBelow hb) (by simp)
  refine ⟨((hu.setCell (p := ⟨n, 0, none⟩) (.inr (by simp; omega)) _).setCell (p := ⟨n, 1, none⟩) (.inr (by simp; omega)) _).setCell (p := ⟨n, 2, none⟩) (.inr (by simp; omega)) _, ?_, by omega⟩
  exact (((hs.keep (Turned.ofBelow hb) (by simp)).set (i := 0) (by simp) (.bool true)).set (i := 1) (by simp) (.int .u16 L)).set (i := 2) (by simp) (.int .u32 M)
/-- what holds where a region runs to its end -/
def Normal : Exit → Prop → Prop
  | .normal, p => p
  | _, _ => False
theorem Normal.out {e : Exit} {p : Prop} (h : Normal e p) : e = .normal ∧ p := by
  cases e <;> first | exact ⟨rfl, h⟩ | exact False.elim h
end Go.Proofs.Ytloobijdpchppaa

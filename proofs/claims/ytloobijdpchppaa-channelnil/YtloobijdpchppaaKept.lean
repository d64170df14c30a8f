/- A region that draws its order, whose operations only read and whose callees write nothing old: walked once, in the order of the text. The class of worlds: those in which all that lay there at the region's beginning lies as it lay. -/
import Derived.WalkKit
import Derived.Below
import Derived.WalkSmall
import Derived.BigQuiet
namespace Go.Proofs.Ytloobijdpchppaa
open Go.RowKit
set_option linter.unusedVariables false

/-- a world in which all that lay in W lies as it lay -/
structure KeptW (W : World) where
  u : World
  h : Below W.heap.size W u

theorem KeptW.one (W : World) : Nonempty (KeptW W) := ⟨⟨W, Below.refl _ _⟩⟩
theorem KeptW.at {W : World} {b o : Nat} {v : Value} (hb : b < W.heap.size) (hv : W.cell? ⟨b, o, none⟩ = some v) (x : KeptW W) : x.u.cell? ⟨b, o, none⟩ = some v :=
  (x.h.cell (p := ⟨b, o, none⟩) hb).trans hv
theorem KeptW.unfrozen {W : World} {b o : Nat} (hb : b < W.heap.size) (hv : W.frozen? ⟨b, o, none⟩ = false) (x : KeptW W) : x.u.frozen? ⟨b, o, none⟩ = false :=
  (x.h.frozen (p := ⟨b, o, none⟩) hb).trans hv

theorem kept_call {P : Program} {f : FuncId} {args : Array Value} {W : World} {x : KeptW W} {v : Value}
    (h : Calls P f args x.u fun e w' => e = .returned v ∧ Below x.u.heap.size x.u w') : Calls P f args x.u fun e w'' => e = .returned v ∧ ∃ y : KeptW W, w'' = y.u :=
  h.mono fun _ w' ⟨he, hb⟩ => ⟨he, ⟨w', x.h.trans (hb.mono x.h.size)⟩, rfl⟩
theorem kept_same {P : Program} {f : FuncId} {args : Array Value} {W : World} {x : KeptW W} {v : Value}
    (h : Calls P f args x.u fun e w' => e = .returned v ∧ w' = x.u) : Calls P f args x.u fun e w'' => e = .returned v ∧ ∃ y : KeptW W, w'' = y.u :=
  h.mono fun _ w' ⟨he, hw⟩ => ⟨he, x, hw⟩

theorem wp_region_kept {P : Program} {id : Nat} {Q : Exit → Act → World → Prop} {a : Act} {w : World} {l : List Oper} (hm : P.follows .mixedOrders = true) (hB : Region.lexB .any l.toArray = true)
    (h : wpQuiet P l.toArray (fun w' => ∃ x : KeptW w, w' = x.u) (fun a' => ∀ w', (∃ x : KeptW w, w' = x.u) → Q .normal a' w') l a) : (Code.region id l.toArray true).wp P Q a w :=
  wp_region_quiet (C := fun w' => ∃ x : KeptW w, w' = x.u) hm hB ⟨⟨_, (Below.refl _ w).drew⟩, rfl⟩ (by simpa using h)
end Go.Proofs.Ytloobijdpchppaa

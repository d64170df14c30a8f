/- What the program's functions of layer 10 answer. -/
import Derived.Test.YtjphcbcbaiifhaaEntWTake
import Derived.Test.YtjphcbcbaiifhaaEntWPut
import Derived.Test.YtjphcbcbaiifhaaEntWList
namespace Go.Proofs.Ytjphcbcbaiifhaa
open Go.RowKit
set_option linter.unusedVariables false

namespace EnW
theorem take_any (p : Nat) (v : Value) (bs : List Nat) (r : Bt.Rd) (b : En.E) (hb : b.wf) (w : World) (h : PRd p v bs r w) :
    Calls Try.prog 24 #[.pointer (some ⟨p, 0, none⟩), enVal b] w fun e w' => Took p v bs r b w e w' := by
  cases htd : En.td (En.f6 r) (r.take 6) 6 with
  | none => exact take_none0 p v bs r b hb w h htd
  | some t =>
    obtain ⟨D, s⟩ := t
    have hlen := (En.td_len htd).1
    obtain ⟨d0, d1, d2, d3, d4, d5, rfl⟩ : ∃ d0 d1 d2 d3 d4 d5, D = [d0, d1, d2, d3, d4, d5] := by
      match D, hlen with
      | [a, b, c, d, e, f], _ => exact ⟨a, b, c, d, e, f, rfl⟩
    cases hf : s.fail with
    | true => exact take_none1 p v bs r b hb w h d0 d1 d2 d3 d4 d5 s htd hf
    | false => exact take_some p v bs r b hb w h d0 d1 d2 d3 d4 d5 s htd hf
theorem contracts : Contracts where
  formed e _ w := formed_any e w
  list oa cap l _ w hr hl := list_any oa cap l w hr hl
  find oa cap l id _ w hr hl := find_any oa cap l id w hr hl
  put p L F b e hb he w hp hL := put_any p L F b e hb he w hp hL
  take p v bs r b hb w h := take_any p v bs r b hb w h
end EnW
end Go.Proofs.Ytjphcbcbaiifhaa

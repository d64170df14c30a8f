/- What the laws of layer 10 lean on: what the program's functions answer (EnW.Contracts), that it is awake. -/
import Derived.Test.YtjphcbcbaiifhaaEntTake
import Derived.Test.YtjphcbcbaiifhaaEntList
import Derived.Test.YtjphcbcbaiifhaaEntPut
import Derived.Test.YtjphcbcbaiifhaaBitMem2
import Derived.Test.YtjphcbcbaiifhaaBitWr2
import Derived.Test.YtjphcbcbaiifhaaBitRd2
import Derived.Test.YtjphcbcbaiifhaaBitRf2
import Derived.Test.YtjphcbcbaiifhaaSameRow
import Derived.Test.YtjphcbcbaiifhaaInts
import Derived.Test.YtjphcbcbaiifhaaFlat
namespace Go.Proofs.Ytjphcbcbaiifhaa
open Go.RowKit
set_option linter.unusedVariables false

theorem en_leaf {k : IntKind} {v : Value} (h : (Leaf.int k).ok v) : ∃ z, v = .int k z ∧ (Lit.int k z).wf = true := h
theorem i64_nn {a : Int} (h : (Lit.int .i64 a).wf = true) : En.I64 a := by
  simp [Lit.wf, IntKind.min, IntKind.max, IntKind.bits, IntKind.signed] at h; unfold En.I64; omega
theorem u8_nn {a : Int} (h : (Lit.int .u8 a).wf = true) : 0 ≤ a ∧ a < 256 := by
  simp [Lit.wf, IntKind.min, IntKind.max, IntKind.bits, IntKind.signed] at h; omega
theorem en_ok {k : IntKind} {z : Int} (h : (Leaf.int k).ok (.int k z)) : (Lit.int k z).wf = true := by
  obtain ⟨y, hy, hw⟩ := h
  rw [(Value.int.inj hy).2]
  exact hw
theorem enEnc_of (cs : List Value) (h : AllOk [.int .i64, .int .i64, .int .i64, .int .i64, .int .i64, .int .i64, .int .i64, .int .i64] cs) : ∃ a, cs = enEnc a := by
  have hl := h.length
  obtain ⟨c0, c1, c2, c3, c4, c5, c6, c7, rfl⟩ : ∃ c0 c1 c2 c3 c4 c5 c6 c7, cs = [c0, c1, c2, c3, c4, c5, c6, c7] := by
    match cs, hl with
    | [a, b, c, d, e, f, g, h], _ => exact ⟨a, b, c, d, e, f, g, h, rfl⟩
  obtain ⟨x0, e0, _⟩ := en_leaf h.1
  obtain ⟨x1, e1, _⟩ := en_leaf h.2.1
  obtain ⟨x2, e2, _⟩ := en_leaf h.2.2.1
  obtain ⟨x3, e3, _⟩ := en_leaf h.2.2.2.1
  obtain ⟨x4, e4, _⟩ := en_leaf h.2.2.2.2.1
  obtain ⟨x5, e5, _⟩ := en_leaf h.2.2.2.2.2.1
  obtain ⟨x6, e6, _⟩ := en_leaf h.2.2.2.2.2.2.1
  obtain ⟨x7, e7, _⟩ := en_leaf h.2.2.2.2.2.2.2.1
  rw [e0, e1, e2, e3, e4, e5, e6, e7]
  exact ⟨⟨x0, x1, x2, x3, x4, x5, x6, x7⟩, rfl⟩
theorem en_wf {e : En.E} (h : AllOk [.int .i64, .int .i64, .int .i64, .int .i64, .int .i64, .int .i64, .int .i64, .int .i64] (enEnc e)) : e.wf :=
  ⟨i64_nn (en_ok h.1), i64_nn (en_ok h.2.1), i64_nn (en_ok h.2.2.1), i64_nn (en_ok h.2.2.2.1), i64_nn (en_ok h.2.2.2.2.1), i64_nn (en_ok h.2.2.2.2.2.1), i64_nn (en_ok h.2.2.2.2.2.2.1), i64_nn (en_ok h.2.2.2.2.2.2.2.1)⟩

namespace EnW
/-- what Take answers of a reader, on a base -/
def Took (p : Nat) (v : Value) (bs : List Nat) (r : Bt.Rd) (b : En.E) (w : World) (e : Ending) (w' : World) : Prop :=
  (∃ x, En.Next r b x ∧ e = .returned (.tuple #[enVal x, .bool true]) ∧ PRd p v bs ⟨r.l, r.at_ + (En.all b x).length, false⟩ w' ∧ Turned [p] w w') ∨
  ((∀ x, ¬ En.Next r b x) ∧ e = .returned (.tuple #[enVal EnR.zeroE, .bool false]) ∧ (∃ r', PRd p v bs r' w') ∧ Turned [p] w w')
/-- what the program's functions of layer 10 answer -/
structure Contracts : Prop where
  formed : ∀ (e : En.E), e.wf → ∀ (w : World), Calls Try.prog 10 #[enVal e] w fun r w' => r = .returned (.bool (decide (En.Formed e))) ∧ Turned [] w w'
  list : ∀ (oa : Option Addr) (cap : Nat) (l : List En.E), (∀ e ∈ l, e.wf) → ∀ (w : World), RowOf 8 enEnc oa l w → (l.length : Int) ≤ 9223372036854775807 →
    Calls Try.prog 12 #[.slice oa l.length cap] w fun r w' => r = .returned (.bool (En.list l)) ∧ Turned [] w w'
  find : ∀ (oa : Option Addr) (cap : Nat) (l : List En.E) (id : Int), (∀ e ∈ l, e.wf) → ∀ (w : World), RowOf 8 enEnc oa l w → (l.length : Int) ≤ 9223372036854775807 →
    Calls Try.prog 14 #[.slice oa l.length cap, .int .i64 id] w fun r w' => r = .returned (.int .i64 (En.find l id)) ∧ Turned [] w w'
  put : ∀ (p : Nat) (L : List Bool) (F : List Nat) (b e : En.E), b.wf → e.wf → ∀ (w : World), PW p L F w → L.length ≤ 137438953472 →
    Calls Try.prog 16 #[.pointer (some ⟨p, 0, none⟩), enVal b, enVal e] w fun r w' => r = .returned (.bool (EnR.fits b e)) ∧ ∃ F', PW p (L ++ if EnR.fits b e then En.all b e else []) F' w' ∧ Moved F F' w w'
  take : ∀ (p : Nat) (v : Value) (bs : List Nat) (r : Bt.Rd) (b : En.E), b.wf → ∀ (w : World), PRd p v bs r w →
    Calls Try.prog 24 #[.pointer (some ⟨p, 0, none⟩), enVal b] w fun e w' => Took p v bs r b w e w'
namespace Contracts
theorem take_next (K : Contracts) {p : Nat} {v : Value} {bs : List Nat} {r : Bt.Rd} {b x : En.E} {w : World} (hb : b.wf) (h : PRd p v bs r w) (hn : En.Next r b x) :
    Calls Try.prog 24 #[.pointer (some ⟨p, 0, none⟩), enVal b] w fun e w' => e = .returned (.tuple #[enVal x, .bool true]) ∧ PRd p v bs ⟨r.l, r.at_ + (En.all b x).length, false⟩ w' ∧ Turned [p] w w' := by
  refine (K.take p v bs r b hb w h).mono ?_
  rintro e w' (⟨x', hn', he, h1, h2⟩ | ⟨hno, _⟩)
  · obtain rfl := En.next_uniq hb hn hn'
    exact ⟨he, h1, h2⟩
  · exact absurd hn (hno x)
theorem take_none (K : Contracts) {p : Nat} {v : Value} {bs : List Nat} {r : Bt.Rd} {b : En.E} {w : World} (hb : b.wf) (h : PRd p v bs r w) (hn : ∀ x, ¬ En.Next r b x) :
    Calls Try.prog 24 #[.pointer (some ⟨p, 0, none⟩), enVal b] w fun e w' => e = .returned (.tuple #[enVal EnR.zeroE, .bool false]) ∧ Turned [p] w w' := by
  refine (K.take p v bs r b hb w h).mono ?_
  rintro e w' (⟨x', hn', _⟩ | ⟨_, he, _, h2⟩)
  · exact absurd hn' (hn x')
  · exact ⟨he, h2⟩
end Contracts
end EnW
namespace EnR
theorem take_next {p : Nat} {v : Value} {r : Bt.Rd} {b x : En.E} {w : World} (hb : b.wf) (h : RRd p v r w) (hn : En.Next r b x) :
    Calls Try.prog 25 #[.pointer (some ⟨p, 0, none⟩), enVal b] w fun e w' => e = .returned (.tuple #[enVal x, .bool true]) ∧ RRd p v ⟨r.l, r.at_ + (En.all b x).length, false⟩ w' ∧ Turned [p] w w' := by
  refine (take_any p v r b hb w h).mono ?_
  rintro e w' (⟨x', hn', he, h1, h2⟩ | ⟨hno, _⟩)
  · obtain rfl := En.next_uniq hb hn hn'
    exact ⟨he, h1, h2⟩
  · exact absurd hn (hno x)
theorem take_none {p : Nat} {v : Value} {r : Bt.Rd} {b : En.E} {w : World} (hb : b.wf) (h : RRd p v r w) (hn : ∀ x, ¬ En.Next r b x) :
    Calls Try.prog 25 #[.pointer (some ⟨p, 0, none⟩), enVal b] w fun e w' => e = .returned (.tuple #[enVal zeroE, .bool false]) ∧ Turned [p] w w' := by
  refine (take_any p v r b hb w h).mono ?_
  rintro e w' (⟨x', hn', _⟩ | ⟨_, he, _, h2⟩)
  · exact absurd hn' (hn x')
  · exact ⟨he, h2⟩
end EnR

namespace EnL
theorem one_row (e : En.E) (w : World) (t : TypeId) : RowOf 8 enEnc (some ⟨w.heap.size, 0, none⟩) [e] (w.alloc (.cells (enEnc e).toArray t)) := by
  intro i a hi
  have h0 : i = 0 := by have := (List.getElem?_eq_some_iff.1 hi).1; simp at this; omega
  subst h0
  simp at hi
  subst hi
  refine ⟨_, 0, rfl, by simp, ?_⟩
  intro j u hj
  rw [Nat.zero_mul, Nat.zero_add]
  exact ((Struct.new w (enEnc e) t).2 j u hj).1
theorem small_wf {e : En.E} (h : En.I64 e.id ∧ En.I64 e.kind ∧ En.I64 e.ax ∧ En.I64 e.ay ∧ En.I64 e.vx ∧ En.I64 e.vy ∧ En.I64 e.h ∧ En.I64 e.t) : e.wf := h
set_option maxHeartbeats 1000000 in
theorem awake_any (K : EnW.Contracts) (w : World) :
    Calls Try.prog 9 #[] w fun e w' => e = .returned (.bool true) ∧ Turned [] w w' := by
  have k1 := K.formed ⟨9, 2, 0, 0, 0, 0, 100, 0⟩ (by unfold En.E.wf En.I64; decide) w
  have k2 := fun (u : World) => K.find (some ⟨u.heap.size, 0, none⟩) 1 [⟨3, 0, 0, 0, 0, 0, 0, 0⟩] 3 (by intro c hc; simp at hc; subst hc; unfold En.E.wf En.I64; decide) (u.alloc (.cells (enEnc ⟨3, 0, 0, 0, 0, 0, 0, 0⟩).toArray 29)) (one_row _ u _) (by decide)
  rw [show decide (En.Formed ⟨9, 2, 0, 0, 0, 0, 100, 0⟩) = true by decide] at k1
  rw [show En.find [⟨3, 0, 0, 0, 0, 0, 0, 0⟩] 3 = 0 by decide] at k2
  go_enter Try.func9, Try.ntmps9
  go_wp2_with (first | (go_at_call 10; refine k1.mono ?_; rintro e u1 ⟨rfl, HT1⟩) | (go_at_call 14; refine (k2 u1).mono ?_; rintro e u2 ⟨rfl, HT2⟩))
  go_ret
  exact ⟨rfl, (HT1.alloc _).trans HT2 (by simp)⟩
end EnL
end Go.Proofs.Ytjphcbcbaiifhaa

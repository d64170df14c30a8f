/- What the laws of layer 9 lean on: what the program's functions answer (CmW.Contracts), that it is awake. -/
import Derived.Test.YtodfgekhffeapaaCmdMem
import Derived.Test.YtodfgekhffeapaaBitMem2
import Derived.Test.YtodfgekhffeapaaFlat
namespace Go.Proofs.Ytodfgekhffeapaa
open Go.RowKit
set_option linter.unusedVariables false

theorem cm_leaf {k : IntKind} {v : Value} (h : (Leaf.int k).ok v) : ∃ z, v = .int k z ∧ (Lit.int k z).wf = true := h
theorem u32_nn {a : Int} (h : (Lit.int .u32 a).wf = true) : 0 ≤ a ∧ a < 4294967296 := by
  simp [Lit.wf, IntKind.min, IntKind.max, IntKind.bits, IntKind.signed] at h; omega
theorem u8_nn {a : Int} (h : (Lit.int .u8 a).wf = true) : 0 ≤ a ∧ a < 256 := by
  simp [Lit.wf, IntKind.min, IntKind.max, IntKind.bits, IntKind.signed] at h; omega
theorem i8_nn {a : Int} (h : (Lit.int .i8 a).wf = true) : -128 ≤ a ∧ a < 128 := by
  simp [Lit.wf, IntKind.min, IntKind.max, IntKind.bits, IntKind.signed] at h; omega
theorem cm_ok {k : IntKind} {z : Int} (h : (Leaf.int k).ok (.int k z)) : (Lit.int k z).wf = true := by
  obtain ⟨y, hy, hw⟩ := h
  rw [(Value.int.inj hy).2]
  exact hw
theorem cmEnc_of (cs : List Value) (h : AllOk [.int .u32, .int .i8, .int .i8, .bool, .int .u32, .int .u8] cs) : ∃ a, cs = cmEnc a := by
  have hl := h.length
  obtain ⟨c0, c1, c2, c3, c4, c5, rfl⟩ : ∃ c0 c1 c2 c3 c4 c5, cs = [c0, c1, c2, c3, c4, c5] := by
    match cs, hl with
    | [a, b, c, d, e, f], _ => exact ⟨a, b, c, d, e, f, rfl⟩
  obtain ⟨x0, e0, k0⟩ := cm_leaf h.1
  obtain ⟨x1, e1, _⟩ := cm_leaf h.2.1
  obtain ⟨x2, e2, _⟩ := cm_leaf h.2.2.1
  obtain ⟨x3, e3⟩ : ∃ b, c3 = .bool b := h.2.2.2.1
  obtain ⟨x4, e4, k4⟩ := cm_leaf h.2.2.2.2.1
  obtain ⟨x5, e5, k5⟩ := cm_leaf h.2.2.2.2.2.1
  have n0 := u32_nn k0
  have n4 := u32_nn k4
  have n5 := u8_nn k5
  refine ⟨⟨x0.toNat, x1, x2, x3, x4.toNat, x5.toNat⟩, ?_⟩
  show _ = [Value.int .u32 ((x0.toNat : Nat) : Int), .int .i8 x1, .int .i8 x2, .bool x3, .int .u32 ((x4.toNat : Nat) : Int), .int .u8 ((x5.toNat : Nat) : Int)]
  rw [e0, e1, e2, e3, e4, e5, Int.toNat_of_nonneg n0.1, Int.toNat_of_nonneg n4.1, Int.toNat_of_nonneg n5.1]
theorem cm_wf {c : Cm.C} (h : AllOk [.int .u32, .int .i8, .int .i8, .bool, .int .u32, .int .u8] (cmEnc c)) : c.wf := by
  have a0 := u32_nn (cm_ok h.1)
  have a1 := i8_nn (cm_ok h.2.1)
  have a2 := i8_nn (cm_ok h.2.2.1)
  have a4 := u32_nn (cm_ok h.2.2.2.2.1)
  have a5 := u8_nn (cm_ok h.2.2.2.2.2.1)
  exact ⟨by omega, a1.1, a1.2, a2.1, a2.2, by omega, by omega⟩

namespace CmW
/-- what Take answers of a reader -/
def Took (p : Nat) (v : Value) (bs : List Nat) (r : Bt.Rd) (w : World) (e : Ending) (w' : World) : Prop :=
  (∃ (l : List Cm.C) (oa : Option Addr) (cap : Nat), Cm.Next r l ∧ e = .returned (.tuple #[.slice oa l.length cap, .bool true]) ∧ RowOf 6 cmEnc oa l w' ∧ (∀ a, oa = some a → w.heap.size ≤ a.block) ∧ PRd p v bs ⟨r.l, r.at_ + (Cm.all l).length, false⟩ w' ∧ Turned [p] w w') ∨
  ((∀ l, ¬ Cm.Next r l) ∧ (∃ (oa : Option Addr) (cap : Nat), e = .returned (.tuple #[.slice oa 0 cap, .bool false])) ∧ (∃ r', PRd p v bs r' w' ∧ ∀ l s, Cm.Next (r.on s) l → r.rest.length < (Cm.all l).length → r'.fail = true) ∧ Turned [p] w w')
/-- what the program's functions of layer 9 answer -/
structure Contracts : Prop where
  formed : ∀ (c : Cm.C), c.wf → ∀ (w : World), Calls Try.prog 12 #[cmVal c] w fun e w' => e = .returned (.bool (decide (Cm.Formed c))) ∧ Turned [] w w'
  row : ∀ (oa : Option Addr) (cap : Nat) (l : List Cm.C), (∀ c ∈ l, c.wf) → ∀ (w : World), RowOf 6 cmEnc oa l w → (l.length : Int) ≤ 9223372036854775807 →
    Calls Try.prog 14 #[.slice oa l.length cap] w fun e w' => e = .returned (.bool (Cm.row l)) ∧ Turned [] w w'
  put : ∀ (p : Nat) (L : List Bool) (F : List Nat) (oa : Option Addr) (cap : Nat) (l : List Cm.C), (∀ c ∈ l, c.wf) → ∀ (w : World), PW p L F w → L.length ≤ 274877906944 → RowOf 6 cmEnc oa l w → (l.length : Int) ≤ 9223372036854775807 → (∀ a, oa = some a → 0 < l.length → a.block ∉ F) →
    Calls Try.prog 10 #[.pointer (some ⟨p, 0, none⟩), .slice oa l.length cap] w fun e w' => e = .returned (.bool (Cm.row l)) ∧ ∃ F', PW p (L ++ if Cm.row l then Cm.all l else []) F' w' ∧ Moved F F' w w'
  take : ∀ (p : Nat) (v : Value) (bs : List Nat) (r : Bt.Rd) (w : World), PRd p v bs r w →
    Calls Try.prog 21 #[.pointer (some ⟨p, 0, none⟩)] w fun e w' => Took p v bs r w e w'
end CmW

namespace CmL
/-- one command's row, built -/
theorem one_row (c : Cm.C) (w : World) (t : TypeId) : RowOf 6 cmEnc (some ⟨w.heap.size, 0, none⟩) [c] (w.alloc (.cells (cmEnc c).toArray t)) := by
  intro i a hi
  have h0 : i = 0 := by have := (List.getElem?_eq_some_iff.1 hi).1; simp at this; omega
  subst h0
  simp at hi
  subst hi
  refine ⟨_, 0, rfl, by simp, ?_⟩
  intro j u hj
  rw [Nat.zero_mul, Nat.zero_add]
  exact ((Struct.new w (cmEnc c) t).2 j u hj).1
set_option maxHeartbeats 1000000 in
theorem awake_any (K : CmW.Contracts) (w : World) :
    Calls Try.prog 9 #[] w fun e w' => e = .returned (.bool true) ∧ Turned [] w w' := by
  have k1 := K.formed ⟨1, 0, 0, false, 0, 0⟩ ⟨by decide, by decide, by decide, by decide, by decide, by decide, by decide⟩ w
  have k2 := fun (u : World) => K.row (some ⟨u.heap.size, 0, none⟩) 1 [⟨7, 0, 0, false, 0, 0⟩] (by intro c hc; simp at hc; subst hc; exact ⟨by decide, by decide, by decide, by decide, by decide, by decide, by decide⟩) (u.alloc (.cells (cmEnc ⟨7, 0, 0, false, 0, 0⟩).toArray 25)) (one_row _ u _) (by decide)
  rw [show decide (Cm.Formed ⟨1, 0, 0, false, 0, 0⟩) = true by decide] at k1
  rw [show Cm.row [⟨7, 0, 0, false, 0, 0⟩] = true by decide] at k2
  go_enter Try.func9, Try.ntmps9
  go_wp2_with (first | (go_at_call 12; refine k1.mono ?_; rintro e u1 ⟨rfl, HT1⟩) | (go_at_call 14; refine (k2 u1).mono ?_; rintro e u2 ⟨rfl, HT2⟩))
  go_ret
  exact ⟨rfl, (HT1.alloc _).trans HT2 (by simp)⟩
end CmL
end Go.Proofs.Ytodfgekhffeapaa

/- What the laws of layer 12 lean on: what the program's functions answer (MvW.Contracts), that it is awake; entities that came in. -/
import Derived.Test.YtbfffgnalopfbaaMvRef
import Derived.Test.YtbfffgnalopfbaaMapOpen
import Derived.Test.YtbfffgnalopfbaaTilWRead
import Derived.Laws.StructEq
namespace Go.Proofs.Ytbfffgnalopfbaa
open Go.RowKit
set_option linter.unusedVariables false
set_option linter.unusedSimpArgs false

theorem en_leaf {k : IntKind} {v : Value} (h : (Leaf.int k).ok v) : ∃ z, v = .int k z ∧ (Lit.int k z).wf = true := h
theorem enEnc_of (cs : List Value) (h : AllOk [.int .i64, .int .i64, .int .i64, .int .i64, .int .i64, .int .i64, .int .i64, .int .i64] cs) : ∃ a, cs = enEnc a := by
  have hl := h.length
  obtain ⟨c0, c1, c2, c3, c4, c5, c6, c7, rfl⟩ : ∃ c0 c1 c2 c3 c4 c5 c6 c7, cs = [c0, c1, c2, c3, c4, c5, c6, c7] := by
    match cs, hl with
    | [a, b, c, d, e, f, g, h], _ => exact ⟨a, b, c, d, e, f, g, h, rfl⟩
  obtain ⟨x0, e0, _⟩ := en_leaf h.1
  obtain ⟨x1, e1, _⟩ := en_leaf h.2.1
  obtain ⟨x2, e2, _⟩ := en_leaf h.2.2.1
  obtain ⟨x3, e3, _⟩ := en_leaf h.2.2.2.1
  obtain ⟨x4, e4, _⟩ := en_leaf h.2.2.2.2.1
  obtain ⟨x5, e5, _⟩ := en_leaf h.2.2.2.2.2.1
  obtain ⟨x6, e6, _⟩ := en_leaf h.2.2.2.2.2.2.1
  obtain ⟨x7, e7, _⟩ := en_leaf h.2.2.2.2.2.2.2.1
  rw [e0, e1, e2, e3, e4, e5, e6, e7]
  exact ⟨⟨x0, x1, x2, x3, x4, x5, x6, x7⟩, rfl⟩
theorem en_ok {k : IntKind} {z : Int} (h : (Leaf.int k).ok (.int k z)) : (Lit.int k z).wf = true := by
  obtain ⟨y, hy, hw⟩ := h
  rw [(Value.int.inj hy).2]
  exact hw
theorem i64_nn {a : Int} (h : (Lit.int .i64 a).wf = true) : En.I64 a := by
  simp [Lit.wf, IntKind.min, IntKind.max, IntKind.bits, IntKind.signed] at h; unfold En.I64; omega
theorem i8_in {a : Int} (h : (Lit.int .i8 a).wf = true) : -128 ≤ a ∧ a ≤ 127 := by
  simp [Lit.wf, IntKind.min, IntKind.max, IntKind.bits, IntKind.signed] at h; omega
theorem u8_in {a : Int} (h : (Lit.int .u8 a).wf = true) : 0 ≤ a ∧ a < 256 := by
  simp [Lit.wf, IntKind.min, IntKind.max, IntKind.bits, IntKind.signed] at h; omega
theorem en_wf {e : En.E} (h : AllOk [.int .i64, .int .i64, .int .i64, .int .i64, .int .i64, .int .i64, .int .i64, .int .i64] (enEnc e)) : e.wf :=
  ⟨i64_nn (en_ok h.1), i64_nn (en_ok h.2.1), i64_nn (en_ok h.2.2.1), i64_nn (en_ok h.2.2.2.1), i64_nn (en_ok h.2.2.2.2.1), i64_nn (en_ok h.2.2.2.2.2.1), i64_nn (en_ok h.2.2.2.2.2.2.1), i64_nn (en_ok h.2.2.2.2.2.2.2.1)⟩
theorem mv_same (e : En.E) (w : World) : (binOp .eql 30 (.agg #[.int .i64 e.id, .int .i64 e.kind, .int .i64 e.ax, .int .i64 e.ay, .int .i64 e.vx, .int .i64 e.vy, .int .i64 e.h, .int .i64 e.t]) (.agg #[.int .i64 e.id, .int .i64 e.kind, .int .i64 e.ax, .int .i64 e.ay, .int .i64 e.vx, .int .i64 e.vy, .int .i64 e.h, .int .i64 e.t])).run Try.prog w = .ok (.bool true) w := by
  rw [run_eql_struct, run_equalIn_agg (d := 9999) (ht := by kernel_rfl) (hp := by kernel_rfl)]
  simp [go_sem]
theorem mv_diff (a b c d e f g h : Int) (w : World) : (binOp .neq 30 (.agg #[.int .i64 a, .int .i64 b, .int .i64 c, .int .i64 d, .int .i64 e, .int .i64 f, .int .i64 g, .int .i64 h]) (.agg #[.int .i64 a, .int .i64 b, .int .i64 c, .int .i64 d, .int .i64 e, .int .i64 f, .int .i64 g, .int .i64 h])).run Try.prog w = .ok (.bool false) w := by
  rw [run_neq_struct, run_equalIn_agg (d := 9999) (ht := by kernel_rfl) (hp := by kernel_rfl)]
  simp [go_sem]
namespace Mv
/-- how great a number is -/
def size (x : Int) : Int := if x = -9223372036854775808 then x else if x < -x then -x else x
end Mv
namespace MvW
/-- what the program's functions of layer 12 answer -/
structure Contracts : Prop where
  stands : ∀ (m : Ti.M) (oa : Option Addr) (ca : Nat) (ob : Option Addr) (cb : Nat) (x y : Int) (w : World), MapAt m oa ob w →
    Calls Try.prog 14 #[mapVal m oa ca ob cb, .agg #[.int .i64 x, .int .i64 y]] w fun e w' => e = .returned (.bool (Mv.stands m x y)) ∧ Turned [] w w'
  walk : ∀ (m : Ti.M) (oa : Option Addr) (ca : Nat) (ob : Option Addr) (cb : Nat) (e : En.E) (mx my : Int), e.wf → (-128 ≤ mx ∧ mx ≤ 127) → (-128 ≤ my ∧ my ≤ 127) → ∀ (w : World), MapAt m oa ob w →
    Calls Try.prog 10 #[mapVal m oa ca ob cb, enVal e, .int .i8 mx, .int .i8 my] w fun r w' => r = .returned (enVal (Mv.walk m e mx my)) ∧ Turned [] w w'
  roll : ∀ (m : Ti.M) (oa : Option Addr) (ca : Nat) (ob : Option Addr) (cb : Nat) (e : En.E), e.wf → ∀ (w : World), MapAt m oa ob w →
    Calls Try.prog 12 #[mapVal m oa ca ob cb, enVal e] w fun r w' => r = .returned (enVal (Mv.roll m e)) ∧ Turned [] w w'
end MvW

namespace MvL
theorem walk_awake : Mv.walk Mv.mapA ⟨1, 1, 32768, 32768, 0, 0, 5, 0⟩ 127 0 = ⟨1, 1, 49152, 32768, 16384, 0, 5, 0⟩ := by
  have h1 : Mv.walks ⟨1, 1, 32768, 32768, 0, 0, 5, 0⟩ 127 0 = true := by decide
  have e1 : Mv.down (127 * 16384) = 16384 := by decide
  have e2 : Mv.down (0 * 16384) = 0 := by decide
  have s1 : Mv.goX Mv.mapA 32768 32768 16384 = 49152 := by unfold Mv.goX; rw [if_pos (Mv.row (by omega))]; rfl
  have s2 : Mv.goY Mv.mapA 49152 32768 0 = 32768 := by unfold Mv.goY; rw [show (32768 : Int) + 0 = 32768 from rfl, if_pos (Mv.row (by omega))]
  unfold Mv.walk
  rw [if_pos h1]
  unfold Mv.stepped
  simp only [e1, e2, s1, s2]
set_option maxHeartbeats 1000000 in
theorem awake_any (K : MvW.Contracts) (w : World) :
    Calls Try.prog 8 #[] w fun e w' => e = .returned (.bool true) ∧ Turned [] w w' := by
  have k1 := TiW.read_any ⟨#[226, 151, 142, 194, 183, 10]⟩ (by decide) w
  unfold TiR.Answers at k1
  rw [show (⟨#[226, 151, 142, 194, 183, 10]⟩ : ByteArray).data.toList = Mv.textA from rfl, Mv.readA] at k1
  simp only [Ti.ansM, Ti.ansN, Ti.ansE] at k1
  rw [show Ti.mOf ⟨0, 2, 1, [false, false], [(32768, 32768)]⟩ = Mv.mapA from rfl] at k1
  have k2 := fun (oa : Option Addr) (ca : Nat) (ob : Option Addr) (cb : Nat) (u : World) (hu : MapAt Mv.mapA oa ob u) => K.walk Mv.mapA oa ca ob cb ⟨1, 1, 32768, 32768, 0, 0, 5, 0⟩ 127 0 (by unfold En.E.wf En.I64; decide) (by omega) (by omega) u hu
  rw [walk_awake] at k2
  unfold enVal mapVal at k2
  unfold mapVal at k1
  simp only [Mv.mapA, List.length_cons, List.length_nil, Nat.zero_add] at k1 k2
  go_enter Try.func8, Try.ntmps8
  go_wp2_with (first | (go_at_call 17; (with_reducible refine k1.mono ?_); rintro e u1 ⟨oa, ca, ob, cb, rfl, hM, _, _, hT⟩) | (go_at_call 10; (with_reducible refine (k2 oa ca ob cb _ (hM.calm ((Turned.refl [] u1).alloc _))).mono ?_); rintro e u2 ⟨rfl, hT2⟩))
  go_ret
  exact ⟨rfl, ((hT.alloc _).trans hT2 (by simp)).alloc _⟩

set_option maxHeartbeats 1000000 in
theorem few_any (m : Ti.M) (oa : Option Addr) (ca : Nat) (ob : Option Addr) (cb : Nat) (w : World) :
    Calls Try.prog 9 #[mapVal m oa ca ob cb] w fun e w' => e = .returned (.bool (decide (m.ws.length ≤ 1100) && decide (m.sp.length ≤ 1100))) ∧ Turned [] w w' := by
  have HT : ∀ o, Turned [] w (w.alloc o) := fun o => (Turned.refl [] w).alloc o
  unfold mapVal
  generalize m.ws.length = nw
  generalize m.sp.length = ns
  by_cases h1 : (nw : Int) ≤ 1100
  · by_cases h2 : (ns : Int) ≤ 1100
    · have HA : Hid ((decide (nw ≤ 1100) && decide (ns ≤ 1100)) = true) := by show _ = _; simp; omega
      go_enter Try.func9, Try.ntmps9
      go_wp2_with fail
      go_ret
      exact ti_bool HA.out.symm (HT _)
    · have HA : Hid ((decide (nw ≤ 1100) && decide (ns ≤ 1100)) = false) := by show _ = _; simp; omega
      go_enter Try.func9, Try.ntmps9
      go_wp2_with fail
      go_ret
      exact ti_bool HA.out.symm (HT _)
  · have HA : Hid ((decide (nw ≤ 1100) && decide (ns ≤ 1100)) = false) := by show _ = _; simp; omega
    go_enter Try.func9, Try.ntmps9
    go_wp2_with fail
    go_ret
    exact ti_bool HA.out.symm (HT _)

set_option maxHeartbeats 1000000 in
theorem size_any (x : Int) (hx : En.I64 x) (w : World) :
    Calls Try.prog 16 #[.int .i64 x] w fun e w' => e = .returned (.int .i64 (Mv.size x)) ∧ w' = w := by
  obtain ⟨x0, x1⟩ := hx
  by_cases hm : x = -9223372036854775808
  · subst hm
    have hw : wrap64 9223372036854775808 = -9223372036854775808 := by unfold wrap64; omega
    go_enter Try.func16, Try.ntmps16
    go_wp2
    go_ret
    exact ⟨rfl, rfl⟩
  · obtain ⟨n, hn⟩ : ∃ n, (if x < -x then -x else x) = n := ⟨_, rfl⟩
    have HA : Hid (Mv.size x = n) := by show _ = _; unfold Mv.size; rw [if_neg hm]; exact hn
    have hm' : -9223372036854775808 < x := by omega
    clear hm
    go_enter Try.func16, Try.ntmps16
    go_wp2
    go_ret
    rw [HA.out]
    exact ⟨rfl, rfl⟩
/-- a quiet call out of a world that is kept -/
theorem quiet {f : FuncId} {args : Array Value} {W : World} {x : KeptW W} {v : Value} (h : Calls Try.prog f args x.u fun e w' => e = .returned v ∧ Turned [] x.u w') : Calls Try.prog f args x.u fun e w'' => e = .returned v ∧ ∃ y : KeptW W, w'' = y.u :=
  kept_call (h.mono fun r w' h => ⟨h.1, h.2.none⟩)
end MvL
end Go.Proofs.Ytbfffgnalopfbaa

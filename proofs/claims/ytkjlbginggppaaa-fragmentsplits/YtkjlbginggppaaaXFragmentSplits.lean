/- All messages are parted as the chapter says: FragmentSplits returns true for every input, without a panic and without changing its arguments. -/
import Derived.Test.YtkjlbginggppaaaJ6
import Derived.Test.YtkjlbginggppaaaRows
import Derived.WalkKit
import Derived.ProofKit
import Derived.OpenShut
import Derived.ChangeOld
import Derived.Below
import Derived.WalkSmall
import Derived.Lib.SmallJoins
import Derived.Laws.IdiomArrays
namespace Go.Proofs.Ytkjlbginggppaaa.fragmentSplits
open Go.ChangeShapes Go.WideShapes Go.ChangeAt Go.RowKit
set_option linter.unusedVariables false

theorem own : ownKnob Try.prog.godebug = none := by kernel_rfl
theorem laidOut : laidOutB Try.prog = true := by kernel_rfl

set_option linter.unusedSimpArgs false in
set_option maxRecDepth 20000 in
set_option maxHeartbeats 16000000 in
theorem walk (a0_0 : Int) (a0_1 : Int) (a0_2 : Int) (a1_o : Option Addr) (a1_n a1_c : Nat) (w0_0 : (Lit.int .u16 a0_0).wf = true) (w0_1 : (Lit.int .u16 a0_1).wf = true) (w0_2 : (Lit.int .u8 a0_2).wf = true) (w1_m : a1_n ≤ maxLen) (w1_l : a1_n ≤ a1_c) (w : World) (w1 : Ints .u8 a1_o a1_n w) :
    Calls Try.prog 3 #[.agg #[.int .u16 a0_0, .int .u16 a0_1, .int .u8 a0_2], .slice a1_o a1_n a1_c] w fun e w' => e = .returned (.bool true) ∧ Below w.heap.size w w' := by
  obtain ⟨id, rfl, hid⟩ := FgL.u16_nat w0_0
  obtain ⟨size, rfl, hs⟩ := FgL.u16_nat w0_1
  obtain ⟨x, rfl, hx⟩ := FgL.u8_nat w0_2
  obtain ⟨l, hl, h8, hr⟩ := bytes_row w1
  clear w0_0 w0_1 w0_2 w1
  unfold maxLen at w1_m
  have m8 := Fg.msg_lt size x
  obtain ⟨M, hM⟩ : ∃ M, M = Fg.msg size x := ⟨_, rfl⟩
  have kB : ∀ u, Calls Try.prog 11 #[.agg #[.int .u16 (id : Int), .int .u16 (size : Int), .int .u8 (x : Int)]] u fun e u' => ∃ v, e = .returned v ∧ BytesAt v M u' ∧ Turned [] u u' := fun u => by rw [hM]; exact FgL.bytes_w id size x hs hx u
  have kS : ∀ u v, BytesAt v M u → Calls Try.prog 10 #[.int .u16 (id : Int), v] u fun e u' => ∃ v', e = .returned (.tuple #[v', .int .i64 (Fg.splitE M)]) ∧ LsAt v' (Fg.splitL id M) u' ∧ Turned [] u u' := fun u v hv => FgL.split_w id v M u hid (by rw [hM]; exact m8) hv
  have kR : ∀ u v, BytesAt v M u → Calls Try.prog 12 #[.int .u16 (id : Int), v] u fun e u' => ∃ v', e = .returned (.tuple #[v', .int .i64 (Fg.splitE M)]) ∧ LsAt v' (Fg.splitL id M) u' ∧ Turned [] u u' := fun u v hv => (FgL.split_r id v M u hid hv).mono fun e w' ⟨v', he, hL, ht⟩ => ⟨v', he, hL.at, ht⟩
  have kS2 : ∀ u, Turned [] w u → Calls Try.prog 10 #[.int .u16 (id : Int), .slice a1_o a1_n a1_c] u fun e u' => ∃ v', e = .returned (.tuple #[v', .int .i64 (Fg.splitE l)]) ∧ LsAt v' (Fg.splitL id l) u' ∧ Turned [] u u' := fun u hu => (FgL.split_row id a1_o a1_n a1_c l u hid h8 hl w1_l (hr.turned hu (by simp))).mono fun e w' ⟨v', he, hL, ht⟩ => ⟨v', he, hL.at, ht⟩
  have kR2 : ∀ u, Turned [] w u → Calls Try.prog 12 #[.int .u16 (id : Int), .slice a1_o a1_n a1_c] u fun e u' => ∃ v', e = .returned (.tuple #[v', .int .i64 (Fg.splitE l)]) ∧ LsAt v' (Fg.splitL id l) u' ∧ Turned [] u u' := fun u hu => (FgL.split_rowR id a1_o a1_n a1_c l u hid hl (hr.turned hu (by simp))).mono fun e w' ⟨v', he, hL, ht⟩ => ⟨v', he, hL.at, ht⟩
  have s1 := FgL.same_of id M
  have s2 := FgL.same_of id l
  generalize Fg.splitE M = E1 at kS kR
  generalize Fg.splitE l = E2 at kS2 kR2
  generalize Fg.splitL id M = X1 at kS kR s1
  generalize Fg.splitL id l = X2 at kS2 kR2 s2
  clear hM m8 hr h8 hl w1_l hs hx
  clear hid
  go_enter Try.func3, Try.ntmps3
  go_wp2_with fail
  obtain ⟨W0, hW0⟩ : ∃ W, W = w.alloc (.cells #[.int .u16 (id : Int), .int .u16 (size : Int), .int .u8 (x : Int)] 24) := ⟨_, rfl⟩
  obtain ⟨B, hB⟩ : ∃ B, B = w.heap.size := ⟨_, rfl⟩
  rw [← hW0, ← hB]
  have TW : Turned [] w W0 := by rw [hW0]; exact (Turned.refl [] w).alloc _
  have hS : Struct B [.int .u16 (id : Int), .int .u16 (size : Int), .int .u8 (x : Int)] W0 := by rw [hW0, hB]; exact Struct.new w [.int .u16 (id : Int), .int .u16 (size : Int), .int .u8 (x : Int)] _
  clear hW0 hB
  have HT0 : Turned [] W0 W0 := Turned.refl _ _
  have three : ∀ u, Turned [] W0 u → u.cell? ⟨B, 0, none⟩ = some (.int .u16 (id : Int)) ∧ u.cell? ⟨B, 1, none⟩ = some (.int .u16 (size : Int)) ∧ u.cell? ⟨B, 2, none⟩ = some (.int .u8 (x : Int)) := fun u hu => FgL.three hS hu
  clear hS
  by_cases h5 : 5000 < (a1_n : Int)
  · go_wp2_with (go_at_call 9; (with_reducible refine (FgL.awake_any _).mono ?_); rintro e u0 ⟨rfl, HT1⟩; have HT0 := HT0.trans HT1 (by simp))
    go_ret
    exact ⟨rfl, (TW.trans HT0 (by simp)).none⟩
  · go_wp2_with (go_at_call 9; (with_reducible refine (FgL.awake_any _).mono ?_); rintro e u0 ⟨rfl, HT1⟩; have HT0 := HT0.trans HT1 (by simp); clear HT1)
    obtain ⟨c0, c1, c2⟩ := three _ HT0
    go_region_with (first
      | (go_at_call 11; (with_reducible refine (kB _).mono ?_); rintro e u1 ⟨v1, rfl, HB1, HT1⟩; have HTa : Turned [] W0 u1 := (by first | exact HT0.trans HT1 (by simp) | exact HT0.drew.trans HT1 (by simp)); obtain ⟨d0, d1, d2⟩ := three _ HTa)
      | (go_at_call 10; (with_reducible refine (kS _ _ HB1).mono ?_); rintro e u2 ⟨v2, rfl, HL1, HT2⟩; have HTb : Turned [] W0 u2 := HTa.trans HT2 (by simp); clear HT1 HT2 HB1 HTa))
    all_goals obtain ⟨e0, e1, e2⟩ := three _ HTb
    all_goals go_wp2_with fail
    all_goals go_region_with (first
      | (go_at_call 11; (with_reducible refine (kB _).mono ?_); rintro e u1 ⟨v3, rfl, HB1, HT1⟩; have HTc : Turned [] u2 u1 := (by first | exact (Turned.refl [] u2).trans HT1 (by simp) | exact (Turned.refl [] u2).drew.trans HT1 (by simp)); obtain ⟨d0, d1, d2⟩ := three _ (HTb.trans HTc (by simp)))
      | (go_at_call 12; (with_reducible refine (kR _ _ HB1).mono ?_); rintro e u3 ⟨v4, rfl, HL2, HT2⟩; have HTd : Turned [] u2 u3 := HTc.trans HT2 (by simp); have HTe : Turned [] W0 u3 := HTb.trans HTd (by simp); have HL3 := HL1.on HTd; obtain ⟨f0, f1, f2⟩ := three _ HTe; clear HL1 HB1 HT1 HT2 HTc HTd HTb e0 e1 e2 d0 d1 d2))
    all_goals go_wp2_with (first
      | (go_at_call 10; (with_reducible refine (kS2 _ (TW.trans HTe (by simp))).mono ?_); rintro e u4 ⟨v5, rfl, HL4, HT3⟩; have HTf := HTe.trans HT3 (by simp); have HL5 := HL2.on HT3; have HL6 := HL3.on HT3; obtain ⟨g0, g1, g2⟩ := three _ HTf; clear HL2 HL3 HT3 HTe f0 f1 f2)
      | (go_at_call 12; (with_reducible refine (kR2 _ (TW.trans HTf (by simp))).mono ?_); rintro e u5 ⟨v6, rfl, HL7, HT4⟩; have HTg := HTf.trans HT4 (by simp); have HL8 := HL5.on HT4; have HL9 := HL6.on HT4; have HL10 := HL4.on HT4; clear HL4 HL5 HL6 HT4 HTf g0 g1 g2)
      | (go_at_call 13; (with_reducible refine (s1 _ _ _ HL9 HL8).mono ?_); rintro e u6 ⟨rfl, HT5⟩; have HTh := HTg.trans HT5 (by simp); have HL11 := HL7.on HT5; have HL12 := HL10.on HT5; clear HL8 HL9 HL7 HL10 HT5 HTg)
      | (go_at_call 13; (with_reducible refine (s2 _ _ _ HL12 HL11).mono ?_); rintro e u7 ⟨rfl, HT6⟩; have HTi := HTh.trans HT6 (by simp)))
    all_goals go_ret
    all_goals exact ⟨rfl, (TW.trans HTi (by simp)).none⟩

set_option maxRecDepth 100000 in
theorem lifted (os : Os) (started : os.Started) (H : Type) (enc : TypeId × Value → H) :
    ReturnsInHanded {} Try.checked os 3 .any (Rows.fragmentSplitsSpec.pre6 enc Try.prog Try.f3 Rows.fragmentSplitsRow.domain false) (Rows.fragmentSplitsSpec.post enc Try.prog Try.f3 false true false false) := by
  refine returnsInHanded_of_change (C := Try.checked) own started (by kernel_rfl) Try.func3
    (ChangeSpec.witness6 (enc := enc) (C := Try.checked) false ⟨#[], #[.agg #[.int .u16 0, .int .u16 0, .int .u8 0], .slice none 0 0], []⟩ 8 (by kernel_rfl) (by kernel_rfl) (by kernel_rfl) (by kernel_rfl)) ?_
  intro W base args ds gs before hval0 hW hcnd _
  have hval : ∀ (j : Nat) t v, Try.f3.params[j]? = some t → args[j]? = some v → Value.okWide Try.prog W .any base t v := hval0
  have hW' := hW
  obtain ⟨p, q, hA0, hV, rfl, hfz, hnd⟩ := hW
  have hA : DataW.TrodAll enc Try.prog W 0 (fun _ => true) true Try.f3.params.toList args.toList ds p := hA0
  rw [Try.params3] at hA hval
  obtain ⟨v0, vs0, d0, ds0, p0, q0, hargs, rfl, rfl, h0, r0⟩ := trodAll_cons hA
  obtain ⟨v1, vs1, d1, ds1, p1, q1, rfl, rfl, rfl, h1, r1⟩ := trodAll_cons r0
  obtain ⟨rfl, rfl, rfl⟩ := trodAll_nil r1
  obtain rfl : args = #[v0, v1] := by cases args; simp_all
  obtain ⟨rfl, rfl⟩ := trodVars_none hV
  have k0 := h0
  have lt0 : ∀ x ∈ p0, x.block < W.heap.size := by obtain ⟨m, hm⟩ := k0; exact DataW.trod_lt m _ _ _ hm
  have k1 := h1
  have lt1 : ∀ x ∈ p1, x.block < W.heap.size := by obtain ⟨m, hm⟩ := k1; exact DataW.trod_lt m _ _ _ hm
  obtain ⟨u0_0, u0_1, u0_2, y0_0, y0_1, y0_2, m0, rfl, _, _, g0_0, g0_1, g0_2⟩ := Go.Joins.open_agg3 Try.underlying24 (by kernel_rfl) (by kernel_rfl) (hval 0 24 v0 rfl rfl) h0
  obtain ⟨a0_0, e0_0, _, w0_0⟩ := DataW.trod_int Try.underlying22 g0_0
  simp at e0_0
  subst e0_0
  obtain ⟨a0_1, e0_1, _, w0_1⟩ := DataW.trod_int Try.underlying22 g0_1
  simp at e0_1
  subst e0_1
  obtain ⟨a0_2, e0_2, _, w0_2⟩ := DataW.trod_int Try.underlying5 g0_2
  simp at e0_2
  subst e0_2
  obtain ⟨a1_o, a1_n, a1_c, rfl, w1_m, w1_l, w1⟩ := open_row Try.underlying25 Try.underlying5 (by kernel_rfl) (hval 1 25 v1 rfl rfl) h1
  clear hA0 hval0
  refine (walk a0_0 a0_1 a0_2 a1_o a1_n a1_c w0_0 w0_1 w0_2 w1_m w1_l W w1).mono fun e W' ⟨he, bel⟩ => ?_
  subst he
  exact ⟨_, rfl, _, _, _, [], _, [], hW', trodAll_mk1 (shut_bool Try.underlying4 _), (trodAll_cons_mk (Below.trod laidOut (by kernel_rfl) (of_decide_eq_true (by kernel_rfl)) k0 bel lt0) (trodAll_cons_mk (Below.trod laidOut (by kernel_rfl) (of_decide_eq_true (by kernel_rfl)) k1 bel lt1) trodAll_mk0)), rfl, bel.frame _, fun h => by cases h⟩

theorem over : Rows.fragmentSplitsRow.holds Try.pinned (OpenSpec.ofChange Rows.fragmentSplitsSpec) :=
  OpenClaim.holds_of_wide 3 Try.f3 rfl rfl rfl rfl rfl rfl rfl ⟨rfl, rfl, rfl, rfl, rfl⟩ rfl rfl rfl rfl rfl (by kernel_rfl) Try.func3 (by kernel_rfl)
    (of_decide_eq_true (by kernel_rfl)) (by unfold Func.isWrapper; first | (rw [if_pos (by decide +kernel)]; kernel_rfl) | (rw [if_neg (by decide +kernel)]; exact ⟨rfl, rfl⟩))
    (fun os started H enc _ => lifted os started H enc)

theorem proved : Rows.FragmentSplitsSaid :=
  over
#print axioms proved
end Go.Proofs.Ytkjlbginggppaaa.fragmentSplits

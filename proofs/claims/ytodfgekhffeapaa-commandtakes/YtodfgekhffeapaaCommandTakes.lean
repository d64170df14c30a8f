/- Of all bits the row that comes next is taken, or it is told that none comes. -/
import Derived.Test.YtodfgekhffeapaaRows
import Derived.Test.YtodfgekhffeapaaCmdWalks
import Derived.Test.YtodfgekhffeapaaCmdLaw3
import Derived.Test.YtodfgekhffeapaaFlat
import Derived.Test.YtodfgekhffeapaaInts
import Derived.WalkKit
import Derived.ProofKit
import Derived.OpenShut
import Derived.ChangeOld
import Derived.Below
import Derived.WalkSmall
import Derived.Lib.SmallJoins
import Derived.Laws.IdiomArrays
namespace Go.Proofs.Ytodfgekhffeapaa.commandTakes
open Go.ChangeShapes Go.WideShapes Go.ChangeAt Go.RowKit
set_option linter.unusedVariables false

theorem own : ownKnob Try.prog.godebug = none := by kernel_rfl
theorem laidOut : laidOutB Try.prog = true := by kernel_rfl

set_option maxRecDepth 20000 in
set_option maxHeartbeats 4000000 in
theorem walk (a0_o : Option Addr) (a0_n a0_c : Nat) (w0_m : a0_n ≤ maxLen) (w0_l : a0_n ≤ a0_c) (w : World) (w0 : Ints .u8 a0_o a0_n w) :
    Calls Try.prog 4 #[.slice a0_o a0_n a0_c] w fun e w' => e = .returned (.bool true) ∧ Below w.heap.size w w' := by
  have K := CmW.contracts
  unfold maxLen at w0_m
  have kA := CmL.awake_any K
  by_cases hsz : (a0_n : Int) ≤ 1000
  · have hsz' : ¬ 1000 < (a0_n : Int) := by omega
    obtain ⟨bs, hbl, hb8, hbr⟩ := CmL.bytes_of w0
    have kN := fun (u0 : World) (h : Turned [] w u0) => BtD.new_any a0_o a0_n a0_c bs u0 hbl (hbr.turned h (by simp)) (by omega) hb8
    have kN2 := fun (u0 : World) (h : Turned [] w u0) => BtG.new_any a0_o a0_c bs u0 (hbr.turned h (by simp)) (by omega) hb8
    rw [hbl] at kN2
    obtain ⟨r, hr⟩ : ∃ r : Bt.Rd, r = ⟨Bt.unpack bs, 0, false⟩ := ⟨_, rfl⟩
    rw [← hr] at kN kN2
    clear hr hbl hb8 hbr w0
    have HT0 : Turned [] w w := Turned.refl _ _
    by_cases hex : ∃ l, Cm.Next r l
    · obtain ⟨l, hnx⟩ := hex
      have kT := fun (p : Nat) (v : Value) (u : World) (h : PRd p v bs r u) => K.take_next h hnx
      have kT2 := fun (p : Nat) (v : Value) (u : World) (h : RRd p v r u) => CmR.take_next h hnx
      have kS := fun (oa ob : Option Addr) (ca cb : Nat) (u : World) (h1 : RowOf 6 cmEnc oa l u) (h2 : RowOf 6 cmEnc ob l u) => CmR.same_any oa ob ca cb l u h1 h2 (by have := ((Cm.row_iff l).1 hnx.2.1).2.1; omega)
      obtain ⟨nl, hnl⟩ : ∃ nl, nl = l.length := ⟨_, rfl⟩
      rw [← hnl] at kT kT2 kS
      clear hnx hnl K
      go_enter Try.func4, Try.ntmps4
      go_wp2_with (first | (go_at_call 9; (with_reducible refine (kA _).mono ?_); rintro e u0 ⟨rfl, HT1⟩; have HT0 := HT0.trans HT1 (by simp)) | (go_at_call 19; (with_reducible refine (kN _ HT0).mono ?_); rintro e u1 ⟨p, v1, rfl, hN1, ht1, hpn, hvn1⟩; have hpw : w.heap.size ≤ p := Nat.le_trans HT0.size hpn; have hpl := hN1.lt; have hrb1 := CmL.prd_rblk hN1; have HT0 := HT0.trans ht1 (by simp)) | (go_at_call 20; (with_reducible refine (kN2 _ HT0).mono ?_); rintro e u2 ⟨q, v2, rfl, hR2, ht2, hqn, hvn2⟩; have hN2 := hN1.keep ht2 (by simp) (by simp); have hql := hR2.lt; have hqw : w.heap.size ≤ q := Nat.le_trans HT0.size hqn; have HT0 := HT0.trans ht2 (by simp); have hqp : q ∉ [p] := (by simp; omega); have hpq : p ∉ [q] := (by simp; omega); have hv2p : ∀ k ∈ rblk v2, k ∉ [p] := (by intro k hk hn; simp at hn; have := hvn2 k hk; omega); have hv1q : ∀ k ∈ rblk v1, k ∉ [q] := (by intro k hk hn; simp at hn; have := hrb1 k hk; omega)) | (go_at_call 21; (with_reducible refine (kT _ _ _ hN2).mono ?_); rintro e u3 ⟨oa, ca, rfl, hr3, hb3, hP3, ht3⟩; have hR3 := hR2.keep ht3 hqp hv2p; have HT0 := HT0.trans ht3 (by intro k hk hl; simp at hk; omega)) | (go_at_call 22; (with_reducible refine (kT2 _ _ _ hR3).mono ?_); rintro e u4 ⟨ob, cb, rfl, hr4, hR4, ht4⟩; have hP4 := hP3.keep ht4 hpq hv1q; have hr34 := hr3.turned ht4 (by intro a ha hm; simp at hm; have := hb3 a ha; omega); have HT0 := HT0.trans ht4 (by intro k hk hl; simp at hk; omega)) | (go_at_call 23; (with_reducible refine (kS oa ob ca cb _ hr34 hr4).mono ?_); rintro e u5 ⟨rfl, ht5⟩; have hP5 := hP4.keep ht5 (by simp) (by simp); have hR5 := hR4.keep ht5 (by simp) (by simp); have HT0 := HT0.trans ht5 (by simp)) | (go_at_call 24; (with_reducible refine (BtD.left_any _ _ _ _ _ hP5).mono ?_); rintro e u6 ⟨rfl, ht6⟩; have hP6 := hP5.keep ht6 (by simp) (by simp); have hR6 := hR5.keep ht6 (by simp) (by simp); have HT0 := HT0.trans ht6 (by simp)) | (go_at_call 25; (with_reducible refine (BtG.left_any _ _ _ _ hR6).mono ?_); rintro e u7 ⟨rfl, ht7⟩; have hP7 := hP6.keep ht7 (by simp) (by simp); have kO := BtD.ok_any p v1 _ false u7 hP7.1; have HT0 := HT0.trans ht7 (by simp)) | (go_at_call 26; (with_reducible refine kO.mono ?_); rintro e u8 ⟨rfl, rfl⟩))
      go_ret
      exact ⟨rfl, HT0.none⟩
    · have hno : ∀ l, ¬ Cm.Next r l := fun l h => hex ⟨l, h⟩
      have kT := fun (p : Nat) (v : Value) (u : World) (h : PRd p v bs r u) => K.take_none h hno
      have kT2 := fun (p : Nat) (v : Value) (u : World) (h : RRd p v r u) => CmR.take_none h hno
      clear hno hex K
      go_enter Try.func4, Try.ntmps4
      go_wp2_with (first | (go_at_call 9; (with_reducible refine (kA _).mono ?_); rintro e u0 ⟨rfl, HT1⟩; have HT0 := HT0.trans HT1 (by simp)) | (go_at_call 19; (with_reducible refine (kN _ HT0).mono ?_); rintro e u1 ⟨p, v1, rfl, hN1, ht1, hpn, hvn1⟩; have hpw : w.heap.size ≤ p := Nat.le_trans HT0.size hpn; have hpl := hN1.lt; have hrb1 := CmL.prd_rblk hN1; have HT0 := HT0.trans ht1 (by simp)) | (go_at_call 20; (with_reducible refine (kN2 _ HT0).mono ?_); rintro e u2 ⟨q, v2, rfl, hR2, ht2, hqn, hvn2⟩; have hN2 := hN1.keep ht2 (by simp) (by simp); have hql := hR2.lt; have hqw : w.heap.size ≤ q := Nat.le_trans HT0.size hqn; have HT0 := HT0.trans ht2 (by simp); have hqp : q ∉ [p] := (by simp; omega); have hpq : p ∉ [q] := (by simp; omega); have hv2p : ∀ k ∈ rblk v2, k ∉ [p] := (by intro k hk hn; simp at hn; have := hvn2 k hk; omega); have hv1q : ∀ k ∈ rblk v1, k ∉ [q] := (by intro k hk hn; simp at hn; have := hrb1 k hk; omega)) | (go_at_call 21; (with_reducible refine (kT _ _ _ hN2).mono ?_); rintro e u3 ⟨oa, ca, rfl, hr3, ht3⟩; have hR3 := hR2.keep ht3 hqp hv2p; have HT0 := HT0.trans ht3 (by intro k hk hl; simp at hk; omega)) | (go_at_call 22; (with_reducible refine (kT2 _ _ _ hR3).mono ?_); rintro e u4 ⟨rfl, ht4⟩; have HT0 := HT0.trans ht4 (by intro k hk hl; simp at hk; omega)) | (go_at_call 23; (with_reducible refine (CmR.same_none _ _ _ _ _).mono ?_); rintro e u5 ⟨rfl, ht5⟩; have HT0 := HT0.trans ht5 (by simp)))
      go_ret
      exact ⟨rfl, HT0.none⟩
  · have hsz' : 1000 < (a0_n : Int) := by omega
    clear K
    have HT0 : Turned [] w w := Turned.refl _ _
    go_enter Try.func4, Try.ntmps4
    go_wp2_with (go_at_call 9; (with_reducible refine (kA _).mono ?_); rintro e u0 ⟨rfl, HT1⟩; have HT0 := HT0.trans HT1 (by simp))
    go_ret
    exact ⟨rfl, HT0.none⟩

set_option maxRecDepth 100000 in
theorem lifted (os : Os) (started : os.Started) (H : Type) (enc : TypeId × Value → H) :
    ReturnsInHanded {} Try.checked os 4 .any (Rows.commandTakesSpec.pre6 enc Try.prog Try.f4 Rows.commandTakesRow.domain false) (Rows.commandTakesSpec.post enc Try.prog Try.f4 false true false false) := by
  refine returnsInHanded_of_change (C := Try.checked) own started (by kernel_rfl) Try.func4
    (ChangeSpec.witness6 (enc := enc) (C := Try.checked) false ⟨#[], #[.slice none 0 0], []⟩ 8 (by kernel_rfl) (by kernel_rfl) (by kernel_rfl) (by kernel_rfl)) ?_
  intro W base args ds gs before hval0 hW hcnd _
  have hval : ∀ (j : Nat) t v, Try.f4.params[j]? = some t → args[j]? = some v → Value.okWide Try.prog W .any base t v := hval0
  have hW' := hW
  obtain ⟨p, q, hA0, hV, rfl, hfz, hnd⟩ := hW
  have hA : DataW.TrodAll enc Try.prog W 0 (fun _ => true) true Try.f4.params.toList args.toList ds p := hA0
  rw [Try.params4] at hA hval
  obtain ⟨v0, vs0, d0, ds0, p0, q0, hargs, rfl, rfl, h0, r0⟩ := trodAll_cons hA
  obtain ⟨rfl, rfl, rfl⟩ := trodAll_nil r0
  obtain rfl : args = #[v0] := by cases args; simp_all
  obtain ⟨rfl, rfl⟩ := trodVars_none hV
  have k0 := h0
  have lt0 : ∀ x ∈ p0, x.block < W.heap.size := by obtain ⟨m, hm⟩ := k0; exact DataW.trod_lt m _ _ _ hm
  obtain ⟨a0_o, a0_n, a0_c, rfl, w0_m, w0_l, w0⟩ := open_row Try.underlying29 Try.underlying5 (by kernel_rfl) (hval 0 29 v0 rfl rfl) h0
  clear hA0 hval0
  refine (walk a0_o a0_n a0_c w0_m w0_l W w0).mono fun e W' ⟨he, bel⟩ => ?_
  subst he
  exact ⟨_, rfl, _, _, _, [], _, [], hW', trodAll_mk1 (shut_bool Try.underlying4 _), (trodAll_cons_mk (Below.trod laidOut (by kernel_rfl) (of_decide_eq_true (by kernel_rfl)) k0 bel lt0) trodAll_mk0), rfl, bel.frame _, fun h => by cases h⟩

theorem over : Rows.commandTakesRow.holds Try.pinned (OpenSpec.ofChange Rows.commandTakesSpec) :=
  OpenClaim.holds_of_wide 4 Try.f4 rfl rfl rfl rfl rfl rfl rfl ⟨rfl, rfl, rfl, rfl, rfl⟩ rfl rfl rfl rfl rfl (by kernel_rfl) Try.func4 (by kernel_rfl)
    (of_decide_eq_true (by kernel_rfl)) (by unfold Func.isWrapper; first | (rw [if_pos (by decide +kernel)]; kernel_rfl) | (rw [if_neg (by decide +kernel)]; exact ⟨rfl, rfl⟩))
    (fun os started H enc _ => lifted os started H enc)

theorem proved : Rows.CommandTakesSaid :=
  over
#print axioms proved
end Go.Proofs.Ytodfgekhffeapaa.commandTakes

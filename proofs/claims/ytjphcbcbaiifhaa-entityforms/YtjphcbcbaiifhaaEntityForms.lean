/- Of all entities, and lists of up to 100, it is told whether they are formed, and where an ID stands, as the reference does. -/
import Derived.Test.YtjphcbcbaiifhaaRows
import Derived.Test.YtjphcbcbaiifhaaEntWalks
import Derived.Test.YtjphcbcbaiifhaaEntLaw2
import Derived.Test.YtjphcbcbaiifhaaInts
import Derived.Test.YtjphcbcbaiifhaaFlat
import Derived.WalkKit
import Derived.ProofKit
import Derived.OpenShut
import Derived.ChangeOld
import Derived.Below
import Derived.WalkSmall
import Derived.Lib.SmallJoins
import Derived.Laws.IdiomArrays
namespace Go.Proofs.Ytjphcbcbaiifhaa.entityForms
open Go.ChangeShapes Go.WideShapes Go.ChangeAt Go.RowKit
set_option linter.unusedVariables false

theorem own : ownKnob Try.prog.godebug = none := by kernel_rfl
theorem laidOut : laidOutB Try.prog = true := by kernel_rfl

set_option maxRecDepth 20000 in
set_option maxHeartbeats 4000000 in
theorem walk (a0_o : Option Addr) (a0_n a0_c : Nat) (a0_l : List (En.E)) (a1 : Int) (w0_m : a0_n ≤ maxLen) (w0_l : a0_n ≤ a0_c) (w0_e : a0_l.length = a0_n) (w0_k : ∀ a ∈ a0_l, AllOk [.int .i64, .int .i64, .int .i64, .int .i64, .int .i64, .int .i64, .int .i64, .int .i64] (enEnc a)) (w1 : (Lit.int .i64 a1).wf = true) (w : World) (w0 : RowOf 8 enEnc a0_o a0_l w) :
    Calls Try.prog 3 #[.slice a0_o a0_n a0_c, .int .i64 a1] w fun e w' => e = .returned (.bool true) ∧ Below w.heap.size w w' := by
  have K := EnW.contracts
  unfold maxLen at w0_m
  have hw : ∀ c ∈ a0_l, c.wf := fun c hc => en_wf (w0_k c hc)
  have kA := EnL.awake_any K
  by_cases hsz : (a0_n : Int) ≤ 100
  · have hsz' : ¬ 100 < (a0_n : Int) := by omega
    have kL1 := fun (u : World) (hr : RowOf 8 enEnc a0_o a0_l u) => K.list a0_o a0_c a0_l hw u hr (by omega)
    have kL2 := fun (u : World) (hr : RowOf 8 enEnc a0_o a0_l u) => EnR.list_any a0_o a0_c a0_l u hr (by omega)
    have kF1 := fun (u : World) (hr : RowOf 8 enEnc a0_o a0_l u) => K.find a0_o a0_c a0_l a1 hw u hr (by omega)
    have kF2 := fun (u : World) (hr : RowOf 8 enEnc a0_o a0_l u) => (EnR.find_any a0_o a0_c a0_l a1 u hr (by omega)).mono (fun _ w' (h : _ ∧ w' = u) => (⟨h.1, by rw [h.2]; exact Turned.refl [] u⟩ : _ ∧ Turned [] u w'))
    rw [w0_e] at kL1 kL2 kF1 kF2
    have HE : Hid (a0_l.length = a0_n) := w0_e
    obtain ⟨li, hli⟩ : ∃ b, b = En.list a0_l := ⟨_, rfl⟩
    obtain ⟨fi, hfi⟩ : ∃ x, x = En.find a0_l a1 := ⟨_, rfl⟩
    rw [← hli] at kL1 kL2
    rw [← hfi] at kF1 kF2
    clear hli hfi w0_e w0_k hsz
    have HT0 : Turned [] w w := Turned.refl _ _
    go_enter Try.func3, Try.ntmps3
    go_wp2_with (go_at_call 9; (with_reducible refine (kA _).mono ?_); rintro e u0 ⟨rfl, HT1⟩; have HT0 := HT0.trans HT1 (by simp))
    have HTW := HT0
    generalize decide (100 < (a0_n : Int)) = q
    go_loopw [5] (fun i wr => ∃ k : Nat, k ≤ a0_n ∧ i = .int .i64 (k : Int) ∧ Turned [] w wr) (fun i _ => a0_n - (intOf i).toNat)
    case atStart => exact ⟨0, by omega, rfl, HTW⟩
    case round =>
      clear HTW HT0 HT1
      obtain ⟨k, hk, rfl, HT0⟩ := hrel
      by_cases hlt : (k : Int) < (a0_n : Int)
      · obtain ⟨e, he⟩ : ∃ e, a0_l[k]? = some e := ⟨_, List.getElem?_eq_getElem (by have := HE.out; omega)⟩
        obtain ⟨g, off, rfl, hg, p0, p1, p2, p3, p4, p5, p6, p7⟩ := en_at (w0.turned HT0 (by simp)) he
        have ne : Nonempty (KeptW wr) := KeptW.one wr
        have d0 := KeptW.at hg p0
        have d1 := KeptW.at hg p1
        have d2 := KeptW.at hg p2
        have d3 := KeptW.at hg p3
        have d4 := KeptW.at hg p4
        have d5 := KeptW.at hg p5
        have d6 := KeptW.at hg p6
        have d7 := KeptW.at hg p7
        obtain ⟨fm, hfm⟩ : ∃ b, decide (En.Formed e) = b := ⟨_, rfl⟩
        have hew := hw e (List.mem_of_getElem? he)
        have g1 : ∀ x : KeptW wr, Calls Try.prog 10 #[enVal e] x.u fun r w'' => r = .returned (.bool fm) ∧ ∃ y : KeptW wr, w'' = y.u := fun x => kept_call ((K.formed e hew x.u).mono fun r w' h => ⟨by rw [← hfm]; exact h.1, h.2.none⟩)
        have g2 := EnR.formed_kept (W := wr) e fm hfm
        have hne : (!(fm == fm)) = false := by simp
        clear hfm he hew
        go_wp2_with fail
        refine wp_region_kept (by kernel_rfl) (by kernel_rfl) ?_
        repeat (go_big_quiet_step (first | (go_at_call 10; with_reducible exact g1 _) | (go_at_call 11; with_reducible exact g2 _)))
        refine wpQuiet_nil ?_
        rintro _ ⟨y, rfl⟩
        go_wp2_with fail
        go_roundw
        case rel => exact ⟨k + 1, by omega, by go_num, HT0.trans (Turned.ofBelow y.h) (by simp)⟩
        case measure => simp [intOf]; omega
      · go_wp2_with (first | (go_at_call 12; (with_reducible refine (kL1 _ (w0.turned HT0 (by simp))).mono ?_); rintro e u9 ⟨rfl, HT9⟩; have HT0 := HT0.trans HT9 (by simp)) | (go_at_call 13; (with_reducible refine (kL2 _ (w0.turned HT0 (by simp))).mono ?_); rintro e u9 ⟨rfl, HT9⟩; have HT0 := HT0.trans HT9 (by simp)) | (go_at_call 14; (with_reducible refine (kF1 _ (w0.turned HT0 (by simp))).mono ?_); rintro e u9 ⟨rfl, HT9⟩; have HT0 := HT0.trans HT9 (by simp)) | (go_at_call 15; (with_reducible refine (kF2 _ (w0.turned HT0 (by simp))).mono ?_); rintro e u9 ⟨rfl, HT9⟩; have HT0 := HT0.trans HT9 (by simp)))
        go_ret
        exact ⟨rfl, HT0.none⟩
  · have hsz' : 100 < (a0_n : Int) := by omega
    clear K
    have HT0 : Turned [] w w := Turned.refl _ _
    go_enter Try.func3, Try.ntmps3
    go_wp2_with (go_at_call 9; (with_reducible refine (kA _).mono ?_); rintro e u0 ⟨rfl, HT1⟩; have HT0 := HT0.trans HT1 (by simp))
    go_ret
    exact ⟨rfl, HT0.none⟩

set_option maxRecDepth 100000 in
theorem lifted (os : Os) (started : os.Started) (H : Type) (enc : TypeId × Value → H) :
    ReturnsInHanded {} Try.checked os 3 .any (Rows.entityFormsSpec.pre6 enc Try.prog Try.f3 Rows.entityFormsRow.domain false) (Rows.entityFormsSpec.post enc Try.prog Try.f3 false true false false) := by
  refine returnsInHanded_of_change (C := Try.checked) own started (by kernel_rfl) Try.func3
    (ChangeSpec.witness6 (enc := enc) (C := Try.checked) false ⟨#[], #[.slice none 0 0, .int .i64 0], []⟩ 8 (by kernel_rfl) (by kernel_rfl) (by kernel_rfl) (by kernel_rfl)) ?_
  intro W base args ds gs before hval0 hW hcnd _
  have hval : ∀ (j : Nat) t v, Try.f3.params[j]? = some t → args[j]? = some v → Value.okWide Try.prog W .any base t v := hval0
  have hW' := hW
  obtain ⟨p, q, hA0, hV, rfl, hfz, hnd⟩ := hW
  have hA : DataW.TrodAll enc Try.prog W 0 (fun _ => true) true Try.f3.params.toList args.toList ds p := hA0
  rw [Try.params3] at hA hval
  obtain ⟨v0, vs0, d0, ds0, p0, q0, hargs, rfl, rfl, h0, r0⟩ := trodAll_cons hA
  obtain ⟨v1, vs1, d1, ds1, p1, q1, rfl, rfl, rfl, h1, r1⟩ := trodAll_cons r0
  obtain ⟨rfl, rfl, rfl⟩ := trodAll_nil r1
  obtain rfl : args = #[v0, v1] := by cases args; simp_all
  obtain ⟨rfl, rfl⟩ := trodVars_none hV
  have k0 := h0
  have lt0 : ∀ x ∈ p0, x.block < W.heap.size := by obtain ⟨m, hm⟩ := k0; exact DataW.trod_lt m _ _ _ hm
  have k1 := h1
  have lt1 : ∀ x ∈ p1, x.block < W.heap.size := by obtain ⟨m, hm⟩ := k1; exact DataW.trod_lt m _ _ _ hm
  obtain ⟨a0_o, a0_n, a0_c, a0_l, rfl, w0_m, w0_l, w0_e, w0, w0_k⟩ := open_flats (d := 8) (ks := [.int .i64, .int .i64, .int .i64, .int .i64, .int .i64, .int .i64, .int .i64, .int .i64]) enEnc Try.underlying22 (by kernel_rfl) (by kernel_rfl) (by decide) enEnc_of (hval 0 22 v0 rfl rfl) h0
  obtain ⟨a1, rfl, _, _, w1⟩ := open_int Try.underlying3 (hval 1 3 v1 rfl rfl) h1
  clear hA0 hval0
  refine (walk a0_o a0_n a0_c a0_l a1 w0_m w0_l w0_e w0_k w1 W w0).mono fun e W' ⟨he, bel⟩ => ?_
  subst he
  exact ⟨_, rfl, _, _, _, [], _, [], hW', trodAll_mk1 (shut_bool Try.underlying4 _), (trodAll_cons_mk (Below.trod laidOut (by kernel_rfl) (of_decide_eq_true (by kernel_rfl)) k0 bel lt0) (trodAll_cons_mk (Below.trod laidOut (by kernel_rfl) (of_decide_eq_true (by kernel_rfl)) k1 bel lt1) trodAll_mk0)), rfl, bel.frame _, fun h => by cases h⟩

theorem over : Rows.entityFormsRow.holds Try.pinned (OpenSpec.ofChange Rows.entityFormsSpec) :=
  OpenClaim.holds_of_wide 3 Try.f3 rfl rfl rfl rfl rfl rfl rfl ⟨rfl, rfl, rfl, rfl, rfl⟩ rfl rfl rfl rfl rfl (by kernel_rfl) Try.func3 (by kernel_rfl)
    (of_decide_eq_true (by kernel_rfl)) (by unfold Func.isWrapper; first | (rw [if_pos (by decide +kernel)]; kernel_rfl) | (rw [if_neg (by decide +kernel)]; exact ⟨rfl, rfl⟩))
    (fun os started H enc _ => lifted os started H enc)

theorem proved : Rows.EntityFormsSaid :=
  over
#print axioms proved
end Go.Proofs.Ytjphcbcbaiifhaa.entityForms

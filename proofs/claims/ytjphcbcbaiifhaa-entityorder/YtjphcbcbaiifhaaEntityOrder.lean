/- Of a formed list each part of entities side by side is one, each ID is found where it stands, and a list turned about is none. -/
import Derived.Test.YtjphcbcbaiifhaaRows
import Derived.Test.YtjphcbcbaiifhaaEntWalks
import Derived.Test.YtjphcbcbaiifhaaEntLaw3
import Derived.Test.YtjphcbcbaiifhaaInts
import Derived.Test.YtjphcbcbaiifhaaFlat
import Derived.WalkKit
import Derived.ProofKit
import Derived.OpenShut
import Derived.ChangeOld
import Derived.Below
import Derived.WalkSmall
import Derived.Lib.SmallJoins
import Derived.Laws.IdiomArrays
namespace Go.Proofs.Ytjphcbcbaiifhaa.entityOrder
open Go.ChangeShapes Go.WideShapes Go.ChangeAt Go.RowKit
set_option linter.unusedVariables false

theorem own : ownKnob Try.prog.godebug = none := by kernel_rfl
theorem laidOut : laidOutB Try.prog = true := by kernel_rfl

set_option maxRecDepth 20000 in
set_option maxHeartbeats 4000000 in
theorem walk (a0_o : Option Addr) (a0_n a0_c : Nat) (a0_l : List (En.E)) (a1 : Int) (w0_m : a0_n ≤ maxLen) (w0_l : a0_n ≤ a0_c) (w0_e : a0_l.length = a0_n) (w0_k : ∀ a ∈ a0_l, AllOk [.int .i64, .int .i64, .int .i64, .int .i64, .int .i64, .int .i64, .int .i64, .int .i64] (enEnc a)) (w1 : (Lit.int .u8 a1).wf = true) (w : World) (w0 : RowOf 8 enEnc a0_o a0_l w) :
    Calls Try.prog 7 #[.slice a0_o a0_n a0_c, .int .u8 a1] w fun e w' => e = .returned (.bool true) ∧ Below w.heap.size w w' := by
  have K := EnW.contracts
  unfold maxLen at w0_m
  have hw : ∀ c ∈ a0_l, c.wf := fun c hc => en_wf (w0_k c hc)
  have hA8 := u8_nn w1
  obtain ⟨A, rfl⟩ : ∃ A : Nat, a1 = (A : Int) := ⟨a1.toNat, by omega⟩
  have kA := EnL.awake_any K
  have kL := fun (u : World) (hr : RowOf 8 enEnc a0_o a0_l u) => K.list a0_o a0_c a0_l hw u hr (by omega)
  rw [w0_e] at kL
  by_cases h40 : (a0_n : Int) ≤ 40
  · have h40' : ¬ 40 < (a0_n : Int) := by omega
    by_cases hli : En.list a0_l = true
    · rw [hli] at kL
      by_cases h2 : 2 ≤ (a0_n : Int)
      · have h2' : ¬ (a0_n : Int) < 2 := by omega
        obtain ⟨k, hk⟩ : ∃ k : Nat, (k : Int) = (A : Int) % (a0_n : Int) := ⟨((A : Int) % (a0_n : Int)).toNat, by have := Int.emod_nonneg (A : Int) (show (a0_n : Int) ≠ 0 by omega); omega⟩
        have hkn : (k : Int) < (a0_n : Int) := by have := Int.emod_lt_of_pos (A : Int) (show (0 : Int) < (a0_n : Int) by omega); omega
        have kLs := fun (o : Option Addr) (n c : Nat) (l : List En.E) (hl : l.length = n) (hwl : ∀ x ∈ l, x.wf) (b : Bool) (hb : En.list l = b) (u : World) (hr : RowOf 8 enEnc o l u) (hn : n ≤ 100) => (show Calls Try.prog 12 #[.slice o n c] u (fun e w' => e = .returned (.bool b) ∧ Turned [] u w') by subst hl; subst hb; exact K.list o c l hwl u hr (by omega))
        have kFs := fun (o : Option Addr) (n c : Nat) (l : List En.E) (id : Int) (hl : l.length = n) (hwl : ∀ x ∈ l, x.wf) (v : Int) (hv : En.find l id = v) (u : World) (hr : RowOf 8 enEnc o l u) (hn : n ≤ 100) => (show Calls Try.prog 14 #[.slice o n c, .int .i64 id] u (fun e w' => e = .returned (.int .i64 v) ∧ Turned [] u w') by subst hl; subst hv; exact K.find o c l id hwl u hr (by omega))
        have hkk := hk.symm
        have h40n : a0_n ≤ 40 := by omega
        have h2n : 2 ≤ a0_n := by omega
        have hknn : k < a0_n := by omega
        have H40 : Hid (a0_n ≤ 40 ∧ 2 ≤ a0_n ∧ k < a0_n) := ⟨h40n, h2n, hknn⟩
        clear h40n h2n hknn
        obtain ⟨ek, hek⟩ : ∃ e, a0_l[k]? = some e := ⟨_, List.getElem?_eq_getElem (by omega)⟩
        obtain ⟨g, off, rfl, _⟩ := en_at w0 hek
        have HE : Hid (a0_l.length = a0_n) := w0_e
        have HLI : Hid (En.list a0_l = true) := hli
        have HEK : Hid (a0_l[k]? = some ek) := hek
        have hne : ¬ (a0_n : Int) = 0 := by omega
        have cc : (a0_n : Int) ≤ (a0_c : Int) := by omega
        clear hli hk hek w0_m w0_l w0_k w1 w0_e h40
        have HT0 : Turned [] w w := Turned.refl _ _
        go_enter Try.func7, Try.ntmps7
        go_wp2_with (first | (go_at_call 9; (with_reducible refine (kA _).mono ?_); rintro e u0 ⟨rfl, HT1⟩; have HT0 := HT0.trans HT1 (by simp)) | (go_at_call 12; (with_reducible refine (kL _ (w0.turned HT0 (by simp))).mono ?_); rintro e u1 ⟨rfl, HT1⟩; have HT0 := HT0.trans HT1 (by simp)))
        rw [hkk]
        have HTW := HT0
        generalize decide ((a0_n : Int) < 2) = q2
        generalize decide (40 < (a0_n : Int)) = q40
        clear kA kL HT0 HT1 hkk
        go_loopw [6, 7] (fun vt i wr => ∃ j m : Nat, j + m = a0_n ∧ i = .int .i64 ((m : Int) - 1) ∧ OwnL 29 8 enEnc vt (a0_l.reverse.take j) wr ∧ (∀ b ∈ blk vt, w.heap.size ≤ b) ∧ Turned [] w wr) (fun _ i _ => (intOf i + 1).toNat)
        case atStart => exact ⟨0, a0_n, by omega, rfl, OwnL.nil _ _ _ _, by simp [blk, Value.ownBlock], HTW⟩
        case round =>
          clear HTW
          obtain ⟨j, m, hjm, rfl, ho, hnew, HT0⟩ := hrel
          rcases Nat.eq_zero_or_pos m with rfl | hm
          · have hj : j = a0_n := by omega
            subst hj
            have hrl : a0_l.reverse.take a0_l.length = a0_l.reverse := by rw [List.take_of_length_le (by simp)]
            rw [← HE.out, hrl] at ho
            obtain ⟨ot, ct, rfl, _, _, hrT, _⟩ := ho.rowOf enEnc_len
            rw [List.length_reverse, HE.out]
            have e0 : ((0 : Nat) : Int) - 1 = -1 := by omega
            rw [e0]
            have hrow := w0.turned HT0 (by simp)
            obtain ⟨g', off', ho', hgl, p0, _⟩ := en_at hrow HEK.out
            simp at ho'
            obtain ⟨rfl, rfl⟩ := ho'
            have ne : Nonempty (KeptW wr) := KeptW.one wr
            have d0 := KeptW.at hgl p0
            have k1 : ∀ x : KeptW wr, Calls Try.prog 12 #[.slice (some ⟨g, off, none⟩) k a0_c] x.u fun r w'' => r = .returned (.bool true) ∧ ∃ y : KeptW wr, w'' = y.u := fun x => kept_call ((kLs (some ⟨g, off, none⟩) k a0_c (a0_l.take k) (by rw [List.length_take, HE.out]; have := H40.out; omega) (fun y hy => hw y (List.mem_of_mem_take hy)) true (EnL.part_ahead HLI.out k) x.u (EnL.row_take (hrow.keep x.h) k) (by have := H40.out; omega)).mono fun r w' h => ⟨h.1, h.2.none⟩)
            have k2 : ∀ x : KeptW wr, Calls Try.prog 12 #[.slice (some ⟨g, off + k * 8, none⟩) (j - k) (a0_c - k)] x.u fun r w'' => r = .returned (.bool true) ∧ ∃ y : KeptW wr, w'' = y.u := fun x => kept_call ((kLs (some ⟨g, off + k * 8, none⟩) (j - k) (a0_c - k) (a0_l.drop k) (by rw [List.length_drop, HE.out]) (fun y hy => hw y (List.mem_of_mem_drop hy)) true (EnL.part_behind HLI.out k) x.u (EnL.row_drop (hrow.keep x.h) k) (by have := H40.out; omega)).mono fun r w' h => ⟨h.1, h.2.none⟩)
            have k3 : ∀ x : KeptW wr, Calls Try.prog 14 #[.slice (some ⟨g, off, none⟩) j a0_c, .int .i64 ek.id] x.u fun r w'' => r = .returned (.int .i64 (k : Int)) ∧ ∃ y : KeptW wr, w'' = y.u := fun x => kept_call ((kFs (some ⟨g, off, none⟩) j a0_c a0_l ek.id HE.out hw (k : Int) (EnL.find_self HLI.out HEK.out) x.u (hrow.keep x.h) (by have := H40.out; omega)).mono fun r w' h => ⟨h.1, h.2.none⟩)
            have k4 : ∀ x : KeptW wr, Calls Try.prog 12 #[.slice ot j ct] x.u fun r w'' => r = .returned (.bool false) ∧ ∃ y : KeptW wr, w'' = y.u := fun x => kept_call ((kLs ot j ct a0_l.reverse (by rw [List.length_reverse, HE.out]) (fun y hy => hw y (List.mem_reverse.1 hy)) false (EnL.part_turned HLI.out (by have := HE.out; have := H40.out; omega)) x.u (hrT.keep x.h) (by have := H40.out; omega)).mono fun r w' h => ⟨h.1, h.2.none⟩)
            have k5 : ∀ x : KeptW wr, Calls Try.prog 14 #[.slice (some ⟨g, off, none⟩) k a0_c, .int .i64 ek.id] x.u fun r w'' => r = .returned (.int .i64 (-1)) ∧ ∃ y : KeptW wr, w'' = y.u := fun x => kept_call ((kFs (some ⟨g, off, none⟩) k a0_c (a0_l.take k) ek.id (by rw [List.length_take, HE.out]; have := H40.out; omega) (fun y hy => hw y (List.mem_of_mem_take hy)) (-1) (EnL.find_ahead HLI.out HEK.out) x.u (EnL.row_take (hrow.keep x.h) k) (by have := H40.out; omega)).mono fun r w' h => ⟨h.1, h.2.none⟩)
            clear kLs kFs
            go_wp2_with fail
            refine wp_region_kept (by kernel_rfl) (by kernel_rfl) ?_
            repeat (go_big_quiet_step (first | (go_at_call 12; with_reducible exact k1 _) | (go_at_call 12; with_reducible exact k2 _) | (go_at_call 12; with_reducible exact k4 _) | (go_at_call 14; with_reducible exact k3 _) | (go_at_call 14; with_reducible exact k5 _)))
            refine wpQuiet_nil ?_
            rintro _ ⟨y, rfl⟩
            go_wp2_with fail
            go_ret
            exact ⟨rfl, (HT0.trans (Turned.ofBelow y.h) (by simp)).none⟩
          · obtain ⟨i0, rfl⟩ : ∃ i0, m = i0 + 1 := ⟨m - 1, by omega⟩
            have e0 : ((i0 + 1 : Nat) : Int) - 1 = (i0 : Int) := by omega
            rw [e0]
            obtain ⟨c, hc⟩ : ∃ c, a0_l[i0]? = some c := ⟨_, List.getElem?_eq_getElem (by have := HE.out; omega)⟩
            have HRT : Hid (a0_l.reverse.take (j + 1) = a0_l.reverse.take j ++ [c]) := EnL.rev_take (by rw [show a0_l.length - 1 - j = i0 by have := HE.out; omega]; exact hc) (by have := HE.out; omega)
            obtain ⟨g', off', he, hgl, p0, p1, p2, p3, p4, p5, p6, p7⟩ := en_at (w0.turned HT0 (by simp)) hc
            simp at he
            obtain ⟨rfl, rfl⟩ := he
            have HJL : Hid ((a0_l.reverse.take j).length ≤ 40) := by show _ ≤ _; rw [List.length_take, List.length_reverse, HE.out]; have := H40.out; omega
            have hlt : (i0 : Int) < (a0_n : Int) := by omega
            obtain ⟨T, hT⟩ : ∃ T, T = a0_l.reverse.take j := ⟨_, rfl⟩
            rw [← hT] at ho HRT HJL
            clear hT hc kLs kFs e0
            go_wp2_with (at_builtin; refine wp_push (v := u6) elem_en rfl _ _ rfl rfl (l := T) (ho.keep ((Turned.refl [] wr).alloc _) (by simp)) _ 0 1 1 [c] rfl rfl enEnc_len enEnc_one (EnL.flat_cells rfl (by simp) _) (by have := HJL.out; unfold maxLen; omega) (by have := HJL.out; omega) ?_; intro v' w1' ho1 ht1 hb1)
            have HN : ∀ b ∈ blk v', w.heap.size ≤ b := EnL.pushed hnew (by have := HT0.size; simp; omega) hb1
            have HTn : Turned [] w w1' := (HT0.alloc _).trans ht1 (by intro b hb hl; have := hnew b hb; omega)
            go_roundw
            case rel => exact ⟨j + 1, i0, by omega, by go_num, by rw [HRT.out]; exact ho1, HN, HTn⟩
            case measure => simp [intOf]
      · have h2' : (a0_n : Int) < 2 := by omega
        clear K hli
        have HT0 : Turned [] w w := Turned.refl _ _
        go_enter Try.func7, Try.ntmps7
        go_wp2_with (first | (go_at_call 9; (with_reducible refine (kA _).mono ?_); rintro e u0 ⟨rfl, HT1⟩; have HT0 := HT0.trans HT1 (by simp)) | (go_at_call 12; (with_reducible refine (kL _ (w0.turned HT0 (by simp))).mono ?_); rintro e u1 ⟨rfl, HT1⟩; have HT0 := HT0.trans HT1 (by simp)))
        go_ret
        exact ⟨rfl, HT0.none⟩
    · have hlf : En.list a0_l = false := by simpa using hli
      rw [hlf] at kL
      clear K hli hlf
      have HT0 : Turned [] w w := Turned.refl _ _
      go_enter Try.func7, Try.ntmps7
      go_wp2_with (first | (go_at_call 9; (with_reducible refine (kA _).mono ?_); rintro e u0 ⟨rfl, HT1⟩; have HT0 := HT0.trans HT1 (by simp)) | (go_at_call 12; (with_reducible refine (kL _ (w0.turned HT0 (by simp))).mono ?_); rintro e u1 ⟨rfl, HT1⟩; have HT0 := HT0.trans HT1 (by simp)))
      go_ret
      exact ⟨rfl, HT0.none⟩
  · have h40' : 40 < (a0_n : Int) := by omega
    clear K
    have HT0 : Turned [] w w := Turned.refl _ _
    go_enter Try.func7, Try.ntmps7
    go_wp2_with (first | (go_at_call 9; (with_reducible refine (kA _).mono ?_); rintro e u0 ⟨rfl, HT1⟩; have HT0 := HT0.trans HT1 (by simp)) | (go_at_call 12; (with_reducible refine (kL _ (w0.turned HT0 (by simp))).mono ?_); rintro e u1 ⟨rfl, HT1⟩; have HT0 := HT0.trans HT1 (by simp)))
    go_ret
    exact ⟨rfl, HT0.none⟩

set_option maxRecDepth 100000 in
theorem lifted (os : Os) (started : os.Started) (H : Type) (enc : TypeId × Value → H) :
    ReturnsInHanded {} Try.checked os 7 .any (Rows.entityOrderSpec.pre6 enc Try.prog Try.f7 Rows.entityOrderRow.domain false) (Rows.entityOrderSpec.post enc Try.prog Try.f7 false true false false) := by
  refine returnsInHanded_of_change (C := Try.checked) own started (by kernel_rfl) Try.func7
    (ChangeSpec.witness6 (enc := enc) (C := Try.checked) false ⟨#[], #[.slice none 0 0, .int .u8 0], []⟩ 8 (by kernel_rfl) (by kernel_rfl) (by kernel_rfl) (by kernel_rfl)) ?_
  intro W base args ds gs before hval0 hW hcnd _
  have hval : ∀ (j : Nat) t v, Try.f7.params[j]? = some t → args[j]? = some v → Value.okWide Try.prog W .any base t v := hval0
  have hW' := hW
  obtain ⟨p, q, hA0, hV, rfl, hfz, hnd⟩ := hW
  have hA : DataW.TrodAll enc Try.prog W 0 (fun _ => true) true Try.f7.params.toList args.toList ds p := hA0
  rw [Try.params7] at hA hval
  obtain ⟨v0, vs0, d0, ds0, p0, q0, hargs, rfl, rfl, h0, r0⟩ := trodAll_cons hA
  obtain ⟨v1, vs1, d1, ds1, p1, q1, rfl, rfl, rfl, h1, r1⟩ := trodAll_cons r0
  obtain ⟨rfl, rfl, rfl⟩ := trodAll_nil r1
  obtain rfl : args = #[v0, v1] := by cases args; simp_all
  obtain ⟨rfl, rfl⟩ := trodVars_none hV
  have k0 := h0
  have lt0 : ∀ x ∈ p0, x.block < W.heap.size := by obtain ⟨m, hm⟩ := k0; exact DataW.trod_lt m _ _ _ hm
  have k1 := h1
  have lt1 : ∀ x ∈ p1, x.block < W.heap.size := by obtain ⟨m, hm⟩ := k1; exact DataW.trod_lt m _ _ _ hm
  obtain ⟨a0_o, a0_n, a0_c, a0_l, rfl, w0_m, w0_l, w0_e, w0, w0_k⟩ := open_flats (d := 8) (ks := [.int .i64, .int .i64, .int .i64, .int .i64, .int .i64, .int .i64, .int .i64, .int .i64]) enEnc Try.underlying22 (by kernel_rfl) (by kernel_rfl) (by decide) enEnc_of (hval 0 22 v0 rfl rfl) h0
  obtain ⟨a1, rfl, _, _, w1⟩ := open_int Try.underlying5 (hval 1 5 v1 rfl rfl) h1
  clear hA0 hval0
  refine (walk a0_o a0_n a0_c a0_l a1 w0_m w0_l w0_e w0_k w1 W w0).mono fun e W' ⟨he, bel⟩ => ?_
  subst he
  exact ⟨_, rfl, _, _, _, [], _, [], hW', trodAll_mk1 (shut_bool Try.underlying4 _), (trodAll_cons_mk (Below.trod laidOut (by kernel_rfl) (of_decide_eq_true (by kernel_rfl)) k0 bel lt0) (trodAll_cons_mk (Below.trod laidOut (by kernel_rfl) (of_decide_eq_true (by kernel_rfl)) k1 bel lt1) trodAll_mk0)), rfl, bel.frame _, fun h => by cases h⟩

theorem over : Rows.entityOrderRow.holds Try.pinned (OpenSpec.ofChange Rows.entityOrderSpec) :=
  OpenClaim.holds_of_wide 7 Try.f7 rfl rfl rfl rfl rfl rfl rfl ⟨rfl, rfl, rfl, rfl, rfl⟩ rfl rfl rfl rfl rfl (by kernel_rfl) Try.func7 (by kernel_rfl)
    (of_decide_eq_true (by kernel_rfl)) (by unfold Func.isWrapper; first | (rw [if_pos (by decide +kernel)]; kernel_rfl) | (rw [if_neg (by decide +kernel)]; exact ⟨rfl, rfl⟩))
    (fun os started H enc _ => lifted os started H enc)

theorem proved : Rows.EntityOrderSaid :=
  over
#print axioms proved
end Go.Proofs.Ytjphcbcbaiifhaa.entityOrder

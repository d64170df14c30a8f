/- Of a row each part of commands side by side is one; turned about, or with one left out in the midst, it is none. -/
import Derived.Test.YtodfgekhffeapaaRows
import Derived.Test.YtodfgekhffeapaaCmdWalks
import Derived.Test.YtodfgekhffeapaaCmdLaw4
import Derived.Test.YtodfgekhffeapaaFlat
import Derived.WalkKit
import Derived.ProofKit
import Derived.OpenShut
import Derived.ChangeOld
import Derived.Below
import Derived.WalkSmall
import Derived.Lib.SmallJoins
import Derived.Laws.IdiomArrays
namespace Go.Proofs.Ytodfgekhffeapaa.commandRows
open Go.ChangeShapes Go.WideShapes Go.ChangeAt Go.RowKit
set_option linter.unusedVariables false

theorem own : ownKnob Try.prog.godebug = none := by kernel_rfl
theorem laidOut : laidOutB Try.prog = true := by kernel_rfl

set_option maxRecDepth 20000 in
set_option maxHeartbeats 4000000 in
theorem walk (a0_o : Option Addr) (a0_n a0_c : Nat) (a0_l : List (Cm.C)) (a1 : Int) (w0_m : a0_n ≤ maxLen) (w0_l : a0_n ≤ a0_c) (w0_e : a0_l.length = a0_n) (w0_k : ∀ a ∈ a0_l, AllOk [.int .u32, .int .i8, .int .i8, .bool, .int .u32, .int .u8] (cmEnc a)) (w1 : (Lit.int .u8 a1).wf = true) (w : World) (w0 : RowOf 6 cmEnc a0_o a0_l w) :
    Calls Try.prog 6 #[.slice a0_o a0_n a0_c, .int .u8 a1] w fun e w' => e = .returned (.bool true) ∧ Below w.heap.size w w' := by
  have K := CmW.contracts
  unfold maxLen at w0_m
  have hw : ∀ c ∈ a0_l, c.wf := fun c hc => cm_wf (w0_k c hc)
  have hlen : (a0_l.length : Int) ≤ 9223372036854775807 := by omega
  have hA8 := u8_nn w1
  obtain ⟨A, rfl⟩ : ∃ A : Nat, a1 = (A : Int) := ⟨a1.toNat, by omega⟩
  have kA := CmL.awake_any K
  have kR := fun (u : World) (hr : RowOf 6 cmEnc a0_o a0_l u) => K.row a0_o a0_c a0_l hw u hr hlen
  by_cases hrow : Cm.row a0_l = true
  · by_cases h3 : 3 ≤ a0_n
    · have h8 : a0_n ≤ 8 := by have := (Cm.row_iff a0_l).1 hrow; omega
      obtain ⟨k, hk⟩ : ∃ k : Nat, (k : Int) = 1 + (A : Int) % ((a0_n : Int) - 2) := ⟨(1 + (A : Int) % ((a0_n : Int) - 2)).toNat, by have := Int.emod_nonneg (A : Int) (show (a0_n : Int) - 2 ≠ 0 by omega); omega⟩
      have hk1 : 1 ≤ k := by have := Int.emod_nonneg (A : Int) (show (a0_n : Int) - 2 ≠ 0 by omega); omega
      have hk2 : k + 1 < a0_n := by have := Int.emod_lt_of_pos (A : Int) (show (0 : Int) < (a0_n : Int) - 2 by omega); omega
      have kRow := fun (o : Option Addr) (n c : Nat) (l : List Cm.C) (hl : l.length = n) (hwl : ∀ x ∈ l, x.wf) (b : Bool) (hb : Cm.row l = b) (u : World) (hr : RowOf 6 cmEnc o l u) (hn : n ≤ 100) => (show Calls Try.prog 14 #[.slice o n c] u (fun e w' => e = .returned (.bool b) ∧ Turned [] u w') by subst hl; subst hb; exact K.row o c l hwl u hr (by omega))
      simp only [hrow] at kR
      rw [w0_e] at kR
      obtain ⟨c0, hc0⟩ : ∃ c, a0_l[0]? = some c := ⟨_, List.getElem?_eq_getElem (by omega)⟩
      obtain ⟨g, off, rfl, _⟩ := cm_at w0 hc0
      have n3 : ¬ (a0_n : Int) < 3 := by omega
      have n8 : (a0_n : Int) ≤ 8 := by omega
      have kk1 : (1 : Int) ≤ (k : Int) := by omega
      have kk2 : (k : Int) + 1 < (a0_n : Int) := by omega
      have cc : (a0_n : Int) ≤ (a0_c : Int) := by omega
      have HE : Hid (a0_l.length = a0_n) := w0_e
      have HROW : Hid (Cm.row a0_l = true) := hrow
      have HK : Hid ((k : Int) = 1 + (A : Int) % ((a0_n : Int) - 2)) := hk
      have hkk := hk.symm
      have hne : ¬ (a0_n : Int) - 2 = 0 := by omega
      clear hrow hk h3 h8 hk1 hk2 hc0 w0_m w0_l w0_k w1
      have hlk : (a0_l.take k).length = k := by rw [List.length_take, HE.out]; omega
      have hld : (a0_l.drop (k + 1)).length = a0_n - (k + 1) := by rw [List.length_drop, HE.out]
      have HT0 : Turned [] w w := Turned.refl _ _
      go_enter Try.func6, Try.ntmps6
      go_wp2_with (first | (go_at_call 9; (with_reducible refine (kA _).mono ?_); rintro e u0 ⟨rfl, HT1⟩; have HT0 := HT0.trans HT1 (by simp)) | (go_at_call 14; (with_reducible refine (kR _ (w0.turned HT0 (by simp))).mono ?_); rintro e u1 ⟨rfl, HT1⟩; have HT0 := HT0.trans HT1 (by simp)) | (at_builtin; refine wp_pushAll (v := .slice none 0 0) elem_cm rfl _ _ rfl rfl (OwnL.nil _ _ _ _) (some ⟨g, off, none⟩) k a0_c (a0_l.take k) hlk rfl (CmL.row_take (w0.turned HT0 (by simp)) k) cmEnc_len cmEnc_one (by unfold maxLen; simp; omega) (by simp; omega) ?_; intro v1 w1 ho1 ht1 hb1; rw [List.nil_append] at ho1; have hg1 : ∀ b ∈ blk v1, w.heap.size ≤ b := (CmL.pushed (by simp [blk, Value.ownBlock]) HT0.size hb1); have HT0 := HT0.trans ht1 (by simp [blk, Value.ownBlock])) | (at_builtin; refine wp_pushAll (v := v1) elem_cm rfl _ _ rfl rfl ho1 (some ⟨g, off + (k + 1) * 6, none⟩) (a0_n - (k + 1)) (a0_c - (k + 1)) (a0_l.drop (k + 1)) hld rfl (CmL.row_drop (w0.turned HT0 (by simp)) (k + 1)) cmEnc_len cmEnc_one (by rw [hlk]; unfold maxLen; omega) (by rw [hlk]; omega) ?_; intro v2 w2 ho2 ht2 hb2; have hg2 : ∀ b ∈ blk v2, w.heap.size ≤ b := (CmL.pushed hg1 HT0.size hb2); have HT0 := HT0.trans ht2 (by intro b hb hl; have := hg1 b hb; omega)))
      obtain ⟨og, cg, rfl, _, _, hrG, _⟩ := ho2.rowOf cmEnc_len
      have hlg : (a0_l.take k ++ a0_l.drop (k + 1)).length = a0_n - 1 := by rw [List.length_append, hlk, hld]; omega
      rw [hlg]
      have HRG : Hid (RowOf 6 cmEnc og (a0_l.take k ++ a0_l.drop (k + 1)) w2) := hrG
      have HTW := HT0
      generalize decide ((a0_n : Int) < 3) = q3
      clear kA kR ho1 ho2 hb1 hb2 ht1 ht2 hg1 hg2 hrG HT0
      go_loopw [7, 8] (fun vt i wr => ∃ j m : Nat, j + m = a0_n ∧ i = .int .i64 ((m : Int) - 1) ∧ OwnL 25 6 cmEnc vt (a0_l.reverse.take j) wr ∧ (∀ b ∈ blk vt, w2.heap.size ≤ b) ∧ Turned [] w2 wr) (fun _ i _ => (intOf i + 1).toNat)
      case atStart => exact ⟨0, a0_n, by omega, rfl, OwnL.nil _ _ _ _, by simp [blk, Value.ownBlock], Turned.refl _ _⟩
      case round =>
        obtain ⟨j, m, hjm, rfl, ho, hnew, hTw⟩ := hrel
        have HT0 := HTW.trans hTw (by simp)
        rcases Nat.eq_zero_or_pos m with rfl | hm
        · have hj : j = a0_n := by omega
          subst hj
          have hrl : a0_l.reverse.take a0_l.length = a0_l.reverse := by rw [List.take_of_length_le (by simp)]
          rw [← HE.out, hrl] at ho
          obtain ⟨ot, ct, rfl, _, _, hrT, _⟩ := ho.rowOf cmEnc_len
          rw [List.length_reverse, HE.out]
          have hrG := HRG.out.turned hTw (by simp)
          have e0 : ((0 : Nat) : Int) - 1 = -1 := by omega
          rw [e0]
          have k1 := fun (u : World) (h : Turned [] w u) => kRow (some ⟨g, off, none⟩) k a0_c (a0_l.take k) hlk (fun x hx => hw x (List.mem_of_mem_take hx)) true (CmL.part_ahead HROW.out (by omega) (by have := HE.out; omega)) u (CmL.row_take (w0.turned h (by simp)) k) (by omega)
          have k2 := fun (u : World) (h : Turned [] w u) => kRow (some ⟨g, off + k * 6, none⟩) (j - k) (a0_c - k) (a0_l.drop k) (by rw [List.length_drop, HE.out]) (fun x hx => hw x (List.mem_of_mem_drop hx)) true (CmL.part_behind HROW.out (by have := HE.out; omega)) u (CmL.row_drop (w0.turned h (by simp)) k) (by omega)
          have k3 := fun (u : World) (h : RowOf 6 cmEnc og (a0_l.take k ++ a0_l.drop (k + 1)) u) => kRow og (j - 1) cg (a0_l.take k ++ a0_l.drop (k + 1)) hlg (fun x hx => by rcases List.mem_append.1 hx with hx | hx; exact hw x (List.mem_of_mem_take hx); exact hw x (List.mem_of_mem_drop hx)) false (CmL.part_gap HROW.out (by omega) (by have := HE.out; omega)) u h (by omega)
          have k4 := fun (u : World) (h : RowOf 6 cmEnc ot a0_l.reverse u) => kRow ot j ct a0_l.reverse (by rw [List.length_reverse, HE.out]) (fun x hx => hw x (List.mem_reverse.1 hx)) false (CmL.part_turned HROW.out (by have := HE.out; omega)) u h (by omega)
          have k5 := fun (u : World) => kRow none 0 0 [] rfl (by simp) false rfl u (fun i a hi => by simp at hi) (by omega)
          clear kRow
          go_wp2_with (first | (go_at_call 14; (with_reducible refine (k1 _ HT0).mono ?_); rintro e u6 ⟨rfl, HT6⟩; have HT0 := HT0.trans HT6 (by simp); have hrG := hrG.turned HT6 (by simp); have hrT := hrT.turned HT6 (by simp)) | (go_at_call 14; (with_reducible refine (k2 _ HT0).mono ?_); rintro e u6 ⟨rfl, HT6⟩; have HT0 := HT0.trans HT6 (by simp); have hrG := hrG.turned HT6 (by simp); have hrT := hrT.turned HT6 (by simp)) | (go_at_call 14; (with_reducible refine (k3 _ hrG).mono ?_); rintro e u6 ⟨rfl, HT6⟩; have HT0 := HT0.trans HT6 (by simp); have hrG := hrG.turned HT6 (by simp); have hrT := hrT.turned HT6 (by simp)) | (go_at_call 14; (with_reducible refine (k4 _ hrT).mono ?_); rintro e u6 ⟨rfl, HT6⟩; have HT0 := HT0.trans HT6 (by simp); have hrG := hrG.turned HT6 (by simp); have hrT := hrT.turned HT6 (by simp)) | (go_at_call 14; (with_reducible refine (k5 _).mono ?_); rintro e u6 ⟨rfl, HT6⟩; have HT0 := HT0.trans HT6 (by simp); have hrG := hrG.turned HT6 (by simp); have hrT := hrT.turned HT6 (by simp)))
          go_ret
          exact ⟨rfl, HT0.none⟩
        · obtain ⟨i0, rfl⟩ : ∃ i0, m = i0 + 1 := ⟨m - 1, by omega⟩
          have e0 : ((i0 + 1 : Nat) : Int) - 1 = (i0 : Int) := by omega
          rw [e0]
          obtain ⟨c, hc⟩ : ∃ c, a0_l[i0]? = some c := ⟨_, List.getElem?_eq_getElem (by have := HE.out; omega)⟩
          have HRT : Hid (a0_l.reverse.take (j + 1) = a0_l.reverse.take j ++ [c]) := CmL.rev_take (by rw [show a0_l.length - 1 - j = i0 by have := HE.out; omega]; exact hc) (by have := HE.out; omega)
          obtain ⟨g', off', he, hgl, p0, p1, p2, p3, p4, p5⟩ := cm_at (w0.turned HT0 (by simp)) hc
          simp at he
          obtain ⟨rfl, rfl⟩ := he
          have hjl : (a0_l.reverse.take j).length ≤ 8 := by rw [List.length_take, List.length_reverse, HE.out]; omega
          have HJL : Hid ((a0_l.reverse.take j).length ≤ 8) := hjl
          have hlt : (i0 : Int) < (a0_n : Int) := by omega
          obtain ⟨T, hT⟩ : ∃ T, T = a0_l.reverse.take j := ⟨_, rfl⟩
          rw [← hT] at ho HRT HJL
          clear hjl hT hc kRow e0
          go_wp2_with (at_builtin; refine wp_push (v := u7) elem_cm rfl _ _ rfl rfl (l := T) (ho.keep ((Turned.refl [] wr).alloc _) (by simp)) _ 0 1 1 [c] rfl rfl cmEnc_len cmEnc_one (CmL.flat_cells rfl (by simp) _) (by have := HJL.out; unfold maxLen; omega) (by have := HJL.out; omega) ?_; intro v' w1' ho1 ht1 hb1)
          have HN : ∀ b ∈ blk v', w2.heap.size ≤ b := CmL.pushed hnew (by have := hTw.size; simp; omega) hb1
          have HTn : Turned [] w2 w1' := (hTw.alloc _).trans ht1 (by intro b hb hl; have := hnew b hb; omega)
          go_roundw
          case rel => exact ⟨j + 1, i0, by omega, by go_num, by rw [HRT.out]; exact ho1, HN, HTn⟩
          case measure => simp [intOf]
    · simp only [hrow] at kR
      rw [w0_e] at kR
      have n3 : (a0_n : Int) < 3 := by omega
      clear hrow h3 K
      have HT0 : Turned [] w w := Turned.refl _ _
      go_enter Try.func6, Try.ntmps6
      go_wp2_with (first | (go_at_call 14; (with_reducible refine (kR _ (w0.turned HT0 (by simp))).mono ?_); rintro e u1 ⟨rfl, HT1⟩; have HT0 := HT0.trans HT1 (by simp)) | (go_at_call 9; (with_reducible refine (kA _).mono ?_); rintro e u0 ⟨rfl, HT1⟩; have HT0 := HT0.trans HT1 (by simp)))
      go_ret
      exact ⟨rfl, HT0.none⟩
  · have hrf : Cm.row a0_l = false := by simpa using hrow
    simp only [hrf] at kR
    rw [w0_e] at kR
    clear hrow hrf K
    have HT0 : Turned [] w w := Turned.refl _ _
    go_enter Try.func6, Try.ntmps6
    go_wp2_with (first | (go_at_call 14; (with_reducible refine (kR _ (w0.turned HT0 (by simp))).mono ?_); rintro e u1 ⟨rfl, HT1⟩; have HT0 := HT0.trans HT1 (by simp)) | (go_at_call 9; (with_reducible refine (kA _).mono ?_); rintro e u0 ⟨rfl, HT1⟩; have HT0 := HT0.trans HT1 (by simp)))
    go_ret
    exact ⟨rfl, HT0.none⟩

set_option maxRecDepth 100000 in
theorem lifted (os : Os) (started : os.Started) (H : Type) (enc : TypeId × Value → H) :
    ReturnsInHanded {} Try.checked os 6 .any (Rows.commandRowsSpec.pre6 enc Try.prog Try.f6 Rows.commandRowsRow.domain false) (Rows.commandRowsSpec.post enc Try.prog Try.f6 false true false false) := by
  refine returnsInHanded_of_change (C := Try.checked) own started (by kernel_rfl) Try.func6
    (ChangeSpec.witness6 (enc := enc) (C := Try.checked) false ⟨#[], #[.slice none 0 0, .int .u8 0], []⟩ 8 (by kernel_rfl) (by kernel_rfl) (by kernel_rfl) (by kernel_rfl)) ?_
  intro W base args ds gs before hval0 hW hcnd _
  have hval : ∀ (j : Nat) t v, Try.f6.params[j]? = some t → args[j]? = some v → Value.okWide Try.prog W .any base t v := hval0
  have hW' := hW
  obtain ⟨p, q, hA0, hV, rfl, hfz, hnd⟩ := hW
  have hA : DataW.TrodAll enc Try.prog W 0 (fun _ => true) true Try.f6.params.toList args.toList ds p := hA0
  rw [Try.params6] at hA hval
  obtain ⟨v0, vs0, d0, ds0, p0, q0, hargs, rfl, rfl, h0, r0⟩ := trodAll_cons hA
  obtain ⟨v1, vs1, d1, ds1, p1, q1, rfl, rfl, rfl, h1, r1⟩ := trodAll_cons r0
  obtain ⟨rfl, rfl, rfl⟩ := trodAll_nil r1
  obtain rfl : args = #[v0, v1] := by cases args; simp_all
  obtain ⟨rfl, rfl⟩ := trodVars_none hV
  have k0 := h0
  have lt0 : ∀ x ∈ p0, x.block < W.heap.size := by obtain ⟨m, hm⟩ := k0; exact DataW.trod_lt m _ _ _ hm
  have k1 := h1
  have lt1 : ∀ x ∈ p1, x.block < W.heap.size := by obtain ⟨m, hm⟩ := k1; exact DataW.trod_lt m _ _ _ hm
  obtain ⟨a0_o, a0_n, a0_c, a0_l, rfl, w0_m, w0_l, w0_e, w0, w0_k⟩ := open_flats (d := 8) (ks := [.int .u32, .int .i8, .int .i8, .bool, .int .u32, .int .u8]) cmEnc Try.underlying26 (by kernel_rfl) (by kernel_rfl) (by decide) cmEnc_of (hval 0 26 v0 rfl rfl) h0
  obtain ⟨a1, rfl, _, _, w1⟩ := open_int Try.underlying5 (hval 1 5 v1 rfl rfl) h1
  clear hA0 hval0
  refine (walk a0_o a0_n a0_c a0_l a1 w0_m w0_l w0_e w0_k w1 W w0).mono fun e W' ⟨he, bel⟩ => ?_
  subst he
  exact ⟨_, rfl, _, _, _, [], _, [], hW', trodAll_mk1 (shut_bool Try.underlying4 _), (trodAll_cons_mk (Below.trod laidOut (by kernel_rfl) (of_decide_eq_true (by kernel_rfl)) k0 bel lt0) (trodAll_cons_mk (Below.trod laidOut (by kernel_rfl) (of_decide_eq_true (by kernel_rfl)) k1 bel lt1) trodAll_mk0)), rfl, bel.frame _, fun h => by cases h⟩

theorem over : Rows.commandRowsRow.holds Try.pinned (OpenSpec.ofChange Rows.commandRowsSpec) :=
  OpenClaim.holds_of_wide 6 Try.f6 rfl rfl rfl rfl rfl rfl rfl ⟨rfl, rfl, rfl, rfl, rfl⟩ rfl rfl rfl rfl rfl (by kernel_rfl) Try.func6 (by kernel_rfl)
    (of_decide_eq_true (by kernel_rfl)) (by unfold Func.isWrapper; first | (rw [if_pos (by decide +kernel)]; kernel_rfl) | (rw [if_neg (by decide +kernel)]; exact ⟨rfl, rfl⟩))
    (fun os started H enc _ => lifted os started H enc)

theorem proved : Rows.CommandRowsSaid :=
  over
#print axioms proved
end Go.Proofs.Ytodfgekhffeapaa.commandRows

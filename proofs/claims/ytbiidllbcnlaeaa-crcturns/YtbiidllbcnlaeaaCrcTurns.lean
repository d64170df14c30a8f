/- For all lists of bytes a, b and c the law CrcTurns answers true. -/
import Derived.Test.YtbiidllbcnlaeaaRows
import Derived.Test.YtbiidllbcnlaeaaInts
import Derived.Test.YtbiidllbcnlaeaaCrcTold
import Derived.WalkKit
import Derived.ProofKit
import Derived.OpenShut
import Derived.ChangeOld
import Derived.Below
import Derived.WalkSmall
import Derived.Lib.SmallJoins
import Derived.Laws.IdiomArrays
namespace Go.Proofs.Ytbiidllbcnlaeaa.crcTurns
open Go.ChangeShapes Go.WideShapes Go.ChangeAt Go.RowKit
set_option linter.unusedVariables false

theorem own : ownKnob Try.prog.godebug = none := by kernel_rfl
theorem laidOut : laidOutB Try.prog = true := by kernel_rfl

set_option maxHeartbeats 2000000 in
theorem walk (a0_o : Option Addr) (a0_n a0_c : Nat) (a1_o : Option Addr) (a1_n a1_c : Nat) (a2_o : Option Addr) (a2_n a2_c : Nat) (w0_m : a0_n ≤ maxLen) (w0_l : a0_n ≤ a0_c) (w1_m : a1_n ≤ maxLen) (w1_l : a1_n ≤ a1_c) (w2_m : a2_n ≤ maxLen) (w2_l : a2_n ≤ a2_c) (w : World) (w0 : Ints .u8 a0_o a0_n w) (w1 : Ints .u8 a1_o a1_n w) (w2 : Ints .u8 a2_o a2_n w) :
    Calls Try.prog 6 #[.slice a0_o a0_n a0_c, .slice a1_o a1_n a1_c, .slice a2_o a2_n a2_c] w fun e w' => e = .returned (.bool true) ∧ Below w.heap.size w w' := by
  have HM : a0_n ≤ 9223372036854775807 ∧ a1_n ≤ 9223372036854775807 ∧ a2_n ≤ 9223372036854775807 := by unfold maxLen at w0_m w1_m w2_m; omega
  obtain ⟨HM0, HM1, HM2⟩ := HM
  clear w0_m w1_m w2_m w0_l
  obtain ⟨la, hla, hba, hra⟩ := row_of w0
  obtain ⟨lb, hlb, hbb, hrb⟩ := row_of w1
  obtain ⟨lc, hlc, hbc, hrc⟩ := row_of w2
  clear w0 w1 w2
  by_cases h : a0_n ≤ 2000 ∧ a0_n ≤ a1_n ∧ a0_n ≤ a2_n
  · obtain ⟨h1, h2, h3⟩ := h
    go_enter Try.func6, Try.ntmps6
    go_wp2_with (go_at_call 7; refine (CrL.awake_any _).mono ?_; rintro e u ⟨rfl, HB⟩; have HRa := hra.keep HB; have HRb := hrb.keep HB; have HRc := hrc.keep HB)
    clear hra hrb hrc
    generalize decide (2000 < (a0_n : Int)) = q
    generalize decide (a1_n < a0_n) = q1
    generalize decide (a2_n < a0_n) = q2
    go_loopw [8, 9] (fun v i wr => ∃ j : Nat, j ≤ a0_n ∧ i = .int .i64 j ∧ Own u.heap.size v ((CrL.mix la lb lc).take j) wr ∧ Below u.heap.size u wr) (fun _ i _ => a0_n - (intOf i).toNat)
    case atStart => exact ⟨0, by omega, rfl, Own.nil _ _, Below.refl _ _⟩
    case round =>
      obtain ⟨j, hj, rfl, hown, hbj⟩ := hrel
      have ra := HRa.keep hbj
      have rb := HRb.keep hbj
      have rc := HRc.keep hbj
      clear HRa HRb HRc
      have hsz := hbj.size
      by_cases hlt : j < a0_n
      · obtain ⟨xa, oa, rfl, pa, ca⟩ := ra j (by omega)
        obtain ⟨xb, ob, rfl, pb, cb⟩ := rb j (by omega)
        obtain ⟨xc, oc, rfl, pc, cc⟩ := rc j (by omega)
        have ya := byte_at hba j
        have yb := byte_at hbb j
        have yc := byte_at hbc j
        have hnext := CrL.mix_next (j := j) (la := la) (lb := lb) (lc := lc) (by omega) (by omega) (by omega)
        obtain ⟨za, hza⟩ : ∃ z, z = la.getD j 0 := ⟨_, rfl⟩
        obtain ⟨zb, hzb⟩ : ∃ z, z = lb.getD j 0 := ⟨_, rfl⟩
        obtain ⟨zc, hzc⟩ : ∃ z, z = lc.getD j 0 := ⟨_, rfl⟩
        rw [← hza] at ca ya hnext
        rw [← hzb] at cb yb hnext
        rw [← hzc] at cc yc hnext
        clear hza hzb hzc ra rb rc
        have HN : Hid ((CrL.mix la lb lc).take j ++ [(za ^^^ zb) ^^^ zc] = (CrL.mix la lb lc).take (j + 1)) := hnext
        clear hnext
        have hll : ((CrL.mix la lb lc).take j).length ≤ j := by rw [List.length_take]; omega
        have e1 := u8_xor_nat za zb ya yb
        have e2 := u8_xor_nat (za ^^^ zb) zc (Nat.xor_lt_two_pow (n := 8) ya yb) yc
        have i1 : j < a1_n := by omega
        have i2 : j < a2_n := by omega
        go_wp2_with fail
        go_region_law (refine step_put rfl _ _ rfl u.heap.size _ _ rfl (hown.alloc _) wr.heap.size ((za ^^^ zb) ^^^ zc) rfl (by simp) (by omega) (by simp; omega) ?_; intro v' w1 hown' hb')
        all_goals
          go_wp2
          go_roundw
          case rel => exact ⟨j + 1, by omega, by go_num, by rw [← HN.out]; exact hown', (hbj.drew.alloc (by simp; omega) _).trans hb'⟩
          case measure => simp [intOf]; omega
      · obtain rfl : j = a0_n := by omega
        have hmix : (CrL.mix la lb lc).take la.length = CrL.mix la lb lc := by rw [← CrL.mix_len (la := la) (lb := lb) (lc := lc) (by omega) (by omega), List.take_length]
        have hown2 : Own u.heap.size u8 (CrL.mix la lb lc) wr := by rw [← hmix, hla]; exact hown
        obtain ⟨od, cd, rfl, rd, hmd⟩ := hown2.row
        have hlm := CrL.mix_len (la := la) (lb := lb) (lc := lc) (by omega) (by omega)
        have hturns := CrL.mix_turns (la := la) (lb := lb) (lc := lc) (by omega) (by omega) hba hbb hbc
        rw [hla] at hturns hlm
        rw [hlm]
        clear hown hown2 hmix hmd
        have sa : ∀ x : KeptW wr, Calls Try.prog 8 #[.slice a0_o j a0_c] x.u fun e w'' => e = .returned (.int .u32 ((Cr.sum la : Nat) : Int)) ∧ ∃ y : KeptW wr, w'' = y.u :=
          fun x => kept_same (CrW.sum_any _ la _ _ _ hla (by omega) (ra.keep x.h) hba)
        have sb : ∀ x : KeptW wr, Calls Try.prog 8 #[.slice a1_o j a1_c] x.u fun e w'' => e = .returned (.int .u32 ((Cr.sum (lb.take j) : Nat) : Int)) ∧ ∃ y : KeptW wr, w'' = y.u :=
          fun x => kept_same (CrW.sum_any _ (lb.take j) _ _ _ (by rw [List.length_take]; omega) (by omega) ((rb.take j).keep x.h) (Cr.take_lt hbb _))
        have sc : ∀ x : KeptW wr, Calls Try.prog 8 #[.slice a2_o j a2_c] x.u fun e w'' => e = .returned (.int .u32 ((Cr.sum (lc.take j) : Nat) : Int)) ∧ ∃ y : KeptW wr, w'' = y.u :=
          fun x => kept_same (CrW.sum_any _ (lc.take j) _ _ _ (by rw [List.length_take]; omega) (by omega) ((rc.take j).keep x.h) (Cr.take_lt hbc _))
        have sd : ∀ x : KeptW wr, Calls Try.prog 8 #[.slice od j cd] x.u fun e w'' => e = .returned (.int .u32 ((Cr.sum (CrL.mix la lb lc) : Nat) : Int)) ∧ ∃ y : KeptW wr, w'' = y.u :=
          fun x => kept_same (CrW.sum_any _ (CrL.mix la lb lc) _ _ _ hlm (by omega) (rd.keep x.h) (CrL.mix_lt hba hbb hbc))
        have ne : Nonempty (KeptW wr) := KeptW.one wr
        have hfin := HB.trans (hbj.mono HB.size)
        have i1 : j ≤ a1_c := by omega
        have i2 : j ≤ a2_c := by omega
        have e1 := u32_xor_nat (Cr.sum la) (Cr.sum (lb.take j)) (Cr.sum_lt _) (Cr.sum_lt _)
        have b1 := Cr.xor_lt (Cr.sum_lt la) (Cr.sum_lt (lb.take j))
        have e2 := u32_xor_nat (Cr.sum la ^^^ Cr.sum (lb.take j)) (Cr.sum (lc.take j)) b1 (Cr.sum_lt _)
        have b2 := Cr.xor_lt b1 (Cr.sum_lt (lc.take j))
        have e3 := u32_xor_nat ((Cr.sum la ^^^ Cr.sum (lb.take j)) ^^^ Cr.sum (lc.take j)) (Cr.sum (CrL.mix la lb lc)) b2 (Cr.sum_lt _)
        rw [hturns] at e3
        clear ra rb rc rd hturns hba hbb hbc hla hlb hlc hlm
        go_wp2_with fail
        refine wp_region_kept (by kernel_rfl) (by kernel_rfl) ?_
        repeat (go_big_quiet_step (first | (go_at_call 8; with_reducible exact sa _) | (go_at_call 8; with_reducible exact sb _) | (go_at_call 8; with_reducible exact sc _) | (go_at_call 8; with_reducible exact sd _)))
        refine wpQuiet_nil ?_
        rintro _ ⟨x, rfl⟩
        go_wp2
        go_ret
        exact ⟨rfl, hfin.trans (x.h.mono hfin.size)⟩
  · clear hra hrb hrc hba hbb hbc hla hlb hlc
    go_enter Try.func6, Try.ntmps6
    have h' : 2000 < a0_n ∨ a1_n < a0_n ∨ a2_n < a0_n := by omega
    clear h
    rcases h' with h | h | h
    all_goals go_wp2_with (go_at_call 7; refine (CrL.awake_any _).mono ?_; rintro e w' ⟨rfl, HB⟩; first | (have HC : Below w.heap.size w w' := HB) | (have HC : Below w.heap.size w w' := HC.trans (HB.mono HC.size)))
    all_goals go_ret
    all_goals exact ⟨rfl, HC⟩

set_option maxRecDepth 100000 in
theorem lifted (os : Os) (started : os.Started) (H : Type) (enc : TypeId × Value → H) :
    ReturnsInHanded {} Try.checked os 6 .any (Rows.crcTurnsSpec.pre6 enc Try.prog Try.f6 Rows.crcTurnsRow.domain false) (Rows.crcTurnsSpec.post enc Try.prog Try.f6 false true false false) := by
  refine returnsInHanded_of_change (C := Try.checked) own started (by kernel_rfl) Try.func6
    (ChangeSpec.witness6 (enc := enc) (C := Try.checked) false ⟨#[], #[.slice none 0 0, .slice none 0 0, .slice none 0 0], []⟩ 8 (by kernel_rfl) (by kernel_rfl) (by kernel_rfl) (by kernel_rfl)) ?_
  intro W base args ds gs before hval0 hW hcnd _
  have hval : ∀ (j : Nat) t v, Try.f6.params[j]? = some t → args[j]? = some v → Value.okWide Try.prog W .any base t v := hval0
  have hW' := hW
  obtain ⟨p, q, hA0, hV, rfl, hfz, hnd⟩ := hW
  have hA : DataW.TrodAll enc Try.prog W 0 (fun _ => true) true Try.f6.params.toList args.toList ds p := hA0
  rw [Try.params6] at hA hval
  obtain ⟨v0, vs0, d0, ds0, p0, q0, hargs, rfl, rfl, h0, r0⟩ := trodAll_cons hA
  obtain ⟨v1, vs1, d1, ds1, p1, q1, rfl, rfl, rfl, h1, r1⟩ := trodAll_cons r0
  obtain ⟨v2, vs2, d2, ds2, p2, q2, rfl, rfl, rfl, h2, r2⟩ := trodAll_cons r1
  obtain ⟨rfl, rfl, rfl⟩ := trodAll_nil r2
  obtain rfl : args = #[v0, v1, v2] := by cases args; simp_all
  obtain ⟨rfl, rfl⟩ := trodVars_none hV
  have k0 := h0
  have lt0 : ∀ x ∈ p0, x.block < W.heap.size := by obtain ⟨m, hm⟩ := k0; exact DataW.trod_lt m _ _ _ hm
  have k1 := h1
  have lt1 : ∀ x ∈ p1, x.block < W.heap.size := by obtain ⟨m, hm⟩ := k1; exact DataW.trod_lt m _ _ _ hm
  have k2 := h2
  have lt2 : ∀ x ∈ p2, x.block < W.heap.size := by obtain ⟨m, hm⟩ := k2; exact DataW.trod_lt m _ _ _ hm
  obtain ⟨a0_o, a0_n, a0_c, rfl, w0_m, w0_l, w0⟩ := open_row Try.underlying22 Try.underlying5 (by kernel_rfl) (hval 0 22 v0 rfl rfl) h0
  obtain ⟨a1_o, a1_n, a1_c, rfl, w1_m, w1_l, w1⟩ := open_row Try.underlying22 Try.underlying5 (by kernel_rfl) (hval 1 22 v1 rfl rfl) h1
  obtain ⟨a2_o, a2_n, a2_c, rfl, w2_m, w2_l, w2⟩ := open_row Try.underlying22 Try.underlying5 (by kernel_rfl) (hval 2 22 v2 rfl rfl) h2
  clear hA0 hval0
  refine (walk a0_o a0_n a0_c a1_o a1_n a1_c a2_o a2_n a2_c w0_m w0_l w1_m w1_l w2_m w2_l W w0 w1 w2).mono fun e W' ⟨he, bel⟩ => ?_
  subst he
  exact ⟨_, rfl, _, _, _, [], _, [], hW', trodAll_mk1 (shut_bool Try.underlying4 _), (trodAll_cons_mk (Below.trod laidOut (by kernel_rfl) (of_decide_eq_true (by kernel_rfl)) k0 bel lt0) (trodAll_cons_mk (Below.trod laidOut (by kernel_rfl) (of_decide_eq_true (by kernel_rfl)) k1 bel lt1) (trodAll_cons_mk (Below.trod laidOut (by kernel_rfl) (of_decide_eq_true (by kernel_rfl)) k2 bel lt2) trodAll_mk0))), rfl, bel.frame _, fun h => by cases h⟩

theorem over : Rows.crcTurnsRow.holds Try.pinned (OpenSpec.ofChange Rows.crcTurnsSpec) :=
  OpenClaim.holds_of_wide 6 Try.f6 rfl rfl rfl rfl rfl rfl rfl ⟨rfl, rfl, rfl, rfl, rfl⟩ rfl rfl rfl rfl rfl (by kernel_rfl) Try.func6 (by kernel_rfl)
    (of_decide_eq_true (by kernel_rfl)) (by unfold Func.isWrapper; first | (rw [if_pos (by decide +kernel)]; kernel_rfl) | (rw [if_neg (by decide +kernel)]; exact ⟨rfl, rfl⟩))
    (fun os started H enc _ => lifted os started H enc)

theorem proved : Rows.CrcTurnsSaid :=
  over
#print axioms proved
end Go.Proofs.Ytbiidllbcnlaeaa.crcTurns

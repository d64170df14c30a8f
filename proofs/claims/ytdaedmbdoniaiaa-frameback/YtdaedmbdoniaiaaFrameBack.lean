/- What is wrapped is opened with its key, and with no other one. -/
import Derived.Test.YtdaedmbdoniaiaaRows
import Derived.Test.YtdaedmbdoniaiaaFrAll
import Derived.Test.YtdaedmbdoniaiaaInts
import Derived.WalkKit
import Derived.ProofKit
import Derived.OpenShut
import Derived.ChangeOld
import Derived.Below
import Derived.WalkSmall
import Derived.Lib.SmallJoins
import Derived.Laws.IdiomArrays
namespace Go.Proofs.Ytdaedmbdoniaiaa.frameBack
open Go.ChangeShapes Go.WideShapes Go.ChangeAt Go.RowKit
set_option linter.unusedVariables false

theorem own : ownKnob Try.prog.godebug = none := by kernel_rfl
theorem laidOut : laidOutB Try.prog = true := by kernel_rfl

theorem back_ok {key : Nat} {l : List Nat} (h : l.length ≤ 1400) : Fr.openC key (Fr.wrap key l) = 0 := by
  have hl := Fr.wrap_length key l
  rw [Fr.openC_in (by omega) (by omega), Fr.opens_wrap, if_pos rfl]
theorem back_drop (key : Nat) (l : List Nat) : (Fr.wrap key l).drop 4 = l := by simp [Fr.wrap, Cr.four4]
theorem back_list {key : Nat} {l : List Nat} (h : l.length ≤ 1400) : Fr.openL key (Fr.wrap key l) = l := by
  rw [Fr.openL_ok (back_ok h), back_drop]
theorem back_other {key other : Nat} {l : List Nat} (h : l.length ≤ 1400) (hk : key < 4294967296) (ho : other < 4294967296) (hn : ¬ key = other) : Fr.openC other (Fr.wrap key l) = 5 := by
  have hl := Fr.wrap_length key l
  rw [Fr.openC_in (by omega) (by omega), Fr.opens_key hk ho, if_neg]
  simpa using hn

set_option maxHeartbeats 2000000 in
theorem walk (a0 : Int) (a1 : Int) (a2_o : Option Addr) (a2_n a2_c : Nat) (w0 : (Lit.int .u32 a0).wf = true) (w1 : (Lit.int .u32 a1).wf = true) (w2_m : a2_n ≤ maxLen) (w2_l : a2_n ≤ a2_c) (w : World) (w2 : Ints .u8 a2_o a2_n w) :
    Calls Try.prog 4 #[.int .u32 a0, .int .u32 a1, .slice a2_o a2_n a2_c] w fun e w' => e = .returned (.bool true) ∧ Below w.heap.size w w' := by
  obtain ⟨key, rfl, hk⟩ := FrL.u32_nat w0
  obtain ⟨other, rfl, ho⟩ := FrL.u32_nat w1
  clear w0 w1
  have HM : (a2_n : Int) ≤ 9223372036854775807 := by unfold maxLen at w2_m; omega
  clear w2_m
  by_cases h1 : (a2_n : Int) ≤ 1400
  · obtain ⟨l, hl, hb, hr⟩ := bytes_row w2
    subst hl
    clear w2 w2_l
    have hL : l.length ≤ 1400 := by omega
    have kW : ∀ u, Turned [] w u → Calls Try.prog 9 #[.int .u32 (key : Int), .slice a2_o l.length a2_c] u fun e u' => ∃ o c, e = .returned (.tuple #[.slice o (Fr.wrap key l).length c, .int .i64 0]) ∧ Hid ((Fr.wrap key l).length ≤ c) ∧ RowOf 1 byEnc o (Fr.wrap key l) u' ∧ Turned [] w u' := by
      intro u ht
      refine (FrW.wrap_any key hk a2_o l l.length a2_c u rfl h1 (hr.turned ht (by simp)) hb).mono ?_
      rintro e u' ⟨v, rfl, ho, ht', _⟩
      obtain ⟨o, c, hv, hle, _, hrow, _⟩ := ho.rowOf byEnc_len
      exact ⟨o, c, by rw [hv], hle, hrow, ht.trans ht' (fun k hk _ => hk)⟩
    have hwl := Fr.wrap_length key l
    have kO : ∀ (kk : Nat) (_ : kk < 4294967296) u, Turned [] w u → ∀ o c, Hid ((Fr.wrap key l).length ≤ c) → RowOf 1 byEnc o (Fr.wrap key l) u → Calls Try.prog 11 #[.int .u32 (kk : Int), .slice o (Fr.wrap key l).length c] u fun e u' => ∃ o3 c3, e = .returned (.tuple #[.slice o3 (Fr.openL kk (Fr.wrap key l)).length c3, .int .i64 (Fr.openC kk (Fr.wrap key l))]) ∧ RowOf 1 byEnc o3 (Fr.openL kk (Fr.wrap key l)) u' ∧ RowOf 1 byEnc o (Fr.wrap key l) u' ∧ Turned [] w u' ∧ Turned [] u u' := by
      intro kk hkk u ht o c HC hx
      have hc := HC.out
      refine (FrW.open_all kk hkk o (Fr.wrap key l) _ c u rfl (by omega) (by omega) hx (Fr.wrap_lt hb)).mono ?_
      rintro e u' ⟨v, rfl, ho, ht', _⟩
      obtain ⟨o3, c3, hv, _, _, hrow, _⟩ := ho.rowOf byEnc_len
      exact ⟨o3, c3, by rw [hv], hrow, hx.turned ht' (by simp), ht.trans ht' (fun k hk _ => hk), ht'⟩
    have k1 := kO key hk
    have k2 := kO other ho
    rw [back_list hL, back_ok hL] at k1
    have sm : ∀ o2 c2 u, Turned [] w u → RowOf 1 byEnc o2 l u → Calls Try.prog 13 #[.slice a2_o l.length a2_c, .slice o2 l.length c2] u fun e u' => e = .returned (.bool true) ∧ Turned [] w u' := by
      intro o2 c2 u ht h2
      refine (BtL.same_any a2_o o2 a2_c c2 l l u (hr.turned ht (by simp)) h2 (by omega) (by omega)).mono ?_
      rintro e u' ⟨rfl, ht'⟩
      exact ⟨by simp, ht.trans ht' (fun k hk _ => hk)⟩
    by_cases hn : key = other
    · subst hn
      rw [back_list hL, back_ok hL] at k2
      clear hwl kO hL k2
      generalize Fr.wrap key l = X at kW k1
      clear hb hr
      go_enter Try.func4, Try.ntmps4
      go_wp2_with (first | (go_at_call 8; refine (FrL.awake_any _).mono ?_; rintro e w1 ⟨rfl, T1⟩) | (go_at_call 9; with_reducible refine (kW _ T1).mono ?_; rintro e w2 ⟨o1, c1, rfl, HC, R1, T2⟩) | (go_at_call 11; with_reducible refine (k1 _ T2 o1 c1 HC R1).mono ?_; rintro e w3 ⟨o3, c3, rfl, R3, R1', T3, _⟩) | (go_at_call 11; with_reducible refine (k1 _ T3 o1 c1 HC R1').mono ?_; rintro e w4 ⟨o4, c4, rfl, R4, R1'', T4, T4'⟩; have R5 := R3.turned T4' (by simp)) | (go_at_call 13; with_reducible refine (sm o3 c3 _ T4 R5).mono ?_; rintro e w6 ⟨rfl, T6⟩))
      go_ret
      exact ⟨rfl, T6.none⟩
    · rw [back_other hL hk ho hn] at k2
      have hn' : ¬ (key : Int) = (other : Int) := by omega
      clear hwl kO hL
      generalize Fr.openL other (Fr.wrap key l) = Y at k2
      generalize Fr.wrap key l = X at kW k1 k2
      have HF : Hid (((key : Int) == (other : Int)) = false) := by show _ = _; rw [beq_eq_false_iff_ne]; exact hn'
      clear hb hr hn
      go_enter Try.func4, Try.ntmps4
      go_wp2_with (first | (go_at_call 8; refine (FrL.awake_any _).mono ?_; rintro e w1 ⟨rfl, T1⟩) | (go_at_call 9; with_reducible refine (kW _ T1).mono ?_; rintro e w2 ⟨o1, c1, rfl, HC, R1, T2⟩) | (go_at_call 11; with_reducible refine (k1 _ T2 o1 c1 HC R1).mono ?_; rintro e w3 ⟨o3, c3, rfl, R3, R1', T3, _⟩) | (go_at_call 11; with_reducible refine (k2 _ T3 o1 c1 HC R1').mono ?_; rintro e w4 ⟨o4, c4, rfl, R4, R1'', T4, T4'⟩; have R5 := R3.turned T4' (by simp)) | (go_at_call 13; with_reducible refine (sm o3 c3 _ T4 R5).mono ?_; rintro e w6 ⟨rfl, T6⟩))
      go_ret
      exact BtL.bool_ret (by rw [HF.out]; rfl) T6.none
  · clear w2
    have h : 1400 < (a2_n : Int) := by omega
    clear h1
    go_enter Try.func4, Try.ntmps4
    go_wp2_with (go_at_call 8; refine (FrL.awake_any _).mono ?_; rintro e w' ⟨rfl, HB⟩; first | (have HC : Turned [] w w' := HC.trans HB (fun k hk _ => hk)) | (have HC : Turned [] w w' := HB))
    go_ret
    exact ⟨rfl, HC.none⟩

set_option maxRecDepth 100000 in
theorem lifted (os : Os) (started : os.Started) (H : Type) (enc : TypeId × Value → H) :
    ReturnsInHanded {} Try.checked os 4 .any (Rows.frameBackSpec.pre6 enc Try.prog Try.f4 Rows.frameBackRow.domain false) (Rows.frameBackSpec.post enc Try.prog Try.f4 false true false false) := by
  refine returnsInHanded_of_change (C := Try.checked) own started (by kernel_rfl) Try.func4
    (ChangeSpec.witness6 (enc := enc) (C := Try.checked) false ⟨#[], #[.int .u32 0, .int .u32 0, .slice none 0 0], []⟩ 8 (by kernel_rfl) (by kernel_rfl) (by kernel_rfl) (by kernel_rfl)) ?_
  intro W base args ds gs before hval0 hW hcnd _
  have hval : ∀ (j : Nat) t v, Try.f4.params[j]? = some t → args[j]? = some v → Value.okWide Try.prog W .any base t v := hval0
  have hW' := hW
  obtain ⟨p, q, hA0, hV, rfl, hfz, hnd⟩ := hW
  have hA : DataW.TrodAll enc Try.prog W 0 (fun _ => true) true Try.f4.params.toList args.toList ds p := hA0
  rw [Try.params4] at hA hval
  obtain ⟨v0, vs0, d0, ds0, p0, q0, hargs, rfl, rfl, h0, r0⟩ := trodAll_cons hA
  obtain ⟨v1, vs1, d1, ds1, p1, q1, rfl, rfl, rfl, h1, r1⟩ := trodAll_cons r0
  obtain ⟨v2, vs2, d2, ds2, p2, q2, rfl, rfl, rfl, h2, r2⟩ := trodAll_cons r1
  obtain ⟨rfl, rfl, rfl⟩ := trodAll_nil r2
  obtain rfl : args = #[v0, v1, v2] := by cases args; simp_all
  obtain ⟨rfl, rfl⟩ := trodVars_none hV
  have k0 := h0
  have lt0 : ∀ x ∈ p0, x.block < W.heap.size := by obtain ⟨m, hm⟩ := k0; exact DataW.trod_lt m _ _ _ hm
  have k1 := h1
  have lt1 : ∀ x ∈ p1, x.block < W.heap.size := by obtain ⟨m, hm⟩ := k1; exact DataW.trod_lt m _ _ _ hm
  have k2 := h2
  have lt2 : ∀ x ∈ p2, x.block < W.heap.size := by obtain ⟨m, hm⟩ := k2; exact DataW.trod_lt m _ _ _ hm
  obtain ⟨a0, rfl, _, _, w0⟩ := open_int Try.underlying22 (hval 0 22 v0 rfl rfl) h0
  obtain ⟨a1, rfl, _, _, w1⟩ := open_int Try.underlying22 (hval 1 22 v1 rfl rfl) h1
  obtain ⟨a2_o, a2_n, a2_c, rfl, w2_m, w2_l, w2⟩ := open_row Try.underlying23 Try.underlying5 (by kernel_rfl) (hval 2 23 v2 rfl rfl) h2
  clear hA0 hval0
  refine (walk a0 a1 a2_o a2_n a2_c w0 w1 w2_m w2_l W w2).mono fun e W' ⟨he, bel⟩ => ?_
  subst he
  exact ⟨_, rfl, _, _, _, [], _, [], hW', trodAll_mk1 (shut_bool Try.underlying4 _), (trodAll_cons_mk (Below.trod laidOut (by kernel_rfl) (of_decide_eq_true (by kernel_rfl)) k0 bel lt0) (trodAll_cons_mk (Below.trod laidOut (by kernel_rfl) (of_decide_eq_true (by kernel_rfl)) k1 bel lt1) (trodAll_cons_mk (Below.trod laidOut (by kernel_rfl) (of_decide_eq_true (by kernel_rfl)) k2 bel lt2) trodAll_mk0))), rfl, bel.frame _, fun h => by cases h⟩

theorem over : Rows.frameBackRow.holds Try.pinned (OpenSpec.ofChange Rows.frameBackSpec) :=
  OpenClaim.holds_of_wide 4 Try.f4 rfl rfl rfl rfl rfl rfl rfl ⟨rfl, rfl, rfl, rfl, rfl⟩ rfl rfl rfl rfl rfl (by kernel_rfl) Try.func4 (by kernel_rfl)
    (of_decide_eq_true (by kernel_rfl)) (by unfold Func.isWrapper; first | (rw [if_pos (by decide +kernel)]; kernel_rfl) | (rw [if_neg (by decide +kernel)]; exact ⟨rfl, rfl⟩))
    (fun os started H enc _ => lifted os started H enc)

theorem proved : Rows.FrameBackSaid :=
  over
#print axioms proved
end Go.Proofs.Ytdaedmbdoniaiaa.frameBack

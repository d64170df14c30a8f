/- All payloads are wrapped, and all bytes opened, with all keys, as the reference does it. -/
import Derived.Test.YtdaedmbdoniaiaaRows
import Derived.Test.YtdaedmbdoniaiaaFrRef
import Derived.Test.YtdaedmbdoniaiaaInts
import Derived.WalkKit
import Derived.ProofKit
import Derived.OpenShut
import Derived.ChangeOld
import Derived.Below
import Derived.WalkSmall
import Derived.Lib.SmallJoins
import Derived.Laws.IdiomArrays
namespace Go.Proofs.Ytdaedmbdoniaiaa.frameWraps
open Go.ChangeShapes Go.WideShapes Go.ChangeAt Go.RowKit
set_option linter.unusedVariables false

theorem own : ownKnob Try.prog.godebug = none := by kernel_rfl
theorem laidOut : laidOutB Try.prog = true := by kernel_rfl

set_option maxHeartbeats 2000000 in
theorem walk (a0 : Int) (a1_o : Option Addr) (a1_n a1_c : Nat) (a2_o : Option Addr) (a2_n a2_c : Nat) (w0 : (Lit.int .u32 a0).wf = true) (w1_m : a1_n ≤ maxLen) (w1_l : a1_n ≤ a1_c) (w2_m : a2_n ≤ maxLen) (w2_l : a2_n ≤ a2_c) (w : World) (w1 : Ints .u8 a1_o a1_n w) (w2 : Ints .u8 a2_o a2_n w) :
    Calls Try.prog 3 #[.int .u32 a0, .slice a1_o a1_n a1_c, .slice a2_o a2_n a2_c] w fun e w' => e = .returned (.bool true) ∧ Below w.heap.size w w' := by
  obtain ⟨key, rfl, hk⟩ := FrL.u32_nat w0
  clear w0
  have HM1 : (a1_n : Int) ≤ 9223372036854775807 := by unfold maxLen at w1_m; omega
  have HM2 : (a2_n : Int) ≤ 9223372036854775807 := by unfold maxLen at w2_m; omega
  clear w1_m w2_m
  by_cases h : (a1_n : Int) ≤ 2000 ∧ (a2_n : Int) ≤ 2000
  · obtain ⟨h1, h2⟩ := h
    obtain ⟨l, hl, hb, hr⟩ := bytes_row w1
    obtain ⟨m, hm, hc, hq⟩ := bytes_row w2
    subst hl hm
    clear w1 w2
    have ca : (l.length : Int) ≤ (a1_c : Int) := by omega
    have cb : (m.length : Int) ≤ (a2_c : Int) := by omega
    clear w1_l w2_l
    have kW : ∀ u, Turned [] w u → Calls Try.prog 9 #[.int .u32 (key : Int), .slice a1_o l.length a1_c] u fun e u' => ∃ o c, e = .returned (.tuple #[.slice o (Fr.wrapL key l).length c, .int .i64 (Fr.wrapC l)]) ∧ RowOf 1 byEnc o (Fr.wrapL key l) u' ∧ Turned [] w u' := by
      intro u ht
      refine (FrW.wrap_all key hk a1_o l l.length a1_c u rfl (by omega) (hr.turned ht (by simp)) hb).mono ?_
      rintro e u' ⟨v, rfl, ho, ht', _⟩
      obtain ⟨o, c, hv, _, _, hrow, _⟩ := ho.rowOf byEnc_len
      exact ⟨o, c, by rw [hv], hrow, ht.trans ht' (fun k hk _ => hk)⟩
    have kRW : ∀ u, Turned [] w u → ∀ o, RowOf 1 byEnc o (Fr.wrapL key l) u → Calls Try.prog 10 #[.int .u32 (key : Int), .slice a1_o l.length a1_c] u fun e u' => ∃ o2 c2, e = .returned (.tuple #[.slice o2 (Fr.wrapL key l).length c2, .int .i64 (Fr.wrapC l)]) ∧ RowOf 1 byEnc o (Fr.wrapL key l) u' ∧ RowOf 1 byEnc o2 (Fr.wrapL key l) u' ∧ Turned [] w u' := by
      intro u ht o hx
      refine (FrR.wrap_all key hk a1_o l l.length a1_c u rfl (by omega) (hr.turned ht (by simp)) hb).mono ?_
      rintro e u' ⟨v, rfl, ho, ht', _⟩
      obtain ⟨o2, c2, hv, _, _, hrow, _⟩ := ho.rowOf byEnc_len
      exact ⟨o2, c2, by rw [hv], hx.turned ht' (by simp), hrow, ht.trans ht' (fun k hk _ => hk)⟩
    have kO : ∀ u, Turned [] w u → ∀ o o2, RowOf 1 byEnc o (Fr.wrapL key l) u → RowOf 1 byEnc o2 (Fr.wrapL key l) u → Calls Try.prog 11 #[.int .u32 (key : Int), .slice a2_o m.length a2_c] u fun e u' => ∃ o3 c3, e = .returned (.tuple #[.slice o3 (Fr.openL key m).length c3, .int .i64 (Fr.openC key m)]) ∧ RowOf 1 byEnc o (Fr.wrapL key l) u' ∧ RowOf 1 byEnc o2 (Fr.wrapL key l) u' ∧ RowOf 1 byEnc o3 (Fr.openL key m) u' ∧ Turned [] w u' := by
      intro u ht o o2 hx hy
      refine (FrW.open_all key hk a2_o m m.length a2_c u rfl (by omega) cb (hq.turned ht (by simp)) hc).mono ?_
      rintro e u' ⟨v, rfl, ho, ht', _⟩
      obtain ⟨o3, c3, hv, _, _, hrow, _⟩ := ho.rowOf byEnc_len
      exact ⟨o3, c3, by rw [hv], hx.turned ht' (by simp), hy.turned ht' (by simp), hrow, ht.trans ht' (fun k hk _ => hk)⟩
    have kRO : ∀ u, Turned [] w u → ∀ o o2 o3, RowOf 1 byEnc o (Fr.wrapL key l) u → RowOf 1 byEnc o2 (Fr.wrapL key l) u → RowOf 1 byEnc o3 (Fr.openL key m) u → Calls Try.prog 12 #[.int .u32 (key : Int), .slice a2_o m.length a2_c] u fun e u' => ∃ o4 c4, e = .returned (.tuple #[.slice o4 (Fr.openL key m).length c4, .int .i64 (Fr.openC key m)]) ∧ RowOf 1 byEnc o (Fr.wrapL key l) u' ∧ RowOf 1 byEnc o2 (Fr.wrapL key l) u' ∧ RowOf 1 byEnc o3 (Fr.openL key m) u' ∧ RowOf 1 byEnc o4 (Fr.openL key m) u' ∧ Turned [] w u' := by
      intro u ht o o2 o3 hx hy hz
      refine (FrR.open_all key hk a2_o m a2_c u (by omega) cb (hq.turned ht (by simp)) hc).mono ?_
      rintro e u' ⟨o4, c4, rfl, hrow, ht'⟩
      exact ⟨o4, c4, rfl, hx.turned ht' (by simp), hy.turned ht' (by simp), hz.turned ht' (by simp), hrow, ht.trans ht' (fun k hk _ => hk)⟩
    have L1 : (Fr.wrapL key l).length ≤ 1099511627776 := Nat.le_trans (Fr.wrapL_length key l) (by omega)
    have L2 : (Fr.openL key m).length ≤ 1099511627776 := Nat.le_trans (Fr.openL_length key m) (by omega)
    have sm : ∀ (L : List Nat) (_ : L.length ≤ 1099511627776) o o2 c c2 u, RowOf 1 byEnc o L u → RowOf 1 byEnc o2 L u → Calls Try.prog 13 #[.slice o L.length c, .slice o2 L.length c2] u fun e u' => e = .returned (.bool true) ∧ Turned [] u u' := by
      intro L hL o o2 c c2 u h1 h2
      refine (BtL.same_any o o2 c c2 L L u h1 h2 hL hL).mono ?_
      rintro e u' ⟨rfl, ht⟩
      exact ⟨by simp, ht⟩
    have s1 := sm _ L1
    have s2 := sm _ L2
    clear L1 L2 sm
    generalize Fr.wrapL key l = X at kW kRW kO kRO s1
    generalize Fr.openL key m = Y at kO kRO s2
    generalize Fr.wrapC l = p at kW kRW
    generalize Fr.openC key m = q at kO kRO
    clear hr hq hb hc ca cb hk
    go_enter Try.func3, Try.ntmps3
    go_wp2_with (first | (go_at_call 8; refine (FrL.awake_any _).mono ?_; rintro e w1 ⟨rfl, T1⟩) | (go_at_call 9; with_reducible refine (kW _ T1).mono ?_; rintro e w2 ⟨o1, c1, rfl, R1, T2⟩) | (go_at_call 10; with_reducible refine (kRW _ T2 o1 R1).mono ?_; rintro e w3 ⟨o2, c2, rfl, R1', R2, T3⟩) | (go_at_call 11; with_reducible refine (kO _ T3 o1 o2 R1' R2).mono ?_; rintro e w4 ⟨o3, c3, rfl, R1'', R2', R3, T4⟩) | (go_at_call 12; with_reducible refine (kRO _ T4 o1 o2 o3 R1'' R2' R3).mono ?_; rintro e w5 ⟨o4, c4, rfl, R1''', R2'', R3', R4, T5⟩) | (go_at_call 13; with_reducible refine (s1 o1 o2 _ _ _ R1''' R2'').mono ?_; rintro e w6 ⟨rfl, T6⟩; have R5 := R3'.turned T6 (by simp); have R6 := R4.turned T6 (by simp)) | (go_at_call 13; with_reducible refine (s2 o3 o4 _ _ _ R5 R6).mono ?_; rintro e w7 ⟨rfl, T7⟩))
    go_ret
    exact ⟨rfl, ((T5.trans T6 (fun k hk _ => hk)).trans T7 (fun k hk _ => hk)).none⟩
  · clear w1 w2
    have h' : 2000 < (a1_n : Int) ∨ ((a1_n : Int) ≤ 2000 ∧ 2000 < (a2_n : Int)) := by omega
    clear h
    go_enter Try.func3, Try.ntmps3
    rcases h' with h | ⟨h, h'⟩
    all_goals go_wp2_with (go_at_call 8; refine (FrL.awake_any _).mono ?_; rintro e w' ⟨rfl, HB⟩; first | (have HC : Turned [] w w' := HC.trans HB (fun k hk _ => hk)) | (have HC : Turned [] w w' := HB))
    all_goals go_ret
    all_goals exact ⟨rfl, HC.none⟩

set_option maxRecDepth 100000 in
theorem lifted (os : Os) (started : os.Started) (H : Type) (enc : TypeId × Value → H) :
    ReturnsInHanded {} Try.checked os 3 .any (Rows.frameWrapsSpec.pre6 enc Try.prog Try.f3 Rows.frameWrapsRow.domain false) (Rows.frameWrapsSpec.post enc Try.prog Try.f3 false true false false) := by
  refine returnsInHanded_of_change (C := Try.checked) own started (by kernel_rfl) Try.func3
    (ChangeSpec.witness6 (enc := enc) (C := Try.checked) false ⟨#[], #[.int .u32 0, .slice none 0 0, .slice none 0 0], []⟩ 8 (by kernel_rfl) (by kernel_rfl) (by kernel_rfl) (by kernel_rfl)) ?_
  intro W base args ds gs before hval0 hW hcnd _
  have hval : ∀ (j : Nat) t v, Try.f3.params[j]? = some t → args[j]? = some v → Value.okWide Try.prog W .any base t v := hval0
  have hW' := hW
  obtain ⟨p, q, hA0, hV, rfl, hfz, hnd⟩ := hW
  have hA : DataW.TrodAll enc Try.prog W 0 (fun _ => true) true Try.f3.params.toList args.toList ds p := hA0
  rw [Try.params3] at hA hval
  obtain ⟨v0, vs0, d0, ds0, p0, q0, hargs, rfl, rfl, h0, r0⟩ := trodAll_cons hA
  obtain ⟨v1, vs1, d1, ds1, p1, q1, rfl, rfl, rfl, h1, r1⟩ := trodAll_cons r0
  obtain ⟨v2, vs2, d2, ds2, p2, q2, rfl, rfl, rfl, h2, r2⟩ := trodAll_cons r1
  obtain ⟨rfl, rfl, rfl⟩ := trodAll_nil r2
  obtain rfl : args = #[v0, v1, v2] := by cases args; simp_all
  obtain ⟨rfl, rfl⟩ := trodVars_none hV
  have k0 := h0
  have lt0 : ∀ x ∈ p0, x.block < W.heap.size := by obtain ⟨m, hm⟩ := k0; exact DataW.trod_lt m _ _ _ hm
  have k1 := h1
  have lt1 : ∀ x ∈ p1, x.block < W.heap.size := by obtain ⟨m, hm⟩ := k1; exact DataW.trod_lt m _ _ _ hm
  have k2 := h2
  have lt2 : ∀ x ∈ p2, x.block < W.heap.size := by obtain ⟨m, hm⟩ := k2; exact DataW.trod_lt m _ _ _ hm
  obtain ⟨a0, rfl, _, _, w0⟩ := open_int Try.underlying22 (hval 0 22 v0 rfl rfl) h0
  obtain ⟨a1_o, a1_n, a1_c, rfl, w1_m, w1_l, w1⟩ := open_row Try.underlying23 Try.underlying5 (by kernel_rfl) (hval 1 23 v1 rfl rfl) h1
  obtain ⟨a2_o, a2_n, a2_c, rfl, w2_m, w2_l, w2⟩ := open_row Try.underlying23 Try.underlying5 (by kernel_rfl) (hval 2 23 v2 rfl rfl) h2
  clear hA0 hval0
  refine (walk a0 a1_o a1_n a1_c a2_o a2_n a2_c w0 w1_m w1_l w2_m w2_l W w1 w2).mono fun e W' ⟨he, bel⟩ => ?_
  subst he
  exact ⟨_, rfl, _, _, _, [], _, [], hW', trodAll_mk1 (shut_bool Try.underlying4 _), (trodAll_cons_mk (Below.trod laidOut (by kernel_rfl) (of_decide_eq_true (by kernel_rfl)) k0 bel lt0) (trodAll_cons_mk (Below.trod laidOut (by kernel_rfl) (of_decide_eq_true (by kernel_rfl)) k1 bel lt1) (trodAll_cons_mk (Below.trod laidOut (by kernel_rfl) (of_decide_eq_true (by kernel_rfl)) k2 bel lt2) trodAll_mk0))), rfl, bel.frame _, fun h => by cases h⟩

theorem over : Rows.frameWrapsRow.holds Try.pinned (OpenSpec.ofChange Rows.frameWrapsSpec) :=
  OpenClaim.holds_of_wide 3 Try.f3 rfl rfl rfl rfl rfl rfl rfl ⟨rfl, rfl, rfl, rfl, rfl⟩ rfl rfl rfl rfl rfl (by kernel_rfl) Try.func3 (by kernel_rfl)
    (of_decide_eq_true (by kernel_rfl)) (by unfold Func.isWrapper; first | (rw [if_pos (by decide +kernel)]; kernel_rfl) | (rw [if_neg (by decide +kernel)]; exact ⟨rfl, rfl⟩))
    (fun os started H enc _ => lifted os started H enc)

theorem proved : Rows.FrameWrapsSaid :=
  over
#print axioms proved
end Go.Proofs.Ytdaedmbdoniaiaa.frameWraps

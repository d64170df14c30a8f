/- Of all bytes, up to 500, on every base, the entity that comes next is taken, or it is told that none comes, as the reference does. -/
import Derived.Test.YtjphcbcbaiifhaaRows
import Derived.Test.YtjphcbcbaiifhaaEntWalks
import Derived.Test.YtjphcbcbaiifhaaEntLaw2
import Derived.Test.YtjphcbcbaiifhaaInts
import Derived.Test.YtjphcbcbaiifhaaFlat
import Derived.WalkKit
import Derived.ProofKit
import Derived.OpenShut
import Derived.ChangeOld
import Derived.Below
import Derived.WalkSmall
import Derived.Lib.SmallJoins
import Derived.Laws.IdiomArrays
namespace Go.Proofs.Ytjphcbcbaiifhaa.entityTakes
open Go.ChangeShapes Go.WideShapes Go.ChangeAt Go.RowKit
set_option linter.unusedVariables false

theorem own : ownKnob Try.prog.godebug = none := by kernel_rfl
theorem laidOut : laidOutB Try.prog = true := by kernel_rfl

set_option maxRecDepth 20000 in
set_option maxHeartbeats 4000000 in
theorem walk (a0_o : Option Addr) (a0_n a0_c : Nat) (a1 : En.E) (w0_m : a0_n ≤ maxLen) (w0_l : a0_n ≤ a0_c) (w1_k : AllOk [.int .i64, .int .i64, .int .i64, .int .i64, .int .i64, .int .i64, .int .i64, .int .i64] (enEnc a1)) (w : World) (w0 : Ints .u8 a0_o a0_n w) :
    Calls Try.prog 5 #[.slice a0_o a0_n a0_c, enVal a1] w fun e w' => e = .returned (.bool true) ∧ Below w.heap.size w w' := by
  have K := EnW.contracts
  unfold maxLen at w0_m
  have kA := EnL.awake_any K
  have hb := en_wf w1_k
  by_cases hsz : (a0_n : Int) ≤ 500
  · have hsz' : ¬ 500 < (a0_n : Int) := by omega
    obtain ⟨bs, hbl, hb8, hbr⟩ := EnL.bytes_of w0
    have kN := fun (u0 : World) (h : Turned [] w u0) => BtD.new_any a0_o a0_n a0_c bs u0 hbl (hbr.turned h (by simp)) (by omega) hb8
    have kN2 := fun (u0 : World) (h : Turned [] w u0) => BtG.new_any a0_o a0_c bs u0 (hbr.turned h (by simp)) (by omega) hb8
    rw [hbl] at kN2
    obtain ⟨r, hr⟩ : ∃ r : Bt.Rd, r = ⟨Bt.unpack bs, 0, false⟩ := ⟨_, rfl⟩
    rw [← hr] at kN kN2
    clear hr hbl hb8 hbr w0
    by_cases hex : ∃ x, En.Next r a1 x
    · obtain ⟨x, hnx⟩ := hex
      have kT := fun (p : Nat) (v : Value) (u : World) (h : PRd p v bs r u) => K.take_next hb h hnx
      have kT2 := fun (p : Nat) (v : Value) (u : World) (h : RRd p v r u) => EnR.take_next hb h hnx
      have hes := en_same x
      clear hnx K w1_k
      go_enter Try.func5, Try.ntmps5
      go_wp2_with (first | (go_at_call 9; (with_reducible refine (kA _).mono ?_); rintro e u0 ⟨rfl, HT1⟩; have hS := (Struct.new w (enEnc a1) 29).keep HT1 (by simp); have HT0 := ((Turned.refl [] w).alloc _).trans HT1 (by simp); have c0 := (hS.2 0 _ rfl).1; have c1 := (hS.2 1 _ rfl).1; have c2 := (hS.2 2 _ rfl).1; have c3 := (hS.2 3 _ rfl).1; have c4 := (hS.2 4 _ rfl).1; have c5 := (hS.2 5 _ rfl).1; have c6 := (hS.2 6 _ rfl).1; have c7 := (hS.2 7 _ rfl).1; (try simp only [enEnc] at c0 c1 c2 c3 c4 c5 c6 c7)) | (go_at_call 22; (with_reducible refine (kN _ HT0).mono ?_); rintro e u1 ⟨p, v1, rfl, hN1, ht1, hpn, hvn1⟩; have hpw : w.heap.size ≤ p := Nat.le_trans HT0.size hpn; have hpl := hN1.lt; have hrb1 := EnL.prd_rblk hN1; have hbp : w.heap.size ∉ [p] := (by have := hS.1; simp; omega); have hS := hS.keep ht1 (by simp); have HT0 := HT0.trans ht1 (by simp)) | (go_at_call 23; (with_reducible refine (kN2 _ HT0).mono ?_); rintro e u2 ⟨q, v2, rfl, hR2, ht2, hqn, hvn2⟩; have hN2 := hN1.keep ht2 (by simp) (by simp); have hql := hR2.lt; have hqw : w.heap.size ≤ q := Nat.le_trans HT0.size hqn; have hbq : w.heap.size ∉ [q] := (by have := hS.1; simp; omega); have hS := hS.keep ht2 (by simp); have c0 := (hS.2 0 _ rfl).1; have c1 := (hS.2 1 _ rfl).1; have c2 := (hS.2 2 _ rfl).1; have c3 := (hS.2 3 _ rfl).1; have c4 := (hS.2 4 _ rfl).1; have c5 := (hS.2 5 _ rfl).1; have c6 := (hS.2 6 _ rfl).1; have c7 := (hS.2 7 _ rfl).1; have HT0 := HT0.trans ht2 (by simp); have hqp : q ∉ [p] := (by simp; omega); have hpq : p ∉ [q] := (by simp; omega); have hv2p : ∀ k ∈ rblk v2, k ∉ [p] := (by intro k hk hn; simp at hn; have := hvn2 k hk; omega); have hv1q : ∀ k ∈ rblk v1, k ∉ [q] := (by intro k hk hn; simp at hn; have := hrb1 k hk; omega)) | (go_at_call 24; refine (kT _ _ _ hN2).mono ?_; rintro e u3 ⟨rfl, hP3, ht3⟩; have hR3 := hR2.keep ht3 hqp hv2p; have hS := hS.keep ht3 hbp; have HT0 := HT0.trans ht3 (by intro k hk hl; simp at hk; omega); have hX := (Struct.new u3 (enEnc x) 29); have hP3 := hP3.keep ((Turned.refl [] u3).alloc (.cells (enEnc x).toArray 29)) (by simp) (by simp); have hR3 := hR3.keep ((Turned.refl [] u3).alloc (.cells (enEnc x).toArray 29)) (by simp) (by simp); have hS := hS.keep ((Turned.refl [] u3).alloc (.cells (enEnc x).toArray 29)) (by simp); have HT0 := HT0.alloc (.cells (enEnc x).toArray 29); have hxq : u3.heap.size ∉ [q] := (by have := hR3.lt; have := ht3.size; simp; omega); have c0 := (hS.2 0 _ rfl).1; have c1 := (hS.2 1 _ rfl).1; have c2 := (hS.2 2 _ rfl).1; have c3 := (hS.2 3 _ rfl).1; have c4 := (hS.2 4 _ rfl).1; have c5 := (hS.2 5 _ rfl).1; have c6 := (hS.2 6 _ rfl).1; have c7 := (hS.2 7 _ rfl).1; (try simp only [enEnc] at c0 c1 c2 c3 c4 c5 c6 c7)) | (go_at_call 25; refine (kT2 _ _ _ hR3).mono ?_; rintro e u4 ⟨rfl, hR4, ht4⟩; have hP4 := (hP3.keep ht4 hpq hv1q).keep ((Turned.refl [] u4).alloc (.cells (enEnc x).toArray 29)) (by simp) (by simp); have hR4 := hR4.keep ((Turned.refl [] u4).alloc (.cells (enEnc x).toArray 29)) (by simp) (by simp); have hX := (hX.keep ht4 hxq).keep ((Turned.refl [] u4).alloc (.cells (enEnc x).toArray 29)) (by simp); have HT0 := (HT0.trans ht4 (by intro k hk hl; simp at hk; omega)).alloc (.cells (enEnc x).toArray 29); have y0 := (hX.2 0 _ rfl).1; have y1 := (hX.2 1 _ rfl).1; have y2 := (hX.2 2 _ rfl).1; have y3 := (hX.2 3 _ rfl).1; have y4 := (hX.2 4 _ rfl).1; have y5 := (hX.2 5 _ rfl).1; have y6 := (hX.2 6 _ rfl).1; have y7 := (hX.2 7 _ rfl).1; (try simp only [enEnc] at y0 y1 y2 y3 y4 y5 y6 y7)) | (go_at_call 26; refine (BtD.left_any _ _ _ _ _ hP4).mono ?_; rintro e u6 ⟨rfl, ht6⟩; have hR6 := hR4.keep ht6 (by simp) (by simp); have HT0 := HT0.trans ht6 (by simp)) | (go_at_call 27; refine (BtG.left_any _ _ _ _ hR6).mono ?_; rintro e u7 ⟨rfl, ht7⟩; have HT0 := HT0.trans ht7 (by simp)))
      go_ret
      exact ⟨rfl, HT0.none⟩
    · have hno : ∀ x, ¬ En.Next r a1 x := fun x h => hex ⟨x, h⟩
      have kT := fun (p : Nat) (v : Value) (u : World) (h : PRd p v bs r u) => K.take_none hb h hno
      have kT2 := fun (p : Nat) (v : Value) (u : World) (h : RRd p v r u) => EnR.take_none hb h hno
      have hes := en_same EnR.zeroE
      clear hno hex K w1_k
      go_enter Try.func5, Try.ntmps5
      go_wp2_with (first | (go_at_call 9; (with_reducible refine (kA _).mono ?_); rintro e u0 ⟨rfl, HT1⟩; have hS := (Struct.new w (enEnc a1) 29).keep HT1 (by simp); have HT0 := ((Turned.refl [] w).alloc _).trans HT1 (by simp); have c0 := (hS.2 0 _ rfl).1; have c1 := (hS.2 1 _ rfl).1; have c2 := (hS.2 2 _ rfl).1; have c3 := (hS.2 3 _ rfl).1; have c4 := (hS.2 4 _ rfl).1; have c5 := (hS.2 5 _ rfl).1; have c6 := (hS.2 6 _ rfl).1; have c7 := (hS.2 7 _ rfl).1; (try simp only [enEnc] at c0 c1 c2 c3 c4 c5 c6 c7)) | (go_at_call 22; (with_reducible refine (kN _ HT0).mono ?_); rintro e u1 ⟨p, v1, rfl, hN1, ht1, hpn, hvn1⟩; have hpw : w.heap.size ≤ p := Nat.le_trans HT0.size hpn; have hpl := hN1.lt; have hrb1 := EnL.prd_rblk hN1; have hbp : w.heap.size ∉ [p] := (by have := hS.1; simp; omega); have hS := hS.keep ht1 (by simp); have HT0 := HT0.trans ht1 (by simp)) | (go_at_call 23; (with_reducible refine (kN2 _ HT0).mono ?_); rintro e u2 ⟨q, v2, rfl, hR2, ht2, hqn, hvn2⟩; have hN2 := hN1.keep ht2 (by simp) (by simp); have hql := hR2.lt; have hqw : w.heap.size ≤ q := Nat.le_trans HT0.size hqn; have hbq : w.heap.size ∉ [q] := (by have := hS.1; simp; omega); have hS := hS.keep ht2 (by simp); have c0 := (hS.2 0 _ rfl).1; have c1 := (hS.2 1 _ rfl).1; have c2 := (hS.2 2 _ rfl).1; have c3 := (hS.2 3 _ rfl).1; have c4 := (hS.2 4 _ rfl).1; have c5 := (hS.2 5 _ rfl).1; have c6 := (hS.2 6 _ rfl).1; have c7 := (hS.2 7 _ rfl).1; have HT0 := HT0.trans ht2 (by simp); have hqp : q ∉ [p] := (by simp; omega); have hpq : p ∉ [q] := (by simp; omega); have hv2p : ∀ k ∈ rblk v2, k ∉ [p] := (by intro k hk hn; simp at hn; have := hvn2 k hk; omega); have hv1q : ∀ k ∈ rblk v1, k ∉ [q] := (by intro k hk hn; simp at hn; have := hrb1 k hk; omega)) | (go_at_call 24; refine (kT _ _ _ hN2).mono ?_; rintro e u3 ⟨rfl, ht3⟩; have hR3 := (hR2.keep ht3 hqp hv2p).keep ((Turned.refl [] u3).alloc (.cells (enEnc EnR.zeroE).toArray 29)) (by simp) (by simp); have hS := (hS.keep ht3 hbp).keep ((Turned.refl [] u3).alloc (.cells (enEnc EnR.zeroE).toArray 29)) (by simp); have HT0 := (HT0.trans ht3 (by intro k hk hl; simp at hk; omega)).alloc (.cells (enEnc EnR.zeroE).toArray 29); have hX := (Struct.new u3 (enEnc EnR.zeroE) 29); have hxq : u3.heap.size ∉ [q] := (by have := ht3.size; simp; omega); have c0 := (hS.2 0 _ rfl).1; have c1 := (hS.2 1 _ rfl).1; have c2 := (hS.2 2 _ rfl).1; have c3 := (hS.2 3 _ rfl).1; have c4 := (hS.2 4 _ rfl).1; have c5 := (hS.2 5 _ rfl).1; have c6 := (hS.2 6 _ rfl).1; have c7 := (hS.2 7 _ rfl).1; (try simp only [enEnc] at c0 c1 c2 c3 c4 c5 c6 c7)) | (go_at_call 25; refine (kT2 _ _ _ hR3).mono ?_; rintro e u4 ⟨rfl, ht4⟩; have hX := (hX.keep ht4 hxq).keep ((Turned.refl [] u4).alloc (.cells (enEnc EnR.zeroE).toArray 29)) (by simp); have HT0 := (HT0.trans ht4 (by intro k hk hl; simp at hk; omega)).alloc (.cells (enEnc EnR.zeroE).toArray 29); have y0 := (hX.2 0 _ rfl).1; have y1 := (hX.2 1 _ rfl).1; have y2 := (hX.2 2 _ rfl).1; have y3 := (hX.2 3 _ rfl).1; have y4 := (hX.2 4 _ rfl).1; have y5 := (hX.2 5 _ rfl).1; have y6 := (hX.2 6 _ rfl).1; have y7 := (hX.2 7 _ rfl).1; (try simp only [enEnc] at y0 y1 y2 y3 y4 y5 y6 y7)))
      go_ret
      exact ⟨rfl, HT0.none⟩
  · have hsz' : 500 < (a0_n : Int) := by omega
    clear K
    go_enter Try.func5, Try.ntmps5
    have HT0 := (Turned.refl [] w).alloc (.cells (enEnc a1).toArray 29)
    go_wp2_with (go_at_call 9; (with_reducible refine (kA _).mono ?_); rintro e u0 ⟨rfl, HT1⟩; have HT0 := HT0.trans HT1 (by simp))
    go_ret
    exact ⟨rfl, HT0.none⟩

set_option maxRecDepth 100000 in
theorem lifted (os : Os) (started : os.Started) (H : Type) (enc : TypeId × Value → H) :
    ReturnsInHanded {} Try.checked os 5 .any (Rows.entityTakesSpec.pre6 enc Try.prog Try.f5 Rows.entityTakesRow.domain false) (Rows.entityTakesSpec.post enc Try.prog Try.f5 false true false false) := by
  refine returnsInHanded_of_change (C := Try.checked) own started (by kernel_rfl) Try.func5
    (ChangeSpec.witness6 (enc := enc) (C := Try.checked) false ⟨#[], #[.slice none 0 0, .agg #[.int .i64 0, .int .i64 0, .int .i64 0, .int .i64 0, .int .i64 0, .int .i64 0, .int .i64 0, .int .i64 0]], []⟩ 8 (by kernel_rfl) (by kernel_rfl) (by kernel_rfl) (by kernel_rfl)) ?_
  intro W base args ds gs before hval0 hW hcnd _
  have hval : ∀ (j : Nat) t v, Try.f5.params[j]? = some t → args[j]? = some v → Value.okWide Try.prog W .any base t v := hval0
  have hW' := hW
  obtain ⟨p, q, hA0, hV, rfl, hfz, hnd⟩ := hW
  have hA : DataW.TrodAll enc Try.prog W 0 (fun _ => true) true Try.f5.params.toList args.toList ds p := hA0
  rw [Try.params5] at hA hval
  obtain ⟨v0, vs0, d0, ds0, p0, q0, hargs, rfl, rfl, h0, r0⟩ := trodAll_cons hA
  obtain ⟨v1, vs1, d1, ds1, p1, q1, rfl, rfl, rfl, h1, r1⟩ := trodAll_cons r0
  obtain ⟨rfl, rfl, rfl⟩ := trodAll_nil r1
  obtain rfl : args = #[v0, v1] := by cases args; simp_all
  obtain ⟨rfl, rfl⟩ := trodVars_none hV
  have k0 := h0
  have lt0 : ∀ x ∈ p0, x.block < W.heap.size := by obtain ⟨m, hm⟩ := k0; exact DataW.trod_lt m _ _ _ hm
  have k1 := h1
  have lt1 : ∀ x ∈ p1, x.block < W.heap.size := by obtain ⟨m, hm⟩ := k1; exact DataW.trod_lt m _ _ _ hm
  obtain ⟨a0_o, a0_n, a0_c, rfl, w0_m, w0_l, w0⟩ := open_row Try.underlying34 Try.underlying5 (by kernel_rfl) (hval 0 34 v0 rfl rfl) h0
  obtain ⟨cs1, rfl, ok1⟩ := open_flat (d := 8) (ks := [.int .i64, .int .i64, .int .i64, .int .i64, .int .i64, .int .i64, .int .i64, .int .i64]) (Or.inl ⟨_, Try.underlying29⟩) (by kernel_rfl) (hval 1 29 v1 rfl rfl) h1
  obtain ⟨a1, rfl⟩ := enEnc_of cs1 ok1
  have w1_k := ok1
  clear hA0 hval0
  refine (walk a0_o a0_n a0_c a1 w0_m w0_l w1_k W w0).mono fun e W' ⟨he, bel⟩ => ?_
  subst he
  exact ⟨_, rfl, _, _, _, [], _, [], hW', trodAll_mk1 (shut_bool Try.underlying4 _), (trodAll_cons_mk (Below.trod laidOut (by kernel_rfl) (of_decide_eq_true (by kernel_rfl)) k0 bel lt0) (trodAll_cons_mk (Below.trod laidOut (by kernel_rfl) (of_decide_eq_true (by kernel_rfl)) k1 bel lt1) trodAll_mk0)), rfl, bel.frame _, fun h => by cases h⟩

theorem over : Rows.entityTakesRow.holds Try.pinned (OpenSpec.ofChange Rows.entityTakesSpec) :=
  OpenClaim.holds_of_wide 5 Try.f5 rfl rfl rfl rfl rfl rfl rfl ⟨rfl, rfl, rfl, rfl, rfl⟩ rfl rfl rfl rfl rfl (by kernel_rfl) Try.func5 (by kernel_rfl)
    (of_decide_eq_true (by kernel_rfl)) (by unfold Func.isWrapper; first | (rw [if_pos (by decide +kernel)]; kernel_rfl) | (rw [if_neg (by decide +kernel)]; exact ⟨rfl, rfl⟩))
    (fun os started H enc _ => lifted os started H enc)

theorem proved : Rows.EntityTakesSaid :=
  over
#print axioms proved
end Go.Proofs.Ytjphcbcbaiifhaa.entityTakes

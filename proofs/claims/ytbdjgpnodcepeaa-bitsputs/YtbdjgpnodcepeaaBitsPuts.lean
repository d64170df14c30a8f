/- Whatever is put, the bytes are the chapter's (200 times). -/
import Derived.Test.YtbdjgpnodcepeaaRows
import Derived.Test.YtbdjgpnodcepeaaBitLaw
import Derived.Test.YtbdjgpnodcepeaaBitRf2
import Derived.Test.YtbdjgpnodcepeaaFlat
import Derived.WalkKit
import Derived.ProofKit
import Derived.OpenShut
import Derived.ChangeOld
import Derived.Below
import Derived.WalkSmall
import Derived.Lib.SmallJoins
import Derived.Laws.IdiomArrays
namespace Go.Proofs.Ytbdjgpnodcepeaa.bitsPuts
open Go.ChangeShapes Go.WideShapes Go.ChangeAt Go.RowKit
set_option linter.unusedVariables false

theorem own : ownKnob Try.prog.godebug = none := by kernel_rfl
theorem laidOut : laidOutB Try.prog = true := by kernel_rfl

set_option maxHeartbeats 2000000 in
theorem walk (a0_o : Option Addr) (a0_n a0_c : Nat) (a0_l : List (Bool × Int × Int)) (w0_m : a0_n ≤ maxLen) (w0_l : a0_n ≤ a0_c) (w0_e : a0_l.length = a0_n) (w0_k : ∀ a ∈ a0_l, AllOk [.bool, .int .u64, .int .i64] (opEnc a)) (w : World) (w0 : RowOf 3 opEnc a0_o a0_l w) :
    Calls Try.prog 3 #[.slice a0_o a0_n a0_c] w fun e w' => e = .returned (.bool true) ∧ Below w.heap.size w w' := by
  unfold maxLen at w0_m
  by_cases h200 : (a0_n : Int) ≤ 200
  · have h200' : ¬ 200 < (a0_n : Int) := by omega
    go_enter Try.func3, Try.ntmps3
    go_wp2_with (go_at_call 10; with_reducible refine (BtL.awake_any _).mono ?_; rintro e u0 ⟨rfl, HT0⟩)
    have hb0 : BtL.Both u0 u0.heap.size (u0.heap.size + 1) (BtL.opsBits (a0_l.take 0)) ((u0.alloc (.cells #[.slice none 0 0, .int .i64 0] 27)).alloc (.cells #[.slice none 0 0] 31)) := by
      refine ⟨[u0.heap.size], [u0.heap.size + 1], (PW.new u0 27).keep ((Turned.refl [] _).alloc _) (by simp), ?_, by simp, by simp, by simp, ((Turned.refl [] _).alloc _).alloc _⟩
      have := RBits.new 4 (u0.alloc (.cells #[.slice none 0 0, .int .i64 0] 27)) 31
      rw [show (u0.alloc (.cells #[.slice none 0 0, .int .i64 0] 27)).heap.size = u0.heap.size + 1 by simp] at this
      exact this
    generalize decide (200 < (a0_n : Int)) = q
    go_loopw [5] (fun i wr => ∃ k : Nat, k ≤ a0_n ∧ i = .int .i64 (k : Int) ∧ BtL.Both u0 u0.heap.size (u0.heap.size + 1) (BtL.opsBits (a0_l.take k)) wr) (fun i _ => a0_n - (intOf i).toNat)
    case atStart => exact ⟨0, by omega, rfl, hb0⟩
    case round =>
      clear hb0
      obtain ⟨k, hk, rfl, F1, F2, hp, hr, hd, h1, h2, ht⟩ := hrel
      by_cases hlt : (k : Int) < (a0_n : Int)
      · obtain ⟨⟨b, x, n⟩, ha⟩ : ∃ a, a0_l[k]? = some a := ⟨_, List.getElem?_eq_getElem (by omega)⟩
        obtain ⟨wx, wn⟩ := op_ok w0_k ha
        have rx := BtL.u64_range wx
        have hlen : (BtL.opsBits (a0_l.take k)).length ≤ 16000 := by
          have := BtL.opsBits_len (a0_l.take k)
          rw [List.length_take] at this
          omega
        have HN : Hid (BtL.opsBits (a0_l.take (k + 1)) = BtL.opsBits (a0_l.take k) ++ BtL.opBits (b, x, n)) := BtL.opsBits_next ha
        have hrow := (w0.keep HT0.none).turned ht (by simp)
        obtain ⟨g, off, rfl, hg, c0, c1, c2⟩ := op_at hrow ha
        have hcell : ∀ (F1' : List Nat) (u1 : World), Moved F1 F1' wr u1 → u1.cell? ⟨g, off + k * 3 + 1, none⟩ = some (.int .u64 x) ∧ u1.cell? ⟨g, off + k * 3 + 2, none⟩ = some (.int .i64 n) := by
          intro F1' u1 hm
          obtain ⟨g', off', he, _, _, d1, d2⟩ := op_at ((w0.keep HT0.none).turned (BtL.mid_turned h1 ht hm) (by simp)) ha
          simp at he
          obtain ⟨rfl, rfl⟩ := he
          exact ⟨d1, d2⟩
        clear ha wx wn
        obtain ⟨L, hL⟩ : ∃ L, L = BtL.opsBits (a0_l.take k) := ⟨_, rfl⟩
        rw [← hL] at hp hr hlen HN
        clear hL
        cases b with
        | true =>
          have kS := BtW.small_any u0.heap.size L F1 (wrap64 x) (BtL.w64_lo x) (BtL.w64_hi x) wr hp (by omega)
          have kR := fun (F1' : List Nat) (u1 : World) (hm : Moved F1 F1' wr u1) => BtR.small_any (u0.heap.size + 1) L F2 (wrap64 x) (BtL.w64_lo x) (BtL.w64_hi x) u1 (BtL.both_mid hr hd hm) (by omega)
          have hop : BtL.opBits (true, x, n) = Bt.sm (Bt.zig (wrap64 x)) := rfl
          rw [← hop] at kS kR
          clear hop
          go_wp2_with (first | (go_at_call 11; with_reducible refine kS.mono ?_; rintro e u1 ⟨rfl, F1', hp', hm1⟩; obtain ⟨d1, d2⟩ := hcell F1' u1 hm1) | (go_at_call 12; with_reducible refine (kR F1' u1 hm1).mono ?_; rintro e u2 ⟨rfl, F2', hr', hm2⟩))
          clear hcell kS kR
          have HB := BtL.both_step hp hr hd h1 h2 ht hp' hm1 hr' hm2
          obtain ⟨kc, ⟨ob, cb, e0⟩, HB2⟩ := BtL.fin12 HB
          clear HB
          go_quiet ((go_at_call 15; exact Calls.quiet_of_same (kc _)))
          go_wp2_with fail
          go_roundw
          case rel => exact ⟨k + 1, by omega, by go_num, by rw [HN.out]; exact HB2 _⟩
          case measure => simp [intOf]; omega
        | false =>
          have hpD := hp.keep ((Turned.refl [] wr).drew) (by simp)
          have hrD := hr.keep ((Turned.refl [] wr).drew) (by simp)
          have htD := ht.drew
          have kS := BtW.put_any u0.heap.size L F1 x n rx.1 rx.2 wr.drew hpD (by omega)
          have kR := fun (F1' : List Nat) (u1 : World) (hm : Moved F1 F1' wr.drew u1) => BtR.put_any (u0.heap.size + 1) L F2 x n rx.1 rx.2 u1.drew ((BtL.both_mid hrD hd hm).keep ((Turned.refl [] u1).drew) (by simp)) (by omega)
          have hop : BtL.opBits (false, x, n) = BtW.puts x.toNat n := rfl
          rw [← hop] at kS kR
          clear hop
          go_wp2_with fail
          go_region_with (go_at_call 13; with_reducible refine kS.mono ?_; rintro e u1 ⟨rfl, F1', hp', hm1⟩; obtain ⟨d1, d2⟩ := hcell F1' u1 (BtL.moved_undrew hm1))
          all_goals
            go_wp2_with fail
            go_region_with (go_at_call 14; with_reducible refine (kR F1' u1 hm1).mono ?_; rintro e u2 ⟨rfl, F2', hr', hm2⟩)
            all_goals
              clear hcell kS kR
              go_wp2_with fail
              have HB := BtL.both_step hpD hrD hd h1 h2 htD (hp'.keep ((Turned.refl [] u1).drew) (by simp)) (BtL.moved_drew hm1) hr' hm2
              obtain ⟨kc, ⟨ob, cb, e0⟩, HB2⟩ := BtL.fin12 HB
              clear HB
              go_quiet ((go_at_call 15; exact Calls.quiet_of_same (kc _)))
              go_wp2_with fail
              go_roundw
              case rel => exact ⟨k + 1, by omega, by go_num, by rw [HN.out]; exact HB2 _⟩
              case measure => simp [intOf]; omega
      · have hk' : k = a0_n := by omega
        subst hk'
        rw [← w0_e, List.take_length] at hp hr
        have hlen : (BtL.opsBits a0_l).length ≤ 16000 := by
          have := BtL.opsBits_len a0_l
          omega
        obtain ⟨L, hL⟩ : ∃ L, L = BtL.opsBits a0_l := ⟨_, rfl⟩
        rw [← hL] at hp hr hlen
        clear hL
        have hpk := Bt.pack_length L
        have hpl : (Bt.pack L).length ≤ 1099511627776 := by omega
        have HPL : Hid ((Bt.pack L).length ≤ 1099511627776) := hpl
        have kB := BtW.bytes_any u0.heap.size L F1 wr hp (by omega)
        have kB2 := fun (u1 : World) (h : Turned [] wr u1) => BtR.bytes_any (u0.heap.size + 1) L F2 u1 (hr.keep h (by simp)) (by omega)
        have kSame := fun (oa ob : Option Addr) (ca cb : Nat) (u : World) (ha : RowOf 1 byEnc oa (Bt.pack L) u) (hb : RowOf 1 byEnc ob (Bt.pack L) u) => BtL.same_any oa ob ca cb (Bt.pack L) (Bt.pack L) u ha hb HPL.out HPL.out
        have hdec : decide (Bt.pack L = Bt.pack L) = true := by simp
        rw [hdec] at kSame
        clear hpk hpl hdec
        go_wp2_with (first | (go_at_call 17; with_reducible refine kB.mono ?_; rintro e u1 ⟨v1, rfl, ho1, ht1, hn1⟩; obtain ⟨oa, ca, rfl, _, _, hra, _⟩ := ho1.rowOf byEnc_len) | (go_at_call 18; with_reducible refine (kB2 u1 ht1).mono ?_; rintro e u2 ⟨v2, rfl, ho2, ht2, hn2⟩; obtain ⟨ob, cb, rfl, _, _, hrb, _⟩ := ho2.rowOf byEnc_len; have hra2 := hra.turned ht2 (by simp)) | (go_at_call 16; with_reducible refine (kSame oa ob ca cb u2 hra2 hrb).mono ?_; rintro e u3 ⟨rfl, ht3⟩))
        go_ret
        exact ⟨rfl, ((((HT0.trans ht (fun k hk _ => hk)).trans ht1 (fun k hk _ => hk)).trans ht2 (fun k hk _ => hk)).trans ht3 (fun k hk _ => hk)).none⟩
  · have h200' : 200 < (a0_n : Int) := by omega
    go_enter Try.func3, Try.ntmps3
    go_wp2_with (go_at_call 10; with_reducible refine (BtL.awake_any _).mono ?_; rintro e u1 ⟨rfl, HT⟩; first | (have HC : Turned [] w u1 := HC.trans HT (fun k hk _ => hk)) | (have HC : Turned [] w u1 := HT))
    go_ret
    exact ⟨rfl, HC.none⟩

set_option maxRecDepth 100000 in
theorem lifted (os : Os) (started : os.Started) (H : Type) (enc : TypeId × Value → H) :
    ReturnsInHanded {} Try.checked os 3 .any (Rows.bitsPutsSpec.pre6 enc Try.prog Try.f3 Rows.bitsPutsRow.domain false) (Rows.bitsPutsSpec.post enc Try.prog Try.f3 false true false false) := by
  refine returnsInHanded_of_change (C := Try.checked) own started (by kernel_rfl) Try.func3
    (ChangeSpec.witness6 (enc := enc) (C := Try.checked) false ⟨#[], #[.slice none 0 0], []⟩ 8 (by kernel_rfl) (by kernel_rfl) (by kernel_rfl) (by kernel_rfl)) ?_
  intro W base args ds gs before hval0 hW hcnd _
  have hval : ∀ (j : Nat) t v, Try.f3.params[j]? = some t → args[j]? = some v → Value.okWide Try.prog W .any base t v := hval0
  have hW' := hW
  obtain ⟨p, q, hA0, hV, rfl, hfz, hnd⟩ := hW
  have hA : DataW.TrodAll enc Try.prog W 0 (fun _ => true) true Try.f3.params.toList args.toList ds p := hA0
  rw [Try.params3] at hA hval
  obtain ⟨v0, vs0, d0, ds0, p0, q0, hargs, rfl, rfl, h0, r0⟩ := trodAll_cons hA
  obtain ⟨rfl, rfl, rfl⟩ := trodAll_nil r0
  obtain rfl : args = #[v0] := by cases args; simp_all
  obtain ⟨rfl, rfl⟩ := trodVars_none hV
  have k0 := h0
  have lt0 : ∀ x ∈ p0, x.block < W.heap.size := by obtain ⟨m, hm⟩ := k0; exact DataW.trod_lt m _ _ _ hm
  obtain ⟨a0_o, a0_n, a0_c, a0_l, rfl, w0_m, w0_l, w0_e, w0, w0_k⟩ := open_flats (d := 8) (ks := [.bool, .int .u64, .int .i64]) opEnc Try.underlying22 (by kernel_rfl) (by kernel_rfl) (by decide) opEnc_of (hval 0 22 v0 rfl rfl) h0
  clear hA0 hval0
  refine (walk a0_o a0_n a0_c a0_l w0_m w0_l w0_e w0_k W w0).mono fun e W' ⟨he, bel⟩ => ?_
  subst he
  exact ⟨_, rfl, _, _, _, [], _, [], hW', trodAll_mk1 (shut_bool Try.underlying4 _), (trodAll_cons_mk (Below.trod laidOut (by kernel_rfl) (of_decide_eq_true (by kernel_rfl)) k0 bel lt0) trodAll_mk0), rfl, bel.frame _, fun h => by cases h⟩

theorem over : Rows.bitsPutsRow.holds Try.pinned (OpenSpec.ofChange Rows.bitsPutsSpec) :=
  OpenClaim.holds_of_wide 3 Try.f3 rfl rfl rfl rfl rfl rfl rfl ⟨rfl, rfl, rfl, rfl, rfl⟩ rfl rfl rfl rfl rfl (by kernel_rfl) Try.func3 (by kernel_rfl)
    (of_decide_eq_true (by kernel_rfl)) (by unfold Func.isWrapper; first | (rw [if_pos (by decide +kernel)]; kernel_rfl) | (rw [if_neg (by decide +kernel)]; exact ⟨rfl, rfl⟩))
    (fun os started H enc _ => lifted os started H enc)

theorem proved : Rows.BitsPutsSaid :=
  over
#print axioms proved
end Go.Proofs.Ytbdjgpnodcepeaa.bitsPuts

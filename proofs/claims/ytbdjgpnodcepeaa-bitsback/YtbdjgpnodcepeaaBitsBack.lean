/- What is put is taken, one by one, and then all is read (200 times). -/
import Derived.Test.YtbdjgpnodcepeaaRows
import Derived.Test.YtbdjgpnodcepeaaBitLaw3
import Derived.Test.YtbdjgpnodcepeaaFlat
import Derived.WalkKit
import Derived.ProofKit
import Derived.OpenShut
import Derived.ChangeOld
import Derived.Below
import Derived.WalkSmall
import Derived.Lib.SmallJoins
import Derived.Laws.IdiomArrays
namespace Go.Proofs.Ytbdjgpnodcepeaa.bitsBack
open Go.ChangeShapes Go.WideShapes Go.ChangeAt Go.RowKit
set_option linter.unusedVariables false

theorem own : ownKnob Try.prog.godebug = none := by kernel_rfl
theorem laidOut : laidOutB Try.prog = true := by kernel_rfl

set_option maxRecDepth 20000 in
set_option maxHeartbeats 4000000 in
theorem walk (a0_o : Option Addr) (a0_n a0_c : Nat) (a0_l : List (Bool × Int × Int)) (w0_m : a0_n ≤ maxLen) (w0_l : a0_n ≤ a0_c) (w0_e : a0_l.length = a0_n) (w0_k : ∀ a ∈ a0_l, AllOk [.bool, .int .u64, .int .i64] (opEnc a)) (w : World) (w0 : RowOf 3 opEnc a0_o a0_l w) :
    Calls Try.prog 5 #[.slice a0_o a0_n a0_c] w fun e w' => e = .returned (.bool true) ∧ Below w.heap.size w w' := by
  unfold maxLen at w0_m
  by_cases h200 : (a0_n : Int) ≤ 200
  · have h200' : ¬ 200 < (a0_n : Int) := by omega
    go_enter Try.func5, Try.ntmps5
    go_wp2_with (go_at_call 10; with_reducible refine (BtL.awake_any _).mono ?_; rintro e u0 ⟨rfl, HT0⟩)
    have hb0 : BtL.Puts u0 u0.heap.size (BtL.opsBits (a0_l.take 0)) (u0.alloc (.cells #[.slice none 0 0, .int .i64 0] 27)) := BtL.puts_new u0 _
    generalize decide (200 < (a0_n : Int)) = q
    go_loopw [4] (fun i wr => ∃ k : Nat, k ≤ a0_n ∧ i = .int .i64 (k : Int) ∧ BtL.Puts u0 u0.heap.size (BtL.opsBits (a0_l.take k)) wr) (fun i _ => a0_n - (intOf i).toNat)
    case atStart => exact ⟨0, by omega, rfl, hb0⟩
    case round =>
      clear hb0
      obtain ⟨k, hk, rfl, F1, hp, h1, ht⟩ := hrel
      by_cases hlt : (k : Int) < (a0_n : Int)
      · obtain ⟨⟨b, x, n⟩, ha⟩ : ∃ a, a0_l[k]? = some a := ⟨_, List.getElem?_eq_getElem (by omega)⟩
        obtain ⟨wx, wn⟩ := op_ok w0_k ha
        have rx := BtL.u64_range wx
        have hlen : (BtL.opsBits (a0_l.take k)).length ≤ 16000 := by
          have := BtL.opsBits_len (a0_l.take k)
          rw [List.length_take] at this
          omega
        have HN : Hid (BtL.opsBits (a0_l.take (k + 1)) = BtL.opsBits (a0_l.take k) ++ BtL.opBits (b, x, n)) := BtL.opsBits_next ha
        have hrow := (w0.keep HT0.none).turned ht (by simp)
        obtain ⟨g, off, rfl, hg, c0, c1, c2⟩ := op_at hrow ha
        clear ha wx wn
        obtain ⟨L, hL⟩ : ∃ L, L = BtL.opsBits (a0_l.take k) := ⟨_, rfl⟩
        rw [← hL] at hp hlen HN
        clear hL
        cases b with
        | true =>
          have kS := BtW.small_any u0.heap.size L F1 (wrap64 x) (BtL.w64_lo x) (BtL.w64_hi x) wr hp (by omega)
          have hop : BtL.opBits (true, x, n) = Bt.sm (Bt.zig (wrap64 x)) := rfl
          rw [← hop] at kS
          clear hop
          go_wp2_with (go_at_call 11; with_reducible refine kS.mono ?_; rintro e u1 ⟨rfl, F1', hp', hm1⟩)
          have HB := BtL.puts_step h1 ht hp' hm1
          go_roundw
          case rel => exact ⟨k + 1, by omega, by go_num, by rw [HN.out]; exact HB⟩
          case measure => simp [intOf]; omega
        | false =>
          have kS := BtW.put_any u0.heap.size L F1 x n rx.1 rx.2 wr.drew (hp.keep ((Turned.refl [] wr).drew) (by simp)) (by omega)
          have hop : BtL.opBits (false, x, n) = BtW.puts x.toNat n := rfl
          rw [← hop] at kS
          clear hop
          go_wp2_with fail
          go_region_with (go_at_call 13; with_reducible refine kS.mono ?_; rintro e u1 ⟨rfl, F1', hp', hm1⟩)
          all_goals
            have HB := BtL.puts_step h1 ht hp' (BtL.moved_undrew hm1)
            go_wp2_with fail
            go_roundw
            case rel => exact ⟨k + 1, by omega, by go_num, by rw [HN.out]; exact HB⟩
            case measure => simp [intOf]; omega
      · have hk' : a0_n = k := by omega
        subst hk'
        rw [← w0_e, List.take_length] at hp
        have hlen : (BtL.opsBits a0_l).length ≤ 16000 := by
          have := BtL.opsBits_len a0_l
          omega
        have kB := BtW.bytes_any u0.heap.size (BtL.opsBits a0_l) F1 wr hp (by omega)
        obtain ⟨m, hm, hst⟩ := BtL.rk_start a0_l
        have hpk := Bt.pack_length (BtL.opsBits a0_l)
        have kN := fun (oa : Option Addr) (ca : Nat) (u : World) (hr : RowOf 1 byEnc oa (Bt.pack (BtL.opsBits a0_l)) u) => BtD.new_any oa (Bt.pack (BtL.opsBits a0_l)).length ca (Bt.pack (BtL.opsBits a0_l)) u rfl hr (by omega) (Bt.pack_lt _)
        rw [hst] at kN
        have HM : Hid (m < 8) := hm
        clear hlen hst hpk hm
        obtain ⟨Z, hZ⟩ : ∃ Z, Z = List.replicate m false := ⟨_, rfl⟩
        rw [← hZ] at kN
        have HZ : Hid (Z = List.replicate m false) := hZ
        clear hZ
        go_wp2_with (first | (go_at_call 17; with_reducible refine kB.mono ?_; rintro e u1 ⟨v1, rfl, ho1, ht1, hn1⟩; obtain ⟨oa, ca, rfl, _, _, hra, _⟩ := ho1.rowOf byEnc_len) | (go_at_call 19; with_reducible refine (kN oa ca u1 hra).mono ?_; rintro e u2 ⟨p, v, rfl, hN, ht2, hpn, hvn⟩))
        have hT2 : Turned [] u0 u2 := (ht.trans ht1 (fun k hk _ => hk)).trans ht2 (fun k hk _ => hk)
        have hpn0 : u0.heap.size ≤ p := by
          have := (ht.trans ht1 (fun k hk _ => hk)).size
          omega
        obtain ⟨bs, hbs⟩ : ∃ bs, bs = Bt.pack (BtL.opsBits a0_l) := ⟨_, rfl⟩
        rw [← hbs] at hN
        clear kB kN hra ho1 hp h1 hk hlt hn1 hvn hpn ht1 ht2
        go_loopw [6] (fun i wq => ∃ k : Nat, k ≤ a0_n ∧ i = .int .i64 (k : Int) ∧ PRd p v bs (BtL.rk a0_l Z k) wq ∧ Turned [] u0 wq) (fun i _ => a0_n - (intOf i).toNat)
        case atStart => exact ⟨0, by omega, rfl, hN, hT2⟩
        case round =>
          clear hN hT2
          obtain ⟨k, hk, rfl, HP, HT⟩ := hrel
          by_cases hlt : (k : Int) < (a0_n : Int)
          · obtain ⟨⟨b, x, n⟩, ha⟩ : ∃ a, a0_l[k]? = some a := ⟨_, List.getElem?_eq_getElem (by omega)⟩
            obtain ⟨wx, wn⟩ := op_ok w0_k ha
            have rx := BtL.u64_range wx
            have hrow : ∀ u, Turned [] u0 u → RowOf 3 opEnc a0_o a0_l u := fun u ht => (w0.keep HT0.none).turned ht (by simp)
            obtain ⟨g, off, rfl, hg, c0, c1, c2⟩ := op_at (hrow _ HT) ha
            have hcell : ∀ u, Turned [] u0 u → u.cell? ⟨g, off + k * 3 + 1, none⟩ = some (.int .u64 x) := by
              intro u ht
              obtain ⟨g', off', he, _, d0, d1, d2⟩ := op_at (hrow u ht) ha
              simp at he
              obtain ⟨rfl, rfl⟩ := he
              exact d1
            cases b with
            | true =>
              obtain ⟨t1, t2⟩ := BtL.rk_small (Z := Z) ha
              have kop := BtD.small_any p v bs (BtL.rk a0_l Z k) wr.drew (HP.keep ((Turned.refl [] wr).drew) (by simp) (by simp))
              rw [t1, t2] at kop
              clear ha wx wn hrow t1 t2
              have hw := BtL.wrap_eq x
              go_wp2_with fail
              go_region_with (go_at_call 21; with_reducible refine kop.mono ?_; rintro e u3 ⟨rfl, HP3, HT3⟩; have HT4 := BtL.own_turned hpn0 HT.drew HT3; have d1 := hcell u3 HT4)
              all_goals
                go_wp2_with fail
                go_roundw
                case rel => exact ⟨k + 1, by omega, by go_num, HP3, HT4⟩
                case measure => simp [intOf]; omega
            | false =>
              by_cases hn : 0 ≤ n ∧ n ≤ 64
              · obtain ⟨t1, t2⟩ := BtL.rk_take (Z := Z) ha hn
                have kop := BtD.take_any p v bs (BtL.rk a0_l Z k) n wr HP
                rw [t1, t2] at kop
                clear ha wx wn hrow t1 t2
                obtain ⟨N, rfl⟩ := Int.eq_ofNat_of_zero_le hn.1
                obtain ⟨X, rfl⟩ := Int.eq_ofNat_of_zero_le rx.1
                rw [Int.toNat_natCast, Int.toNat_natCast] at kop
                have hX : X < 18446744073709551616 := by omega
                have n1 : ¬ (N : Int) < 0 := by omega
                have n2 : ¬ 64 < (N : Int) := by omega
                by_cases h64 : (N : Int) < 64
                · obtain ⟨P, hP⟩ : ∃ P, P = 2 ^ N := ⟨_, rfl⟩
                  obtain ⟨hpw, hp0⟩ := BtL.wrap_pow (show N < 64 by omega) hP
                  rw [← hP] at kop
                  clear hn rx hP
                  go_wp2_with (go_at_call 23; with_reducible refine kop.mono ?_; rintro e u3 ⟨rfl, HP3, HT3⟩; have HT4 := BtL.own_turned hpn0 HT HT3)
                  go_roundw
                  case rel => exact ⟨k + 1, by omega, by go_num, HP3, HT4⟩
                  case measure => simp [intOf]; omega
                · have hN : N = 64 := by omega
                  subst hN
                  have hmod : X % 2 ^ 64 = X := Nat.mod_eq_of_lt hX
                  rw [hmod, show ((64 : Nat) : Int) = 64 from rfl] at kop
                  clear hmod hn rx
                  go_wp2_with (go_at_call 23; with_reducible refine kop.mono ?_; rintro e u3 ⟨rfl, HP3, HT3⟩; have HT4 := BtL.own_turned hpn0 HT HT3)
                  go_roundw
                  case rel => exact ⟨k + 1, by omega, by go_num, HP3, HT4⟩
                  case measure => simp [intOf]; omega
              · have hsk := BtL.rk_skip (Z := Z) ha hn
                rw [← hsk] at HP
                clear ha wx wn hrow hsk
                by_cases h0 : n < 0
                · clear hn
                  go_wp2_with fail
                  go_roundw
                  case rel => exact ⟨k + 1, by omega, by go_num, HP, HT⟩
                  case measure => simp [intOf]; omega
                · have h64 : 64 < n := by omega
                  clear hn
                  go_wp2_with fail
                  go_roundw
                  case rel => exact ⟨k + 1, by omega, by go_num, HP, HT⟩
                  case measure => simp [intOf]; omega
          · have hk' : a0_n = k := by omega
            subst hk'
            have hd : (BtL.rk a0_l Z a0_n).done = true := by rw [HZ.out, ← w0_e]; exact BtL.rk_done HM.out
            have kok := BtD.ok_any p v _ _ wr HP.1
            have kdone := BtD.done_any p v bs _ wr HP
            rw [hd] at kdone
            have hfl : (BtL.rk a0_l Z a0_n).fail = false := rfl
            rw [hfl] at kok
            clear hd hfl
            go_wp2_with (first | (go_at_call 25; with_reducible refine kok.mono ?_; rintro e u4 ⟨rfl, rfl⟩) | (go_at_call 28; with_reducible refine kdone.mono ?_; rintro e u5 ⟨rfl, HT5⟩))
            go_ret
            exact ⟨rfl, ((HT0.trans HT (fun k hk _ => hk)).trans HT5 (fun k hk _ => hk)).none⟩
  · have h200' : 200 < (a0_n : Int) := by omega
    go_enter Try.func5, Try.ntmps5
    go_wp2_with (go_at_call 10; with_reducible refine (BtL.awake_any _).mono ?_; rintro e u1 ⟨rfl, HT⟩; first | (have HC : Turned [] w u1 := HC.trans HT (fun k hk _ => hk)) | (have HC : Turned [] w u1 := HT))
    go_ret
    exact ⟨rfl, HC.none⟩

set_option maxRecDepth 100000 in
theorem lifted (os : Os) (started : os.Started) (H : Type) (enc : TypeId × Value → H) :
    ReturnsInHanded {} Try.checked os 5 .any (Rows.bitsBackSpec.pre6 enc Try.prog Try.f5 Rows.bitsBackRow.domain false) (Rows.bitsBackSpec.post enc Try.prog Try.f5 false true false false) := by
  refine returnsInHanded_of_change (C := Try.checked) own started (by kernel_rfl) Try.func5
    (ChangeSpec.witness6 (enc := enc) (C := Try.checked) false ⟨#[], #[.slice none 0 0], []⟩ 8 (by kernel_rfl) (by kernel_rfl) (by kernel_rfl) (by kernel_rfl)) ?_
  intro W base args ds gs before hval0 hW hcnd _
  have hval : ∀ (j : Nat) t v, Try.f5.params[j]? = some t → args[j]? = some v → Value.okWide Try.prog W .any base t v := hval0
  have hW' := hW
  obtain ⟨p, q, hA0, hV, rfl, hfz, hnd⟩ := hW
  have hA : DataW.TrodAll enc Try.prog W 0 (fun _ => true) true Try.f5.params.toList args.toList ds p := hA0
  rw [Try.params5] at hA hval
  obtain ⟨v0, vs0, d0, ds0, p0, q0, hargs, rfl, rfl, h0, r0⟩ := trodAll_cons hA
  obtain ⟨rfl, rfl, rfl⟩ := trodAll_nil r0
  obtain rfl : args = #[v0] := by cases args; simp_all
  obtain ⟨rfl, rfl⟩ := trodVars_none hV
  have k0 := h0
  have lt0 : ∀ x ∈ p0, x.block < W.heap.size := by obtain ⟨m, hm⟩ := k0; exact DataW.trod_lt m _ _ _ hm
  obtain ⟨a0_o, a0_n, a0_c, a0_l, rfl, w0_m, w0_l, w0_e, w0, w0_k⟩ := open_flats (d := 8) (ks := [.bool, .int .u64, .int .i64]) opEnc Try.underlying22 (by kernel_rfl) (by kernel_rfl) (by decide) opEnc_of (hval 0 22 v0 rfl rfl) h0
  clear hA0 hval0
  refine (walk a0_o a0_n a0_c a0_l w0_m w0_l w0_e w0_k W w0).mono fun e W' ⟨he, bel⟩ => ?_
  subst he
  exact ⟨_, rfl, _, _, _, [], _, [], hW', trodAll_mk1 (shut_bool Try.underlying4 _), (trodAll_cons_mk (Below.trod laidOut (by kernel_rfl) (of_decide_eq_true (by kernel_rfl)) k0 bel lt0) trodAll_mk0), rfl, bel.frame _, fun h => by cases h⟩

theorem over : Rows.bitsBackRow.holds Try.pinned (OpenSpec.ofChange Rows.bitsBackSpec) :=
  OpenClaim.holds_of_wide 5 Try.f5 rfl rfl rfl rfl rfl rfl rfl ⟨rfl, rfl, rfl, rfl, rfl⟩ rfl rfl rfl rfl rfl (by kernel_rfl) Try.func5 (by kernel_rfl)
    (of_decide_eq_true (by kernel_rfl)) (by unfold Func.isWrapper; first | (rw [if_pos (by decide +kernel)]; kernel_rfl) | (rw [if_neg (by decide +kernel)]; exact ⟨rfl, rfl⟩))
    (fun os started H enc _ => lifted os started H enc)

theorem proved : Rows.BitsBackSaid :=
  over
#print axioms proved
end Go.Proofs.Ytbdjgpnodcepeaa.bitsBack

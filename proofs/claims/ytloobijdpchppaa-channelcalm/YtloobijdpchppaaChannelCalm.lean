/- Between two channels of which nothing is lost, one behind the other's turn, all but the last datagram of each is acked, whatever was before. -/
import Derived.Test.YtloobijdpchppaaRows
import Derived.Test.YtloobijdpchppaaChLaw5
import Derived.WalkKit
import Derived.ProofKit
import Derived.OpenShut
import Derived.ChangeOld
import Derived.Below
import Derived.WalkSmall
import Derived.Lib.SmallJoins
import Derived.Laws.IdiomArrays
namespace Go.Proofs.Ytloobijdpchppaa.channelCalm
open Go.ChangeShapes Go.WideShapes Go.ChangeAt Go.RowKit
set_option linter.unusedVariables false

theorem own : ownKnob Try.prog.godebug = none := by kernel_rfl
theorem laidOut : laidOutB Try.prog = true := by kernel_rfl

set_option linter.unusedSimpArgs false in
set_option maxRecDepth 20000 in
set_option maxHeartbeats 8000000 in
theorem walk (a0_o : Option Addr) (a0_n a0_c : Nat) (a0_l : List (Int × Int)) (a1 : Int) (w0_m : a0_n ≤ maxLen) (w0_l : a0_n ≤ a0_c) (w0_e : a0_l.length = a0_n) (w0_k : ∀ a ∈ a0_l, AllOk [.int .i64, .int .i64] (paEnc a)) (w1 : (Lit.int .u8 a1).wf = true) (w : World) (w0 : RowOf 2 paEnc a0_o a0_l w) :
    Calls Try.prog 7 #[.slice a0_o a0_n a0_c, .int .u8 a1] w fun e w' => e = .returned (.bool true) ∧ Below w.heap.size w w' := by
  unfold maxLen at w0_m
  have hA8 : 0 ≤ a1 ∧ a1 < 256 := by
    simp [Lit.wf, IntKind.min, IntKind.max, IntKind.bits, IntKind.signed] at w1
    omega
  obtain ⟨A, rfl⟩ : ∃ A : Nat, a1 = (A : Int) := ⟨a1.toNat, by omega⟩
  have hA2 : (A : Int) < 256 := hA8.2
  clear hA8 w1
  by_cases h200 : (a0_n : Int) ≤ 200
  · have h200' : ¬ 200 < (a0_n : Int) := by omega
    go_enter Try.func7, Try.ntmps7
    go_wp2_with (go_at_call 8; (with_reducible refine (ChL.awake_any _).mono ?_); rintro e u0 ⟨rfl, HT0⟩)
    have hb0 := ChL.Two.start u0 31 77
    obtain ⟨W1, hW1⟩ : ∃ W, W = (((u0.alloc (.cells #[.int .u16 0, .bool false, .int .u16 0, .int .u32 0, .slice none 0 0] 31)).alloc (.cells #[.pointer (some ⟨u0.heap.size, 0, none⟩), .slice none 0 0, .slice none 0 0, .slice none 0 0] 77)).alloc (.cells #[.int .u16 0, .bool false, .int .u16 0, .int .u32 0, .slice none 0 0] 31)).alloc (.cells #[.pointer (some ⟨u0.heap.size + 2, 0, none⟩), .slice none 0 0, .slice none 0 0, .slice none 0 0] 77) := ⟨_, rfl⟩
    obtain ⟨C, hC⟩ : ∃ b, b = u0.heap.size := ⟨_, rfl⟩
    obtain ⟨P, hP⟩ : ∃ b, b = u0.heap.size + 1 := ⟨_, rfl⟩
    obtain ⟨D, hD⟩ : ∃ b, b = u0.heap.size + 2 := ⟨_, rfl⟩
    obtain ⟨Q, hQ⟩ : ∃ b, b = u0.heap.size + 3 := ⟨_, rfl⟩
    rw [← hW1, ← hQ, ← hP, ← hD, ← hC] at hb0
    rw [← hW1, ← hQ, ← hD, ← hP, ← hC]
    clear hW1 hC hD hP hQ
    generalize decide (200 < (a0_n : Int)) = q
    go_loopw [7] (fun i wr => ∃ k : Nat, k ≤ a0_n ∧ i = .int .i64 (k : Int) ∧ ∃ a b, ChL.Two u0 [] P C Q D a b wr ∧ a.sent.length ≤ k ∧ b.sent.length ≤ k) (fun i _ => a0_n - (intOf i).toNat)
    case atStart => exact ⟨0, by omega, rfl, _, _, hb0, by simp [Ch.none], by simp [Ch.none]⟩
    case round =>
      clear hb0
      obtain ⟨k, hk, rfl, a, b, hB, hla, hlb⟩ := hrel
      by_cases hlt : (k : Int) < (a0_n : Int)
      · obtain ⟨⟨x, n⟩, hx⟩ : ∃ a, a0_l[k]? = some a := ⟨_, List.getElem?_eq_getElem (by omega)⟩
        obtain ⟨g, off, rfl, hg, p0, p1⟩ := pa_at (w0.keep HT0.none) hx
        have hgl := Nat.lt_of_lt_of_le hg hB.t.size
        replace p0 := (hB.t.cell (p := ⟨g, off + k * 2, none⟩) hg (by simp)).trans p0
        replace p1 := (hB.t.cell (p := ⟨g, off + k * 2 + 1, none⟩) hg (by simp)).trans p1
        clear hx w0
        by_cases hx1 : x = 1
        · subst hx1
          have kQ := ChL.send_two hB (by omega)
          go_wp2_with fail
          refine kQ.mono ?_
          rintro e u1 ⟨rfl, hN⟩
          have hB2 := hN
          clear kQ hN
          have HH : Hid (ChL.Two _ _ _ _ _ _ _ _ _) := hB2
          have HLA : Hid ((Ch.sendE a).sent.length ≤ k + 1 ∧ (b).sent.length ≤ k + 1) := ⟨by show (Ch.sendE a).sent.length ≤ _; unfold Ch.sendE; rw [List.length_append, List.length_singleton]; omega, by omega⟩
          clear hB2
          go_wp2_with fail
          go_roundw
          case rel => exact ⟨k + 1, by omega, by go_num, _, _, HH.out, HLA.out.1, HLA.out.2⟩
          case measure => simp [intOf]; omega
        · by_cases hx2 : x = 2
          · subst hx2
            have kQ := ChL.send_two hB.symm (by omega)
            go_wp2_with fail
            refine kQ.mono ?_
            rintro e u1 ⟨rfl, hN⟩
            have hB2 := hN.symm
            clear kQ hN
            have HH : Hid (ChL.Two _ _ _ _ _ _ _ _ _) := hB2
            have HLA : Hid ((a).sent.length ≤ k + 1 ∧ (Ch.sendE b).sent.length ≤ k + 1) := ⟨by omega, by show (Ch.sendE b).sent.length ≤ _; unfold Ch.sendE; rw [List.length_append, List.length_singleton]; omega⟩
            clear hB2
            go_wp2_with fail
            go_roundw
            case rel => exact ⟨k + 1, by omega, by go_num, _, _, HH.out, HLA.out.1, HLA.out.2⟩
            case measure => simp [intOf]; omega
          · by_cases hx3 : x = 3
            · subst hx3
              have kQ := ChL.take_two hB.symm n (by omega)
              go_wp2_with fail
              refine kQ.mono ?_
              rintro e u1 ⟨rfl, a1, b1, hN, hs1, hs2, _⟩
              have hB2 := hN.symm
              rw [← hs1] at hlb
              rw [← hs2] at hla
              clear kQ hN hs1 hs2
              have HH : Hid (ChL.Two _ _ _ _ _ _ _ _ _) := hB2
              have HLA : Hid ((b1).sent.length ≤ k + 1 ∧ (a1).sent.length ≤ k + 1) := ⟨by omega, by omega⟩
              clear hB2
              go_wp2_with fail
              go_roundw
              case rel => exact ⟨k + 1, by omega, by go_num, _, _, HH.out, HLA.out.1, HLA.out.2⟩
              case measure => simp [intOf]; omega
            · by_cases hx4 : x = 4
              · subst hx4
                have kQ := ChL.take_two hB n (by omega)
                go_wp2_with fail
                refine kQ.mono ?_
                rintro e u1 ⟨rfl, a1, b1, hN, hs1, hs2, _⟩
                have hB2 := hN
                rw [← hs1] at hla
                rw [← hs2] at hlb
                clear kQ hN hs1 hs2
                have HH : Hid (ChL.Two _ _ _ _ _ _ _ _ _) := hB2
                have HLA : Hid ((a1).sent.length ≤ k + 1 ∧ (b1).sent.length ≤ k + 1) := ⟨by omega, by omega⟩
                clear hB2
                go_wp2_with fail
                go_roundw
                case rel => exact ⟨k + 1, by omega, by go_num, _, _, HH.out, HLA.out.1, HLA.out.2⟩
                case measure => simp [intOf]; omega
              · have HH : Hid (ChL.Two _ _ _ _ _ _ _ _ _) := hB
                have HLA : Hid ((a).sent.length ≤ k + 1 ∧ (b).sent.length ≤ k + 1) := ⟨by omega, by omega⟩
                clear hB
                go_wp2_with fail
                go_roundw
                case rel => exact ⟨k + 1, by omega, by go_num, _, _, HH.out, HLA.out.1, HLA.out.2⟩
                case measure => simp [intOf]; omega
      · obtain ⟨hPl, _, _, oa1, ca1, p1⟩ := hB.cells
        obtain ⟨hQl, _, _, oa2, ca2, q1⟩ := hB.symm.cells
        have hla2 : a.sent.length ≤ 200 := by omega
        have hlb2 : b.sent.length ≤ 200 := by omega
        have hC0 := Ch.Calm.start hB.i hB.j
        obtain ⟨fa, hfa⟩ : ∃ n, n = a.sent.length := ⟨_, rfl⟩
        obtain ⟨fb, hfb⟩ : ∃ n, n = b.sent.length := ⟨_, rfl⟩
        rw [← hfa] at p1 hC0
        rw [← hfb] at q1 hC0
        have HFA : Hid (fa = a.sent.length ∧ fb = b.sent.length) := ⟨hfa, hfb⟩
        obtain ⟨E, hBE0, hBE, hEb⟩ := hB.base (.cells #[.int .i64 (fa : Int), .int .i64 (fb : Int)] 83)
        have hT1 : Turned [] w wr := HT0.trans hB.t (by simp)
        have hu0 := HT0.size
        replace hEb : ∀ k ∈ E, w.heap.size ≤ k := fun k hk => (hEb k hk).elim (fun h => by simp at h) (fun h => by omega)
        clear hfa hfb hB
        go_wp2_with fail
        go_region
        go_wp2_with fail
        obtain ⟨W2, hW2⟩ : ∃ W, W = wr.alloc (.cells #[.int .i64 (fa : Int), .int .i64 (fb : Int)] 83) := ⟨_, rfl⟩
        rw [← hW2] at hBE0
        have hS : Struct wr.heap.size [.int .i64 (fa : Int), .int .i64 (fb : Int)] W2 := by rw [hW2]; exact Struct.new wr [_, _] _
        have hT2 : Turned [] w W2 := by rw [hW2]; exact hT1.alloc _
        have hBd := hBE0.keep (Turned.refl [] W2).drew
        rw [← hW2]
        obtain ⟨B, hBB⟩ : ∃ b, b = wr.heap.size := ⟨_, rfl⟩
        rw [← hBB] at hS hBE
        rw [← hBB]
        clear hW2 hBB hBE0 p1 q1 hPl hQl hT1
        go_loopw [9] (fun i wr => ∃ j : Nat, (j : Int) ≤ 3 + (A : Int) % 20 ∧ i = .int .i64 (j : Int) ∧ ∃ a b, ChL.Two W2 E P C Q D a b wr ∧ Ch.Calm fa fb a b ∧ a.sent.length ≤ 200 + j ∧ b.sent.length ≤ 200 + j ∧ fa ≤ a.sent.length ∧ fb ≤ b.sent.length) (fun i _ => 23 - (intOf i).toNat)
        case atStart => exact ⟨0, by omega, rfl, _, _, hBd, hC0, by omega, by omega, by have := HFA.out; omega, by have := HFA.out; omega⟩
        case round =>
          clear hBd HFA hla2 hlb2 hla hlb
          clear hC0
          obtain ⟨j, hj, rfl, a, b, hB, hC, hla, hlb, hfa1, hfb1⟩ := hrel
          by_cases hlt : (j : Int) < 3 + (A : Int) % 20
          · obtain ⟨f1, f2, hC2, _, _⟩ := hC.pair (by omega) (by omega)
            have HC2 : Hid (Ch.Calm _ _ _ _) := hC2
            have HC : Hid (Ch.Calm _ _ _ _) := hC
            clear hC2 hC
            have kQ := ChL.send_two hB (by omega)
            go_wp2_with fail
            refine kQ.mono ?_
            rintro e u1 ⟨rfl, h1⟩
            clear kQ hB
            obtain ⟨hPl, _, _, oa1, ca1, p1⟩ := h1.cells
            rw [ChL.sent_len] at p1
            go_wp2_with fail
            refine (ChL.take_two h1.symm _ (by rw [ChL.sent_len]; omega)).mono ?_
            rintro e u2 ⟨rfl, b1, a1, h2, _, _, hx⟩
            obtain ⟨rfl, rfl⟩ := hx a.sent.length (Ch.head a.s) (by omega) (Ch.get_new _ _) f1
            clear hx f1 h1 p1 hPl
            have kQ := ChL.send_two h2 (by show b.sent.length < 1000; omega)
            go_wp2_with fail
            refine kQ.mono ?_
            rintro e u3 ⟨rfl, h3⟩
            clear kQ h2
            obtain ⟨hQl, _, _, oa2, ca2, q1⟩ := h3.cells
            rw [ChL.sent_len] at q1
            replace q1 : u3.cell? ⟨Q, 1, none⟩ = some (.slice oa2 (b.sent.length + 1) ca2) := q1
            go_wp2_with fail
            refine (ChL.take_two h3.symm _ (by rw [ChL.sent_len]; show b.sent.length + 1 ≤ 1000; omega)).mono ?_
            rintro e u4 ⟨rfl, a2, b2, h4, _, _, hy⟩
            obtain ⟨rfl, rfl⟩ := hy b.sent.length (Ch.head (Ch.mid a b).s) (by omega) (Ch.get_new (Ch.mid a b).sent _) f2
            clear hy f2 h3 q1 hQl
            have HB : Hid (ChL.Two W2 E P C Q D (Ch.pairA a b) (Ch.pairB a b) u4) := h4
            clear h4
            go_wp2_with fail
            go_roundw
            case rel => exact ⟨j + 1, by omega, by go_num, _, _, HB.out, HC2.out, by rw [ChL.pairA_len]; omega, by rw [ChL.pairB_len]; omega, by rw [ChL.pairA_len]; omega, by rw [ChL.pairB_len]; omega⟩
            case measure => simp [intOf]; omega
          · have hSr := hS.keep hB.t hBE
            obtain ⟨n0, _⟩ := hSr.2 0 _ rfl
            obtain ⟨n1, _⟩ := hSr.2 1 _ rfl
            obtain ⟨hPl, _, _, oa1, ca1, p1⟩ := hB.cells
            obtain ⟨hQl, _, _, oa2, ca2, q1⟩ := hB.symm.cells
            obtain ⟨ob1, cb1, p2, hp2⟩ := hB.acks
            obtain ⟨ob2, cb2, q2, hq2⟩ := hB.symm.acks
            have HP : Hid (∀ k, k < a.sent.length → ∃ g, ob1 = some ⟨g, 0, none⟩ ∧ wr.cell? ⟨g, k, none⟩ = some (.bool (Ch.on a.ack k))) := hp2
            have HQ : Hid (∀ k, k < b.sent.length → ∃ g, ob2 = some ⟨g, 0, none⟩ ∧ wr.cell? ⟨g, k, none⟩ = some (.bool (Ch.on b.ack k))) := hq2
            have HFin : Hid (Below w.heap.size w wr) := (hT2.trans hB.t (fun k hk hl => by have := hEb k hk; omega)).none
            have HC : Hid (Ch.Calm _ _ _ _) := hC
            clear hB hC hp2 hq2 hSr hS hT2
            go_wp2_with fail
            go_loopw [10] (fun i w3 => ∃ k : Nat, fa ≤ k ∧ k ≤ a.sent.length ∧ i = .int .i64 (k : Int) ∧ w3 = wr) (fun i _ => a.sent.length - (intOf i).toNat)
            case atStart => exact ⟨fa, Nat.le_refl _, hfa1, rfl, rfl⟩
            case round =>
              obtain ⟨k, hk1, hk2, rfl, hw3⟩ := hrel
              subst hw3
              by_cases hlt3 : (k : Int) < (a.sent.length : Int)
              · obtain ⟨g3, hg3, c3⟩ := HP.out k (by omega)
                rw [HC.out.ca k hk1 (by omega)] at c3
                rw [hg3] at p2
                clear hg3
                go_wp2_with fail
                go_roundw
                case rel => exact ⟨k + 1, by omega, by omega, by go_num, by first | trivial | rfl⟩
                case measure => simp [intOf]; omega
              · clear hk1 hk2
                go_wp2_with fail
                go_loopw [11] (fun i w4 => ∃ k : Nat, fb ≤ k ∧ k ≤ b.sent.length ∧ i = .int .i64 (k : Int) ∧ w4 = wr) (fun i _ => b.sent.length - (intOf i).toNat)
                case atStart => exact ⟨fb, Nat.le_refl _, hfb1, rfl, rfl⟩
                case round =>
                  obtain ⟨k', hk1, hk2, rfl, hw4⟩ := hrel
                  subst hw4
                  by_cases hlt4 : (k' : Int) < (b.sent.length : Int) - 1
                  · obtain ⟨g4, hg4, c4⟩ := HQ.out k' (by omega)
                    rw [HC.out.cb k' hk1 (by omega)] at c4
                    rw [hg4] at q2
                    clear hg4
                    go_wp2_with fail
                    go_roundw
                    case rel => exact ⟨k' + 1, by omega, by omega, by go_num, by first | trivial | rfl⟩
                    case measure => simp [intOf]; omega
                  · go_wp2_with fail
                    go_ret
                    exact ⟨rfl, HFin.out⟩
  · have hbig : 200 < (a0_n : Int) := by omega
    have HT0 : Turned [] w w := Turned.refl _ _
    go_enter Try.func7, Try.ntmps7
    go_wp2_with (go_at_call 8; (with_reducible refine (ChL.awake_any _).mono ?_); rintro e u0 ⟨rfl, HT1⟩; have HT0 := HT0.trans HT1 (by simp))
    go_ret
    exact ⟨rfl, HT0.none⟩

set_option maxRecDepth 100000 in
theorem lifted (os : Os) (started : os.Started) (H : Type) (enc : TypeId × Value → H) :
    ReturnsInHanded {} Try.checked os 7 .any (Rows.channelCalmSpec.pre6 enc Try.prog Try.f7 Rows.channelCalmRow.domain false) (Rows.channelCalmSpec.post enc Try.prog Try.f7 false true false false) := by
  refine returnsInHanded_of_change (C := Try.checked) own started (by kernel_rfl) Try.func7
    (ChangeSpec.witness6 (enc := enc) (C := Try.checked) false ⟨#[], #[.slice none 0 0, .int .u8 0], []⟩ 8 (by kernel_rfl) (by kernel_rfl) (by kernel_rfl) (by kernel_rfl)) ?_
  intro W base args ds gs before hval0 hW hcnd _
  have hval : ∀ (j : Nat) t v, Try.f7.params[j]? = some t → args[j]? = some v → Value.okWide Try.prog W .any base t v := hval0
  have hW' := hW
  obtain ⟨p, q, hA0, hV, rfl, hfz, hnd⟩ := hW
  have hA : DataW.TrodAll enc Try.prog W 0 (fun _ => true) true Try.f7.params.toList args.toList ds p := hA0
  rw [Try.params7] at hA hval
  obtain ⟨v0, vs0, d0, ds0, p0, q0, hargs, rfl, rfl, h0, r0⟩ := trodAll_cons hA
  obtain ⟨v1, vs1, d1, ds1, p1, q1, rfl, rfl, rfl, h1, r1⟩ := trodAll_cons r0
  obtain ⟨rfl, rfl, rfl⟩ := trodAll_nil r1
  obtain rfl : args = #[v0, v1] := by cases args; simp_all
  obtain ⟨rfl, rfl⟩ := trodVars_none hV
  have k0 := h0
  have lt0 : ∀ x ∈ p0, x.block < W.heap.size := by obtain ⟨m, hm⟩ := k0; exact DataW.trod_lt m _ _ _ hm
  have k1 := h1
  have lt1 : ∀ x ∈ p1, x.block < W.heap.size := by obtain ⟨m, hm⟩ := k1; exact DataW.trod_lt m _ _ _ hm
  obtain ⟨a0_o, a0_n, a0_c, a0_l, rfl, w0_m, w0_l, w0_e, w0, w0_k⟩ := open_flats (d := 8) (ks := [.int .i64, .int .i64]) paEnc Try.underlying73 (by kernel_rfl) (by kernel_rfl) (by decide) paEnc_of (hval 0 73 v0 rfl rfl) h0
  obtain ⟨a1, rfl, _, _, w1⟩ := open_int Try.underlying5 (hval 1 5 v1 rfl rfl) h1
  clear hA0 hval0
  refine (walk a0_o a0_n a0_c a0_l a1 w0_m w0_l w0_e w0_k w1 W w0).mono fun e W' ⟨he, bel⟩ => ?_
  subst he
  exact ⟨_, rfl, _, _, _, [], _, [], hW', trodAll_mk1 (shut_bool Try.underlying4 _), (trodAll_cons_mk (Below.trod laidOut (by kernel_rfl) (of_decide_eq_true (by kernel_rfl)) k0 bel lt0) (trodAll_cons_mk (Below.trod laidOut (by kernel_rfl) (of_decide_eq_true (by kernel_rfl)) k1 bel lt1) trodAll_mk0)), rfl, bel.frame _, fun h => by cases h⟩

theorem over : Rows.channelCalmRow.holds Try.pinned (OpenSpec.ofChange Rows.channelCalmSpec) :=
  OpenClaim.holds_of_wide 7 Try.f7 rfl rfl rfl rfl rfl rfl rfl ⟨rfl, rfl, rfl, rfl, rfl⟩ rfl rfl rfl rfl rfl (by kernel_rfl) Try.func7 (by kernel_rfl)
    (of_decide_eq_true (by kernel_rfl)) (by unfold Func.isWrapper; first | (rw [if_pos (by decide +kernel)]; kernel_rfl) | (rw [if_neg (by decide +kernel)]; exact ⟨rfl, rfl⟩))
    (fun os started H enc _ => lifted os started H enc)

theorem proved : Rows.ChannelCalmSaid :=
  over
#print axioms proved
end Go.Proofs.Ytloobijdpchppaa.channelCalm

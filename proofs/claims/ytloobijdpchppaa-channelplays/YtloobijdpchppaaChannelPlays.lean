/- Whatever is sent and taken, whatever headers come, is answered as the chapter says. -/
import Derived.Test.YtloobijdpchppaaRows
import Derived.Test.YtloobijdpchppaaChLaw3
import Derived.WalkKit
import Derived.ProofKit
import Derived.OpenShut
import Derived.ChangeOld
import Derived.Below
import Derived.WalkSmall
import Derived.Lib.SmallJoins
import Derived.Laws.IdiomArrays
namespace Go.Proofs.Ytloobijdpchppaa.channelPlays
open Go.ChangeShapes Go.WideShapes Go.ChangeAt Go.RowKit
set_option linter.unusedVariables false

theorem own : ownKnob Try.prog.godebug = none := by kernel_rfl
theorem laidOut : laidOutB Try.prog = true := by kernel_rfl

set_option linter.unusedSimpArgs false in
set_option maxRecDepth 20000 in
set_option maxHeartbeats 8000000 in
theorem walk (a0_o : Option Addr) (a0_n a0_c : Nat) (a0_l : List (Int × Ch.H)) (w0_m : a0_n ≤ maxLen) (w0_l : a0_n ≤ a0_c) (w0_e : a0_l.length = a0_n) (w0_k : ∀ a ∈ a0_l, AllOk [.int .i64, .int .u16, .bool, .int .u16, .int .u32] (coEnc a)) (w : World) (w0 : RowOf 5 coEnc a0_o a0_l w) :
    Calls Try.prog 3 #[.slice a0_o a0_n a0_c] w fun e w' => e = .returned (.bool true) ∧ Below w.heap.size w w' := by
  unfold maxLen at w0_m
  have hreq := rhd_eql
  have hweq := rwin_eql
  by_cases h300 : (a0_n : Int) ≤ 300
  · have h300' : ¬ 300 < (a0_n : Int) := by omega
    go_enter Try.func3, Try.ntmps3
    go_wp2_with (go_at_call 8; (with_reducible refine (ChL.awake_any _).mono ?_); rintro e u0 ⟨rfl, HT0⟩)
    have hb0 := ChL.Both.start u0 31 36
    obtain ⟨W1, hW1⟩ : ∃ W, W = (u0.alloc (.cells #[.int .u16 0, .bool false, .int .u16 0, .int .u32 0, .slice none 0 0] 31)).alloc (.cells #[.int .i64 0, .bool false, .int .u16 0, .int .u32 0, .slice none 0 0] 36) := ⟨_, rfl⟩
    obtain ⟨C, hC⟩ : ∃ b, b = u0.heap.size := ⟨_, rfl⟩
    obtain ⟨R, hR⟩ : ∃ b, b = u0.heap.size + 1 := ⟨_, rfl⟩
    rw [← hW1, ← hR, ← hC] at hb0
    rw [← hW1, ← hR, ← hC]
    clear hW1 hC hR
    generalize decide (300 < (a0_n : Int)) = q
    go_loopw [5] (fun i wr => ∃ k : Nat, k ≤ a0_n ∧ i = .int .i64 (k : Int) ∧ ∃ F s f v, ChL.Both u0 C R F s f v wr ∧ f.length ≤ k) (fun i _ => a0_n - (intOf i).toNat)
    case atStart => exact ⟨0, by omega, rfl, _, _, _, _, hb0, by simp⟩
    case round =>
      clear hb0
      obtain ⟨k, hk, rfl, F, s, f, v, hB, hfk⟩ := hrel
      by_cases hlt : (k : Int) < (a0_n : Int)
      · obtain ⟨⟨x, c⟩, hx⟩ : ∃ a, a0_l[k]? = some a := ⟨_, List.getElem?_eq_getElem (by omega)⟩
        have hcw := co_ok w0_k hx
        obtain ⟨g, off, rfl, hg, p0, p1, p2, p3, p4⟩ := co_at (w0.keep HT0.none) hx
        have hgl := Nat.lt_of_lt_of_le hg hB.t.size
        replace p0 := (hB.t.cell (p := ⟨g, off + k * 5, none⟩) hg (by simp)).trans p0
        replace p1 := (hB.t.cell (p := ⟨g, off + k * 5 + 1, none⟩) hg (by simp)).trans p1
        replace p2 := (hB.t.cell (p := ⟨g, off + k * 5 + 2, none⟩) hg (by simp)).trans p2
        replace p3 := (hB.t.cell (p := ⟨g, off + k * 5 + 3, none⟩) hg (by simp)).trans p3
        replace p4 := (hB.t.cell (p := ⟨g, off + k * 5 + 4, none⟩) hg (by simp)).trans p4
        clear hx w0
        by_cases hx1 : x = 1
        · subst hx1
          have kP := ChW.send_any C F s wr hB.c hB.wf
          have kQ := fun (u : World) (F1 : List Nat) (hm : Moved F F1 wr u) => ChR.send_any R s.y s.l s.m f v u (hB.mid hm) (by omega)
          rw [hB.x] at kP
          have HL : Hid ((Ch.keep (f ++ [true])).length ≤ k + 1) := by show _ ≤ _; rw [Ch.keep_len, List.length_append, List.length_singleton]; omega
          go_wp2_with (first
            | (go_at_call 9; (with_reducible refine kP.mono ?_); rintro e u1 ⟨rfl, F1, hc1, hm1⟩)
            | (go_at_call 10; (with_reducible refine (kQ u1 F1 hm1).mono ?_); rintro e u2 ⟨rfl, v2, hr2, hm2⟩))
          have hB2 := hB.send hc1 hm1 hr2 hm2 (by omega)
          have hL := HL.out
          clear HL kP kQ hc1 hm1 hr2 hm2
          have hl64 := hB2.wf.o1
          have hfl : (Ch.keep (f ++ [true])).length ≤ 65536 := by omega
          have hso := hB2.o
          have kO : ∀ (u : World), Turned [] u2 u → Calls Try.prog 14 #[.pointer (some ⟨C, 0, none⟩)] u fun e w' => ∃ v', e = .returned v' ∧ NumsAt v' (Ch.send s).o w' ∧ Turned [] u w' := fun u h => (ChW.open_any C F1 (Ch.send s) u (hB2.c.keep h (by simp)) hl64).mono fun e w' ⟨v', h1, h2, h3, _⟩ => ⟨v', h1, h2, h3⟩
          have kR : ∀ (u : World), Turned [] u2 u → Calls Try.prog 15 #[.pointer (some ⟨R, 0, none⟩)] u fun e w' => ∃ v', e = .returned v' ∧ NumsAt v' (Ch.send s).o w' ∧ Turned [] u w' := fun u h => (ChR.open_any R _ _ _ (Ch.keep (f ++ [true])) v2 u (hB2.r.keep h (by simp)) hfl).mono fun e w' ⟨v', h1, h2, h3, _⟩ => ⟨v', h1, by rw [hso]; exact h2, h3⟩
          have kS : ∀ (oa ob : Option Addr) (ca cb : Nat) (u : World), RowOf 1 nEnc oa (Ch.send s).o u → RowOf 1 nEnc ob (Ch.send s).o u → Calls Try.prog 13 #[.slice oa (Ch.send s).o.length ca, .slice ob (Ch.send s).o.length cb] u fun e w' => e = .returned (.bool true) ∧ Turned [] u w' := fun oa ob ca cb u h1 h2 => (ChR.same_any oa ob ca cb (Ch.send s).o (Ch.send s).o u h1 h2 (by omega) (by omega)).mono fun e w' h => ⟨by rw [h.1, decide_eq_true rfl], h.2⟩
          have kW : ∀ (u : World), Turned [] u2 u → Calls Try.prog 16 #[.pointer (some ⟨C, 0, none⟩)] u fun e w' => e = .returned (.agg #[.bool (Ch.send s).y, .int .u16 (Ch.send s).l, .int .u32 (Ch.send s).m]) ∧ Turned [] u w' := fun u h => (ChW.window_any C F1 (Ch.send s) u (hB2.c.keep h (by simp))).mono fun e w' h => ⟨h.1, Turned.ofBelow h.2⟩
          have HBH : Hid (ChL.Both _ _ _ _ _ _ _ _) := hB2
          have hq := fun (u : World) (h : Turned [] u2 u) => (hB2.r.keep h (by simp)).1
          have HT : Turned [] u2 u2.drew := (Turned.refl [] u2).drew
          obtain ⟨sy, hsy⟩ : ∃ z, z = (Ch.send s).y := ⟨_, rfl⟩
          obtain ⟨sl, hsl⟩ : ∃ z, z = (Ch.send s).l := ⟨_, rfl⟩
          obtain ⟨sm, hsm⟩ : ∃ z, z = (Ch.send s).m := ⟨_, rfl⟩
          obtain ⟨sn, hsn⟩ : ∃ z, z = (Ch.send s).o.length := ⟨_, rfl⟩
          rw [← hsy, ← hsl, ← hsm] at kW
          rw [← hsy, ← hsl, ← hsm] at hq
          rw [← hsn] at kS
          have HSN : Hid (sn = _) := hsn
          clear hsy hsl hsm hsn hl64 hso
          go_region_with (first
            | (go_at_call 14; (with_reducible refine (kO _ HT).mono ?_); rintro e u71 ⟨v71, rfl, ho1, ht1⟩; obtain ⟨oa1, ca1, rfl, hr1, _⟩ := ho1.row; rw [← HSN.out]; have HT := HT.trans ht1 (by simp); clear ho1 ht1)
            | (go_at_call 15; (with_reducible refine (kR _ HT).mono ?_); rintro e u72 ⟨v72, rfl, ho2, ht2⟩; obtain ⟨oa2, ca2, rfl, hr2, _⟩ := ho2.row; rw [← HSN.out]; have hr1 := RowOf.turned hr1 ht2 (by simp); have HT := HT.trans ht2 (by simp); clear ho2 ht2)
            | (go_at_call 13; (with_reducible refine (kS _ _ _ _ _ hr1 hr2).mono ?_); rintro e u73 ⟨rfl, ht3⟩; have HT := HT.trans ht3 (by simp); have hq3 := hq _ HT; have q1 := (hq3.2 1 _ rfl).1; have q2 := (hq3.2 2 _ rfl).1; have q3 := (hq3.2 3 _ rfl).1; clear ht3 hq3)
            | (go_at_call 16; (with_reducible refine (kW _ HT).mono ?_); rintro e u74 ⟨rfl, ht4⟩; have HT := HT.trans ht4 (by simp); have hq4 := hq _ HT; have g1 := (hq4.2 1 _ rfl).1; have g2 := (hq4.2 2 _ rfl).1; have g3 := (hq4.2 3 _ rfl).1; clear ht4 hq4))
          all_goals
            go_wp2_with fail
            go_roundw
            case rel => exact ⟨k + 1, by omega, by go_num, _, _, _, _, HBH.out.keep HT, by omega⟩
            case measure => simp [intOf]; omega
        · by_cases hx2 : x = 2
          · subst hx2
            clear hx1
            have hcell : ∀ u, Turned F wr u → u.cell? ⟨g, off + k * 5 + 1, none⟩ = some (.int .u16 c.n) ∧ u.cell? ⟨g, off + k * 5 + 2, none⟩ = some (.bool c.y) ∧ u.cell? ⟨g, off + k * 5 + 3, none⟩ = some (.int .u16 c.a) ∧ u.cell? ⟨g, off + k * 5 + 4, none⟩ = some (.int .u32 c.m) := by
              intro u h
              have hgF : g ∉ F := fun hm => by have := hB.gF g hm; omega
              have hgl := Nat.lt_of_lt_of_le hg hB.t.size
              exact ⟨(h.cell (p := ⟨g, off + k * 5 + 1, none⟩) hgl hgF).trans p1, (h.cell (p := ⟨g, off + k * 5 + 2, none⟩) hgl hgF).trans p2, (h.cell (p := ⟨g, off + k * 5 + 3, none⟩) hgl hgF).trans p3, (h.cell (p := ⟨g, off + k * 5 + 4, none⟩) hgl hgF).trans p4⟩
            have hlw := hB.wf
            have hxx := hB.x
            cases hfr : Ch.fresh s c
            · have kP := ChW.take_old C F s c wr hB.c hB.wf hcw hfr
              have kQ := fun (u : World) (h : Turned [] wr u) => ChR.take_old R s.y s.l s.m f v c u (hB.r.keep h (by simp)) hcw hlw.l0 hlw.l1 hlw.m0 hlw.m1 hfr
              have kZ : ∀ (u : World), Calls Try.prog 13 #[.slice none 0 0, .slice none 0 0] u fun e w' => e = .returned (.bool true) ∧ Turned [] u w' := fun u => ChR.same_any none none 0 0 [] [] u (fun i a hi => by cases hi) (fun i a hi => by cases hi) (by simp) (by simp)
              have HT1 : Turned [] wr wr := Turned.refl _ _
              go_wp2_with (first
                | (go_at_call 11; (with_reducible refine kP.mono ?_); rintro e u1 ⟨rfl, hm1⟩; have HT1 := HT1.trans hm1 (by simp); obtain ⟨d1, d2, d3, d4⟩ := hcell u1 (hm1.mono (by simp)))
                | (go_at_call 12; (with_reducible refine (kQ _ HT1).mono ?_); rintro e u2 ⟨rfl, hm2⟩; have HT1 := HT1.trans hm2 (by simp))
                | (go_at_call 13; (with_reducible refine (kZ _).mono ?_); rintro e u3 ⟨rfl, hm3⟩; have HT1 := HT1.trans hm3 (by simp)))
              have hB2 := hB.keep HT1
              clear kP kQ kZ hcell
              have hl64 := hB2.wf.o1
              have hfl : (f).length ≤ 65536 := by omega
              have hso := hB2.o
              have kO : ∀ (u : World), Turned [] u3 u → Calls Try.prog 14 #[.pointer (some ⟨C, 0, none⟩)] u fun e w' => ∃ v', e = .returned v' ∧ NumsAt v' (s).o w' ∧ Turned [] u w' := fun u h => (ChW.open_any C F (s) u (hB2.c.keep h (by simp)) hl64).mono fun e w' ⟨v', h1, h2, h3, _⟩ => ⟨v', h1, h2, h3⟩
              have kR : ∀ (u : World), Turned [] u3 u → Calls Try.prog 15 #[.pointer (some ⟨R, 0, none⟩)] u fun e w' => ∃ v', e = .returned v' ∧ NumsAt v' (s).o w' ∧ Turned [] u w' := fun u h => (ChR.open_any R _ _ _ (f) v u (hB2.r.keep h (by simp)) hfl).mono fun e w' ⟨v', h1, h2, h3, _⟩ => ⟨v', h1, by rw [hso]; exact h2, h3⟩
              have kS : ∀ (oa ob : Option Addr) (ca cb : Nat) (u : World), RowOf 1 nEnc oa (s).o u → RowOf 1 nEnc ob (s).o u → Calls Try.prog 13 #[.slice oa (s).o.length ca, .slice ob (s).o.length cb] u fun e w' => e = .returned (.bool true) ∧ Turned [] u w' := fun oa ob ca cb u h1 h2 => (ChR.same_any oa ob ca cb (s).o (s).o u h1 h2 (by omega) (by omega)).mono fun e w' h => ⟨by rw [h.1, decide_eq_true rfl], h.2⟩
              have kW : ∀ (u : World), Turned [] u3 u → Calls Try.prog 16 #[.pointer (some ⟨C, 0, none⟩)] u fun e w' => e = .returned (.agg #[.bool (s).y, .int .u16 (s).l, .int .u32 (s).m]) ∧ Turned [] u w' := fun u h => (ChW.window_any C F (s) u (hB2.c.keep h (by simp))).mono fun e w' h => ⟨h.1, Turned.ofBelow h.2⟩
              have HBH : Hid (ChL.Both _ _ _ _ _ _ _ _) := hB2
              have hq := fun (u : World) (h : Turned [] u3 u) => (hB2.r.keep h (by simp)).1
              have HT : Turned [] u3 u3.drew := (Turned.refl [] u3).drew
              obtain ⟨sy, hsy⟩ : ∃ z, z = (s).y := ⟨_, rfl⟩
              obtain ⟨sl, hsl⟩ : ∃ z, z = (s).l := ⟨_, rfl⟩
              obtain ⟨sm, hsm⟩ : ∃ z, z = (s).m := ⟨_, rfl⟩
              obtain ⟨sn, hsn⟩ : ∃ z, z = (s).o.length := ⟨_, rfl⟩
              rw [← hsy, ← hsl, ← hsm] at kW
              rw [← hsy, ← hsl, ← hsm] at hq
              rw [← hsn] at kS
              have HSN : Hid (sn = _) := hsn
              clear hsy hsl hsm hsn hl64 hso
              go_region_with (first
                | (go_at_call 14; (with_reducible refine (kO _ HT).mono ?_); rintro e u71 ⟨v71, rfl, ho1, ht1⟩; obtain ⟨oa1, ca1, rfl, hr1, _⟩ := ho1.row; rw [← HSN.out]; have HT := HT.trans ht1 (by simp); clear ho1 ht1)
                | (go_at_call 15; (with_reducible refine (kR _ HT).mono ?_); rintro e u72 ⟨v72, rfl, ho2, ht2⟩; obtain ⟨oa2, ca2, rfl, hr2, _⟩ := ho2.row; rw [← HSN.out]; have hr1 := RowOf.turned hr1 ht2 (by simp); have HT := HT.trans ht2 (by simp); clear ho2 ht2)
                | (go_at_call 13; (with_reducible refine (kS _ _ _ _ _ hr1 hr2).mono ?_); rintro e u73 ⟨rfl, ht3⟩; have HT := HT.trans ht3 (by simp); have hq3 := hq _ HT; have q1 := (hq3.2 1 _ rfl).1; have q2 := (hq3.2 2 _ rfl).1; have q3 := (hq3.2 3 _ rfl).1; clear ht3 hq3)
                | (go_at_call 16; (with_reducible refine (kW _ HT).mono ?_); rintro e u74 ⟨rfl, ht4⟩; have HT := HT.trans ht4 (by simp); have hq4 := hq _ HT; have g1 := (hq4.2 1 _ rfl).1; have g2 := (hq4.2 2 _ rfl).1; have g3 := (hq4.2 3 _ rfl).1; clear ht4 hq4))
              all_goals
                go_wp2_with fail
                go_roundw
                case rel => exact ⟨k + 1, by omega, by go_num, _, _, _, _, HBH.out.keep HT, by omega⟩
                case measure => simp [intOf]; omega
            · have kP := ChW.take_new C F s c wr hB.c hB.wf hcw hfr
              have kQ := fun (u : World) (F1 : List Nat) (hm : Moved F F1 wr u) => ChR.take_new R s.y s.l s.m f v c u (hB.mid hm) hcw (by omega) hlw.l0 hlw.l1 hlw.m0 hlw.m1 hfr
              have hac : (Ch.nums 0 f).filter (Ch.knows c) = Ch.acked s c := by show _ = s.o.filter _; rw [hB.o]
              have hll : (Ch.acked s c).length ≤ 64 := Nat.le_trans (List.length_filter_le _ _) hlw.o1
              have hll2 : ((Ch.nums 0 f).filter (Ch.knows c)).length ≤ 64 := by rw [hac]; exact hll
              have HLT := hB.lt
              have kZ : ∀ (oa ob : Option Addr) (ca cb : Nat) (u : World), RowOf 1 nEnc oa (Ch.acked s c) u → RowOf 1 nEnc ob (Ch.acked s c) u → Calls Try.prog 13 #[.slice oa (Ch.acked s c).length ca, .slice ob (Ch.acked s c).length cb] u fun e w' => e = .returned (.bool true) ∧ Turned [] u w' := fun oa ob ca cb u h1 h2 => (ChR.same_any oa ob ca cb _ _ u h1 h2 (by omega) (by omega)).mono fun e w' h => ⟨by rw [h.1, decide_eq_true rfl], h.2⟩
              rw [hac] at kQ
              obtain ⟨an, han⟩ : ∃ z, z = (Ch.acked s c).length := ⟨_, rfl⟩
              rw [← han] at kZ
              have HAN : Hid (an = _) := han
              have HL : Hid ((Ch.acks c 0 f).length ≤ k + 1) := by show _ ≤ _; rw [Ch.acks_len]; omega
              clear han hac hll hll2
              go_wp2_with (first
                | (go_at_call 11; (with_reducible refine kP.mono ?_); rintro e u1 ⟨va1, F1, rfl, hn1, hb1, hc1, hm1⟩; obtain ⟨oa1, ca1, rfl, hr1, hd1⟩ := hn1.row; rw [← HAN.out]; obtain ⟨d1, d2, d3, d4⟩ := hcell u1 hm1.1)
                | (go_at_call 12; (with_reducible refine (kQ u1 F1 hm1).mono ?_); rintro e u2 ⟨va2, rfl, hn2, hb2, hR2, hm2⟩; obtain ⟨oa2, ca2, rfl, hr2, hd2⟩ := hn2.row; rw [← HAN.out]; have hr1 := RowOf.turned hr1 hm2 (ChL.row_apart HLT hb1 hn1))
                | (go_at_call 13; (with_reducible refine (kZ _ _ _ _ _ hr1 hr2).mono ?_); rintro e u3 ⟨rfl, hm3⟩))
              have hB2 := (hB.took hcw hc1 hm1 hR2 hm2).keep hm3
              have hL := HL.out
              clear HL kP kQ kZ hcell hc1 hm1 hR2 hm2 hm3 hr1 hr2 hn1 hn2
              have hl64 := hB2.wf.o1
              have hfl : (Ch.acks c 0 f).length ≤ 65536 := by omega
              have hso := hB2.o
              have kO : ∀ (u : World), Turned [] u3 u → Calls Try.prog 14 #[.pointer (some ⟨C, 0, none⟩)] u fun e w' => ∃ v', e = .returned v' ∧ NumsAt v' (Ch.took s c).o w' ∧ Turned [] u w' := fun u h => (ChW.open_any C F1 (Ch.took s c) u (hB2.c.keep h (by simp)) hl64).mono fun e w' ⟨v', h1, h2, h3, _⟩ => ⟨v', h1, h2, h3⟩
              have kR : ∀ (u : World), Turned [] u3 u → Calls Try.prog 15 #[.pointer (some ⟨R, 0, none⟩)] u fun e w' => ∃ v', e = .returned v' ∧ NumsAt v' (Ch.took s c).o w' ∧ Turned [] u w' := fun u h => (ChR.open_any R _ _ _ (Ch.acks c 0 f) v u (hB2.r.keep h (by simp)) hfl).mono fun e w' ⟨v', h1, h2, h3, _⟩ => ⟨v', h1, by rw [hso]; exact h2, h3⟩
              have kS : ∀ (oa ob : Option Addr) (ca cb : Nat) (u : World), RowOf 1 nEnc oa (Ch.took s c).o u → RowOf 1 nEnc ob (Ch.took s c).o u → Calls Try.prog 13 #[.slice oa (Ch.took s c).o.length ca, .slice ob (Ch.took s c).o.length cb] u fun e w' => e = .returned (.bool true) ∧ Turned [] u w' := fun oa ob ca cb u h1 h2 => (ChR.same_any oa ob ca cb (Ch.took s c).o (Ch.took s c).o u h1 h2 (by omega) (by omega)).mono fun e w' h => ⟨by rw [h.1, decide_eq_true rfl], h.2⟩
              have kW : ∀ (u : World), Turned [] u3 u → Calls Try.prog 16 #[.pointer (some ⟨C, 0, none⟩)] u fun e w' => e = .returned (.agg #[.bool (Ch.took s c).y, .int .u16 (Ch.took s c).l, .int .u32 (Ch.took s c).m]) ∧ Turned [] u w' := fun u h => (ChW.window_any C F1 (Ch.took s c) u (hB2.c.keep h (by simp))).mono fun e w' h => ⟨h.1, Turned.ofBelow h.2⟩
              have HBH : Hid (ChL.Both _ _ _ _ _ _ _ _) := hB2
              have hq := fun (u : World) (h : Turned [] u3 u) => (hB2.r.keep h (by simp)).1
              have HT : Turned [] u3 u3.drew := (Turned.refl [] u3).drew
              obtain ⟨sy, hsy⟩ : ∃ z, z = (Ch.took s c).y := ⟨_, rfl⟩
              obtain ⟨sl, hsl⟩ : ∃ z, z = (Ch.took s c).l := ⟨_, rfl⟩
              obtain ⟨sm, hsm⟩ : ∃ z, z = (Ch.took s c).m := ⟨_, rfl⟩
              obtain ⟨sn, hsn⟩ : ∃ z, z = (Ch.took s c).o.length := ⟨_, rfl⟩
              rw [← hsy, ← hsl, ← hsm] at kW
              rw [← hsy, ← hsl, ← hsm] at hq
              rw [← hsn] at kS
              have HSN : Hid (sn = _) := hsn
              clear hsy hsl hsm hsn hl64 hso
              go_region_with (first
                | (go_at_call 14; (with_reducible refine (kO _ HT).mono ?_); rintro e u71 ⟨v71, rfl, ho1, ht1⟩; obtain ⟨oa1, ca1, rfl, hr1, _⟩ := ho1.row; rw [← HSN.out]; have HT := HT.trans ht1 (by simp); clear ho1 ht1)
                | (go_at_call 15; (with_reducible refine (kR _ HT).mono ?_); rintro e u72 ⟨v72, rfl, ho2, ht2⟩; obtain ⟨oa2, ca2, rfl, hr2, _⟩ := ho2.row; rw [← HSN.out]; have hr1 := RowOf.turned hr1 ht2 (by simp); have HT := HT.trans ht2 (by simp); clear ho2 ht2)
                | (go_at_call 13; (with_reducible refine (kS _ _ _ _ _ hr1 hr2).mono ?_); rintro e u73 ⟨rfl, ht3⟩; have HT := HT.trans ht3 (by simp); have hq3 := hq _ HT; have q1 := (hq3.2 1 _ rfl).1; have q2 := (hq3.2 2 _ rfl).1; have q3 := (hq3.2 3 _ rfl).1; clear ht3 hq3)
                | (go_at_call 16; (with_reducible refine (kW _ HT).mono ?_); rintro e u74 ⟨rfl, ht4⟩; have HT := HT.trans ht4 (by simp); have hq4 := hq _ HT; have g1 := (hq4.2 1 _ rfl).1; have g2 := (hq4.2 2 _ rfl).1; have g3 := (hq4.2 3 _ rfl).1; clear ht4 hq4))
              all_goals
                go_wp2_with fail
                go_roundw
                case rel => exact ⟨k + 1, by omega, by go_num, _, _, _, _, HBH.out.keep HT, by omega⟩
                case measure => simp [intOf]; omega
          · go_wp2_with fail
            have hl64 := hB.wf.o1
            have hfl : (f).length ≤ 65536 := by omega
            have hso := hB.o
            have kO : ∀ (u : World), Turned [] wr u → Calls Try.prog 14 #[.pointer (some ⟨C, 0, none⟩)] u fun e w' => ∃ v', e = .returned v' ∧ NumsAt v' (s).o w' ∧ Turned [] u w' := fun u h => (ChW.open_any C F (s) u (hB.c.keep h (by simp)) hl64).mono fun e w' ⟨v', h1, h2, h3, _⟩ => ⟨v', h1, h2, h3⟩
            have kR : ∀ (u : World), Turned [] wr u → Calls Try.prog 15 #[.pointer (some ⟨R, 0, none⟩)] u fun e w' => ∃ v', e = .returned v' ∧ NumsAt v' (s).o w' ∧ Turned [] u w' := fun u h => (ChR.open_any R _ _ _ (f) v u (hB.r.keep h (by simp)) hfl).mono fun e w' ⟨v', h1, h2, h3, _⟩ => ⟨v', h1, by rw [hso]; exact h2, h3⟩
            have kS : ∀ (oa ob : Option Addr) (ca cb : Nat) (u : World), RowOf 1 nEnc oa (s).o u → RowOf 1 nEnc ob (s).o u → Calls Try.prog 13 #[.slice oa (s).o.length ca, .slice ob (s).o.length cb] u fun e w' => e = .returned (.bool true) ∧ Turned [] u w' := fun oa ob ca cb u h1 h2 => (ChR.same_any oa ob ca cb (s).o (s).o u h1 h2 (by omega) (by omega)).mono fun e w' h => ⟨by rw [h.1, decide_eq_true rfl], h.2⟩
            have kW : ∀ (u : World), Turned [] wr u → Calls Try.prog 16 #[.pointer (some ⟨C, 0, none⟩)] u fun e w' => e = .returned (.agg #[.bool (s).y, .int .u16 (s).l, .int .u32 (s).m]) ∧ Turned [] u w' := fun u h => (ChW.window_any C F (s) u (hB.c.keep h (by simp))).mono fun e w' h => ⟨h.1, Turned.ofBelow h.2⟩
            have HBH : Hid (ChL.Both _ _ _ _ _ _ _ _) := hB
            have hq := fun (u : World) (h : Turned [] wr u) => (hB.r.keep h (by simp)).1
            have HT : Turned [] wr wr.drew := (Turned.refl [] wr).drew
            obtain ⟨sy, hsy⟩ : ∃ z, z = (s).y := ⟨_, rfl⟩
            obtain ⟨sl, hsl⟩ : ∃ z, z = (s).l := ⟨_, rfl⟩
            obtain ⟨sm, hsm⟩ : ∃ z, z = (s).m := ⟨_, rfl⟩
            obtain ⟨sn, hsn⟩ : ∃ z, z = (s).o.length := ⟨_, rfl⟩
            rw [← hsy, ← hsl, ← hsm] at kW
            rw [← hsy, ← hsl, ← hsm] at hq
            rw [← hsn] at kS
            have HSN : Hid (sn = _) := hsn
            clear hsy hsl hsm hsn hl64 hso
            go_region_with (first
              | (go_at_call 14; (with_reducible refine (kO _ HT).mono ?_); rintro e u71 ⟨v71, rfl, ho1, ht1⟩; obtain ⟨oa1, ca1, rfl, hr1, _⟩ := ho1.row; rw [← HSN.out]; have HT := HT.trans ht1 (by simp); clear ho1 ht1)
              | (go_at_call 15; (with_reducible refine (kR _ HT).mono ?_); rintro e u72 ⟨v72, rfl, ho2, ht2⟩; obtain ⟨oa2, ca2, rfl, hr2, _⟩ := ho2.row; rw [← HSN.out]; have hr1 := RowOf.turned hr1 ht2 (by simp); have HT := HT.trans ht2 (by simp); clear ho2 ht2)
              | (go_at_call 13; (with_reducible refine (kS _ _ _ _ _ hr1 hr2).mono ?_); rintro e u73 ⟨rfl, ht3⟩; have HT := HT.trans ht3 (by simp); have hq3 := hq _ HT; have q1 := (hq3.2 1 _ rfl).1; have q2 := (hq3.2 2 _ rfl).1; have q3 := (hq3.2 3 _ rfl).1; clear ht3 hq3)
              | (go_at_call 16; (with_reducible refine (kW _ HT).mono ?_); rintro e u74 ⟨rfl, ht4⟩; have HT := HT.trans ht4 (by simp); have hq4 := hq _ HT; have g1 := (hq4.2 1 _ rfl).1; have g2 := (hq4.2 2 _ rfl).1; have g3 := (hq4.2 3 _ rfl).1; clear ht4 hq4))
            all_goals
              go_wp2_with fail
              go_roundw
              case rel => exact ⟨k + 1, by omega, by go_num, _, _, _, _, HBH.out.keep HT, by omega⟩
              case measure => simp [intOf]; omega
      · go_wp2_with fail
        go_ret
        exact ⟨rfl, (HT0.trans hB.t (by simp)).none⟩
  · have h300' : 300 < (a0_n : Int) := by omega
    have HT0 : Turned [] w w := Turned.refl _ _
    go_enter Try.func3, Try.ntmps3
    go_wp2_with (go_at_call 8; (with_reducible refine (ChL.awake_any _).mono ?_); rintro e u0 ⟨rfl, HT1⟩; have HT0 := HT0.trans HT1 (by simp))
    go_ret
    exact ⟨rfl, HT0.none⟩

set_option maxRecDepth 100000 in
theorem lifted (os : Os) (started : os.Started) (H : Type) (enc : TypeId × Value → H) :
    ReturnsInHanded {} Try.checked os 3 .any (Rows.channelPlaysSpec.pre6 enc Try.prog Try.f3 Rows.channelPlaysRow.domain false) (Rows.channelPlaysSpec.post enc Try.prog Try.f3 false true false false) := by
  refine returnsInHanded_of_change (C := Try.checked) own started (by kernel_rfl) Try.func3
    (ChangeSpec.witness6 (enc := enc) (C := Try.checked) false ⟨#[], #[.slice none 0 0], []⟩ 8 (by kernel_rfl) (by kernel_rfl) (by kernel_rfl) (by kernel_rfl)) ?_
  intro W base args ds gs before hval0 hW hcnd _
  have hval : ∀ (j : Nat) t v, Try.f3.params[j]? = some t → args[j]? = some v → Value.okWide Try.prog W .any base t v := hval0
  have hW' := hW
  obtain ⟨p, q, hA0, hV, rfl, hfz, hnd⟩ := hW
  have hA : DataW.TrodAll enc Try.prog W 0 (fun _ => true) true Try.f3.params.toList args.toList ds p := hA0
  rw [Try.params3] at hA hval
  obtain ⟨v0, vs0, d0, ds0, p0, q0, hargs, rfl, rfl, h0, r0⟩ := trodAll_cons hA
  obtain ⟨rfl, rfl, rfl⟩ := trodAll_nil r0
  obtain rfl : args = #[v0] := by cases args; simp_all
  obtain ⟨rfl, rfl⟩ := trodVars_none hV
  have k0 := h0
  have lt0 : ∀ x ∈ p0, x.block < W.heap.size := by obtain ⟨m, hm⟩ := k0; exact DataW.trod_lt m _ _ _ hm
  obtain ⟨a0_o, a0_n, a0_c, a0_l, rfl, w0_m, w0_l, w0_e, w0, w0_k⟩ := open_flats (d := 8) (ks := [.int .i64, .int .u16, .bool, .int .u16, .int .u32]) coEnc Try.underlying22 (by kernel_rfl) (by kernel_rfl) (by decide) coEnc_of (hval 0 22 v0 rfl rfl) h0
  clear hA0 hval0
  refine (walk a0_o a0_n a0_c a0_l w0_m w0_l w0_e w0_k W w0).mono fun e W' ⟨he, bel⟩ => ?_
  subst he
  exact ⟨_, rfl, _, _, _, [], _, [], hW', trodAll_mk1 (shut_bool Try.underlying4 _), (trodAll_cons_mk (Below.trod laidOut (by kernel_rfl) (of_decide_eq_true (by kernel_rfl)) k0 bel lt0) trodAll_mk0), rfl, bel.frame _, fun h => by cases h⟩

theorem over : Rows.channelPlaysRow.holds Try.pinned (OpenSpec.ofChange Rows.channelPlaysSpec) :=
  OpenClaim.holds_of_wide 3 Try.f3 rfl rfl rfl rfl rfl rfl rfl ⟨rfl, rfl, rfl, rfl, rfl⟩ rfl rfl rfl rfl rfl (by kernel_rfl) Try.func3 (by kernel_rfl)
    (of_decide_eq_true (by kernel_rfl)) (by unfold Func.isWrapper; first | (rw [if_pos (by decide +kernel)]; kernel_rfl) | (rw [if_neg (by decide +kernel)]; exact ⟨rfl, rfl⟩))
    (fun os started H enc _ => lifted os started H enc)

theorem proved : Rows.ChannelPlaysSaid :=
  over
#print axioms proved
end Go.Proofs.Ytloobijdpchppaa.channelPlays

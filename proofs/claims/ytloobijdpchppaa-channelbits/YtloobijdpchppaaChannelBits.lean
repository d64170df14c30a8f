/- Each header is put, and read again; of all bytes the header that comes next is read, or it is told that none comes. -/
import Derived.Test.YtloobijdpchppaaRows
import Derived.Test.YtloobijdpchppaaChLaw2
import Derived.WalkKit
import Derived.ProofKit
import Derived.OpenShut
import Derived.ChangeOld
import Derived.Below
import Derived.WalkSmall
import Derived.Lib.SmallJoins
import Derived.Laws.IdiomArrays
namespace Go.Proofs.Ytloobijdpchppaa.channelBits
open Go.ChangeShapes Go.WideShapes Go.ChangeAt Go.RowKit
set_option linter.unusedVariables false

theorem own : ownKnob Try.prog.godebug = none := by kernel_rfl
theorem laidOut : laidOutB Try.prog = true := by kernel_rfl

theorem leaf_of {k : IntKind} {v : Value} (h : (Leaf.int k).ok v) : ∃ z, v = .int k z ∧ (Lit.int k z).wf = true := h
theorem leafb_of {v : Value} (h : Leaf.bool.ok v) : ∃ b, v = .bool b := h
theorem flat0_of (cs : List Value) (h : AllOk [.int .u16, .bool, .int .u16, .int .u32] cs) : ∃ x0 x1 x2 x3, cs = [.int .u16 x0, .bool x1, .int .u16 x2, .int .u32 x3] ∧ (Lit.int .u16 x0).wf = true ∧ (Lit.int .u16 x2).wf = true ∧ (Lit.int .u32 x3).wf = true := by
  have hl := h.length
  obtain ⟨c0, c1, c2, c3, rfl⟩ : ∃ c0 c1 c2 c3, cs = [c0, c1, c2, c3] := by
    match cs, hl with
    | [c0, c1, c2, c3], _ => exact ⟨c0, c1, c2, c3, rfl⟩
  obtain ⟨x0, e0, y0⟩ := leaf_of h.1
  obtain ⟨x1, e1⟩ := leafb_of h.2.1
  obtain ⟨x2, e2, y2⟩ := leaf_of h.2.2.1
  obtain ⟨x3, e3, y3⟩ := leaf_of h.2.2.2.1
  exact ⟨x0, x1, x2, x3, by rw [e0, e1, e2, e3], y0, y2, y3⟩

set_option linter.unusedSimpArgs false in
set_option maxRecDepth 20000 in
set_option maxHeartbeats 8000000 in
theorem walk (a0_0 : Int) (a0_1 : Bool) (a0_2 : Int) (a0_3 : Int) (a1_o : Option Addr) (a1_n a1_c : Nat) (w0_0 : (Lit.int .u16 a0_0).wf = true) (w0_2 : (Lit.int .u16 a0_2).wf = true) (w0_3 : (Lit.int .u32 a0_3).wf = true) (w1_m : a1_n ≤ maxLen) (w1_l : a1_n ≤ a1_c) (w : World) (w1 : Ints .u8 a1_o a1_n w) :
    Calls Try.prog 4 #[.agg #[.int .u16 a0_0, .bool a0_1, .int .u16 a0_2, .int .u32 a0_3], .slice a1_o a1_n a1_c] w fun e w' => e = .returned (.bool true) ∧ Below w.heap.size w w' := by
  have b0 := u16_bd w0_0
  have b2 := u16_bd w0_2
  have b3 := u32_bd w0_3
  have hwf : Ch.HWf ⟨a0_0, a0_1, a0_2, a0_3⟩ := ⟨b0.1, b0.2, b2.1, b2.2, b3.1, b3.2⟩
  have heq := hd_eql
  have hreq := rhd_eql
  unfold maxLen at w1_m
  by_cases hsz : (a1_n : Int) ≤ 500
  · have hsz' : ¬ 500 < (a1_n : Int) := by omega
    obtain ⟨bs, hbl, hb8, hbr⟩ := ChL.bytes_of w1
    have kN := fun (u0 : World) (h : Turned [] w u0) => BtD.new_any a1_o a1_n a1_c bs u0 hbl (hbr.turned h (by simp)) (by omega) hb8
    have kN2 := fun (u0 : World) (h : Turned [] w u0) => BtG.new_any a1_o a1_c bs u0 (hbr.turned h (by simp)) (by omega) hb8
    rw [hbl] at kN2
    obtain ⟨r2, hr2⟩ : ∃ r : Bt.Rd, r = ⟨Bt.unpack bs, 0, false⟩ := ⟨_, rfl⟩
    rw [← hr2] at kN kN2
    have kR2 : ∀ (p : Nat) (v : Value) (u : World), PRd p v bs r2 u → Calls Try.prog 19 #[.pointer (some ⟨p, 0, none⟩)] u fun e w' => e = .returned (.tuple #[Ch.hVal (Ch.read r2), .bool (!Ch.bad r2)]) ∧ Turned [p] u w' := fun p v u h => (ChW.read_any p v bs r2 u h).mono fun e w' h => ⟨h.1, h.2.2⟩
    have kR3 : ∀ (p : Nat) (v : Value) (u : World), RRd p v r2 u → Calls Try.prog 25 #[.pointer (some ⟨p, 0, none⟩)] u fun e w' => e = .returned (.tuple #[Ch.hVal (Ch.read r2), .bool (!Ch.bad r2)]) ∧ Turned [p] u w' := fun p v u h => (ChR.read_any p v r2 u h).mono fun e w' h => ⟨h.1, h.2.2⟩
    unfold Ch.hVal at kR2 kR3
    generalize (Ch.read r2).n = zn at kR2 kR3
    generalize (Ch.read r2).y = zy at kR2 kR3
    generalize (Ch.read r2).a = za at kR2 kR3
    generalize (Ch.read r2).m = zm at kR2 kR3
    generalize (!Ch.bad r2) = zq at kR2 kR3
    have hlen : (Ch.bits ⟨a0_0, a0_1, a0_2, a0_3⟩).length = 65 := ChL.bits_len _
    have hpk : (Bt.pack (Ch.bits ⟨a0_0, a0_1, a0_2, a0_3⟩)).length ≤ 100 := by rw [Bt.pack_length, hlen]; omega
    have kRd : ∀ (p : Nat) (v : Value) (u : World), PRd p v (Bt.pack (Ch.bits ⟨a0_0, a0_1, a0_2, a0_3⟩)) ⟨Bt.unpack (Bt.pack (Ch.bits ⟨a0_0, a0_1, a0_2, a0_3⟩)), 0, false⟩ u → Calls Try.prog 19 #[.pointer (some ⟨p, 0, none⟩)] u fun e w' => e = .returned (.tuple #[Ch.hVal (Ch.read ⟨Bt.unpack (Bt.pack (Ch.bits ⟨a0_0, a0_1, a0_2, a0_3⟩)), 0, false⟩), .bool (!Ch.bad ⟨Bt.unpack (Bt.pack (Ch.bits ⟨a0_0, a0_1, a0_2, a0_3⟩)), 0, false⟩)]) ∧ Turned [p] u w' := fun p v u h => (ChW.read_any p v _ _ u h).mono fun e w' h => ⟨h.1, h.2.2⟩
    obtain ⟨hgot, hbad⟩ := ChL.back hwf
    unfold Ch.read at kRd
    rw [hgot, hbad] at kRd
    clear hr2 hbl hb8 hbr w1 w0_0 w0_2 w0_3 b0 b2 b3 hgot hbad w1_m w1_l
    rcases ChL.four (y := a0_1) hwf.a0 hwf.m0 with ⟨e1, hz⟩ | ⟨e1, e2, e3, hz⟩ | ⟨e1, e2, hz⟩ | ⟨e1, e2, e3, hz⟩
    · rw [hz] at kRd
      subst e1
      simp only [if_true, if_false, Bool.false_eq_true, Bool.not_true, Bool.not_false, Ch.hVal, Ch.zeroH] at kRd
      clear hz
      go_enter Try.func4, Try.ntmps4
      go_wp2_with fail
      obtain ⟨W0, hW0⟩ : ∃ W0, W0 = w.alloc (.cells #[.int .u16 a0_0, .bool true, .int .u16 a0_2, .int .u32 a0_3] 38) := ⟨_, rfl⟩
      obtain ⟨B, hB⟩ : ∃ b, b = w.heap.size := ⟨_, rfl⟩
      rw [← hW0, ← hB]
      have hT : Turned [] w W0 := by rw [hW0]; exact (Turned.refl [] w).alloc _
      have hH : Struct B [.int .u16 a0_0, .bool true, .int .u16 a0_2, .int .u32 a0_3] W0 := by rw [hW0, hB]; exact Struct.new w [.int .u16 a0_0, .bool true, .int .u16 a0_2, .int .u32 a0_3] _
      have hwB : w.heap.size ≤ B := by omega
      clear hW0 hB
      refine (ChL.awake_any _).mono ?_
      rintro e u0 ⟨rfl, HT0⟩
      replace hT := hT.trans HT0 (by simp)
      replace hH := hH.keep HT0 (by simp)
      obtain ⟨h0, _⟩ := hH.2 0 _ rfl
      obtain ⟨h1, _⟩ := hH.2 1 _ rfl
      obtain ⟨h2, _⟩ := hH.2 2 _ rfl
      obtain ⟨h3, _⟩ := hH.2 3 _ rfl
      have hBu := hH.1
      go_wp2_with fail
      obtain ⟨W1, hW1⟩ : ∃ W, W = (u0.alloc (.cells #[.slice none 0 0, .int .i64 0] 55)).alloc (.cells #[.slice none 0 0] 58) := ⟨_, rfl⟩
      obtain ⟨P, hP⟩ : ∃ b, b = u0.heap.size := ⟨_, rfl⟩
      rw [← hW1, ← hP]
      have hTu : Turned [] u0 W1 := by rw [hW1]; exact ((Turned.refl [] u0).alloc _).alloc _
      have hp1 : PW P [] [P] W1 := by rw [hW1, hP]; exact (PW.new u0 55).keep ((Turned.refl [] _).alloc _) (by simp)
      have hq1 : BtR.RB (P + 1) [] [P + 1] W1 := by
        have := RBits.new 4 (u0.alloc (.cells #[.slice none 0 0, .int .i64 0] 55)) 58
        rw [show (u0.alloc (.cells #[.slice none 0 0, .int .i64 0] 55)).heap.size = P + 1 by simp [hP]] at this
        rw [hW1]; exact this
      have hTs := hT.size
      have hwP : w.heap.size ≤ P := by omega
      have hBP : B < P := by omega
      replace hT := hT.trans hTu (by simp)
      replace hH := hH.keep hTu (by simp)
      clear hW1 hP hTu h0 h1 h2 h3 hBu hTs
      refine (ChW.put_any P [] [P] ⟨a0_0, true, a0_2, a0_3⟩ hwf W1 hp1 (by simp)).mono ?_
      rintro e u1 ⟨rfl, F1, hp, hm1⟩
      rw [List.nil_append] at hp
      have hF1 : ∀ k ∈ F1, k ≠ P + 1 ∧ k ≠ B ∧ w.heap.size ≤ k := by
        intro k hk
        have hs1 := hq1.lt (P + 1) (by simp)
        rcases hm1.2 k hk with h | h
        · simp at h; omega
        · omega
      replace hq1 := hq1.keep hm1.1 (by simp)
      replace hT := hT.trans hm1.1 (by intro k hk hl; simp at hk; omega)
      replace hH := hH.keep hm1.1 (by simp; omega)
      clear hm1 hp1
      obtain ⟨h0, _⟩ := hH.2 0 _ rfl
      obtain ⟨h1, _⟩ := hH.2 1 _ rfl
      obtain ⟨h2, _⟩ := hH.2 2 _ rfl
      obtain ⟨h3, _⟩ := hH.2 3 _ rfl
      go_wp2_with fail
      clear h0 h1 h2 h3
      refine (ChR.put_any (P + 1) [] [P + 1] ⟨a0_0, true, a0_2, a0_3⟩ hwf u1 hq1 (by simp)).mono ?_
      rintro e u2 ⟨rfl, F2, hq, hm2⟩
      rw [List.nil_append] at hq
      replace hp := hp.keep hm2.1 (by intro k hk hm; simp at hm; exact (hF1 k hk).1 hm)
      replace hT := hT.trans hm2.1 (by intro k hk hl; simp at hk; omega)
      replace hH := hH.keep hm2.1 (by simp; omega)
      clear hm2 hq1 hF1
      go_wp2_with fail
      refine (BtW.bytes_any _ _ _ _ hp (by omega)).mono ?_
      rintro e u3 ⟨v3, rfl, ho3, ht3, hb3⟩
      replace hp := hp.keep ht3 (by simp)
      replace hq := hq.keep ht3 (by simp)
      replace hT := hT.trans ht3 (by simp)
      replace hH := hH.keep ht3 (by simp)
      obtain ⟨oa, ca, rfl, _, _, hra, _⟩ := ho3.rowOf byEnc_len
      clear ho3 ht3 hb3
      go_wp2_with fail
      refine (BtD.new_any oa _ ca _ u3 rfl hra (by omega) (Bt.pack_lt _)).mono ?_
      rintro e u4 ⟨p4, v4, rfl, hN, ht4, hpn, hvn⟩
      have hpw : u3.heap.size ≤ p4 := hpn
      have hp4 : ∀ k, k < u3.heap.size → k ∉ [p4] := by intro k hk hm; simp at hm; omega
      have hpl := hp.lt
      have hql := hq.lt
      have hHl := hH.1
      have hTs := hT.size
      replace hp := hp.keep ht4 (by simp)
      replace hq := hq.keep ht4 (by simp)
      replace hT := hT.trans ht4 (by simp)
      replace hH := hH.keep ht4 (by simp)
      clear ht4 hra hpn hvn
      go_wp2_with fail
      refine (kRd _ _ _ hN).mono ?_
      rintro e u5 ⟨rfl, ht5⟩
      replace hp := hp.keep ht5 (fun k hk => hp4 k (hpl k hk))
      replace hq := hq.keep ht5 (fun k hk => hp4 k (hql k hk))
      replace hT := hT.trans ht5 (by intro k hk hl; simp at hk; omega)
      replace hH := hH.keep ht5 (hp4 B hHl)
      clear ht5 hN hpw hp4 hpl hql hHl hTs
      go_wp2_with fail
      obtain ⟨W6, hW6⟩ : ∃ W, W = u5.alloc (.cells #[.int .u16 a0_0, .bool true, .int .u16 a0_2, .int .u32 a0_3] 38) := ⟨_, rfl⟩
      obtain ⟨X, hX⟩ : ∃ b, b = u5.heap.size := ⟨_, rfl⟩
      rw [← hW6, ← hX]
      have ht6 : Turned [] u5 W6 := by rw [hW6]; exact (Turned.refl [] u5).alloc _
      have hXs : Struct X [.int .u16 a0_0, .bool true, .int .u16 a0_2, .int .u32 a0_3] W6 := by rw [hW6, hX]; exact Struct.new u5 [.int .u16 a0_0, .bool true, .int .u16 a0_2, .int .u32 a0_3] _
      replace hp := hp.keep ht6 (by simp)
      replace hq := hq.keep ht6 (by simp)
      replace hT := hT.trans ht6 (by simp)
      replace hH := hH.keep ht6 (by simp)
      clear hW6 hX ht6
      refine (BtW.bytes_any _ _ _ _ hp (by omega)).mono ?_
      rintro e u7 ⟨v7, rfl, ho7, ht7, hb7⟩
      replace hp := hp.keep ht7 (by simp)
      replace hq := hq.keep ht7 (by simp)
      replace hT := hT.trans ht7 (by simp)
      replace hH := hH.keep ht7 (by simp)
      replace hXs := hXs.keep ht7 (by simp)
      clear ht7 hb7
      go_wp2_with fail
      refine (BtR.bytes_any _ _ _ _ hq (by omega)).mono ?_
      rintro e u8 ⟨v8, rfl, ho8, ht8, hb8⟩
      replace hp := hp.keep ht8 (by simp)
      replace ho7 := ho7.keep ht8 (by simp)
      replace hT := hT.trans ht8 (by simp)
      replace hH := hH.keep ht8 (by simp)
      replace hXs := hXs.keep ht8 (by simp)
      obtain ⟨ob, cb, rfl, _, _, hrb, _⟩ := ho7.rowOf byEnc_len
      obtain ⟨oc, cc, rfl, _, _, hrc, _⟩ := ho8.rowOf byEnc_len
      clear ht8 hb8 ho7 ho8 hq
      go_wp2_with fail
      refine (BtL.same_any ob oc cb cc _ _ u8 hrb hrc (by omega) (by omega)).mono ?_
      rintro e u9 ⟨rfl, ht9⟩
      rw [decide_eq_true rfl]
      replace hp := hp.keep ht9 (by simp)
      replace hT := hT.trans ht9 (by simp)
      replace hH := hH.keep ht9 (by simp)
      replace hXs := hXs.keep ht9 (by simp)
      clear ht9 hrb hrc
      go_wp2_with fail
      refine (BtW.count_any _ _ _ _ hp).mono ?_
      rintro e w9 ⟨rfl, hw9⟩
      rw [hw9, hlen]
      clear hw9 w9 hp
      obtain ⟨h0, _⟩ := hH.2 0 _ rfl
      obtain ⟨h1, _⟩ := hH.2 1 _ rfl
      obtain ⟨h2, _⟩ := hH.2 2 _ rfl
      obtain ⟨h3, _⟩ := hH.2 3 _ rfl
      obtain ⟨x0, _⟩ := hXs.2 0 _ rfl
      obtain ⟨x1, _⟩ := hXs.2 1 _ rfl
      obtain ⟨x2, _⟩ := hXs.2 2 _ rfl
      obtain ⟨x3, _⟩ := hXs.2 3 _ rfl
      have HT0 := hT
      go_wp2_with (first
        | (go_at_call 20; (with_reducible refine (kN _ HT0).mono ?_); rintro e u1 ⟨p, v1, rfl, hN1, ht1, hpn, hvn1⟩; have hpw : w.heap.size ≤ p := Nat.le_trans HT0.size hpn; have HT0 := HT0.trans ht1 (by simp))
        | (go_at_call 19; (with_reducible refine (kR2 _ _ _ hN1).mono ?_); rintro e u3 ⟨rfl, ht3⟩; have HT0 := HT0.trans ht3 (by intro k hk hl; simp at hk; omega); have hzl := Nat.le_refl u3.heap.size; have hZ := fun t => Struct.new u3 [.int .u16 zn, .bool zy, .int .u16 za, .int .u32 zm] t)
        | (go_at_call 26; (with_reducible refine (kN2 _ (HT0.alloc _)).mono ?_); rintro e u2 ⟨q, v2, rfl, hR2, ht2, hqn, hvn2⟩; have hqw : w.heap.size ≤ q := Nat.le_trans (HT0.alloc _).size hqn; have hZ := (hZ 38).keep ht2 (by simp); have hzq : u3.heap.size ∉ [q] := (by simp at hqn ⊢; omega); have HT0 := (HT0.alloc _).trans ht2 (by simp))
        | (go_at_call 25; (with_reducible refine (kR3 _ _ _ hR2).mono ?_); rintro e u4 ⟨rfl, ht4⟩; have hZ := hZ.keep ht4 hzq; have z0 := (hZ.2 0 _ rfl).1; have z1 := (hZ.2 1 _ rfl).1; have z2 := (hZ.2 2 _ rfl).1; have z3 := (hZ.2 3 _ rfl).1; have hzl4 := hZ.1; have HT0 := HT0.trans ht4 (by intro k hk hl; simp at hk; omega)))
      go_ret
      exact BtL.bool_ret (by simp) (HT0.alloc _).none
    · rw [hz] at kRd
      subst e1 e2 e3
      simp only [if_true, if_false, Bool.false_eq_true, Bool.not_true, Bool.not_false, Ch.hVal, Ch.zeroH] at kRd
      clear hz
      go_enter Try.func4, Try.ntmps4
      go_wp2_with fail
      obtain ⟨W0, hW0⟩ : ∃ W0, W0 = w.alloc (.cells #[.int .u16 a0_0, .bool false, .int .u16 0, .int .u32 0] 38) := ⟨_, rfl⟩
      obtain ⟨B, hB⟩ : ∃ b, b = w.heap.size := ⟨_, rfl⟩
      rw [← hW0, ← hB]
      have hT : Turned [] w W0 := by rw [hW0]; exact (Turned.refl [] w).alloc _
      have hH : Struct B [.int .u16 a0_0, .bool false, .int .u16 0, .int .u32 0] W0 := by rw [hW0, hB]; exact Struct.new w [.int .u16 a0_0, .bool false, .int .u16 0, .int .u32 0] _
      have hwB : w.heap.size ≤ B := by omega
      clear hW0 hB
      refine (ChL.awake_any _).mono ?_
      rintro e u0 ⟨rfl, HT0⟩
      replace hT := hT.trans HT0 (by simp)
      replace hH := hH.keep HT0 (by simp)
      obtain ⟨h0, _⟩ := hH.2 0 _ rfl
      obtain ⟨h1, _⟩ := hH.2 1 _ rfl
      obtain ⟨h2, _⟩ := hH.2 2 _ rfl
      obtain ⟨h3, _⟩ := hH.2 3 _ rfl
      have hBu := hH.1
      go_wp2_with fail
      obtain ⟨W1, hW1⟩ : ∃ W, W = (u0.alloc (.cells #[.slice none 0 0, .int .i64 0] 55)).alloc (.cells #[.slice none 0 0] 58) := ⟨_, rfl⟩
      obtain ⟨P, hP⟩ : ∃ b, b = u0.heap.size := ⟨_, rfl⟩
      rw [← hW1, ← hP]
      have hTu : Turned [] u0 W1 := by rw [hW1]; exact ((Turned.refl [] u0).alloc _).alloc _
      have hp1 : PW P [] [P] W1 := by rw [hW1, hP]; exact (PW.new u0 55).keep ((Turned.refl [] _).alloc _) (by simp)
      have hq1 : BtR.RB (P + 1) [] [P + 1] W1 := by
        have := RBits.new 4 (u0.alloc (.cells #[.slice none 0 0, .int .i64 0] 55)) 58
        rw [show (u0.alloc (.cells #[.slice none 0 0, .int .i64 0] 55)).heap.size = P + 1 by simp [hP]] at this
        rw [hW1]; exact this
      have hTs := hT.size
      have hwP : w.heap.size ≤ P := by omega
      have hBP : B < P := by omega
      replace hT := hT.trans hTu (by simp)
      replace hH := hH.keep hTu (by simp)
      clear hW1 hP hTu h0 h1 h2 h3 hBu hTs
      refine (ChW.put_any P [] [P] ⟨a0_0, false, 0, 0⟩ hwf W1 hp1 (by simp)).mono ?_
      rintro e u1 ⟨rfl, F1, hp, hm1⟩
      rw [List.nil_append] at hp
      have hF1 : ∀ k ∈ F1, k ≠ P + 1 ∧ k ≠ B ∧ w.heap.size ≤ k := by
        intro k hk
        have hs1 := hq1.lt (P + 1) (by simp)
        rcases hm1.2 k hk with h | h
        · simp at h; omega
        · omega
      replace hq1 := hq1.keep hm1.1 (by simp)
      replace hT := hT.trans hm1.1 (by intro k hk hl; simp at hk; omega)
      replace hH := hH.keep hm1.1 (by simp; omega)
      clear hm1 hp1
      obtain ⟨h0, _⟩ := hH.2 0 _ rfl
      obtain ⟨h1, _⟩ := hH.2 1 _ rfl
      obtain ⟨h2, _⟩ := hH.2 2 _ rfl
      obtain ⟨h3, _⟩ := hH.2 3 _ rfl
      go_wp2_with fail
      clear h0 h1 h2 h3
      refine (ChR.put_any (P + 1) [] [P + 1] ⟨a0_0, false, 0, 0⟩ hwf u1 hq1 (by simp)).mono ?_
      rintro e u2 ⟨rfl, F2, hq, hm2⟩
      rw [List.nil_append] at hq
      replace hp := hp.keep hm2.1 (by intro k hk hm; simp at hm; exact (hF1 k hk).1 hm)
      replace hT := hT.trans hm2.1 (by intro k hk hl; simp at hk; omega)
      replace hH := hH.keep hm2.1 (by simp; omega)
      clear hm2 hq1 hF1
      go_wp2_with fail
      refine (BtW.bytes_any _ _ _ _ hp (by omega)).mono ?_
      rintro e u3 ⟨v3, rfl, ho3, ht3, hb3⟩
      replace hp := hp.keep ht3 (by simp)
      replace hq := hq.keep ht3 (by simp)
      replace hT := hT.trans ht3 (by simp)
      replace hH := hH.keep ht3 (by simp)
      obtain ⟨oa, ca, rfl, _, _, hra, _⟩ := ho3.rowOf byEnc_len
      clear ho3 ht3 hb3
      go_wp2_with fail
      refine (BtD.new_any oa _ ca _ u3 rfl hra (by omega) (Bt.pack_lt _)).mono ?_
      rintro e u4 ⟨p4, v4, rfl, hN, ht4, hpn, hvn⟩
      have hpw : u3.heap.size ≤ p4 := hpn
      have hp4 : ∀ k, k < u3.heap.size → k ∉ [p4] := by intro k hk hm; simp at hm; omega
      have hpl := hp.lt
      have hql := hq.lt
      have hHl := hH.1
      have hTs := hT.size
      replace hp := hp.keep ht4 (by simp)
      replace hq := hq.keep ht4 (by simp)
      replace hT := hT.trans ht4 (by simp)
      replace hH := hH.keep ht4 (by simp)
      clear ht4 hra hpn hvn
      go_wp2_with fail
      refine (kRd _ _ _ hN).mono ?_
      rintro e u5 ⟨rfl, ht5⟩
      replace hp := hp.keep ht5 (fun k hk => hp4 k (hpl k hk))
      replace hq := hq.keep ht5 (fun k hk => hp4 k (hql k hk))
      replace hT := hT.trans ht5 (by intro k hk hl; simp at hk; omega)
      replace hH := hH.keep ht5 (hp4 B hHl)
      clear ht5 hN hpw hp4 hpl hql hHl hTs
      go_wp2_with fail
      obtain ⟨W6, hW6⟩ : ∃ W, W = u5.alloc (.cells #[.int .u16 a0_0, .bool false, .int .u16 0, .int .u32 0] 38) := ⟨_, rfl⟩
      obtain ⟨X, hX⟩ : ∃ b, b = u5.heap.size := ⟨_, rfl⟩
      rw [← hW6, ← hX]
      have ht6 : Turned [] u5 W6 := by rw [hW6]; exact (Turned.refl [] u5).alloc _
      have hXs : Struct X [.int .u16 a0_0, .bool false, .int .u16 0, .int .u32 0] W6 := by rw [hW6, hX]; exact Struct.new u5 [.int .u16 a0_0, .bool false, .int .u16 0, .int .u32 0] _
      replace hp := hp.keep ht6 (by simp)
      replace hq := hq.keep ht6 (by simp)
      replace hT := hT.trans ht6 (by simp)
      replace hH := hH.keep ht6 (by simp)
      clear hW6 hX ht6
      refine (BtW.bytes_any _ _ _ _ hp (by omega)).mono ?_
      rintro e u7 ⟨v7, rfl, ho7, ht7, hb7⟩
      replace hp := hp.keep ht7 (by simp)
      replace hq := hq.keep ht7 (by simp)
      replace hT := hT.trans ht7 (by simp)
      replace hH := hH.keep ht7 (by simp)
      replace hXs := hXs.keep ht7 (by simp)
      clear ht7 hb7
      go_wp2_with fail
      refine (BtR.bytes_any _ _ _ _ hq (by omega)).mono ?_
      rintro e u8 ⟨v8, rfl, ho8, ht8, hb8⟩
      replace hp := hp.keep ht8 (by simp)
      replace ho7 := ho7.keep ht8 (by simp)
      replace hT := hT.trans ht8 (by simp)
      replace hH := hH.keep ht8 (by simp)
      replace hXs := hXs.keep ht8 (by simp)
      obtain ⟨ob, cb, rfl, _, _, hrb, _⟩ := ho7.rowOf byEnc_len
      obtain ⟨oc, cc, rfl, _, _, hrc, _⟩ := ho8.rowOf byEnc_len
      clear ht8 hb8 ho7 ho8 hq
      go_wp2_with fail
      refine (BtL.same_any ob oc cb cc _ _ u8 hrb hrc (by omega) (by omega)).mono ?_
      rintro e u9 ⟨rfl, ht9⟩
      rw [decide_eq_true rfl]
      replace hp := hp.keep ht9 (by simp)
      replace hT := hT.trans ht9 (by simp)
      replace hH := hH.keep ht9 (by simp)
      replace hXs := hXs.keep ht9 (by simp)
      clear ht9 hrb hrc
      go_wp2_with fail
      refine (BtW.count_any _ _ _ _ hp).mono ?_
      rintro e w9 ⟨rfl, hw9⟩
      rw [hw9, hlen]
      clear hw9 w9 hp
      obtain ⟨h0, _⟩ := hH.2 0 _ rfl
      obtain ⟨h1, _⟩ := hH.2 1 _ rfl
      obtain ⟨h2, _⟩ := hH.2 2 _ rfl
      obtain ⟨h3, _⟩ := hH.2 3 _ rfl
      obtain ⟨x0, _⟩ := hXs.2 0 _ rfl
      obtain ⟨x1, _⟩ := hXs.2 1 _ rfl
      obtain ⟨x2, _⟩ := hXs.2 2 _ rfl
      obtain ⟨x3, _⟩ := hXs.2 3 _ rfl
      have HT0 := hT
      go_wp2_with (first
        | (go_at_call 20; (with_reducible refine (kN _ HT0).mono ?_); rintro e u1 ⟨p, v1, rfl, hN1, ht1, hpn, hvn1⟩; have hpw : w.heap.size ≤ p := Nat.le_trans HT0.size hpn; have HT0 := HT0.trans ht1 (by simp))
        | (go_at_call 19; (with_reducible refine (kR2 _ _ _ hN1).mono ?_); rintro e u3 ⟨rfl, ht3⟩; have HT0 := HT0.trans ht3 (by intro k hk hl; simp at hk; omega); have hzl := Nat.le_refl u3.heap.size; have hZ := fun t => Struct.new u3 [.int .u16 zn, .bool zy, .int .u16 za, .int .u32 zm] t)
        | (go_at_call 26; (with_reducible refine (kN2 _ (HT0.alloc _)).mono ?_); rintro e u2 ⟨q, v2, rfl, hR2, ht2, hqn, hvn2⟩; have hqw : w.heap.size ≤ q := Nat.le_trans (HT0.alloc _).size hqn; have hZ := (hZ 38).keep ht2 (by simp); have hzq : u3.heap.size ∉ [q] := (by simp at hqn ⊢; omega); have HT0 := (HT0.alloc _).trans ht2 (by simp))
        | (go_at_call 25; (with_reducible refine (kR3 _ _ _ hR2).mono ?_); rintro e u4 ⟨rfl, ht4⟩; have hZ := hZ.keep ht4 hzq; have z0 := (hZ.2 0 _ rfl).1; have z1 := (hZ.2 1 _ rfl).1; have z2 := (hZ.2 2 _ rfl).1; have z3 := (hZ.2 3 _ rfl).1; have hzl4 := hZ.1; have HT0 := HT0.trans ht4 (by intro k hk hl; simp at hk; omega)))
      go_ret
      exact BtL.bool_ret (by simp) (HT0.alloc _).none
    · rw [hz] at kRd
      subst e1
      simp only [if_true, if_false, Bool.false_eq_true, Bool.not_true, Bool.not_false, Ch.hVal, Ch.zeroH] at kRd
      clear hz
      go_enter Try.func4, Try.ntmps4
      go_wp2_with fail
      obtain ⟨W0, hW0⟩ : ∃ W0, W0 = w.alloc (.cells #[.int .u16 a0_0, .bool false, .int .u16 a0_2, .int .u32 a0_3] 38) := ⟨_, rfl⟩
      obtain ⟨B, hB⟩ : ∃ b, b = w.heap.size := ⟨_, rfl⟩
      rw [← hW0, ← hB]
      have hT : Turned [] w W0 := by rw [hW0]; exact (Turned.refl [] w).alloc _
      have hH : Struct B [.int .u16 a0_0, .bool false, .int .u16 a0_2, .int .u32 a0_3] W0 := by rw [hW0, hB]; exact Struct.new w [.int .u16 a0_0, .bool false, .int .u16 a0_2, .int .u32 a0_3] _
      have hwB : w.heap.size ≤ B := by omega
      clear hW0 hB
      refine (ChL.awake_any _).mono ?_
      rintro e u0 ⟨rfl, HT0⟩
      replace hT := hT.trans HT0 (by simp)
      replace hH := hH.keep HT0 (by simp)
      obtain ⟨h0, _⟩ := hH.2 0 _ rfl
      obtain ⟨h1, _⟩ := hH.2 1 _ rfl
      obtain ⟨h2, _⟩ := hH.2 2 _ rfl
      obtain ⟨h3, _⟩ := hH.2 3 _ rfl
      have hBu := hH.1
      go_wp2_with fail
      obtain ⟨W1, hW1⟩ : ∃ W, W = (u0.alloc (.cells #[.slice none 0 0, .int .i64 0] 55)).alloc (.cells #[.slice none 0 0] 58) := ⟨_, rfl⟩
      obtain ⟨P, hP⟩ : ∃ b, b = u0.heap.size := ⟨_, rfl⟩
      rw [← hW1, ← hP]
      have hTu : Turned [] u0 W1 := by rw [hW1]; exact ((Turned.refl [] u0).alloc _).alloc _
      have hp1 : PW P [] [P] W1 := by rw [hW1, hP]; exact (PW.new u0 55).keep ((Turned.refl [] _).alloc _) (by simp)
      have hq1 : BtR.RB (P + 1) [] [P + 1] W1 := by
        have := RBits.new 4 (u0.alloc (.cells #[.slice none 0 0, .int .i64 0] 55)) 58
        rw [show (u0.alloc (.cells #[.slice none 0 0, .int .i64 0] 55)).heap.size = P + 1 by simp [hP]] at this
        rw [hW1]; exact this
      have hTs := hT.size
      have hwP : w.heap.size ≤ P := by omega
      have hBP : B < P := by omega
      replace hT := hT.trans hTu (by simp)
      replace hH := hH.keep hTu (by simp)
      clear hW1 hP hTu h0 h1 h2 h3 hBu hTs
      refine (ChW.put_any P [] [P] ⟨a0_0, false, a0_2, a0_3⟩ hwf W1 hp1 (by simp)).mono ?_
      rintro e u1 ⟨rfl, F1, hp, hm1⟩
      rw [List.nil_append] at hp
      have hF1 : ∀ k ∈ F1, k ≠ P + 1 ∧ k ≠ B ∧ w.heap.size ≤ k := by
        intro k hk
        have hs1 := hq1.lt (P + 1) (by simp)
        rcases hm1.2 k hk with h | h
        · simp at h; omega
        · omega
      replace hq1 := hq1.keep hm1.1 (by simp)
      replace hT := hT.trans hm1.1 (by intro k hk hl; simp at hk; omega)
      replace hH := hH.keep hm1.1 (by simp; omega)
      clear hm1 hp1
      obtain ⟨h0, _⟩ := hH.2 0 _ rfl
      obtain ⟨h1, _⟩ := hH.2 1 _ rfl
      obtain ⟨h2, _⟩ := hH.2 2 _ rfl
      obtain ⟨h3, _⟩ := hH.2 3 _ rfl
      go_wp2_with fail
      clear h0 h1 h2 h3
      refine (ChR.put_any (P + 1) [] [P + 1] ⟨a0_0, false, a0_2, a0_3⟩ hwf u1 hq1 (by simp)).mono ?_
      rintro e u2 ⟨rfl, F2, hq, hm2⟩
      rw [List.nil_append] at hq
      replace hp := hp.keep hm2.1 (by intro k hk hm; simp at hm; exact (hF1 k hk).1 hm)
      replace hT := hT.trans hm2.1 (by intro k hk hl; simp at hk; omega)
      replace hH := hH.keep hm2.1 (by simp; omega)
      clear hm2 hq1 hF1
      go_wp2_with fail
      refine (BtW.bytes_any _ _ _ _ hp (by omega)).mono ?_
      rintro e u3 ⟨v3, rfl, ho3, ht3, hb3⟩
      replace hp := hp.keep ht3 (by simp)
      replace hq := hq.keep ht3 (by simp)
      replace hT := hT.trans ht3 (by simp)
      replace hH := hH.keep ht3 (by simp)
      obtain ⟨oa, ca, rfl, _, _, hra, _⟩ := ho3.rowOf byEnc_len
      clear ho3 ht3 hb3
      go_wp2_with fail
      refine (BtD.new_any oa _ ca _ u3 rfl hra (by omega) (Bt.pack_lt _)).mono ?_
      rintro e u4 ⟨p4, v4, rfl, hN, ht4, hpn, hvn⟩
      have hpw : u3.heap.size ≤ p4 := hpn
      have hp4 : ∀ k, k < u3.heap.size → k ∉ [p4] := by intro k hk hm; simp at hm; omega
      have hpl := hp.lt
      have hql := hq.lt
      have hHl := hH.1
      have hTs := hT.size
      replace hp := hp.keep ht4 (by simp)
      replace hq := hq.keep ht4 (by simp)
      replace hT := hT.trans ht4 (by simp)
      replace hH := hH.keep ht4 (by simp)
      clear ht4 hra hpn hvn
      go_wp2_with fail
      refine (kRd _ _ _ hN).mono ?_
      rintro e u5 ⟨rfl, ht5⟩
      replace hp := hp.keep ht5 (fun k hk => hp4 k (hpl k hk))
      replace hq := hq.keep ht5 (fun k hk => hp4 k (hql k hk))
      replace hT := hT.trans ht5 (by intro k hk hl; simp at hk; omega)
      replace hH := hH.keep ht5 (hp4 B hHl)
      clear ht5 hN hpw hp4 hpl hql hHl hTs
      go_wp2_with fail
      obtain ⟨W6, hW6⟩ : ∃ W, W = u5.alloc (.cells #[.int .u16 0, .bool false, .int .u16 0, .int .u32 0] 38) := ⟨_, rfl⟩
      obtain ⟨X, hX⟩ : ∃ b, b = u5.heap.size := ⟨_, rfl⟩
      rw [← hW6, ← hX]
      have ht6 : Turned [] u5 W6 := by rw [hW6]; exact (Turned.refl [] u5).alloc _
      have hXs : Struct X [.int .u16 0, .bool false, .int .u16 0, .int .u32 0] W6 := by rw [hW6, hX]; exact Struct.new u5 [.int .u16 0, .bool false, .int .u16 0, .int .u32 0] _
      replace hp := hp.keep ht6 (by simp)
      replace hq := hq.keep ht6 (by simp)
      replace hT := hT.trans ht6 (by simp)
      replace hH := hH.keep ht6 (by simp)
      clear hW6 hX ht6
      refine (BtW.bytes_any _ _ _ _ hp (by omega)).mono ?_
      rintro e u7 ⟨v7, rfl, ho7, ht7, hb7⟩
      replace hp := hp.keep ht7 (by simp)
      replace hq := hq.keep ht7 (by simp)
      replace hT := hT.trans ht7 (by simp)
      replace hH := hH.keep ht7 (by simp)
      replace hXs := hXs.keep ht7 (by simp)
      clear ht7 hb7
      go_wp2_with fail
      refine (BtR.bytes_any _ _ _ _ hq (by omega)).mono ?_
      rintro e u8 ⟨v8, rfl, ho8, ht8, hb8⟩
      replace hp := hp.keep ht8 (by simp)
      replace ho7 := ho7.keep ht8 (by simp)
      replace hT := hT.trans ht8 (by simp)
      replace hH := hH.keep ht8 (by simp)
      replace hXs := hXs.keep ht8 (by simp)
      obtain ⟨ob, cb, rfl, _, _, hrb, _⟩ := ho7.rowOf byEnc_len
      obtain ⟨oc, cc, rfl, _, _, hrc, _⟩ := ho8.rowOf byEnc_len
      clear ht8 hb8 ho7 ho8 hq
      go_wp2_with fail
      refine (BtL.same_any ob oc cb cc _ _ u8 hrb hrc (by omega) (by omega)).mono ?_
      rintro e u9 ⟨rfl, ht9⟩
      rw [decide_eq_true rfl]
      replace hp := hp.keep ht9 (by simp)
      replace hT := hT.trans ht9 (by simp)
      replace hH := hH.keep ht9 (by simp)
      replace hXs := hXs.keep ht9 (by simp)
      clear ht9 hrb hrc
      go_wp2_with fail
      refine (BtW.count_any _ _ _ _ hp).mono ?_
      rintro e w9 ⟨rfl, hw9⟩
      rw [hw9, hlen]
      clear hw9 w9 hp
      obtain ⟨h0, _⟩ := hH.2 0 _ rfl
      obtain ⟨h1, _⟩ := hH.2 1 _ rfl
      obtain ⟨h2, _⟩ := hH.2 2 _ rfl
      obtain ⟨h3, _⟩ := hH.2 3 _ rfl
      obtain ⟨x0, _⟩ := hXs.2 0 _ rfl
      obtain ⟨x1, _⟩ := hXs.2 1 _ rfl
      obtain ⟨x2, _⟩ := hXs.2 2 _ rfl
      obtain ⟨x3, _⟩ := hXs.2 3 _ rfl
      have HT0 := hT
      go_wp2_with (first
        | (go_at_call 20; (with_reducible refine (kN _ HT0).mono ?_); rintro e u1 ⟨p, v1, rfl, hN1, ht1, hpn, hvn1⟩; have hpw : w.heap.size ≤ p := Nat.le_trans HT0.size hpn; have HT0 := HT0.trans ht1 (by simp))
        | (go_at_call 19; (with_reducible refine (kR2 _ _ _ hN1).mono ?_); rintro e u3 ⟨rfl, ht3⟩; have HT0 := HT0.trans ht3 (by intro k hk hl; simp at hk; omega); have hzl := Nat.le_refl u3.heap.size; have hZ := fun t => Struct.new u3 [.int .u16 zn, .bool zy, .int .u16 za, .int .u32 zm] t)
        | (go_at_call 26; (with_reducible refine (kN2 _ (HT0.alloc _)).mono ?_); rintro e u2 ⟨q, v2, rfl, hR2, ht2, hqn, hvn2⟩; have hqw : w.heap.size ≤ q := Nat.le_trans (HT0.alloc _).size hqn; have hZ := (hZ 38).keep ht2 (by simp); have hzq : u3.heap.size ∉ [q] := (by simp at hqn ⊢; omega); have HT0 := (HT0.alloc _).trans ht2 (by simp))
        | (go_at_call 25; (with_reducible refine (kR3 _ _ _ hR2).mono ?_); rintro e u4 ⟨rfl, ht4⟩; have hZ := hZ.keep ht4 hzq; have z0 := (hZ.2 0 _ rfl).1; have z1 := (hZ.2 1 _ rfl).1; have z2 := (hZ.2 2 _ rfl).1; have z3 := (hZ.2 3 _ rfl).1; have hzl4 := hZ.1; have HT0 := HT0.trans ht4 (by intro k hk hl; simp at hk; omega)))
      go_ret
      exact BtL.bool_ret (by simp) (HT0.alloc _).none
    · rw [hz] at kRd
      subst e1 e2
      simp only [if_true, if_false, Bool.false_eq_true, Bool.not_true, Bool.not_false, Ch.hVal, Ch.zeroH] at kRd
      clear hz
      go_enter Try.func4, Try.ntmps4
      go_wp2_with fail
      obtain ⟨W0, hW0⟩ : ∃ W0, W0 = w.alloc (.cells #[.int .u16 a0_0, .bool false, .int .u16 0, .int .u32 a0_3] 38) := ⟨_, rfl⟩
      obtain ⟨B, hB⟩ : ∃ b, b = w.heap.size := ⟨_, rfl⟩
      rw [← hW0, ← hB]
      have hT : Turned [] w W0 := by rw [hW0]; exact (Turned.refl [] w).alloc _
      have hH : Struct B [.int .u16 a0_0, .bool false, .int .u16 0, .int .u32 a0_3] W0 := by rw [hW0, hB]; exact Struct.new w [.int .u16 a0_0, .bool false, .int .u16 0, .int .u32 a0_3] _
      have hwB : w.heap.size ≤ B := by omega
      clear hW0 hB
      refine (ChL.awake_any _).mono ?_
      rintro e u0 ⟨rfl, HT0⟩
      replace hT := hT.trans HT0 (by simp)
      replace hH := hH.keep HT0 (by simp)
      obtain ⟨h0, _⟩ := hH.2 0 _ rfl
      obtain ⟨h1, _⟩ := hH.2 1 _ rfl
      obtain ⟨h2, _⟩ := hH.2 2 _ rfl
      obtain ⟨h3, _⟩ := hH.2 3 _ rfl
      have hBu := hH.1
      go_wp2_with fail
      obtain ⟨W1, hW1⟩ : ∃ W, W = (u0.alloc (.cells #[.slice none 0 0, .int .i64 0] 55)).alloc (.cells #[.slice none 0 0] 58) := ⟨_, rfl⟩
      obtain ⟨P, hP⟩ : ∃ b, b = u0.heap.size := ⟨_, rfl⟩
      rw [← hW1, ← hP]
      have hTu : Turned [] u0 W1 := by rw [hW1]; exact ((Turned.refl [] u0).alloc _).alloc _
      have hp1 : PW P [] [P] W1 := by rw [hW1, hP]; exact (PW.new u0 55).keep ((Turned.refl [] _).alloc _) (by simp)
      have hq1 : BtR.RB (P + 1) [] [P + 1] W1 := by
        have := RBits.new 4 (u0.alloc (.cells #[.slice none 0 0, .int .i64 0] 55)) 58
        rw [show (u0.alloc (.cells #[.slice none 0 0, .int .i64 0] 55)).heap.size = P + 1 by simp [hP]] at this
        rw [hW1]; exact this
      have hTs := hT.size
      have hwP : w.heap.size ≤ P := by omega
      have hBP : B < P := by omega
      replace hT := hT.trans hTu (by simp)
      replace hH := hH.keep hTu (by simp)
      clear hW1 hP hTu h0 h1 h2 h3 hBu hTs
      refine (ChW.put_any P [] [P] ⟨a0_0, false, 0, a0_3⟩ hwf W1 hp1 (by simp)).mono ?_
      rintro e u1 ⟨rfl, F1, hp, hm1⟩
      rw [List.nil_append] at hp
      have hF1 : ∀ k ∈ F1, k ≠ P + 1 ∧ k ≠ B ∧ w.heap.size ≤ k := by
        intro k hk
        have hs1 := hq1.lt (P + 1) (by simp)
        rcases hm1.2 k hk with h | h
        · simp at h; omega
        · omega
      replace hq1 := hq1.keep hm1.1 (by simp)
      replace hT := hT.trans hm1.1 (by intro k hk hl; simp at hk; omega)
      replace hH := hH.keep hm1.1 (by simp; omega)
      clear hm1 hp1
      obtain ⟨h0, _⟩ := hH.2 0 _ rfl
      obtain ⟨h1, _⟩ := hH.2 1 _ rfl
      obtain ⟨h2, _⟩ := hH.2 2 _ rfl
      obtain ⟨h3, _⟩ := hH.2 3 _ rfl
      go_wp2_with fail
      clear h0 h1 h2 h3
      refine (ChR.put_any (P + 1) [] [P + 1] ⟨a0_0, false, 0, a0_3⟩ hwf u1 hq1 (by simp)).mono ?_
      rintro e u2 ⟨rfl, F2, hq, hm2⟩
      rw [List.nil_append] at hq
      replace hp := hp.keep hm2.1 (by intro k hk hm; simp at hm; exact (hF1 k hk).1 hm)
      replace hT := hT.trans hm2.1 (by intro k hk hl; simp at hk; omega)
      replace hH := hH.keep hm2.1 (by simp; omega)
      clear hm2 hq1 hF1
      go_wp2_with fail
      refine (BtW.bytes_any _ _ _ _ hp (by omega)).mono ?_
      rintro e u3 ⟨v3, rfl, ho3, ht3, hb3⟩
      replace hp := hp.keep ht3 (by simp)
      replace hq := hq.keep ht3 (by simp)
      replace hT := hT.trans ht3 (by simp)
      replace hH := hH.keep ht3 (by simp)
      obtain ⟨oa, ca, rfl, _, _, hra, _⟩ := ho3.rowOf byEnc_len
      clear ho3 ht3 hb3
      go_wp2_with fail
      refine (BtD.new_any oa _ ca _ u3 rfl hra (by omega) (Bt.pack_lt _)).mono ?_
      rintro e u4 ⟨p4, v4, rfl, hN, ht4, hpn, hvn⟩
      have hpw : u3.heap.size ≤ p4 := hpn
      have hp4 : ∀ k, k < u3.heap.size → k ∉ [p4] := by intro k hk hm; simp at hm; omega
      have hpl := hp.lt
      have hql := hq.lt
      have hHl := hH.1
      have hTs := hT.size
      replace hp := hp.keep ht4 (by simp)
      replace hq := hq.keep ht4 (by simp)
      replace hT := hT.trans ht4 (by simp)
      replace hH := hH.keep ht4 (by simp)
      clear ht4 hra hpn hvn
      go_wp2_with fail
      refine (kRd _ _ _ hN).mono ?_
      rintro e u5 ⟨rfl, ht5⟩
      replace hp := hp.keep ht5 (fun k hk => hp4 k (hpl k hk))
      replace hq := hq.keep ht5 (fun k hk => hp4 k (hql k hk))
      replace hT := hT.trans ht5 (by intro k hk hl; simp at hk; omega)
      replace hH := hH.keep ht5 (hp4 B hHl)
      clear ht5 hN hpw hp4 hpl hql hHl hTs
      go_wp2_with fail
      obtain ⟨W6, hW6⟩ : ∃ W, W = u5.alloc (.cells #[.int .u16 0, .bool false, .int .u16 0, .int .u32 0] 38) := ⟨_, rfl⟩
      obtain ⟨X, hX⟩ : ∃ b, b = u5.heap.size := ⟨_, rfl⟩
      rw [← hW6, ← hX]
      have ht6 : Turned [] u5 W6 := by rw [hW6]; exact (Turned.refl [] u5).alloc _
      have hXs : Struct X [.int .u16 0, .bool false, .int .u16 0, .int .u32 0] W6 := by rw [hW6, hX]; exact Struct.new u5 [.int .u16 0, .bool false, .int .u16 0, .int .u32 0] _
      replace hp := hp.keep ht6 (by simp)
      replace hq := hq.keep ht6 (by simp)
      replace hT := hT.trans ht6 (by simp)
      replace hH := hH.keep ht6 (by simp)
      clear hW6 hX ht6
      refine (BtW.bytes_any _ _ _ _ hp (by omega)).mono ?_
      rintro e u7 ⟨v7, rfl, ho7, ht7, hb7⟩
      replace hp := hp.keep ht7 (by simp)
      replace hq := hq.keep ht7 (by simp)
      replace hT := hT.trans ht7 (by simp)
      replace hH := hH.keep ht7 (by simp)
      replace hXs := hXs.keep ht7 (by simp)
      clear ht7 hb7
      go_wp2_with fail
      refine (BtR.bytes_any _ _ _ _ hq (by omega)).mono ?_
      rintro e u8 ⟨v8, rfl, ho8, ht8, hb8⟩
      replace hp := hp.keep ht8 (by simp)
      replace ho7 := ho7.keep ht8 (by simp)
      replace hT := hT.trans ht8 (by simp)
      replace hH := hH.keep ht8 (by simp)
      replace hXs := hXs.keep ht8 (by simp)
      obtain ⟨ob, cb, rfl, _, _, hrb, _⟩ := ho7.rowOf byEnc_len
      obtain ⟨oc, cc, rfl, _, _, hrc, _⟩ := ho8.rowOf byEnc_len
      clear ht8 hb8 ho7 ho8 hq
      go_wp2_with fail
      refine (BtL.same_any ob oc cb cc _ _ u8 hrb hrc (by omega) (by omega)).mono ?_
      rintro e u9 ⟨rfl, ht9⟩
      rw [decide_eq_true rfl]
      replace hp := hp.keep ht9 (by simp)
      replace hT := hT.trans ht9 (by simp)
      replace hH := hH.keep ht9 (by simp)
      replace hXs := hXs.keep ht9 (by simp)
      clear ht9 hrb hrc
      go_wp2_with fail
      refine (BtW.count_any _ _ _ _ hp).mono ?_
      rintro e w9 ⟨rfl, hw9⟩
      rw [hw9, hlen]
      clear hw9 w9 hp
      obtain ⟨h0, _⟩ := hH.2 0 _ rfl
      obtain ⟨h1, _⟩ := hH.2 1 _ rfl
      obtain ⟨h2, _⟩ := hH.2 2 _ rfl
      obtain ⟨h3, _⟩ := hH.2 3 _ rfl
      obtain ⟨x0, _⟩ := hXs.2 0 _ rfl
      obtain ⟨x1, _⟩ := hXs.2 1 _ rfl
      obtain ⟨x2, _⟩ := hXs.2 2 _ rfl
      obtain ⟨x3, _⟩ := hXs.2 3 _ rfl
      have HT0 := hT
      go_wp2_with (first
        | (go_at_call 20; (with_reducible refine (kN _ HT0).mono ?_); rintro e u1 ⟨p, v1, rfl, hN1, ht1, hpn, hvn1⟩; have hpw : w.heap.size ≤ p := Nat.le_trans HT0.size hpn; have HT0 := HT0.trans ht1 (by simp))
        | (go_at_call 19; (with_reducible refine (kR2 _ _ _ hN1).mono ?_); rintro e u3 ⟨rfl, ht3⟩; have HT0 := HT0.trans ht3 (by intro k hk hl; simp at hk; omega); have hzl := Nat.le_refl u3.heap.size; have hZ := fun t => Struct.new u3 [.int .u16 zn, .bool zy, .int .u16 za, .int .u32 zm] t)
        | (go_at_call 26; (with_reducible refine (kN2 _ (HT0.alloc _)).mono ?_); rintro e u2 ⟨q, v2, rfl, hR2, ht2, hqn, hvn2⟩; have hqw : w.heap.size ≤ q := Nat.le_trans (HT0.alloc _).size hqn; have hZ := (hZ 38).keep ht2 (by simp); have hzq : u3.heap.size ∉ [q] := (by simp at hqn ⊢; omega); have HT0 := (HT0.alloc _).trans ht2 (by simp))
        | (go_at_call 25; (with_reducible refine (kR3 _ _ _ hR2).mono ?_); rintro e u4 ⟨rfl, ht4⟩; have hZ := hZ.keep ht4 hzq; have z0 := (hZ.2 0 _ rfl).1; have z1 := (hZ.2 1 _ rfl).1; have z2 := (hZ.2 2 _ rfl).1; have z3 := (hZ.2 3 _ rfl).1; have hzl4 := hZ.1; have HT0 := HT0.trans ht4 (by intro k hk hl; simp at hk; omega)))
      go_ret
      exact BtL.bool_ret (by simp) (HT0.alloc _).none
  · have hsz' : 500 < (a1_n : Int) := by omega
    go_enter Try.func4, Try.ntmps4
    have HT0 : Turned [] w w := Turned.refl _ _
    go_wp2_with (go_at_call 8; (with_reducible refine (ChL.awake_any _).mono ?_); rintro e u0 ⟨rfl, HT1⟩; first | (with_reducible have HT0 := HT0.trans HT1 (by simp)) | (with_reducible have HT0 := (HT0.alloc _).trans HT1 (by simp)))
    go_ret
    exact ⟨rfl, HT0.none⟩

set_option maxRecDepth 100000 in
theorem lifted (os : Os) (started : os.Started) (H : Type) (enc : TypeId × Value → H) :
    ReturnsInHanded {} Try.checked os 4 .any (Rows.channelBitsSpec.pre6 enc Try.prog Try.f4 Rows.channelBitsRow.domain false) (Rows.channelBitsSpec.post enc Try.prog Try.f4 false true false false) := by
  refine returnsInHanded_of_change (C := Try.checked) own started (by kernel_rfl) Try.func4
    (ChangeSpec.witness6 (enc := enc) (C := Try.checked) false ⟨#[], #[.agg #[.int .u16 0, .bool false, .int .u16 0, .int .u32 0], .slice none 0 0], []⟩ 8 (by kernel_rfl) (by kernel_rfl) (by kernel_rfl) (by kernel_rfl)) ?_
  intro W base args ds gs before hval0 hW hcnd _
  have hval : ∀ (j : Nat) t v, Try.f4.params[j]? = some t → args[j]? = some v → Value.okWide Try.prog W .any base t v := hval0
  have hW' := hW
  obtain ⟨p, q, hA0, hV, rfl, hfz, hnd⟩ := hW
  have hA : DataW.TrodAll enc Try.prog W 0 (fun _ => true) true Try.f4.params.toList args.toList ds p := hA0
  rw [Try.params4] at hA hval
  obtain ⟨v0, vs0, d0, ds0, p0, q0, hargs, rfl, rfl, h0, r0⟩ := trodAll_cons hA
  obtain ⟨v1, vs1, d1, ds1, p1, q1, rfl, rfl, rfl, h1, r1⟩ := trodAll_cons r0
  obtain ⟨rfl, rfl, rfl⟩ := trodAll_nil r1
  obtain rfl : args = #[v0, v1] := by cases args; simp_all
  obtain ⟨rfl, rfl⟩ := trodVars_none hV
  have k0 := h0
  have lt0 : ∀ x ∈ p0, x.block < W.heap.size := by obtain ⟨m, hm⟩ := k0; exact DataW.trod_lt m _ _ _ hm
  have k1 := h1
  have lt1 : ∀ x ∈ p1, x.block < W.heap.size := by obtain ⟨m, hm⟩ := k1; exact DataW.trod_lt m _ _ _ hm
  obtain ⟨cs0, rfl, ok0⟩ := open_flat (d := 8) (ks := [.int .u16, .bool, .int .u16, .int .u32]) (Or.inl ⟨_, Try.underlying38⟩) (by kernel_rfl) (hval 0 38 v0 rfl rfl) h0
  obtain ⟨a0_0, a0_1, a0_2, a0_3, rfl, w0_0, w0_2, w0_3⟩ := flat0_of cs0 ok0
  obtain ⟨a1_o, a1_n, a1_c, rfl, w1_m, w1_l, w1⟩ := open_row Try.underlying52 Try.underlying5 (by kernel_rfl) (hval 1 52 v1 rfl rfl) h1
  clear hA0 hval0
  refine (walk a0_0 a0_1 a0_2 a0_3 a1_o a1_n a1_c w0_0 w0_2 w0_3 w1_m w1_l W w1).mono fun e W' ⟨he, bel⟩ => ?_
  subst he
  exact ⟨_, rfl, _, _, _, [], _, [], hW', trodAll_mk1 (shut_bool Try.underlying4 _), (trodAll_cons_mk (Below.trod laidOut (by kernel_rfl) (of_decide_eq_true (by kernel_rfl)) k0 bel lt0) (trodAll_cons_mk (Below.trod laidOut (by kernel_rfl) (of_decide_eq_true (by kernel_rfl)) k1 bel lt1) trodAll_mk0)), rfl, bel.frame _, fun h => by cases h⟩

theorem over : Rows.channelBitsRow.holds Try.pinned (OpenSpec.ofChange Rows.channelBitsSpec) :=
  OpenClaim.holds_of_wide 4 Try.f4 rfl rfl rfl rfl rfl rfl rfl ⟨rfl, rfl, rfl, rfl, rfl⟩ rfl rfl rfl rfl rfl (by kernel_rfl) Try.func4 (by kernel_rfl)
    (of_decide_eq_true (by kernel_rfl)) (by unfold Func.isWrapper; first | (rw [if_pos (by decide +kernel)]; kernel_rfl) | (rw [if_neg (by decide +kernel)]; exact ⟨rfl, rfl⟩))
    (fun os started H enc _ => lifted os started H enc)

theorem proved : Rows.ChannelBitsSaid :=
  over
#print axioms proved
end Go.Proofs.Ytloobijdpchppaa.channelBits

/- Between two channels, whatever is lost, doubled and turned: what is acked came, each at most once, and no datagram is taken twice. -/
import Derived.Test.YtloobijdpchppaaRows
import Derived.Test.YtloobijdpchppaaChLaw4
import Derived.WalkKit
import Derived.ProofKit
import Derived.OpenShut
import Derived.ChangeOld
import Derived.Below
import Derived.WalkSmall
import Derived.Lib.SmallJoins
import Derived.Laws.IdiomArrays
namespace Go.Proofs.Ytloobijdpchppaa.channelTwo
open Go.ChangeShapes Go.WideShapes Go.ChangeAt Go.RowKit
set_option linter.unusedVariables false

theorem own : ownKnob Try.prog.godebug = none := by kernel_rfl
theorem laidOut : laidOutB Try.prog = true := by kernel_rfl

set_option linter.unusedSimpArgs false in
set_option maxRecDepth 20000 in
set_option maxHeartbeats 8000000 in
theorem walk (a0_o : Option Addr) (a0_n a0_c : Nat) (a0_l : List (Int × Int)) (w0_m : a0_n ≤ maxLen) (w0_l : a0_n ≤ a0_c) (w0_e : a0_l.length = a0_n) (w0_k : ∀ a ∈ a0_l, AllOk [.int .i64, .int .i64] (paEnc a)) (w : World) (w0 : RowOf 2 paEnc a0_o a0_l w) :
    Calls Try.prog 5 #[.slice a0_o a0_n a0_c] w fun e w' => e = .returned (.bool true) ∧ Below w.heap.size w w' := by
  unfold maxLen at w0_m
  by_cases h300 : (a0_n : Int) ≤ 300
  · have h300' : ¬ 300 < (a0_n : Int) := by omega
    go_enter Try.func5, Try.ntmps5
    go_wp2_with (go_at_call 8; (with_reducible refine (ChL.awake_any _).mono ?_); rintro e u0 ⟨rfl, HT0⟩)
    have hb0 := ChL.Two.start u0 31 77
    obtain ⟨W1, hW1⟩ : ∃ W, W = (((u0.alloc (.cells #[.int .u16 0, .bool false, .int .u16 0, .int .u32 0, .slice none 0 0] 31)).alloc (.cells #[.pointer (some ⟨u0.heap.size, 0, none⟩), .slice none 0 0, .slice none 0 0, .slice none 0 0] 77)).alloc (.cells #[.int .u16 0, .bool false, .int .u16 0, .int .u32 0, .slice none 0 0] 31)).alloc (.cells #[.pointer (some ⟨u0.heap.size + 2, 0, none⟩), .slice none 0 0, .slice none 0 0, .slice none 0 0] 77) := ⟨_, rfl⟩
    obtain ⟨C, hC⟩ : ∃ b, b = u0.heap.size := ⟨_, rfl⟩
    obtain ⟨P, hP⟩ : ∃ b, b = u0.heap.size + 1 := ⟨_, rfl⟩
    obtain ⟨D, hD⟩ : ∃ b, b = u0.heap.size + 2 := ⟨_, rfl⟩
    obtain ⟨Q, hQ⟩ : ∃ b, b = u0.heap.size + 3 := ⟨_, rfl⟩
    rw [← hW1, ← hQ, ← hP, ← hD, ← hC] at hb0
    rw [← hW1, ← hQ, ← hD, ← hP, ← hC]
    clear hW1 hC hD hP hQ
    generalize decide (300 < (a0_n : Int)) = q
    go_loopw [5] (fun i wr => ∃ k : Nat, k ≤ a0_n ∧ i = .int .i64 (k : Int) ∧ ∃ a b, ChL.Two u0 [] P C Q D a b wr ∧ a.sent.length ≤ k ∧ b.sent.length ≤ k) (fun i _ => a0_n - (intOf i).toNat)
    case atStart => exact ⟨0, by omega, rfl, _, _, hb0, by simp [Ch.none], by simp [Ch.none]⟩
    case round =>
      clear hb0
      obtain ⟨k, hk, rfl, a, b, hB, hla, hlb⟩ := hrel
      by_cases hlt : (k : Int) < (a0_n : Int)
      · obtain ⟨⟨x, n⟩, hx⟩ : ∃ a, a0_l[k]? = some a := ⟨_, List.getElem?_eq_getElem (by omega)⟩
        obtain ⟨g, off, rfl, hg, p0, p1⟩ := pa_at (w0.keep HT0.none) hx
        have hgl := Nat.lt_of_lt_of_le hg hB.t.size
        replace p0 := (hB.t.cell (p := ⟨g, off + k * 2, none⟩) hg (by simp)).trans p0
        replace p1 := (hB.t.cell (p := ⟨g, off + k * 2 + 1, none⟩) hg (by simp)).trans p1
        clear hx w0
        by_cases hx1 : x = 1
        · subst hx1
          have kQ := ChL.send_two hB (by omega)
          go_wp2_with fail
          refine kQ.mono ?_
          rintro e u1 ⟨rfl, hN⟩
          have hB2 := hN
          clear kQ hN
          obtain ⟨hPl, p0, ⟨F, hc⟩, _⟩ := hB2.cells
          obtain ⟨hQl, q0, ⟨G, hd⟩, _⟩ := hB2.symm.cells
          have hra := hB2.room
          have hrb := hB2.symm.room
          have kO1 : ∀ (u : World), Turned [] u1 u → Calls Try.prog 14 #[.pointer (some ⟨C, 0, none⟩)] u fun e w' => ∃ oa ca, e = .returned (.slice oa (Ch.sendE a).s.o.length ca) ∧ Turned [] u w' := fun u hu => (ChW.open_any C F _ u (hc.keep hu (by simp)) hra).mono fun e w' ⟨v', h1, h2, h3, _⟩ => by
            obtain ⟨oa, ca, rfl, _, _⟩ := NumsAt.row h2
            exact ⟨oa, ca, h1, h3⟩
          have kO2 : ∀ (u : World), Turned [] u1 u → Calls Try.prog 14 #[.pointer (some ⟨D, 0, none⟩)] u fun e w' => ∃ oa ca, e = .returned (.slice oa (b).s.o.length ca) ∧ Turned [] u w' := fun u hu => (ChW.open_any D G _ u (hd.keep hu (by simp)) hrb).mono fun e w' ⟨v', h1, h2, h3, _⟩ => by
            obtain ⟨oa, ca, rfl, _, _⟩ := NumsAt.row h2
            exact ⟨oa, ca, h1, h3⟩
          obtain ⟨na, hna⟩ : ∃ n, n = (Ch.sendE a).s.o.length := ⟨_, rfl⟩
          obtain ⟨nb, hnb⟩ : ∃ n, n = (b).s.o.length := ⟨_, rfl⟩
          rw [← hna] at kO1
          rw [← hnb] at kO2
          have hna6 : ¬ (64 : Int) < (na : Int) := by omega
          have hnb6 : ¬ (64 : Int) < (nb : Int) := by omega
          have HH : Hid (ChL.Two _ _ _ _ _ _ _ _ _) := hB2
          have HLA : Hid ((Ch.sendE a).sent.length ≤ k + 1 ∧ (b).sent.length ≤ k + 1) := ⟨by show (Ch.sendE a).sent.length ≤ _; unfold Ch.sendE; rw [List.length_append, List.length_singleton]; omega, by omega⟩
          have HT : Turned [] u1 u1 := Turned.refl _ _
          clear hna hnb hra hrb hc hd hB2
          go_wp2_with (first
            | (go_at_call 14; (with_reducible refine (kO1 _ HT).mono ?_); rintro e u71 ⟨oa1, ca1, rfl, ht1⟩; have q0 := (ht1.cell (p := ⟨Q, 0, none⟩) hQl (by simp)).trans q0; have HT := HT.trans ht1 (by simp); clear ht1)
            | (go_at_call 14; (with_reducible refine (kO2 _ HT).mono ?_); rintro e u72 ⟨oa2, ca2, rfl, ht2⟩; have HT := HT.trans ht2 (by simp); clear ht2))
          go_roundw
          case rel => exact ⟨k + 1, by omega, by go_num, _, _, HH.out.keep HT, HLA.out.1, HLA.out.2⟩
          case measure => simp [intOf]; omega
        · by_cases hx2 : x = 2
          · subst hx2
            have kQ := ChL.send_two hB.symm (by omega)
            go_wp2_with fail
            refine kQ.mono ?_
            rintro e u1 ⟨rfl, hN⟩
            have hB2 := hN.symm
            clear kQ hN
            obtain ⟨hPl, p0, ⟨F, hc⟩, _⟩ := hB2.cells
            obtain ⟨hQl, q0, ⟨G, hd⟩, _⟩ := hB2.symm.cells
            have hra := hB2.room
            have hrb := hB2.symm.room
            have kO1 : ∀ (u : World), Turned [] u1 u → Calls Try.prog 14 #[.pointer (some ⟨C, 0, none⟩)] u fun e w' => ∃ oa ca, e = .returned (.slice oa (a).s.o.length ca) ∧ Turned [] u w' := fun u hu => (ChW.open_any C F _ u (hc.keep hu (by simp)) hra).mono fun e w' ⟨v', h1, h2, h3, _⟩ => by
              obtain ⟨oa, ca, rfl, _, _⟩ := NumsAt.row h2
              exact ⟨oa, ca, h1, h3⟩
            have kO2 : ∀ (u : World), Turned [] u1 u → Calls Try.prog 14 #[.pointer (some ⟨D, 0, none⟩)] u fun e w' => ∃ oa ca, e = .returned (.slice oa (Ch.sendE b).s.o.length ca) ∧ Turned [] u w' := fun u hu => (ChW.open_any D G _ u (hd.keep hu (by simp)) hrb).mono fun e w' ⟨v', h1, h2, h3, _⟩ => by
              obtain ⟨oa, ca, rfl, _, _⟩ := NumsAt.row h2
              exact ⟨oa, ca, h1, h3⟩
            obtain ⟨na, hna⟩ : ∃ n, n = (a).s.o.length := ⟨_, rfl⟩
            obtain ⟨nb, hnb⟩ : ∃ n, n = (Ch.sendE b).s.o.length := ⟨_, rfl⟩
            rw [← hna] at kO1
            rw [← hnb] at kO2
            have hna6 : ¬ (64 : Int) < (na : Int) := by omega
            have hnb6 : ¬ (64 : Int) < (nb : Int) := by omega
            have HH : Hid (ChL.Two _ _ _ _ _ _ _ _ _) := hB2
            have HLA : Hid ((a).sent.length ≤ k + 1 ∧ (Ch.sendE b).sent.length ≤ k + 1) := ⟨by omega, by show (Ch.sendE b).sent.length ≤ _; unfold Ch.sendE; rw [List.length_append, List.length_singleton]; omega⟩
            have HT : Turned [] u1 u1 := Turned.refl _ _
            clear hna hnb hra hrb hc hd hB2
            go_wp2_with (first
              | (go_at_call 14; (with_reducible refine (kO1 _ HT).mono ?_); rintro e u71 ⟨oa1, ca1, rfl, ht1⟩; have q0 := (ht1.cell (p := ⟨Q, 0, none⟩) hQl (by simp)).trans q0; have HT := HT.trans ht1 (by simp); clear ht1)
              | (go_at_call 14; (with_reducible refine (kO2 _ HT).mono ?_); rintro e u72 ⟨oa2, ca2, rfl, ht2⟩; have HT := HT.trans ht2 (by simp); clear ht2))
            go_roundw
            case rel => exact ⟨k + 1, by omega, by go_num, _, _, HH.out.keep HT, HLA.out.1, HLA.out.2⟩
            case measure => simp [intOf]; omega
          · by_cases hx3 : x = 3
            · subst hx3
              have kQ := ChL.take_two hB.symm n (by omega)
              go_wp2_with fail
              refine kQ.mono ?_
              rintro e u1 ⟨rfl, a1, b1, hN, hs1, hs2, _⟩
              have hB2 := hN.symm
              rw [← hs1] at hlb
              rw [← hs2] at hla
              clear kQ hN hs1 hs2
              obtain ⟨hPl, p0, ⟨F, hc⟩, _⟩ := hB2.cells
              obtain ⟨hQl, q0, ⟨G, hd⟩, _⟩ := hB2.symm.cells
              have hra := hB2.room
              have hrb := hB2.symm.room
              have kO1 : ∀ (u : World), Turned [] u1 u → Calls Try.prog 14 #[.pointer (some ⟨C, 0, none⟩)] u fun e w' => ∃ oa ca, e = .returned (.slice oa (b1).s.o.length ca) ∧ Turned [] u w' := fun u hu => (ChW.open_any C F _ u (hc.keep hu (by simp)) hra).mono fun e w' ⟨v', h1, h2, h3, _⟩ => by
                obtain ⟨oa, ca, rfl, _, _⟩ := NumsAt.row h2
                exact ⟨oa, ca, h1, h3⟩
              have kO2 : ∀ (u : World), Turned [] u1 u → Calls Try.prog 14 #[.pointer (some ⟨D, 0, none⟩)] u fun e w' => ∃ oa ca, e = .returned (.slice oa (a1).s.o.length ca) ∧ Turned [] u w' := fun u hu => (ChW.open_any D G _ u (hd.keep hu (by simp)) hrb).mono fun e w' ⟨v', h1, h2, h3, _⟩ => by
                obtain ⟨oa, ca, rfl, _, _⟩ := NumsAt.row h2
                exact ⟨oa, ca, h1, h3⟩
              obtain ⟨na, hna⟩ : ∃ n, n = (b1).s.o.length := ⟨_, rfl⟩
              obtain ⟨nb, hnb⟩ : ∃ n, n = (a1).s.o.length := ⟨_, rfl⟩
              rw [← hna] at kO1
              rw [← hnb] at kO2
              have hna6 : ¬ (64 : Int) < (na : Int) := by omega
              have hnb6 : ¬ (64 : Int) < (nb : Int) := by omega
              have HH : Hid (ChL.Two _ _ _ _ _ _ _ _ _) := hB2
              have HLA : Hid ((b1).sent.length ≤ k + 1 ∧ (a1).sent.length ≤ k + 1) := ⟨by omega, by omega⟩
              have HT : Turned [] u1 u1 := Turned.refl _ _
              clear hna hnb hra hrb hc hd hB2
              go_wp2_with (first
                | (go_at_call 14; (with_reducible refine (kO1 _ HT).mono ?_); rintro e u71 ⟨oa1, ca1, rfl, ht1⟩; have q0 := (ht1.cell (p := ⟨Q, 0, none⟩) hQl (by simp)).trans q0; have HT := HT.trans ht1 (by simp); clear ht1)
                | (go_at_call 14; (with_reducible refine (kO2 _ HT).mono ?_); rintro e u72 ⟨oa2, ca2, rfl, ht2⟩; have HT := HT.trans ht2 (by simp); clear ht2))
              go_roundw
              case rel => exact ⟨k + 1, by omega, by go_num, _, _, HH.out.keep HT, HLA.out.1, HLA.out.2⟩
              case measure => simp [intOf]; omega
            · by_cases hx4 : x = 4
              · subst hx4
                have kQ := ChL.take_two hB n (by omega)
                go_wp2_with fail
                refine kQ.mono ?_
                rintro e u1 ⟨rfl, a1, b1, hN, hs1, hs2, _⟩
                have hB2 := hN
                rw [← hs1] at hla
                rw [← hs2] at hlb
                clear kQ hN hs1 hs2
                obtain ⟨hPl, p0, ⟨F, hc⟩, _⟩ := hB2.cells
                obtain ⟨hQl, q0, ⟨G, hd⟩, _⟩ := hB2.symm.cells
                have hra := hB2.room
                have hrb := hB2.symm.room
                have kO1 : ∀ (u : World), Turned [] u1 u → Calls Try.prog 14 #[.pointer (some ⟨C, 0, none⟩)] u fun e w' => ∃ oa ca, e = .returned (.slice oa (a1).s.o.length ca) ∧ Turned [] u w' := fun u hu => (ChW.open_any C F _ u (hc.keep hu (by simp)) hra).mono fun e w' ⟨v', h1, h2, h3, _⟩ => by
                  obtain ⟨oa, ca, rfl, _, _⟩ := NumsAt.row h2
                  exact ⟨oa, ca, h1, h3⟩
                have kO2 : ∀ (u : World), Turned [] u1 u → Calls Try.prog 14 #[.pointer (some ⟨D, 0, none⟩)] u fun e w' => ∃ oa ca, e = .returned (.slice oa (b1).s.o.length ca) ∧ Turned [] u w' := fun u hu => (ChW.open_any D G _ u (hd.keep hu (by simp)) hrb).mono fun e w' ⟨v', h1, h2, h3, _⟩ => by
                  obtain ⟨oa, ca, rfl, _, _⟩ := NumsAt.row h2
                  exact ⟨oa, ca, h1, h3⟩
                obtain ⟨na, hna⟩ : ∃ n, n = (a1).s.o.length := ⟨_, rfl⟩
                obtain ⟨nb, hnb⟩ : ∃ n, n = (b1).s.o.length := ⟨_, rfl⟩
                rw [← hna] at kO1
                rw [← hnb] at kO2
                have hna6 : ¬ (64 : Int) < (na : Int) := by omega
                have hnb6 : ¬ (64 : Int) < (nb : Int) := by omega
                have HH : Hid (ChL.Two _ _ _ _ _ _ _ _ _) := hB2
                have HLA : Hid ((a1).sent.length ≤ k + 1 ∧ (b1).sent.length ≤ k + 1) := ⟨by omega, by omega⟩
                have HT : Turned [] u1 u1 := Turned.refl _ _
                clear hna hnb hra hrb hc hd hB2
                go_wp2_with (first
                  | (go_at_call 14; (with_reducible refine (kO1 _ HT).mono ?_); rintro e u71 ⟨oa1, ca1, rfl, ht1⟩; have q0 := (ht1.cell (p := ⟨Q, 0, none⟩) hQl (by simp)).trans q0; have HT := HT.trans ht1 (by simp); clear ht1)
                  | (go_at_call 14; (with_reducible refine (kO2 _ HT).mono ?_); rintro e u72 ⟨oa2, ca2, rfl, ht2⟩; have HT := HT.trans ht2 (by simp); clear ht2))
                go_roundw
                case rel => exact ⟨k + 1, by omega, by go_num, _, _, HH.out.keep HT, HLA.out.1, HLA.out.2⟩
                case measure => simp [intOf]; omega
              · obtain ⟨hPl, p0, ⟨F, hc⟩, _⟩ := hB.cells
                obtain ⟨hQl, q0, ⟨G, hd⟩, _⟩ := hB.symm.cells
                have hra := hB.room
                have hrb := hB.symm.room
                have kO1 : ∀ (u : World), Turned [] wr u → Calls Try.prog 14 #[.pointer (some ⟨C, 0, none⟩)] u fun e w' => ∃ oa ca, e = .returned (.slice oa (a).s.o.length ca) ∧ Turned [] u w' := fun u hu => (ChW.open_any C F _ u (hc.keep hu (by simp)) hra).mono fun e w' ⟨v', h1, h2, h3, _⟩ => by
                  obtain ⟨oa, ca, rfl, _, _⟩ := NumsAt.row h2
                  exact ⟨oa, ca, h1, h3⟩
                have kO2 : ∀ (u : World), Turned [] wr u → Calls Try.prog 14 #[.pointer (some ⟨D, 0, none⟩)] u fun e w' => ∃ oa ca, e = .returned (.slice oa (b).s.o.length ca) ∧ Turned [] u w' := fun u hu => (ChW.open_any D G _ u (hd.keep hu (by simp)) hrb).mono fun e w' ⟨v', h1, h2, h3, _⟩ => by
                  obtain ⟨oa, ca, rfl, _, _⟩ := NumsAt.row h2
                  exact ⟨oa, ca, h1, h3⟩
                obtain ⟨na, hna⟩ : ∃ n, n = (a).s.o.length := ⟨_, rfl⟩
                obtain ⟨nb, hnb⟩ : ∃ n, n = (b).s.o.length := ⟨_, rfl⟩
                rw [← hna] at kO1
                rw [← hnb] at kO2
                have hna6 : ¬ (64 : Int) < (na : Int) := by omega
                have hnb6 : ¬ (64 : Int) < (nb : Int) := by omega
                have HH : Hid (ChL.Two _ _ _ _ _ _ _ _ _) := hB
                have HLA : Hid ((a).sent.length ≤ k + 1 ∧ (b).sent.length ≤ k + 1) := ⟨by omega, by omega⟩
                have HT : Turned [] wr wr := Turned.refl _ _
                clear hna hnb hra hrb hc hd hB
                go_wp2_with (first
                  | (go_at_call 14; (with_reducible refine (kO1 _ HT).mono ?_); rintro e u71 ⟨oa1, ca1, rfl, ht1⟩; have q0 := (ht1.cell (p := ⟨Q, 0, none⟩) hQl (by simp)).trans q0; have HT := HT.trans ht1 (by simp); clear ht1)
                  | (go_at_call 14; (with_reducible refine (kO2 _ HT).mono ?_); rintro e u72 ⟨oa2, ca2, rfl, ht2⟩; have HT := HT.trans ht2 (by simp); clear ht2))
                go_roundw
                case rel => exact ⟨k + 1, by omega, by go_num, _, _, HH.out.keep HT, HLA.out.1, HLA.out.2⟩
                case measure => simp [intOf]; omega
      · go_wp2_with fail
        go_ret
        exact ⟨rfl, (HT0.trans hB.t (by simp)).none⟩
  · have hbig : 300 < (a0_n : Int) := by omega
    have HT0 : Turned [] w w := Turned.refl _ _
    go_enter Try.func5, Try.ntmps5
    go_wp2_with (go_at_call 8; (with_reducible refine (ChL.awake_any _).mono ?_); rintro e u0 ⟨rfl, HT1⟩; have HT0 := HT0.trans HT1 (by simp))
    go_ret
    exact ⟨rfl, HT0.none⟩

set_option maxRecDepth 100000 in
theorem lifted (os : Os) (started : os.Started) (H : Type) (enc : TypeId × Value → H) :
    ReturnsInHanded {} Try.checked os 5 .any (Rows.channelTwoSpec.pre6 enc Try.prog Try.f5 Rows.channelTwoRow.domain false) (Rows.channelTwoSpec.post enc Try.prog Try.f5 false true false false) := by
  refine returnsInHanded_of_change (C := Try.checked) own started (by kernel_rfl) Try.func5
    (ChangeSpec.witness6 (enc := enc) (C := Try.checked) false ⟨#[], #[.slice none 0 0], []⟩ 8 (by kernel_rfl) (by kernel_rfl) (by kernel_rfl) (by kernel_rfl)) ?_
  intro W base args ds gs before hval0 hW hcnd _
  have hval : ∀ (j : Nat) t v, Try.f5.params[j]? = some t → args[j]? = some v → Value.okWide Try.prog W .any base t v := hval0
  have hW' := hW
  obtain ⟨p, q, hA0, hV, rfl, hfz, hnd⟩ := hW
  have hA : DataW.TrodAll enc Try.prog W 0 (fun _ => true) true Try.f5.params.toList args.toList ds p := hA0
  rw [Try.params5] at hA hval
  obtain ⟨v0, vs0, d0, ds0, p0, q0, hargs, rfl, rfl, h0, r0⟩ := trodAll_cons hA
  obtain ⟨rfl, rfl, rfl⟩ := trodAll_nil r0
  obtain rfl : args = #[v0] := by cases args; simp_all
  obtain ⟨rfl, rfl⟩ := trodVars_none hV
  have k0 := h0
  have lt0 : ∀ x ∈ p0, x.block < W.heap.size := by obtain ⟨m, hm⟩ := k0; exact DataW.trod_lt m _ _ _ hm
  obtain ⟨a0_o, a0_n, a0_c, a0_l, rfl, w0_m, w0_l, w0_e, w0, w0_k⟩ := open_flats (d := 8) (ks := [.int .i64, .int .i64]) paEnc Try.underlying73 (by kernel_rfl) (by kernel_rfl) (by decide) paEnc_of (hval 0 73 v0 rfl rfl) h0
  clear hA0 hval0
  refine (walk a0_o a0_n a0_c a0_l w0_m w0_l w0_e w0_k W w0).mono fun e W' ⟨he, bel⟩ => ?_
  subst he
  exact ⟨_, rfl, _, _, _, [], _, [], hW', trodAll_mk1 (shut_bool Try.underlying4 _), (trodAll_cons_mk (Below.trod laidOut (by kernel_rfl) (of_decide_eq_true (by kernel_rfl)) k0 bel lt0) trodAll_mk0), rfl, bel.frame _, fun h => by cases h⟩

theorem over : Rows.channelTwoRow.holds Try.pinned (OpenSpec.ofChange Rows.channelTwoSpec) :=
  OpenClaim.holds_of_wide 5 Try.f5 rfl rfl rfl rfl rfl rfl rfl ⟨rfl, rfl, rfl, rfl, rfl⟩ rfl rfl rfl rfl rfl (by kernel_rfl) Try.func5 (by kernel_rfl)
    (of_decide_eq_true (by kernel_rfl)) (by unfold Func.isWrapper; first | (rw [if_pos (by decide +kernel)]; kernel_rfl) | (rw [if_neg (by decide +kernel)]; exact ⟨rfl, rfl⟩))
    (fun os started H enc _ => lifted os started H enc)

theorem proved : Rows.ChannelTwoSaid :=
  over
#print axioms proved
end Go.Proofs.Ytloobijdpchppaa.channelTwo

/- Once a reader has failed it gives 0, and stays where it is, whatever is asked for (500 bytes, 60 times). -/
import Derived.Test.YtbdjgpnodcepeaaRows
import Derived.Test.YtbdjgpnodcepeaaBitLaw2
import Derived.Test.YtbdjgpnodcepeaaInts
import Derived.Test.YtbdjgpnodcepeaaFlat
import Derived.WalkKit
import Derived.ProofKit
import Derived.OpenShut
import Derived.ChangeOld
import Derived.Below
import Derived.WalkSmall
import Derived.Lib.SmallJoins
import Derived.Laws.IdiomArrays
namespace Go.Proofs.Ytbdjgpnodcepeaa.bitsFails
open Go.ChangeShapes Go.WideShapes Go.ChangeAt Go.RowKit
set_option linter.unusedVariables false

theorem own : ownKnob Try.prog.godebug = none := by kernel_rfl
theorem laidOut : laidOutB Try.prog = true := by kernel_rfl

set_option maxRecDepth 20000 in
set_option maxHeartbeats 8000000 in
theorem walk (a0_o : Option Addr) (a0_n a0_c : Nat) (a1_o : Option Addr) (a1_n a1_c : Nat) (a1_l : List (Bool × Int × Int)) (w0_m : a0_n ≤ maxLen) (w0_l : a0_n ≤ a0_c) (w1_m : a1_n ≤ maxLen) (w1_l : a1_n ≤ a1_c) (w1_e : a1_l.length = a1_n) (w1_k : ∀ a ∈ a1_l, AllOk [.bool, .int .u64, .int .i64] (opEnc a)) (w : World) (w0 : Ints .u8 a0_o a0_n w) (w1 : RowOf 3 opEnc a1_o a1_l w) :
    Calls Try.prog 8 #[.slice a0_o a0_n a0_c, .slice a1_o a1_n a1_c] w fun e w' => e = .returned (.bool true) ∧ Below w.heap.size w w' := by
  unfold maxLen at w0_m w1_m
  by_cases hsz : a0_n ≤ 500 ∧ a1_n ≤ 60
  · obtain ⟨s1, s2⟩ := hsz
    have s1' : ¬ 500 < (a0_n : Int) := by omega
    have s2' : ¬ 60 < (a1_n : Int) := by omega
    obtain ⟨bs, hbl, hb8, hbr⟩ := BtL.bytes_of w0
    have kN := fun (u0 : World) (h : Turned [] w u0) => BtD.new_any a0_o a0_n a0_c bs u0 hbl (hbr.turned h (by simp)) (by omega) hb8
    clear s1 s2
    go_enter Try.func8, Try.ntmps8
    go_wp2_with (first | (go_at_call 10; with_reducible refine (BtL.awake_any _).mono ?_; rintro e u0 ⟨rfl, HT0⟩) | (go_at_call 19; with_reducible refine (kN u0 HT0).mono ?_; rintro e u1 ⟨p, v, rfl, hN, ht1, hpn, hvn⟩))
    generalize decide (500 < (a0_n : Int)) = q0
    generalize decide (60 < (a1_n : Int)) = q1
    go_loopw [6] (fun i wr => ∃ (k : Nat) (r : Bt.Rd), k ≤ a1_n ∧ i = .int .i64 (k : Int) ∧ PRd p v bs r wr ∧ Turned [] u0 wr) (fun i _ => a1_n - (intOf i).toNat)
    case atStart => exact ⟨0, _, by omega, rfl, hN, ht1⟩
    case round =>
      clear hN ht1 kN
      obtain ⟨k, r, hk, rfl, HP0, HT⟩ := hrel
      by_cases hlt : (k : Int) < (a1_n : Int)
      · obtain ⟨⟨b, x, n⟩, ha⟩ : ∃ a, a1_l[k]? = some a := ⟨_, List.getElem?_eq_getElem (by omega)⟩
        have hrow : ∀ u, Turned [] u0 u → RowOf 3 opEnc a1_o a1_l u := fun u ht => (w1.keep HT0.none).turned ht (by simp)
        obtain ⟨g, off, rfl, hg, c0, c1, c2⟩ := op_at (hrow _ HT) ha
        have hcell : ∀ u, Turned [] u0 u → u.cell? ⟨g, off + k * 3, none⟩ = some (.bool b) ∧ u.cell? ⟨g, off + k * 3 + 1, none⟩ = some (.int .u64 x) ∧ u.cell? ⟨g, off + k * 3 + 2, none⟩ = some (.int .i64 n) := by
          intro u ht
          obtain ⟨g', off', he, _, d0, d1, d2⟩ := op_at (hrow u ht) ha
          simp at he
          obtain ⟨rfl, rfl⟩ := he
          exact ⟨d0, d1, d2⟩
        clear ha hrow
        cases b with
        | true =>
          have F := BtL.small_facts HP0.2.2.2.1
          by_cases hf1 : r.fail = true
          · obtain ⟨x0, hf2, HLE⟩ := F.2.1 hf1
            have HX : r.sTell = 0 := by rw [x0]
            have HX0 : True := trivial
            have hdone : r.sTake.done = false := by unfold Bt.Rd.done; rw [hf2]; rfl
            have hop : ∀ u, PRd p v bs r u → Calls Try.prog 21 #[.pointer (some ⟨p, 0, none⟩)] u fun e w' => e = .returned (.int .i64 0) ∧ PRd p v bs r.sTake w' ∧ Turned [p] u w' := by
              intro u hu
              have := BtD.small_any p v bs r u hu
              rw [HX] at this
              exact this
            have kok1 : ∀ u, PRd p v bs r u → Calls Try.prog 25 #[.pointer (some ⟨p, 0, none⟩)] u fun e w' => e = .returned (.bool (!true)) ∧ w' = u := by
              intro u hu
              have := BtD.ok_any p v _ _ u hu.1
              rw [hf1] at this
              exact this
            have kok2 : ∀ u, PRd p v bs r.sTake u → Calls Try.prog 25 #[.pointer (some ⟨p, 0, none⟩)] u fun e w' => e = .returned (.bool (!true)) ∧ w' = u := by
              intro u hu
              have := BtD.ok_any p v _ _ u hu.1
              rw [hf2] at this
              exact this
            have kleft1 : ∀ u, PRd p v bs r u → Calls Try.prog 26 #[.pointer (some ⟨p, 0, none⟩)] u fun e w' => e = .returned (.int .i64 (r.left : Int)) ∧ Turned [] u w' := fun u hu => BtD.left_any p v bs r u hu
            have kleft2 : ∀ u, PRd p v bs r.sTake u → Calls Try.prog 26 #[.pointer (some ⟨p, 0, none⟩)] u fun e w' => e = .returned (.int .i64 (r.left : Int)) ∧ Turned [] u w' := by
              intro u hu
              have := BtD.left_any p v bs _ u hu
              rw [HLE] at this
              exact this
            have kdone2 : ∀ u, PRd p v bs r.sTake u → Calls Try.prog 28 #[.pointer (some ⟨p, 0, none⟩)] u fun e w' => e = .returned (.bool false) ∧ Turned [] u w' := by
              intro u hu
              have := BtD.done_any p v bs _ u hu
              rw [hdone] at this
              exact this
            clear HX0 F
            go_wp2_with (first | (go_at_call 25; with_reducible refine (kok2 _ HP).mono ?_; rintro e u4 ⟨rfl, rfl⟩) | (go_at_call 25; with_reducible refine (kok1 _ HP0).mono ?_; rintro e u4 ⟨rfl, rfl⟩) | (go_at_call 26; with_reducible refine (kleft2 _ HP).mono ?_; rintro e u5 ⟨rfl, HT3⟩; have HP := HP.keep HT3 (by simp) (by simp); have HT := HT.trans HT3 (fun k hk _ => hk)) | (go_at_call 26; with_reducible refine (kleft1 _ HP0).mono ?_; rintro e u5 ⟨rfl, HT3⟩; have HP0 := HP0.keep HT3 (by simp) (by simp); have HT := HT.trans HT3 (fun k hk _ => hk); have ck := hcell _ HT; obtain ⟨c0, c1, c2⟩ := ck; have kop := hop _ HP0) | (go_at_call 21; with_reducible refine kop.mono ?_; rintro e u2 ⟨rfl, HP, HT2⟩; have HT := BtL.own_turned hpn HT HT2) | (go_at_call 28; with_reducible refine (kdone2 _ HP).mono ?_; rintro e u5 ⟨rfl, HT3⟩; have HP := HP.keep HT3 (by simp) (by simp); have HT := HT.trans HT3 (fun k hk _ => hk)))
            go_roundw
            case rel => exact ⟨k + 1, r.sTake, by omega, by go_num, HP, HT⟩
            case measure => simp [intOf]; omega
          · have hf1 : r.fail = false := by simpa using hf1
            by_cases hf2 : r.sTake.fail = true
            · obtain ⟨x0, HLE⟩ := F.2.2 hf2
              have HX : r.sTell = 0 := by rw [x0]
              have HX0 : True := trivial
              have hdone : r.sTake.done = false := by unfold Bt.Rd.done; rw [hf2]; rfl
              have hop : ∀ u, PRd p v bs r u → Calls Try.prog 21 #[.pointer (some ⟨p, 0, none⟩)] u fun e w' => e = .returned (.int .i64 0) ∧ PRd p v bs r.sTake w' ∧ Turned [p] u w' := by
                intro u hu
                have := BtD.small_any p v bs r u hu
                rw [HX] at this
                exact this
              have kok1 : ∀ u, PRd p v bs r u → Calls Try.prog 25 #[.pointer (some ⟨p, 0, none⟩)] u fun e w' => e = .returned (.bool (!false)) ∧ w' = u := by
                intro u hu
                have := BtD.ok_any p v _ _ u hu.1
                rw [hf1] at this
                exact this
              have kok2 : ∀ u, PRd p v bs r.sTake u → Calls Try.prog 25 #[.pointer (some ⟨p, 0, none⟩)] u fun e w' => e = .returned (.bool (!true)) ∧ w' = u := by
                intro u hu
                have := BtD.ok_any p v _ _ u hu.1
                rw [hf2] at this
                exact this
              have kleft1 : ∀ u, PRd p v bs r u → Calls Try.prog 26 #[.pointer (some ⟨p, 0, none⟩)] u fun e w' => e = .returned (.int .i64 (r.left : Int)) ∧ Turned [] u w' := fun u hu => BtD.left_any p v bs r u hu
              have kleft2 : ∀ u, PRd p v bs r.sTake u → Calls Try.prog 26 #[.pointer (some ⟨p, 0, none⟩)] u fun e w' => e = .returned (.int .i64 (r.left : Int)) ∧ Turned [] u w' := by
                intro u hu
                have := BtD.left_any p v bs _ u hu
                rw [HLE] at this
                exact this
              have kdone2 : ∀ u, PRd p v bs r.sTake u → Calls Try.prog 28 #[.pointer (some ⟨p, 0, none⟩)] u fun e w' => e = .returned (.bool false) ∧ Turned [] u w' := by
                intro u hu
                have := BtD.done_any p v bs _ u hu
                rw [hdone] at this
                exact this
              clear HX0 F
              go_wp2_with (first | (go_at_call 25; with_reducible refine (kok2 _ HP).mono ?_; rintro e u4 ⟨rfl, rfl⟩) | (go_at_call 25; with_reducible refine (kok1 _ HP0).mono ?_; rintro e u4 ⟨rfl, rfl⟩) | (go_at_call 26; with_reducible refine (kleft2 _ HP).mono ?_; rintro e u5 ⟨rfl, HT3⟩; have HP := HP.keep HT3 (by simp) (by simp); have HT := HT.trans HT3 (fun k hk _ => hk)) | (go_at_call 26; with_reducible refine (kleft1 _ HP0).mono ?_; rintro e u5 ⟨rfl, HT3⟩; have HP0 := HP0.keep HT3 (by simp) (by simp); have HT := HT.trans HT3 (fun k hk _ => hk); have ck := hcell _ HT; obtain ⟨c0, c1, c2⟩ := ck; have kop := hop _ HP0) | (go_at_call 21; with_reducible refine kop.mono ?_; rintro e u2 ⟨rfl, HP, HT2⟩; have HT := BtL.own_turned hpn HT HT2) | (go_at_call 28; with_reducible refine (kdone2 _ HP).mono ?_; rintro e u5 ⟨rfl, HT3⟩; have HP := HP.keep HT3 (by simp) (by simp); have HT := HT.trans HT3 (fun k hk _ => hk)))
              go_roundw
              case rel => exact ⟨k + 1, r.sTake, by omega, by go_num, HP, HT⟩
              case measure => simp [intOf]; omega
            · have hf2 : r.sTake.fail = false := by simpa using hf2
              have HX0 : True := trivial
              by_cases hdone : r.sTake.done = true
              ·
                have hle : ¬ (r.left : Int) < (r.sTake.left : Int) := by have := F.1; omega
                have h7 : ¬ 7 < (r.sTake.left : Int) := by have := BtL.done_left hdone; omega
                have hop : ∀ u, PRd p v bs r u → Calls Try.prog 21 #[.pointer (some ⟨p, 0, none⟩)] u fun e w' => e = .returned (.int .i64 r.sTell) ∧ PRd p v bs r.sTake w' ∧ Turned [p] u w' := by
                  intro u hu
                  have := BtD.small_any p v bs r u hu
                  exact this
                have kok1 : ∀ u, PRd p v bs r u → Calls Try.prog 25 #[.pointer (some ⟨p, 0, none⟩)] u fun e w' => e = .returned (.bool (!false)) ∧ w' = u := by
                  intro u hu
                  have := BtD.ok_any p v _ _ u hu.1
                  rw [hf1] at this
                  exact this
                have kok2 : ∀ u, PRd p v bs r.sTake u → Calls Try.prog 25 #[.pointer (some ⟨p, 0, none⟩)] u fun e w' => e = .returned (.bool (!false)) ∧ w' = u := by
                  intro u hu
                  have := BtD.ok_any p v _ _ u hu.1
                  rw [hf2] at this
                  exact this
                have kleft1 : ∀ u, PRd p v bs r u → Calls Try.prog 26 #[.pointer (some ⟨p, 0, none⟩)] u fun e w' => e = .returned (.int .i64 (r.left : Int)) ∧ Turned [] u w' := fun u hu => BtD.left_any p v bs r u hu
                have kleft2 : ∀ u, PRd p v bs r.sTake u → Calls Try.prog 26 #[.pointer (some ⟨p, 0, none⟩)] u fun e w' => e = .returned (.int .i64 (r.sTake.left : Int)) ∧ Turned [] u w' := by
                  intro u hu
                  have := BtD.left_any p v bs _ u hu
                  exact this
                have kdone2 : ∀ u, PRd p v bs r.sTake u → Calls Try.prog 28 #[.pointer (some ⟨p, 0, none⟩)] u fun e w' => e = .returned (.bool true) ∧ Turned [] u w' := by
                  intro u hu
                  have := BtD.done_any p v bs _ u hu
                  rw [hdone] at this
                  exact this
                clear HX0 F
                go_wp2_with (first | (go_at_call 25; with_reducible refine (kok2 _ HP).mono ?_; rintro e u4 ⟨rfl, rfl⟩) | (go_at_call 25; with_reducible refine (kok1 _ HP0).mono ?_; rintro e u4 ⟨rfl, rfl⟩) | (go_at_call 26; with_reducible refine (kleft2 _ HP).mono ?_; rintro e u5 ⟨rfl, HT3⟩; have HP := HP.keep HT3 (by simp) (by simp); have HT := HT.trans HT3 (fun k hk _ => hk)) | (go_at_call 26; with_reducible refine (kleft1 _ HP0).mono ?_; rintro e u5 ⟨rfl, HT3⟩; have HP0 := HP0.keep HT3 (by simp) (by simp); have HT := HT.trans HT3 (fun k hk _ => hk); have ck := hcell _ HT; obtain ⟨c0, c1, c2⟩ := ck; have kop := hop _ HP0) | (go_at_call 21; with_reducible refine kop.mono ?_; rintro e u2 ⟨rfl, HP, HT2⟩; have HT := BtL.own_turned hpn HT HT2) | (go_at_call 28; with_reducible refine (kdone2 _ HP).mono ?_; rintro e u5 ⟨rfl, HT3⟩; have HP := HP.keep HT3 (by simp) (by simp); have HT := HT.trans HT3 (fun k hk _ => hk)))
                go_roundw
                case rel => exact ⟨k + 1, r.sTake, by omega, by go_num, HP, HT⟩
                case measure => simp [intOf]; omega
              · have hdone : r.sTake.done = false := by simpa using hdone
                have hle : ¬ (r.left : Int) < (r.sTake.left : Int) := by have := F.1; omega
                have hop : ∀ u, PRd p v bs r u → Calls Try.prog 21 #[.pointer (some ⟨p, 0, none⟩)] u fun e w' => e = .returned (.int .i64 r.sTell) ∧ PRd p v bs r.sTake w' ∧ Turned [p] u w' := by
                  intro u hu
                  have := BtD.small_any p v bs r u hu
                  exact this
                have kok1 : ∀ u, PRd p v bs r u → Calls Try.prog 25 #[.pointer (some ⟨p, 0, none⟩)] u fun e w' => e = .returned (.bool (!false)) ∧ w' = u := by
                  intro u hu
                  have := BtD.ok_any p v _ _ u hu.1
                  rw [hf1] at this
                  exact this
                have kok2 : ∀ u, PRd p v bs r.sTake u → Calls Try.prog 25 #[.pointer (some ⟨p, 0, none⟩)] u fun e w' => e = .returned (.bool (!false)) ∧ w' = u := by
                  intro u hu
                  have := BtD.ok_any p v _ _ u hu.1
                  rw [hf2] at this
                  exact this
                have kleft1 : ∀ u, PRd p v bs r u → Calls Try.prog 26 #[.pointer (some ⟨p, 0, none⟩)] u fun e w' => e = .returned (.int .i64 (r.left : Int)) ∧ Turned [] u w' := fun u hu => BtD.left_any p v bs r u hu
                have kleft2 : ∀ u, PRd p v bs r.sTake u → Calls Try.prog 26 #[.pointer (some ⟨p, 0, none⟩)] u fun e w' => e = .returned (.int .i64 (r.sTake.left : Int)) ∧ Turned [] u w' := by
                  intro u hu
                  have := BtD.left_any p v bs _ u hu
                  exact this
                have kdone2 : ∀ u, PRd p v bs r.sTake u → Calls Try.prog 28 #[.pointer (some ⟨p, 0, none⟩)] u fun e w' => e = .returned (.bool false) ∧ Turned [] u w' := by
                  intro u hu
                  have := BtD.done_any p v bs _ u hu
                  rw [hdone] at this
                  exact this
                clear HX0 F
                go_wp2_with (first | (go_at_call 25; with_reducible refine (kok2 _ HP).mono ?_; rintro e u4 ⟨rfl, rfl⟩) | (go_at_call 25; with_reducible refine (kok1 _ HP0).mono ?_; rintro e u4 ⟨rfl, rfl⟩) | (go_at_call 26; with_reducible refine (kleft2 _ HP).mono ?_; rintro e u5 ⟨rfl, HT3⟩; have HP := HP.keep HT3 (by simp) (by simp); have HT := HT.trans HT3 (fun k hk _ => hk)) | (go_at_call 26; with_reducible refine (kleft1 _ HP0).mono ?_; rintro e u5 ⟨rfl, HT3⟩; have HP0 := HP0.keep HT3 (by simp) (by simp); have HT := HT.trans HT3 (fun k hk _ => hk); have ck := hcell _ HT; obtain ⟨c0, c1, c2⟩ := ck; have kop := hop _ HP0) | (go_at_call 21; with_reducible refine kop.mono ?_; rintro e u2 ⟨rfl, HP, HT2⟩; have HT := BtL.own_turned hpn HT HT2) | (go_at_call 28; with_reducible refine (kdone2 _ HP).mono ?_; rintro e u5 ⟨rfl, HT3⟩; have HP := HP.keep HT3 (by simp) (by simp); have HT := HT.trans HT3 (fun k hk _ => hk)))
                go_roundw
                case rel => exact ⟨k + 1, r.sTake, by omega, by go_num, HP, HT⟩
                case measure => simp [intOf]; omega

        | false =>
          have F := BtL.take_facts HP0.2.2.2.1 n
          by_cases hf1 : r.fail = true
          · obtain ⟨x0, hf2, HLE⟩ := F.2.1 hf1
            have HX : ((r.tell n : Nat) : Int) = 0 := by rw [x0]; rfl
            have HX0 : True := trivial
            have hdone : (r.take n).done = false := by unfold Bt.Rd.done; rw [hf2]; rfl
            have hop : ∀ u, PRd p v bs r u → Calls Try.prog 23 #[.pointer (some ⟨p, 0, none⟩), .int .i64 n] u fun e w' => e = .returned (.int .u64 0) ∧ PRd p v bs (r.take n) w' ∧ Turned [p] u w' := by
              intro u hu
              have := BtD.take_any p v bs r n u hu
              rw [HX] at this
              exact this
            have kok1 : ∀ u, PRd p v bs r u → Calls Try.prog 25 #[.pointer (some ⟨p, 0, none⟩)] u fun e w' => e = .returned (.bool (!true)) ∧ w' = u := by
              intro u hu
              have := BtD.ok_any p v _ _ u hu.1
              rw [hf1] at this
              exact this
            have kok2 : ∀ u, PRd p v bs (r.take n) u → Calls Try.prog 25 #[.pointer (some ⟨p, 0, none⟩)] u fun e w' => e = .returned (.bool (!true)) ∧ w' = u := by
              intro u hu
              have := BtD.ok_any p v _ _ u hu.1
              rw [hf2] at this
              exact this
            have kleft1 : ∀ u, PRd p v bs r u → Calls Try.prog 26 #[.pointer (some ⟨p, 0, none⟩)] u fun e w' => e = .returned (.int .i64 (r.left : Int)) ∧ Turned [] u w' := fun u hu => BtD.left_any p v bs r u hu
            have kleft2 : ∀ u, PRd p v bs (r.take n) u → Calls Try.prog 26 #[.pointer (some ⟨p, 0, none⟩)] u fun e w' => e = .returned (.int .i64 (r.left : Int)) ∧ Turned [] u w' := by
              intro u hu
              have := BtD.left_any p v bs _ u hu
              rw [HLE] at this
              exact this
            have kdone2 : ∀ u, PRd p v bs (r.take n) u → Calls Try.prog 28 #[.pointer (some ⟨p, 0, none⟩)] u fun e w' => e = .returned (.bool false) ∧ Turned [] u w' := by
              intro u hu
              have := BtD.done_any p v bs _ u hu
              rw [hdone] at this
              exact this
            clear HX0 F
            go_wp2_with (first | (go_at_call 25; with_reducible refine (kok2 _ HP).mono ?_; rintro e u4 ⟨rfl, rfl⟩) | (go_at_call 25; with_reducible refine (kok1 _ HP0).mono ?_; rintro e u4 ⟨rfl, rfl⟩) | (go_at_call 26; with_reducible refine (kleft2 _ HP).mono ?_; rintro e u5 ⟨rfl, HT3⟩; have HP := HP.keep HT3 (by simp) (by simp); have HT := HT.trans HT3 (fun k hk _ => hk)) | (go_at_call 26; with_reducible refine (kleft1 _ HP0).mono ?_; rintro e u5 ⟨rfl, HT3⟩; have HP0 := HP0.keep HT3 (by simp) (by simp); have HT := HT.trans HT3 (fun k hk _ => hk); have ck := hcell _ HT; obtain ⟨c0, c1, c2⟩ := ck; have kop := hop _ HP0) | (go_at_call 23; with_reducible refine kop.mono ?_; rintro e u2 ⟨rfl, HP, HT2⟩; have HT := BtL.own_turned hpn HT HT2) | (go_at_call 28; with_reducible refine (kdone2 _ HP).mono ?_; rintro e u5 ⟨rfl, HT3⟩; have HP := HP.keep HT3 (by simp) (by simp); have HT := HT.trans HT3 (fun k hk _ => hk)))
            go_roundw
            case rel => exact ⟨k + 1, (r.take n), by omega, by go_num, HP, HT⟩
            case measure => simp [intOf]; omega
          · have hf1 : r.fail = false := by simpa using hf1
            by_cases hf2 : (r.take n).fail = true
            · obtain ⟨x0, HLE⟩ := F.2.2 hf2
              have HX : ((r.tell n : Nat) : Int) = 0 := by rw [x0]; rfl
              have HX0 : True := trivial
              have hdone : (r.take n).done = false := by unfold Bt.Rd.done; rw [hf2]; rfl
              have hop : ∀ u, PRd p v bs r u → Calls Try.prog 23 #[.pointer (some ⟨p, 0, none⟩), .int .i64 n] u fun e w' => e = .returned (.int .u64 0) ∧ PRd p v bs (r.take n) w' ∧ Turned [p] u w' := by
                intro u hu
                have := BtD.take_any p v bs r n u hu
                rw [HX] at this
                exact this
              have kok1 : ∀ u, PRd p v bs r u → Calls Try.prog 25 #[.pointer (some ⟨p, 0, none⟩)] u fun e w' => e = .returned (.bool (!false)) ∧ w' = u := by
                intro u hu
                have := BtD.ok_any p v _ _ u hu.1
                rw [hf1] at this
                exact this
              have kok2 : ∀ u, PRd p v bs (r.take n) u → Calls Try.prog 25 #[.pointer (some ⟨p, 0, none⟩)] u fun e w' => e = .returned (.bool (!true)) ∧ w' = u := by
                intro u hu
                have := BtD.ok_any p v _ _ u hu.1
                rw [hf2] at this
                exact this
              have kleft1 : ∀ u, PRd p v bs r u → Calls Try.prog 26 #[.pointer (some ⟨p, 0, none⟩)] u fun e w' => e = .returned (.int .i64 (r.left : Int)) ∧ Turned [] u w' := fun u hu => BtD.left_any p v bs r u hu
              have kleft2 : ∀ u, PRd p v bs (r.take n) u → Calls Try.prog 26 #[.pointer (some ⟨p, 0, none⟩)] u fun e w' => e = .returned (.int .i64 (r.left : Int)) ∧ Turned [] u w' := by
                intro u hu
                have := BtD.left_any p v bs _ u hu
                rw [HLE] at this
                exact this
              have kdone2 : ∀ u, PRd p v bs (r.take n) u → Calls Try.prog 28 #[.pointer (some ⟨p, 0, none⟩)] u fun e w' => e = .returned (.bool false) ∧ Turned [] u w' := by
                intro u hu
                have := BtD.done_any p v bs _ u hu
                rw [hdone] at this
                exact this
              clear HX0 F
              go_wp2_with (first | (go_at_call 25; with_reducible refine (kok2 _ HP).mono ?_; rintro e u4 ⟨rfl, rfl⟩) | (go_at_call 25; with_reducible refine (kok1 _ HP0).mono ?_; rintro e u4 ⟨rfl, rfl⟩) | (go_at_call 26; with_reducible refine (kleft2 _ HP).mono ?_; rintro e u5 ⟨rfl, HT3⟩; have HP := HP.keep HT3 (by simp) (by simp); have HT := HT.trans HT3 (fun k hk _ => hk)) | (go_at_call 26; with_reducible refine (kleft1 _ HP0).mono ?_; rintro e u5 ⟨rfl, HT3⟩; have HP0 := HP0.keep HT3 (by simp) (by simp); have HT := HT.trans HT3 (fun k hk _ => hk); have ck := hcell _ HT; obtain ⟨c0, c1, c2⟩ := ck; have kop := hop _ HP0) | (go_at_call 23; with_reducible refine kop.mono ?_; rintro e u2 ⟨rfl, HP, HT2⟩; have HT := BtL.own_turned hpn HT HT2) | (go_at_call 28; with_reducible refine (kdone2 _ HP).mono ?_; rintro e u5 ⟨rfl, HT3⟩; have HP := HP.keep HT3 (by simp) (by simp); have HT := HT.trans HT3 (fun k hk _ => hk)))
              go_roundw
              case rel => exact ⟨k + 1, (r.take n), by omega, by go_num, HP, HT⟩
              case measure => simp [intOf]; omega
            · have hf2 : (r.take n).fail = false := by simpa using hf2
              have HX0 : True := trivial
              by_cases hdone : (r.take n).done = true
              ·
                have hle : ¬ (r.left : Int) < ((r.take n).left : Int) := by have := F.1; omega
                have h7 : ¬ 7 < ((r.take n).left : Int) := by have := BtL.done_left hdone; omega
                have hop : ∀ u, PRd p v bs r u → Calls Try.prog 23 #[.pointer (some ⟨p, 0, none⟩), .int .i64 n] u fun e w' => e = .returned (.int .u64 ((r.tell n : Nat) : Int)) ∧ PRd p v bs (r.take n) w' ∧ Turned [p] u w' := by
                  intro u hu
                  have := BtD.take_any p v bs r n u hu
                  exact this
                have kok1 : ∀ u, PRd p v bs r u → Calls Try.prog 25 #[.pointer (some ⟨p, 0, none⟩)] u fun e w' => e = .returned (.bool (!false)) ∧ w' = u := by
                  intro u hu
                  have := BtD.ok_any p v _ _ u hu.1
                  rw [hf1] at this
                  exact this
                have kok2 : ∀ u, PRd p v bs (r.take n) u → Calls Try.prog 25 #[.pointer (some ⟨p, 0, none⟩)] u fun e w' => e = .returned (.bool (!false)) ∧ w' = u := by
                  intro u hu
                  have := BtD.ok_any p v _ _ u hu.1
                  rw [hf2] at this
                  exact this
                have kleft1 : ∀ u, PRd p v bs r u → Calls Try.prog 26 #[.pointer (some ⟨p, 0, none⟩)] u fun e w' => e = .returned (.int .i64 (r.left : Int)) ∧ Turned [] u w' := fun u hu => BtD.left_any p v bs r u hu
                have kleft2 : ∀ u, PRd p v bs (r.take n) u → Calls Try.prog 26 #[.pointer (some ⟨p, 0, none⟩)] u fun e w' => e = .returned (.int .i64 ((r.take n).left : Int)) ∧ Turned [] u w' := by
                  intro u hu
                  have := BtD.left_any p v bs _ u hu
                  exact this
                have kdone2 : ∀ u, PRd p v bs (r.take n) u → Calls Try.prog 28 #[.pointer (some ⟨p, 0, none⟩)] u fun e w' => e = .returned (.bool true) ∧ Turned [] u w' := by
                  intro u hu
                  have := BtD.done_any p v bs _ u hu
                  rw [hdone] at this
                  exact this
                clear HX0 F
                go_wp2_with (first | (go_at_call 25; with_reducible refine (kok2 _ HP).mono ?_; rintro e u4 ⟨rfl, rfl⟩) | (go_at_call 25; with_reducible refine (kok1 _ HP0).mono ?_; rintro e u4 ⟨rfl, rfl⟩) | (go_at_call 26; with_reducible refine (kleft2 _ HP).mono ?_; rintro e u5 ⟨rfl, HT3⟩; have HP := HP.keep HT3 (by simp) (by simp); have HT := HT.trans HT3 (fun k hk _ => hk)) | (go_at_call 26; with_reducible refine (kleft1 _ HP0).mono ?_; rintro e u5 ⟨rfl, HT3⟩; have HP0 := HP0.keep HT3 (by simp) (by simp); have HT := HT.trans HT3 (fun k hk _ => hk); have ck := hcell _ HT; obtain ⟨c0, c1, c2⟩ := ck; have kop := hop _ HP0) | (go_at_call 23; with_reducible refine kop.mono ?_; rintro e u2 ⟨rfl, HP, HT2⟩; have HT := BtL.own_turned hpn HT HT2) | (go_at_call 28; with_reducible refine (kdone2 _ HP).mono ?_; rintro e u5 ⟨rfl, HT3⟩; have HP := HP.keep HT3 (by simp) (by simp); have HT := HT.trans HT3 (fun k hk _ => hk)))
                go_roundw
                case rel => exact ⟨k + 1, (r.take n), by omega, by go_num, HP, HT⟩
                case measure => simp [intOf]; omega
              · have hdone : (r.take n).done = false := by simpa using hdone
                have hle : ¬ (r.left : Int) < ((r.take n).left : Int) := by have := F.1; omega
                have hop : ∀ u, PRd p v bs r u → Calls Try.prog 23 #[.pointer (some ⟨p, 0, none⟩), .int .i64 n] u fun e w' => e = .returned (.int .u64 ((r.tell n : Nat) : Int)) ∧ PRd p v bs (r.take n) w' ∧ Turned [p] u w' := by
                  intro u hu
                  have := BtD.take_any p v bs r n u hu
                  exact this
                have kok1 : ∀ u, PRd p v bs r u → Calls Try.prog 25 #[.pointer (some ⟨p, 0, none⟩)] u fun e w' => e = .returned (.bool (!false)) ∧ w' = u := by
                  intro u hu
                  have := BtD.ok_any p v _ _ u hu.1
                  rw [hf1] at this
                  exact this
                have kok2 : ∀ u, PRd p v bs (r.take n) u → Calls Try.prog 25 #[.pointer (some ⟨p, 0, none⟩)] u fun e w' => e = .returned (.bool (!false)) ∧ w' = u := by
                  intro u hu
                  have := BtD.ok_any p v _ _ u hu.1
                  rw [hf2] at this
                  exact this
                have kleft1 : ∀ u, PRd p v bs r u → Calls Try.prog 26 #[.pointer (some ⟨p, 0, none⟩)] u fun e w' => e = .returned (.int .i64 (r.left : Int)) ∧ Turned [] u w' := fun u hu => BtD.left_any p v bs r u hu
                have kleft2 : ∀ u, PRd p v bs (r.take n) u → Calls Try.prog 26 #[.pointer (some ⟨p, 0, none⟩)] u fun e w' => e = .returned (.int .i64 ((r.take n).left : Int)) ∧ Turned [] u w' := by
                  intro u hu
                  have := BtD.left_any p v bs _ u hu
                  exact this
                have kdone2 : ∀ u, PRd p v bs (r.take n) u → Calls Try.prog 28 #[.pointer (some ⟨p, 0, none⟩)] u fun e w' => e = .returned (.bool false) ∧ Turned [] u w' := by
                  intro u hu
                  have := BtD.done_any p v bs _ u hu
                  rw [hdone] at this
                  exact this
                clear HX0 F
                go_wp2_with (first | (go_at_call 25; with_reducible refine (kok2 _ HP).mono ?_; rintro e u4 ⟨rfl, rfl⟩) | (go_at_call 25; with_reducible refine (kok1 _ HP0).mono ?_; rintro e u4 ⟨rfl, rfl⟩) | (go_at_call 26; with_reducible refine (kleft2 _ HP).mono ?_; rintro e u5 ⟨rfl, HT3⟩; have HP := HP.keep HT3 (by simp) (by simp); have HT := HT.trans HT3 (fun k hk _ => hk)) | (go_at_call 26; with_reducible refine (kleft1 _ HP0).mono ?_; rintro e u5 ⟨rfl, HT3⟩; have HP0 := HP0.keep HT3 (by simp) (by simp); have HT := HT.trans HT3 (fun k hk _ => hk); have ck := hcell _ HT; obtain ⟨c0, c1, c2⟩ := ck; have kop := hop _ HP0) | (go_at_call 23; with_reducible refine kop.mono ?_; rintro e u2 ⟨rfl, HP, HT2⟩; have HT := BtL.own_turned hpn HT HT2) | (go_at_call 28; with_reducible refine (kdone2 _ HP).mono ?_; rintro e u5 ⟨rfl, HT3⟩; have HP := HP.keep HT3 (by simp) (by simp); have HT := HT.trans HT3 (fun k hk _ => hk)))
                go_roundw
                case rel => exact ⟨k + 1, (r.take n), by omega, by go_num, HP, HT⟩
                case measure => simp [intOf]; omega

      · go_wp2_with fail
        go_ret
        exact ⟨rfl, (HT0.trans HT (fun k hk _ => hk)).none⟩
  · by_cases s1 : 500 < (a0_n : Int)
    · go_enter Try.func8, Try.ntmps8
      go_wp2_with (go_at_call 10; with_reducible refine (BtL.awake_any _).mono ?_; rintro e u1 ⟨rfl, HT⟩; first | (have HC : Turned [] w u1 := HC.trans HT (fun k hk _ => hk)) | (have HC : Turned [] w u1 := HT))
      go_ret
      exact ⟨rfl, HC.none⟩
    · have s2 : 60 < (a1_n : Int) := by omega
      go_enter Try.func8, Try.ntmps8
      go_wp2_with (go_at_call 10; with_reducible refine (BtL.awake_any _).mono ?_; rintro e u1 ⟨rfl, HT⟩; first | (have HC : Turned [] w u1 := HC.trans HT (fun k hk _ => hk)) | (have HC : Turned [] w u1 := HT))
      go_ret
      exact ⟨rfl, HC.none⟩

set_option maxRecDepth 100000 in
theorem lifted (os : Os) (started : os.Started) (H : Type) (enc : TypeId × Value → H) :
    ReturnsInHanded {} Try.checked os 8 .any (Rows.bitsFailsSpec.pre6 enc Try.prog Try.f8 Rows.bitsFailsRow.domain false) (Rows.bitsFailsSpec.post enc Try.prog Try.f8 false true false false) := by
  refine returnsInHanded_of_change (C := Try.checked) own started (by kernel_rfl) Try.func8
    (ChangeSpec.witness6 (enc := enc) (C := Try.checked) false ⟨#[], #[.slice none 0 0, .slice none 0 0], []⟩ 8 (by kernel_rfl) (by kernel_rfl) (by kernel_rfl) (by kernel_rfl)) ?_
  intro W base args ds gs before hval0 hW hcnd _
  have hval : ∀ (j : Nat) t v, Try.f8.params[j]? = some t → args[j]? = some v → Value.okWide Try.prog W .any base t v := hval0
  have hW' := hW
  obtain ⟨p, q, hA0, hV, rfl, hfz, hnd⟩ := hW
  have hA : DataW.TrodAll enc Try.prog W 0 (fun _ => true) true Try.f8.params.toList args.toList ds p := hA0
  rw [Try.params8] at hA hval
  obtain ⟨v0, vs0, d0, ds0, p0, q0, hargs, rfl, rfl, h0, r0⟩ := trodAll_cons hA
  obtain ⟨v1, vs1, d1, ds1, p1, q1, rfl, rfl, rfl, h1, r1⟩ := trodAll_cons r0
  obtain ⟨rfl, rfl, rfl⟩ := trodAll_nil r1
  obtain rfl : args = #[v0, v1] := by cases args; simp_all
  obtain ⟨rfl, rfl⟩ := trodVars_none hV
  have k0 := h0
  have lt0 : ∀ x ∈ p0, x.block < W.heap.size := by obtain ⟨m, hm⟩ := k0; exact DataW.trod_lt m _ _ _ hm
  have k1 := h1
  have lt1 : ∀ x ∈ p1, x.block < W.heap.size := by obtain ⟨m, hm⟩ := k1; exact DataW.trod_lt m _ _ _ hm
  obtain ⟨a0_o, a0_n, a0_c, rfl, w0_m, w0_l, w0⟩ := open_row Try.underlying25 Try.underlying5 (by kernel_rfl) (hval 0 25 v0 rfl rfl) h0
  obtain ⟨a1_o, a1_n, a1_c, a1_l, rfl, w1_m, w1_l, w1_e, w1, w1_k⟩ := open_flats (d := 8) (ks := [.bool, .int .u64, .int .i64]) opEnc Try.underlying22 (by kernel_rfl) (by kernel_rfl) (by decide) opEnc_of (hval 1 22 v1 rfl rfl) h1
  clear hA0 hval0
  refine (walk a0_o a0_n a0_c a1_o a1_n a1_c a1_l w0_m w0_l w1_m w1_l w1_e w1_k W w0 w1).mono fun e W' ⟨he, bel⟩ => ?_
  subst he
  exact ⟨_, rfl, _, _, _, [], _, [], hW', trodAll_mk1 (shut_bool Try.underlying4 _), (trodAll_cons_mk (Below.trod laidOut (by kernel_rfl) (of_decide_eq_true (by kernel_rfl)) k0 bel lt0) (trodAll_cons_mk (Below.trod laidOut (by kernel_rfl) (of_decide_eq_true (by kernel_rfl)) k1 bel lt1) trodAll_mk0)), rfl, bel.frame _, fun h => by cases h⟩

theorem over : Rows.bitsFailsRow.holds Try.pinned (OpenSpec.ofChange Rows.bitsFailsSpec) :=
  OpenClaim.holds_of_wide 8 Try.f8 rfl rfl rfl rfl rfl rfl rfl ⟨rfl, rfl, rfl, rfl, rfl⟩ rfl rfl rfl rfl rfl (by kernel_rfl) Try.func8 (by kernel_rfl)
    (of_decide_eq_true (by kernel_rfl)) (by unfold Func.isWrapper; first | (rw [if_pos (by decide +kernel)]; kernel_rfl) | (rw [if_neg (by decide +kernel)]; exact ⟨rfl, rfl⟩))
    (fun os started H enc _ => lifted os started H enc)

theorem proved : Rows.BitsFailsSaid :=
  over
#print axioms proved
end Go.Proofs.Ytbdjgpnodcepeaa.bitsFails

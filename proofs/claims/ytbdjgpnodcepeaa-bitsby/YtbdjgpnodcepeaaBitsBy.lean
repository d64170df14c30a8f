/- A number of n bits is put and taken the same bit by bit. -/
import Derived.Test.YtbdjgpnodcepeaaRows
import Derived.Test.YtbdjgpnodcepeaaBitLaw4
import Derived.Test.YtbdjgpnodcepeaaBitHeld
import Derived.WalkKit
import Derived.ProofKit
import Derived.OpenShut
import Derived.ChangeOld
import Derived.Below
import Derived.WalkSmall
import Derived.Lib.SmallJoins
import Derived.Laws.IdiomArrays
namespace Go.Proofs.Ytbdjgpnodcepeaa.bitsBy
open Go.ChangeShapes Go.WideShapes Go.ChangeAt Go.RowKit
set_option linter.unusedVariables false

theorem own : ownKnob Try.prog.godebug = none := by kernel_rfl
theorem laidOut : laidOutB Try.prog = true := by kernel_rfl

set_option linter.unusedSimpArgs false in
set_option maxRecDepth 20000 in
set_option maxHeartbeats 16000000 in
theorem walk (a0 : Int) (a1 : Int) (a2 : Int) (w0 : (Lit.int .u64 a0).wf = true) (w1 : (Lit.int .u8 a1).wf = true) (w2 : (Lit.int .u8 a2).wf = true) (w : World) :
    Calls Try.prog 9 #[.int .u64 a0, .int .u8 a1, .int .u8 a2] w fun e w' => e = .returned (.bool true) ∧ Below w.heap.size w w' := by
  obtain ⟨x0, x1⟩ := BtL.u64_range w0
  obtain ⟨X, rfl⟩ := Int.eq_ofNat_of_zero_le x0
  obtain ⟨N, hN, hN'⟩ := BtL.u8_nat w1
  obtain ⟨M, hM, hM'⟩ := BtL.u8_nat w2
  subst hN hM
  clear w0 w1 w2 x0
  obtain ⟨K, hK⟩ : ∃ K, K = N % 65 := ⟨_, rfl⟩
  obtain ⟨H, hH⟩ : ∃ H, H = M % 9 := ⟨_, rfl⟩
  have hKi : (N : Int) % 65 = (K : Int) := by omega
  have hHi : (M : Int) % 9 = (H : Int) := by omega
  have hK64 : K ≤ 64 := by omega
  have hH8 : H ≤ 8 := by omega
  clear hK hH
  have hlen40 : (BtL.by_ H X K).length ≤ 549755813888 := by rw [BtL.by_len]; omega
  have HK64 : Hid (K ≤ 64) := hK64
  have HH8 : Hid (H ≤ 8) := hH8
  have HL40 : Hid ((BtL.by_ H X K).length ≤ 549755813888) := hlen40
  have k1 := fun (p : Nat) (F : List Nat) (u : World) (h : PW p [] F u) => BtW.put_any p [] F 1 (H : Int) (by omega) (by omega) u h (by simp)
  have hp1 : [] ++ BtW.puts (1 : Int).toNat (H : Int) = BtL.by_ H X 0 := by
    have := BtL.puts_nat 1 H (by omega)
    rw [List.nil_append]
    refine Eq.trans this ?_
    unfold BtL.by_
    simp [Bt.bits]
  rw [hp1] at k1
  have hby0 : (BtL.by_ H X 0).length ≤ 549755813888 := by rw [BtL.by_len]; omega
  have k2 := fun (p : Nat) (F : List Nat) (u : World) (h : PW p (BtL.by_ H X 0) F u) => BtW.put_any p (BtL.by_ H X 0) F (X : Int) (K : Int) (by omega) x1 u h hby0
  have hp2 : BtL.by_ H X 0 ++ BtW.puts (X : Int).toNat (K : Int) = BtL.by_ H X K := by
    rw [BtL.puts_nat X K hK64]
    unfold BtL.by_
    simp [Bt.bits]
  rw [hp2] at k2
  clear hp1 hp2 hby0
  have hW0 := BtL.two_new w 27
  go_enter Try.func9, Try.ntmps9
  clear hK64 hH8 hlen40
  go_wp2_with (first | (go_at_call 13; obtain ⟨FA, hFA, hnA⟩ := BtL.two_a hW0; with_reducible refine (k1 _ FA _ hFA).mono ?_; rintro e u1 ⟨rfl, FA', hp', hm1⟩; have hW1 := hnA _ _ _ hp' hm1; clear hW0 hFA hnA hp' hm1) | (go_at_call 13; obtain ⟨FB, hFB, hnB⟩ := BtL.two_b hW1; with_reducible refine (k1 _ FB _ hFB).mono ?_; rintro e u2 ⟨rfl, FB', hp', hm1⟩; have hW2 := hnB _ _ _ hp' hm1; clear hW1 hFB hnB hp' hm1) | (go_at_call 13; obtain ⟨FA2, hFA2, hnA2⟩ := BtL.two_a hW2; with_reducible refine (k2 _ FA2 _ hFA2).mono ?_; rintro e u3 ⟨rfl, FA', hp', hm1⟩; have hW3 := hnA2 _ _ _ hp' hm1; clear hW2 hFA2 hnA2 hp' hm1))
  go_loopw [10] (fun iv wr => ∃ i : Nat, i ≤ K ∧ iv = .int .i64 (i : Int) ∧ BtL.Two w w.heap.size (w.heap.size + 1) (BtL.by_ H X K) (BtL.by_ H X i) wr) (fun iv _ => K - (intOf iv).toNat)
  case atStart => exact ⟨0, by omega, rfl, hW3⟩
  case round =>
    clear hW3
    obtain ⟨i, hi, rfl, hW⟩ := hrel
    have hK64 := HK64.out
    have hH8 := HH8.out
    by_cases hlt : (i : Int) < (K : Int)
    · have hbi : (BtL.by_ H X i).length ≤ 549755813888 := by rw [BtL.by_len]; omega
      have hxi : ((X : Int) / 2 ^ i) = ((X / 2 ^ i : Nat) : Int) := by simp
      have hxl : X / 2 ^ i ≤ X := Nat.div_le_self _ _
      have hx0' : 0 ≤ ((X : Int) / 2 ^ i) := by rw [hxi]; exact Int.natCast_nonneg _
      have hx1' : ((X : Int) / 2 ^ i) < 18446744073709551616 := by
        rw [hxi]
        generalize X / 2 ^ i = q at hxl
        omega
      obtain ⟨G, hG, hn⟩ := BtL.two_b hW
      have kb := BtW.put_any _ _ G ((X : Int) / 2 ^ i) 1 hx0' hx1' wr hG hbi
      rw [BtL.puts_bit, BtL.by_next] at kb
      have i64 : (i : Int) < 64 := by omega
      have i64' : i < 64 := by omega
      clear hbi hxi hxl hx0' hx1' hG
      go_wp2_with (go_at_call 13; with_reducible refine kb.mono ?_; rintro e u4 ⟨rfl, G', hp', hm1⟩; have hW4 := hn _ _ _ hp' hm1)
      go_roundw
      case rel => exact ⟨i + 1, by omega, by go_num, hW4⟩
      case measure => simp [intOf]; omega
    · have hi' : i = K := by omega
      subst hi'
      have hlen40 := HL40.out
      obtain ⟨FA, hFA, _⟩ := BtL.two_a hW
      have kB := BtW.bytes_any _ _ FA wr hFA hlen40
      have hpk := Bt.pack_length (BtL.by_ H X i)
      have hbl := BtL.by_len H X i
      have kN := fun (oa : Option Addr) (ca : Nat) (u : World) (hr : RowOf 1 byEnc oa (Bt.pack (BtL.by_ H X i)) u) => BtD.new_any oa (Bt.pack (BtL.by_ H X i)).length ca (Bt.pack (BtL.by_ H X i)) u rfl hr (by omega) (Bt.pack_lt _)
      obtain ⟨Z, hZ⟩ := BtL.br_start H X i
      have hZ' : (⟨Bt.unpack (Bt.pack (BtL.by_ H X i)), 0, false⟩ : Bt.Rd) = ⟨BtL.by_ H X i ++ Z, 0, false⟩ := by
        have h1 : Bt.unpack (Bt.pack (BtL.by_ H X i)) = BtL.by_ H X i ++ Z := hZ
        rw [h1]
      rw [hZ'] at kN
      have kT := fun (r : Nat) (v : Value) (u : World) (h : PRd r v (Bt.pack (BtL.by_ H X i)) ⟨BtL.by_ H X i ++ Z, 0, false⟩ u) => BtD.take_any r v (Bt.pack (BtL.by_ H X i)) _ (H : Int) u h
      rw [BtL.br_first (show H ≤ 64 by omega)] at kT
      clear hZ hZ' hpk hbl hFA hlt hi hlen40 hK64 hH8
      go_wp2_with (first | (go_at_call 17; with_reducible refine kB.mono ?_; rintro e u4 ⟨v1, rfl, ho1, ht1, hn1⟩; obtain ⟨oa, ca, rfl, _, _, hra, _⟩ := ho1.rowOf byEnc_len) | (go_at_call 19; with_reducible refine (kN oa ca u4 hra).mono ?_; rintro e u5 ⟨r, v, rfl, hN, ht2, hrn, hvn⟩) | (go_at_call 23; with_reducible refine (kT r v u5 hN).mono ?_; rintro e u6 ⟨rfl, HP6, HT6⟩))
      have hW4 := BtL.two_still hW ht1
      have hW6 : BtL.Two w w.heap.size (w.heap.size + 1) (BtL.by_ H X i) (BtL.by_ H X i) u6 := BtL.two_keep hW4 hrn ((ht2.mono (S' := [r]) (by simp)).trans HT6 (fun k hk _ => hk))
      have hr4 : u4.heap.size ≤ r := hrn
      have hT4 : Turned [r] u4 u6 := (ht2.mono (S' := [r]) (by simp)).trans HT6 (fun k hk _ => hk)
      clear kB kN kT hra ho1 hn1 hvn hN ht2 HT6 hW hW6 ht1
      go_loopw [12, 13] (fun yv iv wq => ∃ j : Nat, j ≤ i ∧ iv = .int .i64 (j : Int) ∧ yv = .int .u64 ((X % 2 ^ j : Nat) : Int) ∧ PRd r v (Bt.pack (BtL.by_ H X i)) (BtL.br H X i Z j) wq ∧ Turned [r] u4 wq) (fun _ iv _ => i - (intOf iv).toNat)
      case atStart => exact ⟨0, by omega, rfl, by rw [Nat.pow_zero, Nat.mod_one]; rfl, HP6, hT4⟩
      case round =>
        clear HP6 hT4
        obtain ⟨j, hj, rfl, rfl, HP, HT⟩ := hrel
        have hK64 := HK64.out
        by_cases hlt : (j : Int) < (i : Int)
        · have j64' : j < 64 := by omega
          have j64 : (j : Int) < 64 := by omega
          obtain ⟨t1, t2⟩ := BtL.br_take (h := H) (x := X) (Z := Z) (show j < i by omega)
          have kt := BtD.take_any r v _ (BtL.br H X i Z j) 1 wr HP
          rw [t1, t2] at kt
          have hy := BtL.y_val (x := X) j64'
          clear t1 t2
          obtain ⟨Y, hY⟩ : ∃ Y, Y = X % 2 ^ j := ⟨_, rfl⟩
          obtain ⟨B, hB⟩ : ∃ B, B = X / 2 ^ j % 2 := ⟨_, rfl⟩
          rw [← hY, ← hB] at hy
          rw [← hB] at kt
          rw [← hY]
          clear hY hB
          obtain ⟨Y', hY'⟩ : ∃ Y', Y' = X % 2 ^ (j + 1) := ⟨_, rfl⟩
          rw [← hY'] at hy
          have HY' : Hid (Y' = X % 2 ^ (j + 1)) := hY'
          clear hY'
          go_wp2_with (go_at_call 23; with_reducible refine kt.mono ?_; rintro e u7 ⟨rfl, HP7, HT7⟩)
          go_roundw
          case rel => exact ⟨j + 1, by omega, by go_num, by rw [← HY'.out], HP7, HT.trans HT7 (fun k hk _ => hk)⟩
          case measure => simp [intOf]; omega
        · have hj' : i = j := by omega
          subst hj'
          have HW := BtL.two_keep hW4 hr4 HT
          clear hj hlt hW4 HP HT
          have hlen40 := HL40.out
          have hbl := BtL.by_len H X i
          have kcount := fun (F : List Nat) (u : World) (h : PW w.heap.size (BtL.by_ H X i) F u) => BtW.count_any w.heap.size (BtL.by_ H X i) F u h
          rw [hbl, show ((H + i : Nat) : Int) = (i : Int) + (H : Int) by omega] at kcount
          clear hbl
          obtain ⟨HWs, HW⟩ : True ∧ BtL.Two w w.heap.size (w.heap.size + 1) (BtL.by_ H X i) (BtL.by_ H X i) wr.drew := ⟨trivial, BtL.two_still HW (Turned.refl [] wr).drew⟩
          have hH8 := HH8.out
          by_cases h64 : i = 64
          · subst h64
            have hmod : X % 2 ^ 64 = X := Nat.mod_eq_of_lt (by omega)
            rw [hmod]
            rw [show ((64 : Nat) : Int) = 64 from rfl] at kcount ⊢
            clear hmod
            have hMt : (M : Int).tmod 9 = (H : Int) := by rw [Int.tmod_eq_emod_of_nonneg (by omega)]; exact hHi
            have hwH := BtL.wrap_i64 (n := H) (by omega)
            have hwS := BtL.wrap_i64 (n := 64 + H) (by omega)
            rw [show ((64 + H : Nat) : Int) = 64 + (H : Int) by omega] at hwS
            go_wp2_with fail
            refine wp_region_held_drew (S := fun _ => True) (by kernel_rfl) trivial (fun hHeld => ?_)
            refine BtL.one_d (some 66) (i := 0) rfl rfl (by kernel_rfl) (by rfl) 10 #[] (by go_simp) ?_
            refine (BtL.awake_any _).mono ?_
            rintro e z1 ⟨rfl, Z1⟩
            have HW := BtL.two_still HW Z1
            refine ⟨_, rfl, trivial, fun hHeld => ?_⟩
            simp only [Act.put, List.setIfInBounds_toArray, List.set_cons_zero, List.set_cons_succ]
            refine BtL.take_d (some 67) (i := 1) (v := ?_) rfl rfl (by kernel_rfl) (by kernel_rfl) (by kernel_rfl) (fun _ _ _ h => h) (Or.inl ⟨by rfl, ?_⟩) (by assumption) ?_
            rotate_left
            · (intro w hSw; (try dsimp only at hSw); go_simp; try with_reducible rfl)
            simp only [Act.put, List.setIfInBounds_toArray, List.set_cons_zero, List.set_cons_succ]
            refine BtL.take_d (some 68) (i := 2) (v := ?_) rfl rfl (by kernel_rfl) (by kernel_rfl) (by kernel_rfl) (fun _ _ _ h => h) (Or.inl ⟨by rfl, ?_⟩) (by assumption) ?_
            rotate_left
            · (intro w hSw; (try dsimp only at hSw); go_simp; try with_reducible rfl)
            simp only [Act.put, List.setIfInBounds_toArray, List.set_cons_zero, List.set_cons_succ]
            refine BtL.take_d (some 71) (i := 5) (v := ?_) rfl rfl (by kernel_rfl) (by kernel_rfl) (by kernel_rfl) (fun _ _ _ h => h) (Or.inl ⟨by rfl, ?_⟩) (by assumption) ?_
            rotate_left
            · (intro w hSw; (try dsimp only at hSw); go_simp; try with_reducible rfl)
            simp only [Act.put, List.setIfInBounds_toArray, List.set_cons_zero, List.set_cons_succ]
            refine BtL.one_d (some 69) (i := 3) rfl rfl (by kernel_rfl) (by rfl) 17 #[.pointer (some ⟨w.heap.size, 0, none⟩)] (by go_simp) ?_
            obtain ⟨FA, hFA, _⟩ := BtL.two_a HW
            refine (BtW.bytes_any _ _ FA _ hFA hlen40).mono ?_
            rintro e z2 ⟨va, rfl, hoa, Z2, _⟩
            have HW := BtL.two_still HW Z2
            obtain ⟨oa, ca, rfl, _, _, hra, hspa⟩ := hoa.rowOf byEnc_len
            refine ⟨_, rfl, trivial, fun hHeld => ?_⟩
            simp only [Act.put, List.setIfInBounds_toArray, List.set_cons_zero, List.set_cons_succ]
            refine BtL.held_mono (S' := (fun w' => RowOf 1 byEnc oa (Bt.pack (BtL.by_ H X 64)) w')) (fun w h => trivial) ?_
            have hHeld2 : (fun w' => RowOf 1 byEnc oa (Bt.pack (BtL.by_ H X 64)) w') z2 := hra
            refine BtL.take_d (some 70) (i := 4) (v := ?_) rfl rfl (by kernel_rfl) (by kernel_rfl) (by kernel_rfl) (fun _ _ _ h => h) (Or.inl ⟨by rfl, ?_⟩) (by assumption) ?_
            rotate_left
            · (intro w hSw; have hc := BtL.conv_row (cap := ca) hSw hspa; go_simp; try with_reducible rfl)
            simp only [Act.put, List.setIfInBounds_toArray, List.set_cons_zero, List.set_cons_succ]
            refine BtL.one_d (some 72) (i := 6) rfl rfl (by kernel_rfl) (by rfl) 17 #[.pointer (some ⟨w.heap.size + 1, 0, none⟩)] (by go_simp) ?_
            obtain ⟨FB, hFB, _⟩ := BtL.two_b HW
            refine (BtW.bytes_any _ _ FB _ hFB hlen40).mono ?_
            rintro e z3 ⟨vb, rfl, hob, Z3, _⟩
            have HW := BtL.two_still HW Z3
            have hra := hra.turned Z3 (by simp)
            obtain ⟨ob, cb, rfl, _, _, hrb, hspb⟩ := hob.rowOf byEnc_len
            refine ⟨_, rfl, hra, fun hHeld => ?_⟩
            simp only [Act.put, List.setIfInBounds_toArray, List.set_cons_zero, List.set_cons_succ]
            refine BtL.held_mono (S' := (fun w' => RowOf 1 byEnc oa (Bt.pack (BtL.by_ H X 64)) w' ∧ RowOf 1 byEnc ob (Bt.pack (BtL.by_ H X 64)) w')) (fun w h => h.1) ?_
            have hHeld2 : (fun w' => RowOf 1 byEnc oa (Bt.pack (BtL.by_ H X 64)) w' ∧ RowOf 1 byEnc ob (Bt.pack (BtL.by_ H X 64)) w') z3 := ⟨hra, hrb⟩
            refine BtL.take_d (some 73) (i := 7) (v := ?_) rfl rfl (by kernel_rfl) (by kernel_rfl) (by kernel_rfl) (fun _ _ _ h => h) (Or.inl ⟨by rfl, ?_⟩) (by assumption) ?_
            rotate_left
            · (intro w hSw; have hc := BtL.conv_row (cap := cb) hSw.2 hspb; go_simp; try with_reducible rfl)
            simp only [Act.put, List.setIfInBounds_toArray, List.set_cons_zero, List.set_cons_succ]
            refine BtL.take_d (some 74) (i := 8) (v := ?_) rfl rfl (by kernel_rfl) (by kernel_rfl) (by kernel_rfl) (fun _ _ _ h => h) (Or.inl ⟨by rfl, ?_⟩) (by assumption) ?_
            rotate_left
            · (intro w hSw; (try dsimp only at hSw); go_simp; try with_reducible rfl)
            simp only [Act.put, List.setIfInBounds_toArray, List.set_cons_zero, List.set_cons_succ]
            refine BtL.take_d (some 75) (i := 9) (v := ?_) rfl rfl (by kernel_rfl) (by kernel_rfl) (by kernel_rfl) (fun _ _ _ h => h) (Or.inl ⟨by rfl, ?_⟩) (by assumption) ?_
            rotate_left
            · (intro w hSw; (try dsimp only at hSw); go_simp; try with_reducible rfl)
            simp only [Act.put, List.setIfInBounds_toArray, List.set_cons_zero, List.set_cons_succ]
            refine BtL.take_d (some 76) (i := 10) (v := ?_) rfl rfl (by kernel_rfl) (by kernel_rfl) (by kernel_rfl) (fun _ _ _ h => h) (Or.inl ⟨by rfl, ?_⟩) (by assumption) ?_
            rotate_left
            · (intro w hSw; (try dsimp only at hSw); go_simp; try with_reducible rfl)
            simp only [Act.put, List.setIfInBounds_toArray, List.set_cons_zero, List.set_cons_succ]
            refine BtL.take_d (some 77) (i := 11) (v := ?_) rfl rfl (by kernel_rfl) (by kernel_rfl) (by kernel_rfl) (fun _ _ _ h => h) (Or.inl ⟨by rfl, ?_⟩) (by assumption) ?_
            rotate_left
            · (intro w hSw; (try dsimp only at hSw); go_simp; try with_reducible rfl)
            simp only [Act.put, List.setIfInBounds_toArray, List.set_cons_zero, List.set_cons_succ]
            refine BtL.take_d (some 79) (i := 13) (v := ?_) rfl rfl (by kernel_rfl) (by kernel_rfl) (by kernel_rfl) (fun _ _ _ h => h) (Or.inl ⟨by rfl, ?_⟩) (by assumption) ?_
            rotate_left
            · (intro w hSw; (try dsimp only at hSw); go_simp; try with_reducible rfl)
            simp only [Act.put, List.setIfInBounds_toArray, List.set_cons_zero, List.set_cons_succ]
            refine BtL.take_d (some 80) (i := 14) (v := ?_) rfl rfl (by kernel_rfl) (by kernel_rfl) (by kernel_rfl) (fun _ _ _ h => h) (Or.inl ⟨by rfl, ?_⟩) (by assumption) ?_
            rotate_left
            · (intro w hSw; (try dsimp only at hSw); go_simp; try with_reducible rfl)
            simp only [Act.put, List.setIfInBounds_toArray, List.set_cons_zero, List.set_cons_succ]
            refine BtL.take_d (some 81) (i := 15) (v := ?_) rfl rfl (by kernel_rfl) (by kernel_rfl) (by kernel_rfl) (fun _ _ _ h => h) (Or.inl ⟨by rfl, ?_⟩) (by assumption) ?_
            rotate_left
            · (intro w hSw; (try dsimp only at hSw); go_simp; try with_reducible rfl)
            simp only [Act.put, List.setIfInBounds_toArray, List.set_cons_zero, List.set_cons_succ]
            refine BtL.take_d (some 82) (i := 16) (v := ?_) rfl rfl (by kernel_rfl) (by kernel_rfl) (by kernel_rfl) (fun _ _ _ h => h) (Or.inl ⟨by rfl, ?_⟩) (by assumption) ?_
            rotate_left
            · (intro w hSw; (try dsimp only at hSw); go_simp; try with_reducible rfl)
            simp only [Act.put, List.setIfInBounds_toArray, List.set_cons_zero, List.set_cons_succ]
            refine BtL.take_d (some 83) (i := 17) (v := ?_) rfl rfl (by kernel_rfl) (by kernel_rfl) (by kernel_rfl) (fun _ _ _ h => h) (Or.inl ⟨by rfl, ?_⟩) (by assumption) ?_
            rotate_left
            · (intro w hSw; (try dsimp only at hSw); go_simp; try with_reducible rfl)
            simp only [Act.put, List.setIfInBounds_toArray, List.set_cons_zero, List.set_cons_succ]
            refine BtL.one_d (some 78) (i := 12) rfl rfl (by kernel_rfl) (by rfl) 15 #[.pointer (some ⟨w.heap.size, 0, none⟩)] (by go_simp) ?_
            obtain ⟨FC, hFC, _⟩ := BtL.two_a HW
            refine (kcount FC _ hFC).mono ?_
            rintro e z4 ⟨rfl, rfl⟩
            refine ⟨_, rfl, ⟨hra, hrb⟩, fun hHeld => ?_⟩
            simp only [Act.put, List.setIfInBounds_toArray, List.set_cons_zero, List.set_cons_succ]
            refine BtL.take_d (some 84) (i := 18) (v := ?_) rfl rfl (by kernel_rfl) (by kernel_rfl) (by kernel_rfl) (fun _ _ _ h => h) (Or.inl ⟨by rfl, ?_⟩) (by assumption) ?_
            rotate_left
            · (intro w hSw; (try dsimp only at hSw); go_simp; try with_reducible rfl)
            simp only [Act.put, List.setIfInBounds_toArray, List.set_cons_zero, List.set_cons_succ]
            refine BtL.take_d (some 85) (i := 19) (v := ?_) rfl rfl (by kernel_rfl) (by kernel_rfl) (by kernel_rfl) (fun _ _ _ h => h) (Or.inl ⟨by rfl, ?_⟩) (by assumption) ?_
            rotate_left
            · (intro w hSw; (try dsimp only at hSw); go_simp; try with_reducible rfl)
            simp only [Act.put, List.setIfInBounds_toArray, List.set_cons_zero, List.set_cons_succ]
            refine BtL.take_d (some 86) (i := 20) (v := ?_) rfl rfl (by kernel_rfl) (by kernel_rfl) (by kernel_rfl) (fun _ _ _ h => h) (Or.inl ⟨by rfl, ?_⟩) (by assumption) ?_
            rotate_left
            · (intro w hSw; (try dsimp only at hSw); go_simp; try with_reducible rfl)
            simp only [Act.put, List.setIfInBounds_toArray, List.set_cons_zero, List.set_cons_succ]
            refine BtL.take_d (some 87) (i := 21) (v := ?_) rfl rfl (by kernel_rfl) (by kernel_rfl) (by kernel_rfl) (fun _ _ _ h => h) (Or.inl ⟨by rfl, ?_⟩) (by assumption) ?_
            rotate_left
            · (intro w hSw; (try dsimp only at hSw); go_simp; try with_reducible rfl)
            simp only [Act.put, List.setIfInBounds_toArray, List.set_cons_zero, List.set_cons_succ]
            refine BtL.take_d (some 88) (i := 22) (v := ?_) rfl rfl (by kernel_rfl) (by kernel_rfl) (by kernel_rfl) (fun _ _ _ h => h) (Or.inl ⟨by rfl, ?_⟩) (by assumption) ?_
            rotate_left
            · (intro w hSw; (try dsimp only at hSw); go_simp; try with_reducible rfl)
            simp only [Act.put, List.setIfInBounds_toArray, List.set_cons_zero, List.set_cons_succ]
            refine BtL.take_d (some 89) (i := 23) (v := ?_) rfl rfl (by kernel_rfl) (by kernel_rfl) (by kernel_rfl) (fun _ _ _ h => h) (Or.inl ⟨by rfl, ?_⟩) (by assumption) ?_
            rotate_left
            · (intro w hSw; (try dsimp only at hSw); go_simp; try with_reducible rfl)
            simp only [Act.put, List.setIfInBounds_toArray, List.set_cons_zero, List.set_cons_succ]
            refine BtL.take_d (some 90) (i := 24) (v := ?_) rfl rfl (by kernel_rfl) (by kernel_rfl) (by kernel_rfl) (fun _ _ _ h => h) (Or.inl ⟨by rfl, ?_⟩) (by assumption) ?_
            rotate_left
            · (intro w hSw; (try dsimp only at hSw); go_simp; try with_reducible rfl)
            simp only [Act.put, List.setIfInBounds_toArray, List.set_cons_zero, List.set_cons_succ]
            refine BtL.take_d (some 91) (i := 25) (v := ?_) rfl rfl (by kernel_rfl) (by kernel_rfl) (by kernel_rfl) (fun _ _ _ h => h) (Or.inl ⟨by rfl, ?_⟩) (by assumption) ?_
            rotate_left
            · (intro w hSw; (try dsimp only at hSw); go_simp; try with_reducible rfl)
            simp only [Act.put, List.setIfInBounds_toArray, List.set_cons_zero, List.set_cons_succ]
            refine BtL.take_d (some 92) (i := 26) (v := ?_) rfl rfl (by kernel_rfl) (by kernel_rfl) (by kernel_rfl) (fun _ _ _ h => h) (Or.inl ⟨by rfl, ?_⟩) (by assumption) ?_
            rotate_left
            · (intro w hSw; (try dsimp only at hSw); go_simp; try with_reducible rfl)
            simp only [Act.put, List.setIfInBounds_toArray, List.set_cons_zero, List.set_cons_succ]
            refine BtL.take_d (some 93) (i := 27) (v := ?_) rfl rfl (by kernel_rfl) (by kernel_rfl) (by kernel_rfl) (fun _ _ _ h => h) (Or.inl ⟨by rfl, ?_⟩) (by assumption) ?_
            rotate_left
            · (intro w hSw; (try dsimp only at hSw); go_simp; try with_reducible rfl)
            simp only [Act.put, List.setIfInBounds_toArray, List.set_cons_zero, List.set_cons_succ]
            refine BtL.take_d (some 94) (i := 28) (v := ?_) rfl rfl (by kernel_rfl) (by kernel_rfl) (by kernel_rfl) (fun _ _ _ h => h) (Or.inl ⟨by rfl, ?_⟩) (by assumption) ?_
            rotate_left
            · (intro w hSw; (try dsimp only at hSw); go_simp; try with_reducible rfl)
            simp only [Act.put, List.setIfInBounds_toArray, List.set_cons_zero, List.set_cons_succ]
            refine BtL.take_d (some 95) (i := 29) (v := undef) rfl rfl (by kernel_rfl) (by kernel_rfl) (by kernel_rfl) (fun _ _ _ h => h) (Or.inr ⟨by rfl, rfl⟩) (by assumption) ?_
            simp only [Act.put, List.setIfInBounds_toArray, List.set_cons_zero, List.set_cons_succ]
            refine BtL.take_d (some 96) (i := 30) (v := undef) rfl rfl (by kernel_rfl) (by kernel_rfl) (by kernel_rfl) (fun _ _ _ h => h) (Or.inr ⟨by rfl, rfl⟩) (by assumption) ?_
            simp only [Act.put, List.setIfInBounds_toArray, List.set_cons_zero, List.set_cons_succ]
            refine BtL.take_d (some 97) (i := 31) (v := undef) rfl rfl (by kernel_rfl) (by kernel_rfl) (by kernel_rfl) (fun _ _ _ h => h) (Or.inr ⟨by rfl, rfl⟩) (by assumption) ?_
            simp only [Act.put, List.setIfInBounds_toArray, List.set_cons_zero, List.set_cons_succ]
            refine BtL.take_d (some 98) (i := 32) (v := undef) rfl rfl (by kernel_rfl) (by kernel_rfl) (by kernel_rfl) (fun _ _ _ h => h) (Or.inr ⟨by rfl, rfl⟩) (by assumption) ?_
            simp only [Act.put, List.setIfInBounds_toArray, List.set_cons_zero, List.set_cons_succ]
            refine BtL.take_d (some 99) (i := 33) (v := undef) rfl rfl (by kernel_rfl) (by kernel_rfl) (by kernel_rfl) (fun _ _ _ h => h) (Or.inr ⟨by rfl, rfl⟩) (by assumption) ?_
            simp only [Act.put, List.setIfInBounds_toArray, List.set_cons_zero, List.set_cons_succ]
            refine BtL.take_d (some 100) (i := 34) (v := undef) rfl rfl (by kernel_rfl) (by kernel_rfl) (by kernel_rfl) (fun _ _ _ h => h) (Or.inr ⟨by rfl, rfl⟩) (by assumption) ?_
            simp only [Act.put, List.setIfInBounds_toArray, List.set_cons_zero, List.set_cons_succ]
            refine BtL.take_d (some 101) (i := 35) (v := undef) rfl rfl (by kernel_rfl) (by kernel_rfl) (by kernel_rfl) (fun _ _ _ h => h) (Or.inr ⟨by rfl, rfl⟩) (by assumption) ?_
            simp only [Act.put, List.setIfInBounds_toArray, List.set_cons_zero, List.set_cons_succ]
            refine BtL.take_d (some 102) (i := 36) (v := undef) rfl rfl (by kernel_rfl) (by kernel_rfl) (by kernel_rfl) (fun _ _ _ h => h) (Or.inr ⟨by rfl, rfl⟩) (by assumption) ?_
            simp only [Act.put, List.setIfInBounds_toArray, List.set_cons_zero, List.set_cons_succ]
            refine BtL.take_d (some 103) (i := 37) (v := undef) rfl rfl (by kernel_rfl) (by kernel_rfl) (by kernel_rfl) (fun _ _ _ h => h) (Or.inr ⟨by rfl, rfl⟩) (by assumption) ?_
            simp only [Act.put, List.setIfInBounds_toArray, List.set_cons_zero, List.set_cons_succ]
            refine BtL.take_d (some 104) (i := 38) (v := undef) rfl rfl (by kernel_rfl) (by kernel_rfl) (by kernel_rfl) (fun _ _ _ h => h) (Or.inr ⟨by rfl, rfl⟩) (by assumption) ?_
            simp only [Act.put, List.setIfInBounds_toArray, List.set_cons_zero, List.set_cons_succ]
            refine BtL.take_d (some 105) (i := 39) (v := undef) rfl rfl (by kernel_rfl) (by kernel_rfl) (by kernel_rfl) (fun _ _ _ h => h) (Or.inr ⟨by rfl, rfl⟩) (by assumption) ?_
            simp only [Act.put, List.setIfInBounds_toArray, List.set_cons_zero, List.set_cons_succ]
            refine BtL.take_d (some 106) (i := 40) (v := ?_) rfl rfl (by kernel_rfl) (by kernel_rfl) (by kernel_rfl) (fun _ _ _ h => h) (Or.inl ⟨by rfl, ?_⟩) (by assumption) ?_
            rotate_left
            · (intro w hSw; (try dsimp only at hSw); go_simp; try with_reducible rfl)
            simp only [Act.put, List.setIfInBounds_toArray, List.set_cons_zero, List.set_cons_succ]
            refine BtL.take_d (some 107) (i := 41) (v := ?_) rfl rfl (by kernel_rfl) (by kernel_rfl) (by kernel_rfl) (fun _ _ _ h => h) (Or.inl ⟨by rfl, ?_⟩) (by assumption) ?_
            rotate_left
            · (intro w hSw; (try dsimp only at hSw); go_simp; try with_reducible rfl)
            simp only [Act.put, List.setIfInBounds_toArray, List.set_cons_zero, List.set_cons_succ]
            refine BtL.take_d (some 6) (i := 42) (v := ?_) rfl rfl (by kernel_rfl) (by kernel_rfl) (by kernel_rfl) (fun _ _ _ h => h) (Or.inl ⟨by rfl, ?_⟩) (by assumption) ?_
            rotate_left
            · (intro w hSw; (try dsimp only at hSw); go_simp; try with_reducible rfl)
            simp only [Act.put, List.setIfInBounds_toArray, List.set_cons_zero, List.set_cons_succ]
            refine wpAnyH_done (by kernel_rfl) ?_ _
            go_wp2_with fail
            go_ret
            obtain ⟨_, _, _, _, _, _, _, HTf⟩ := HW
            exact ⟨rfl, HTf.none⟩
          · have hi64 : i < 64 := by omega
            have e64 : ((i : Int) == 64) = false := by simp; omega
            have l64 : (i : Int) < 64 := by omega
            obtain ⟨P, hP⟩ : ∃ P, P = 2 ^ i := ⟨_, rfl⟩
            obtain ⟨hpw, hp0⟩ := BtL.wrap_pow hi64 hP
            rw [← hP]
            clear hP h64
            have hMt : (M : Int).tmod 9 = (H : Int) := by rw [Int.tmod_eq_emod_of_nonneg (by omega)]; exact hHi
            have hwH := BtL.wrap_i64 (n := H) (by omega)
            have hwS := BtL.wrap_i64 (n := i + H) (by omega)
            rw [show ((i + H : Nat) : Int) = (i : Int) + (H : Int) by omega] at hwS
            have hwi := BtL.wrap_u64 (n := i) (by omega)
            have hmin : min i 64 = i := Nat.min_eq_left (by omega)
            have hp0n : ¬ P = 0 := by omega
            have hXt : (X : Int).tmod (P : Int) = (X : Int) % (P : Int) := Int.tmod_eq_emod_of_nonneg (by omega)
            go_wp2_with fail
            refine wp_region_held_drew (S := fun _ => True) (by kernel_rfl) trivial (fun hHeld => ?_)
            refine BtL.one_d (some 66) (i := 0) rfl rfl (by kernel_rfl) (by rfl) 10 #[] (by go_simp) ?_
            refine (BtL.awake_any _).mono ?_
            rintro e z1 ⟨rfl, Z1⟩
            have HW := BtL.two_still HW Z1
            refine ⟨_, rfl, trivial, fun hHeld => ?_⟩
            simp only [Act.put, List.setIfInBounds_toArray, List.set_cons_zero, List.set_cons_succ]
            refine BtL.take_d (some 67) (i := 1) (v := ?_) rfl rfl (by kernel_rfl) (by kernel_rfl) (by kernel_rfl) (fun _ _ _ h => h) (Or.inl ⟨by rfl, ?_⟩) (by assumption) ?_
            rotate_left
            · (intro w hSw; (try dsimp only at hSw); go_simp; try with_reducible rfl)
            simp only [Act.put, List.setIfInBounds_toArray, List.set_cons_zero, List.set_cons_succ]
            refine BtL.take_d (some 68) (i := 2) (v := ?_) rfl rfl (by kernel_rfl) (by kernel_rfl) (by kernel_rfl) (fun _ _ _ h => h) (Or.inl ⟨by rfl, ?_⟩) (by assumption) ?_
            rotate_left
            · (intro w hSw; (try dsimp only at hSw); go_simp; try with_reducible rfl)
            simp only [Act.put, List.setIfInBounds_toArray, List.set_cons_zero, List.set_cons_succ]
            refine BtL.take_d (some 71) (i := 5) (v := ?_) rfl rfl (by kernel_rfl) (by kernel_rfl) (by kernel_rfl) (fun _ _ _ h => h) (Or.inl ⟨by rfl, ?_⟩) (by assumption) ?_
            rotate_left
            · (intro w hSw; (try dsimp only at hSw); go_simp; try with_reducible rfl)
            simp only [Act.put, List.setIfInBounds_toArray, List.set_cons_zero, List.set_cons_succ]
            refine BtL.one_d (some 69) (i := 3) rfl rfl (by kernel_rfl) (by rfl) 17 #[.pointer (some ⟨w.heap.size, 0, none⟩)] (by go_simp) ?_
            obtain ⟨FA, hFA, _⟩ := BtL.two_a HW
            refine (BtW.bytes_any _ _ FA _ hFA hlen40).mono ?_
            rintro e z2 ⟨va, rfl, hoa, Z2, _⟩
            have HW := BtL.two_still HW Z2
            obtain ⟨oa, ca, rfl, _, _, hra, hspa⟩ := hoa.rowOf byEnc_len
            refine ⟨_, rfl, trivial, fun hHeld => ?_⟩
            simp only [Act.put, List.setIfInBounds_toArray, List.set_cons_zero, List.set_cons_succ]
            refine BtL.held_mono (S' := (fun w' => RowOf 1 byEnc oa (Bt.pack (BtL.by_ H X i)) w')) (fun w h => trivial) ?_
            have hHeld2 : (fun w' => RowOf 1 byEnc oa (Bt.pack (BtL.by_ H X i)) w') z2 := hra
            refine BtL.take_d (some 70) (i := 4) (v := ?_) rfl rfl (by kernel_rfl) (by kernel_rfl) (by kernel_rfl) (fun _ _ _ h => h) (Or.inl ⟨by rfl, ?_⟩) (by assumption) ?_
            rotate_left
            · (intro w hSw; have hc := BtL.conv_row (cap := ca) hSw hspa; go_simp; try with_reducible rfl)
            simp only [Act.put, List.setIfInBounds_toArray, List.set_cons_zero, List.set_cons_succ]
            refine BtL.one_d (some 72) (i := 6) rfl rfl (by kernel_rfl) (by rfl) 17 #[.pointer (some ⟨w.heap.size + 1, 0, none⟩)] (by go_simp) ?_
            obtain ⟨FB, hFB, _⟩ := BtL.two_b HW
            refine (BtW.bytes_any _ _ FB _ hFB hlen40).mono ?_
            rintro e z3 ⟨vb, rfl, hob, Z3, _⟩
            have HW := BtL.two_still HW Z3
            have hra := hra.turned Z3 (by simp)
            obtain ⟨ob, cb, rfl, _, _, hrb, hspb⟩ := hob.rowOf byEnc_len
            refine ⟨_, rfl, hra, fun hHeld => ?_⟩
            simp only [Act.put, List.setIfInBounds_toArray, List.set_cons_zero, List.set_cons_succ]
            refine BtL.held_mono (S' := (fun w' => RowOf 1 byEnc oa (Bt.pack (BtL.by_ H X i)) w' ∧ RowOf 1 byEnc ob (Bt.pack (BtL.by_ H X i)) w')) (fun w h => h.1) ?_
            have hHeld2 : (fun w' => RowOf 1 byEnc oa (Bt.pack (BtL.by_ H X i)) w' ∧ RowOf 1 byEnc ob (Bt.pack (BtL.by_ H X i)) w') z3 := ⟨hra, hrb⟩
            refine BtL.take_d (some 73) (i := 7) (v := ?_) rfl rfl (by kernel_rfl) (by kernel_rfl) (by kernel_rfl) (fun _ _ _ h => h) (Or.inl ⟨by rfl, ?_⟩) (by assumption) ?_
            rotate_left
            · (intro w hSw; have hc := BtL.conv_row (cap := cb) hSw.2 hspb; go_simp; try with_reducible rfl)
            simp only [Act.put, List.setIfInBounds_toArray, List.set_cons_zero, List.set_cons_succ]
            refine BtL.take_d (some 74) (i := 8) (v := ?_) rfl rfl (by kernel_rfl) (by kernel_rfl) (by kernel_rfl) (fun _ _ _ h => h) (Or.inl ⟨by rfl, ?_⟩) (by assumption) ?_
            rotate_left
            · (intro w hSw; (try dsimp only at hSw); go_simp; try with_reducible rfl)
            simp only [Act.put, List.setIfInBounds_toArray, List.set_cons_zero, List.set_cons_succ]
            refine BtL.take_d (some 75) (i := 9) (v := ?_) rfl rfl (by kernel_rfl) (by kernel_rfl) (by kernel_rfl) (fun _ _ _ h => h) (Or.inl ⟨by rfl, ?_⟩) (by assumption) ?_
            rotate_left
            · (intro w hSw; (try dsimp only at hSw); go_simp; try with_reducible rfl)
            simp only [Act.put, List.setIfInBounds_toArray, List.set_cons_zero, List.set_cons_succ]
            refine BtL.take_d (some 76) (i := 10) (v := ?_) rfl rfl (by kernel_rfl) (by kernel_rfl) (by kernel_rfl) (fun _ _ _ h => h) (Or.inl ⟨by rfl, ?_⟩) (by assumption) ?_
            rotate_left
            · (intro w hSw; (try dsimp only at hSw); go_simp; try with_reducible rfl)
            simp only [Act.put, List.setIfInBounds_toArray, List.set_cons_zero, List.set_cons_succ]
            refine BtL.take_d (some 77) (i := 11) (v := ?_) rfl rfl (by kernel_rfl) (by kernel_rfl) (by kernel_rfl) (fun _ _ _ h => h) (Or.inl ⟨by rfl, ?_⟩) (by assumption) ?_
            rotate_left
            · (intro w hSw; (try dsimp only at hSw); go_simp; try with_reducible rfl)
            simp only [Act.put, List.setIfInBounds_toArray, List.set_cons_zero, List.set_cons_succ]
            refine BtL.take_d (some 79) (i := 13) (v := ?_) rfl rfl (by kernel_rfl) (by kernel_rfl) (by kernel_rfl) (fun _ _ _ h => h) (Or.inl ⟨by rfl, ?_⟩) (by assumption) ?_
            rotate_left
            · (intro w hSw; (try dsimp only at hSw); go_simp; try with_reducible rfl)
            simp only [Act.put, List.setIfInBounds_toArray, List.set_cons_zero, List.set_cons_succ]
            refine BtL.take_d (some 80) (i := 14) (v := ?_) rfl rfl (by kernel_rfl) (by kernel_rfl) (by kernel_rfl) (fun _ _ _ h => h) (Or.inl ⟨by rfl, ?_⟩) (by assumption) ?_
            rotate_left
            · (intro w hSw; (try dsimp only at hSw); go_simp; try with_reducible rfl)
            simp only [Act.put, List.setIfInBounds_toArray, List.set_cons_zero, List.set_cons_succ]
            refine BtL.take_d (some 81) (i := 15) (v := ?_) rfl rfl (by kernel_rfl) (by kernel_rfl) (by kernel_rfl) (fun _ _ _ h => h) (Or.inl ⟨by rfl, ?_⟩) (by assumption) ?_
            rotate_left
            · (intro w hSw; (try dsimp only at hSw); go_simp; try with_reducible rfl)
            simp only [Act.put, List.setIfInBounds_toArray, List.set_cons_zero, List.set_cons_succ]
            refine BtL.take_d (some 82) (i := 16) (v := ?_) rfl rfl (by kernel_rfl) (by kernel_rfl) (by kernel_rfl) (fun _ _ _ h => h) (Or.inl ⟨by rfl, ?_⟩) (by assumption) ?_
            rotate_left
            · (intro w hSw; (try dsimp only at hSw); go_simp; try with_reducible rfl)
            simp only [Act.put, List.setIfInBounds_toArray, List.set_cons_zero, List.set_cons_succ]
            refine BtL.take_d (some 83) (i := 17) (v := ?_) rfl rfl (by kernel_rfl) (by kernel_rfl) (by kernel_rfl) (fun _ _ _ h => h) (Or.inl ⟨by rfl, ?_⟩) (by assumption) ?_
            rotate_left
            · (intro w hSw; (try dsimp only at hSw); go_simp; try with_reducible rfl)
            simp only [Act.put, List.setIfInBounds_toArray, List.set_cons_zero, List.set_cons_succ]
            refine BtL.one_d (some 78) (i := 12) rfl rfl (by kernel_rfl) (by rfl) 15 #[.pointer (some ⟨w.heap.size, 0, none⟩)] (by go_simp) ?_
            obtain ⟨FC, hFC, _⟩ := BtL.two_a HW
            refine (kcount FC _ hFC).mono ?_
            rintro e z4 ⟨rfl, rfl⟩
            refine ⟨_, rfl, ⟨hra, hrb⟩, fun hHeld => ?_⟩
            simp only [Act.put, List.setIfInBounds_toArray, List.set_cons_zero, List.set_cons_succ]
            refine BtL.take_d (some 84) (i := 18) (v := ?_) rfl rfl (by kernel_rfl) (by kernel_rfl) (by kernel_rfl) (fun _ _ _ h => h) (Or.inl ⟨by rfl, ?_⟩) (by assumption) ?_
            rotate_left
            · (intro w hSw; (try dsimp only at hSw); go_simp; try with_reducible rfl)
            simp only [Act.put, List.setIfInBounds_toArray, List.set_cons_zero, List.set_cons_succ]
            refine BtL.take_d (some 85) (i := 19) (v := ?_) rfl rfl (by kernel_rfl) (by kernel_rfl) (by kernel_rfl) (fun _ _ _ h => h) (Or.inl ⟨by rfl, ?_⟩) (by assumption) ?_
            rotate_left
            · (intro w hSw; (try dsimp only at hSw); go_simp; try with_reducible rfl)
            simp only [Act.put, List.setIfInBounds_toArray, List.set_cons_zero, List.set_cons_succ]
            refine BtL.take_d (some 86) (i := 20) (v := ?_) rfl rfl (by kernel_rfl) (by kernel_rfl) (by kernel_rfl) (fun _ _ _ h => h) (Or.inl ⟨by rfl, ?_⟩) (by assumption) ?_
            rotate_left
            · (intro w hSw; (try dsimp only at hSw); go_simp; try with_reducible rfl)
            simp only [Act.put, List.setIfInBounds_toArray, List.set_cons_zero, List.set_cons_succ]
            refine BtL.take_d (some 87) (i := 21) (v := ?_) rfl rfl (by kernel_rfl) (by kernel_rfl) (by kernel_rfl) (fun _ _ _ h => h) (Or.inl ⟨by rfl, ?_⟩) (by assumption) ?_
            rotate_left
            · (intro w hSw; (try dsimp only at hSw); go_simp; try with_reducible rfl)
            simp only [Act.put, List.setIfInBounds_toArray, List.set_cons_zero, List.set_cons_succ]
            refine BtL.take_d (some 88) (i := 22) (v := ?_) rfl rfl (by kernel_rfl) (by kernel_rfl) (by kernel_rfl) (fun _ _ _ h => h) (Or.inl ⟨by rfl, ?_⟩) (by assumption) ?_
            rotate_left
            · (intro w hSw; (try dsimp only at hSw); go_simp; try with_reducible rfl)
            simp only [Act.put, List.setIfInBounds_toArray, List.set_cons_zero, List.set_cons_succ]
            refine BtL.take_d (some 89) (i := 23) (v := ?_) rfl rfl (by kernel_rfl) (by kernel_rfl) (by kernel_rfl) (fun _ _ _ h => h) (Or.inl ⟨by rfl, ?_⟩) (by assumption) ?_
            rotate_left
            · (intro w hSw; (try dsimp only at hSw); go_simp; try with_reducible rfl)
            simp only [Act.put, List.setIfInBounds_toArray, List.set_cons_zero, List.set_cons_succ]
            refine BtL.take_d (some 90) (i := 24) (v := undef) rfl rfl (by kernel_rfl) (by kernel_rfl) (by kernel_rfl) (fun _ _ _ h => h) (Or.inr ⟨by rfl, rfl⟩) (by assumption) ?_
            simp only [Act.put, List.setIfInBounds_toArray, List.set_cons_zero, List.set_cons_succ]
            refine BtL.take_d (some 91) (i := 25) (v := undef) rfl rfl (by kernel_rfl) (by kernel_rfl) (by kernel_rfl) (fun _ _ _ h => h) (Or.inr ⟨by rfl, rfl⟩) (by assumption) ?_
            simp only [Act.put, List.setIfInBounds_toArray, List.set_cons_zero, List.set_cons_succ]
            refine BtL.take_d (some 92) (i := 26) (v := undef) rfl rfl (by kernel_rfl) (by kernel_rfl) (by kernel_rfl) (fun _ _ _ h => h) (Or.inr ⟨by rfl, rfl⟩) (by assumption) ?_
            simp only [Act.put, List.setIfInBounds_toArray, List.set_cons_zero, List.set_cons_succ]
            refine BtL.take_d (some 93) (i := 27) (v := ?_) rfl rfl (by kernel_rfl) (by kernel_rfl) (by kernel_rfl) (fun _ _ _ h => h) (Or.inl ⟨by rfl, ?_⟩) (by assumption) ?_
            rotate_left
            · (intro w hSw; (try dsimp only at hSw); go_simp; try with_reducible rfl)
            simp only [Act.put, List.setIfInBounds_toArray, List.set_cons_zero, List.set_cons_succ]
            refine BtL.take_d (some 94) (i := 28) (v := ?_) rfl rfl (by kernel_rfl) (by kernel_rfl) (by kernel_rfl) (fun _ _ _ h => h) (Or.inl ⟨by rfl, ?_⟩) (by assumption) ?_
            rotate_left
            · (intro w hSw; (try dsimp only at hSw); go_simp; try with_reducible rfl)
            simp only [Act.put, List.setIfInBounds_toArray, List.set_cons_zero, List.set_cons_succ]
            refine BtL.take_d (some 95) (i := 29) (v := ?_) rfl rfl (by kernel_rfl) (by kernel_rfl) (by kernel_rfl) (fun _ _ _ h => h) (Or.inl ⟨by rfl, ?_⟩) (by assumption) ?_
            rotate_left
            · (intro w hSw; (try dsimp only at hSw); go_simp; try with_reducible rfl)
            simp only [Act.put, List.setIfInBounds_toArray, List.set_cons_zero, List.set_cons_succ]
            refine BtL.take_d (some 96) (i := 30) (v := ?_) rfl rfl (by kernel_rfl) (by kernel_rfl) (by kernel_rfl) (fun _ _ _ h => h) (Or.inl ⟨by rfl, ?_⟩) (by assumption) ?_
            rotate_left
            · (intro w hSw; (try dsimp only at hSw); go_simp; try with_reducible rfl)
            simp only [Act.put, List.setIfInBounds_toArray, List.set_cons_zero, List.set_cons_succ]
            refine BtL.take_d (some 97) (i := 31) (v := ?_) rfl rfl (by kernel_rfl) (by kernel_rfl) (by kernel_rfl) (fun _ _ _ h => h) (Or.inl ⟨by rfl, ?_⟩) (by assumption) ?_
            rotate_left
            · (intro w hSw; (try dsimp only at hSw); go_simp; try with_reducible rfl)
            simp only [Act.put, List.setIfInBounds_toArray, List.set_cons_zero, List.set_cons_succ]
            refine BtL.take_d (some 98) (i := 32) (v := ?_) rfl rfl (by kernel_rfl) (by kernel_rfl) (by kernel_rfl) (fun _ _ _ h => h) (Or.inl ⟨by rfl, ?_⟩) (by assumption) ?_
            rotate_left
            · (intro w hSw; (try dsimp only at hSw); go_simp; try with_reducible rfl)
            simp only [Act.put, List.setIfInBounds_toArray, List.set_cons_zero, List.set_cons_succ]
            refine BtL.take_d (some 99) (i := 33) (v := ?_) rfl rfl (by kernel_rfl) (by kernel_rfl) (by kernel_rfl) (fun _ _ _ h => h) (Or.inl ⟨by rfl, ?_⟩) (by assumption) ?_
            rotate_left
            · (intro w hSw; (try dsimp only at hSw); go_simp; try with_reducible rfl)
            simp only [Act.put, List.setIfInBounds_toArray, List.set_cons_zero, List.set_cons_succ]
            refine BtL.take_d (some 100) (i := 34) (v := ?_) rfl rfl (by kernel_rfl) (by kernel_rfl) (by kernel_rfl) (fun _ _ _ h => h) (Or.inl ⟨by rfl, ?_⟩) (by assumption) ?_
            rotate_left
            · (intro w hSw; (try dsimp only at hSw); go_simp; try with_reducible rfl)
            simp only [Act.put, List.setIfInBounds_toArray, List.set_cons_zero, List.set_cons_succ]
            refine BtL.take_d (some 101) (i := 35) (v := ?_) rfl rfl (by kernel_rfl) (by kernel_rfl) (by kernel_rfl) (fun _ _ _ h => h) (Or.inl ⟨by rfl, ?_⟩) (by assumption) ?_
            rotate_left
            · (intro w hSw; (try dsimp only at hSw); go_simp; try with_reducible rfl)
            simp only [Act.put, List.setIfInBounds_toArray, List.set_cons_zero, List.set_cons_succ]
            refine BtL.take_d (some 102) (i := 36) (v := ?_) rfl rfl (by kernel_rfl) (by kernel_rfl) (by kernel_rfl) (fun _ _ _ h => h) (Or.inl ⟨by rfl, ?_⟩) (by assumption) ?_
            rotate_left
            · (intro w hSw; (try dsimp only at hSw); go_simp; try with_reducible rfl)
            simp only [Act.put, List.setIfInBounds_toArray, List.set_cons_zero, List.set_cons_succ]
            refine BtL.take_d (some 103) (i := 37) (v := ?_) rfl rfl (by kernel_rfl) (by kernel_rfl) (by kernel_rfl) (fun _ _ _ h => h) (Or.inl ⟨by rfl, ?_⟩) (by assumption) ?_
            rotate_left
            · (intro w hSw; (try dsimp only at hSw); go_simp; try with_reducible rfl)
            simp only [Act.put, List.setIfInBounds_toArray, List.set_cons_zero, List.set_cons_succ]
            refine BtL.take_d (some 104) (i := 38) (v := ?_) rfl rfl (by kernel_rfl) (by kernel_rfl) (by kernel_rfl) (fun _ _ _ h => h) (Or.inl ⟨by rfl, ?_⟩) (by assumption) ?_
            rotate_left
            · (intro w hSw; (try dsimp only at hSw); go_simp; try with_reducible rfl)
            simp only [Act.put, List.setIfInBounds_toArray, List.set_cons_zero, List.set_cons_succ]
            refine BtL.take_d (some 105) (i := 39) (v := ?_) rfl rfl (by kernel_rfl) (by kernel_rfl) (by kernel_rfl) (fun _ _ _ h => h) (Or.inl ⟨by rfl, ?_⟩) (by assumption) ?_
            rotate_left
            · (intro w hSw; (try dsimp only at hSw); go_simp; try with_reducible rfl)
            simp only [Act.put, List.setIfInBounds_toArray, List.set_cons_zero, List.set_cons_succ]
            refine BtL.take_d (some 106) (i := 40) (v := ?_) rfl rfl (by kernel_rfl) (by kernel_rfl) (by kernel_rfl) (fun _ _ _ h => h) (Or.inl ⟨by rfl, ?_⟩) (by assumption) ?_
            rotate_left
            · (intro w hSw; (try dsimp only at hSw); go_simp; try with_reducible rfl)
            simp only [Act.put, List.setIfInBounds_toArray, List.set_cons_zero, List.set_cons_succ]
            refine BtL.take_d (some 107) (i := 41) (v := ?_) rfl rfl (by kernel_rfl) (by kernel_rfl) (by kernel_rfl) (fun _ _ _ h => h) (Or.inl ⟨by rfl, ?_⟩) (by assumption) ?_
            rotate_left
            · (intro w hSw; (try dsimp only at hSw); go_simp; try with_reducible rfl)
            simp only [Act.put, List.setIfInBounds_toArray, List.set_cons_zero, List.set_cons_succ]
            refine BtL.take_d (some 6) (i := 42) (v := ?_) rfl rfl (by kernel_rfl) (by kernel_rfl) (by kernel_rfl) (fun _ _ _ h => h) (Or.inl ⟨by rfl, ?_⟩) (by assumption) ?_
            rotate_left
            · (intro w hSw; (try dsimp only at hSw); go_simp; try with_reducible rfl)
            simp only [Act.put, List.setIfInBounds_toArray, List.set_cons_zero, List.set_cons_succ]
            refine wpAnyH_done (by kernel_rfl) ?_ _
            go_wp2_with fail
            go_ret
            obtain ⟨_, _, _, _, _, _, _, HTf⟩ := HW
            exact ⟨rfl, HTf.none⟩

set_option maxRecDepth 100000 in
theorem lifted (os : Os) (started : os.Started) (H : Type) (enc : TypeId × Value → H) :
    ReturnsInHanded {} Try.checked os 9 .any (Rows.bitsBySpec.pre6 enc Try.prog Try.f9 Rows.bitsByRow.domain false) (Rows.bitsBySpec.post enc Try.prog Try.f9 false true false false) := by
  refine returnsInHanded_of_change (C := Try.checked) own started (by kernel_rfl) Try.func9
    (ChangeSpec.witness6 (enc := enc) (C := Try.checked) false ⟨#[], #[.int .u64 0, .int .u8 0, .int .u8 0], []⟩ 8 (by kernel_rfl) (by kernel_rfl) (by kernel_rfl) (by kernel_rfl)) ?_
  intro W base args ds gs before hval0 hW hcnd _
  have hval : ∀ (j : Nat) t v, Try.f9.params[j]? = some t → args[j]? = some v → Value.okWide Try.prog W .any base t v := hval0
  have hW' := hW
  obtain ⟨p, q, hA0, hV, rfl, hfz, hnd⟩ := hW
  have hA : DataW.TrodAll enc Try.prog W 0 (fun _ => true) true Try.f9.params.toList args.toList ds p := hA0
  rw [Try.params9] at hA hval
  obtain ⟨v0, vs0, d0, ds0, p0, q0, hargs, rfl, rfl, h0, r0⟩ := trodAll_cons hA
  obtain ⟨v1, vs1, d1, ds1, p1, q1, rfl, rfl, rfl, h1, r1⟩ := trodAll_cons r0
  obtain ⟨v2, vs2, d2, ds2, p2, q2, rfl, rfl, rfl, h2, r2⟩ := trodAll_cons r1
  obtain ⟨rfl, rfl, rfl⟩ := trodAll_nil r2
  obtain rfl : args = #[v0, v1, v2] := by cases args; simp_all
  obtain ⟨rfl, rfl⟩ := trodVars_none hV
  have k0 := h0
  have lt0 : ∀ x ∈ p0, x.block < W.heap.size := by obtain ⟨m, hm⟩ := k0; exact DataW.trod_lt m _ _ _ hm
  have k1 := h1
  have lt1 : ∀ x ∈ p1, x.block < W.heap.size := by obtain ⟨m, hm⟩ := k1; exact DataW.trod_lt m _ _ _ hm
  have k2 := h2
  have lt2 : ∀ x ∈ p2, x.block < W.heap.size := by obtain ⟨m, hm⟩ := k2; exact DataW.trod_lt m _ _ _ hm
  obtain ⟨a0, rfl, _, _, w0⟩ := open_int Try.underlying32 (hval 0 32 v0 rfl rfl) h0
  obtain ⟨a1, rfl, _, _, w1⟩ := open_int Try.underlying5 (hval 1 5 v1 rfl rfl) h1
  obtain ⟨a2, rfl, _, _, w2⟩ := open_int Try.underlying5 (hval 2 5 v2 rfl rfl) h2
  clear hA0 hval0
  refine (walk a0 a1 a2 w0 w1 w2 W).mono fun e W' ⟨he, bel⟩ => ?_
  subst he
  exact ⟨_, rfl, _, _, _, [], _, [], hW', trodAll_mk1 (shut_bool Try.underlying4 _), (trodAll_cons_mk (Below.trod laidOut (by kernel_rfl) (of_decide_eq_true (by kernel_rfl)) k0 bel lt0) (trodAll_cons_mk (Below.trod laidOut (by kernel_rfl) (of_decide_eq_true (by kernel_rfl)) k1 bel lt1) (trodAll_cons_mk (Below.trod laidOut (by kernel_rfl) (of_decide_eq_true (by kernel_rfl)) k2 bel lt2) trodAll_mk0))), rfl, bel.frame _, fun h => by cases h⟩

theorem over : Rows.bitsByRow.holds Try.pinned (OpenSpec.ofChange Rows.bitsBySpec) :=
  OpenClaim.holds_of_wide 9 Try.f9 rfl rfl rfl rfl rfl rfl rfl ⟨rfl, rfl, rfl, rfl, rfl⟩ rfl rfl rfl rfl rfl (by kernel_rfl) Try.func9 (by kernel_rfl)
    (of_decide_eq_true (by kernel_rfl)) (by unfold Func.isWrapper; first | (rw [if_pos (by decide +kernel)]; kernel_rfl) | (rw [if_neg (by decide +kernel)]; exact ⟨rfl, rfl⟩))
    (fun os started H enc _ => lifted os started H enc)

theorem proved : Rows.BitsBySaid :=
  over
#print axioms proved
end Go.Proofs.Ytbdjgpnodcepeaa.bitsBy

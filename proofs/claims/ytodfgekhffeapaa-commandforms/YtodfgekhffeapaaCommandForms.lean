/- Of all commands, and rows, it is told whether they are formed; each row has its bits, or none. -/
import Derived.Test.YtodfgekhffeapaaRows
import Derived.Test.YtodfgekhffeapaaCmdWalks
import Derived.Test.YtodfgekhffeapaaCmdLaw3
import Derived.Test.YtodfgekhffeapaaFlat
import Derived.WalkKit
import Derived.ProofKit
import Derived.OpenShut
import Derived.ChangeOld
import Derived.Below
import Derived.WalkSmall
import Derived.Lib.SmallJoins
import Derived.Laws.IdiomArrays
namespace Go.Proofs.Ytodfgekhffeapaa.commandForms
open Go.ChangeShapes Go.WideShapes Go.ChangeAt Go.RowKit
set_option linter.unusedVariables false

theorem own : ownKnob Try.prog.godebug = none := by kernel_rfl
theorem laidOut : laidOutB Try.prog = true := by kernel_rfl

set_option maxRecDepth 20000 in
set_option maxHeartbeats 4000000 in
theorem walk (a0 : Cm.C) (a1_o : Option Addr) (a1_n a1_c : Nat) (a1_l : List (Cm.C)) (w0_k : AllOk [.int .u32, .int .i8, .int .i8, .bool, .int .u32, .int .u8] (cmEnc a0)) (w1_m : a1_n ≤ maxLen) (w1_l : a1_n ≤ a1_c) (w1_e : a1_l.length = a1_n) (w1_k : ∀ a ∈ a1_l, AllOk [.int .u32, .int .i8, .int .i8, .bool, .int .u32, .int .u8] (cmEnc a)) (w : World) (w1 : RowOf 6 cmEnc a1_o a1_l w) :
    Calls Try.prog 3 #[cmVal a0, .slice a1_o a1_n a1_c] w fun e w' => e = .returned (.bool true) ∧ Below w.heap.size w w' := by
  have K := CmW.contracts
  unfold maxLen at w1_m
  have hw : ∀ c ∈ a1_l, c.wf := fun c hc => cm_wf (w1_k c hc)
  have kA := CmL.awake_any K
  have hcw := cm_wf w0_k
  by_cases hsz : (a1_n : Int) ≤ 100
  · have hsz' : ¬ 100 < (a1_n : Int) := by omega
    have kP := fun (u : World) (F : List Nat) (p : Nat) (hp : PW p [] F u) (hr : RowOf 6 cmEnc a1_o a1_l u) (hd : ∀ a, a1_o = some a → 0 < a1_l.length → a.block ∉ F) => K.put p [] F a1_o a1_c a1_l hw u hp (by simp) hr (by omega) hd
    have kP2 := fun (u : World) (F : List Nat) (p : Nat) (hp : BtR.RB p [] F u) (hr : RowOf 6 cmEnc a1_o a1_l u) (hd : ∀ a, a1_o = some a → 0 < a1_l.length → a.block ∉ F) => CmR.put_any p [] F a1_o a1_c a1_l hw u hp (by simp) hr (by omega) hd
    have kF1 := K.formed a0 hcw
    have kF2 := CmR.formed_any a0 hcw
    have kR1 := fun (u : World) (hr : RowOf 6 cmEnc a1_o a1_l u) => K.row a1_o a1_c a1_l hw u hr (by omega)
    have kR2 := fun (u : World) (hr : RowOf 6 cmEnc a1_o a1_l u) => CmR.row_any a1_o a1_c a1_l hw u hr (by omega)
    obtain ⟨D, hD⟩ : ∃ D, D = if Cm.row a1_l = true then Cm.all a1_l else [] := ⟨_, rfl⟩
    have hDl : D.length ≤ 491 := by
      rw [hD]
      split
      · rename_i h; exact CmL.all_le h
      · simp
    simp only [List.nil_append, ← hD] at kP kP2
    obtain ⟨fm, hfm⟩ : ∃ b, b = decide (Cm.Formed a0) := ⟨_, rfl⟩
    obtain ⟨rw_, hrw⟩ : ∃ b, b = Cm.row a1_l := ⟨_, rfl⟩
    rw [← hfm] at kF1 kF2
    rw [← hrw] at kR1 kR2 kP kP2
    rw [w1_e] at kP kP2 kR1 kR2
    have kB1 := fun (p : Nat) (F : List Nat) (u : World) (h : PW p D F u) => BtW.bytes_any p D F u h (by omega)
    have kB2 := fun (p : Nat) (F : List Nat) (u : World) (h : BtR.RB p D F u) => BtR.bytes_any p D F u h (by omega)
    have hblk : ∀ a, a1_o = some a → 0 < a1_n → a.block < w.heap.size := fun a ha hn => CmL.row_block w1 (by omega) a ha
    clear hD hfm hrw hcw w0_k w1_k K
    have kSm := fun (oa ob : Option Addr) (ca cb : Nat) (u : World) (ha : RowOf 1 byEnc oa (Bt.pack D) u) (hb : RowOf 1 byEnc ob (Bt.pack D) u) => BtL.same_any oa ob ca cb (Bt.pack D) (Bt.pack D) u ha hb (by rw [Bt.pack_length]; omega) (by rw [Bt.pack_length]; omega)
    simp only [decide_true] at kSm
    have hef : (fm == fm) = true := by simp
    have her : (rw_ == rw_) = true := by simp
    go_enter Try.func3, Try.ntmps3
    go_wp2_with (first | (go_at_call 9; (with_reducible refine (kA _).mono ?_); rintro e u0 ⟨rfl, HT1⟩; have hS := (Struct.new w (cmEnc a0) 25).keep HT1 (by simp); have HT0 := ((Turned.refl [] w).alloc _).trans HT1 (by simp); have hsz0 := HT0.size; have hsz1 := HT1.size; have HTa := (HT0.alloc (.cells #[.slice none 0 0, .int .i64 0] 31)).alloc (.cells #[.slice none 0 0] 35); have hPW0 := (PW.new u0 31).keep ((Turned.refl [] _).alloc (.cells #[.slice none 0 0] 35)) (by simp); have hd1 : ∀ a, a1_o = some a → 0 < a1_n → a.block ∉ [u0.heap.size] := (fun a ha hl hk => absurd (hblk a ha hl) (by simp at hk; omega)); have hd2 : ∀ a, a1_o = some a → 0 < a1_n → a.block ∉ [u0.heap.size + 1] := (fun a ha hl hk => absurd (hblk a ha hl) (by simp at hk; omega))) | (go_at_call 10; (with_reducible refine (kP _ _ _ hPW0 (w1.turned HTa (by simp)) hd1).mono ?_); rintro e u2 ⟨rfl, F2, hPW, hm2⟩; have HTb := HTa.trans hm2.1 (by intro k hk hl; simp at hk; omega); have hRB0 := CmL.bits_new u0 hm2) | (go_at_call 11; (with_reducible refine (kP2 _ _ _ hRB0 (w1.turned HTb (by simp)) hd2).mono ?_); rintro e u3 ⟨rfl, F3, hRB, hm3⟩; have hPW := hPW.keep hm3.1 (CmL.apart_new hm2); have hS := CmL.struct_two hS hm2 hm3; have HT0 := HTb.trans hm3.1 (by intro k hk hl; simp at hk; omega)))
    obtain ⟨p, hp⟩ : ∃ p, p = u0.heap.size := ⟨_, rfl⟩
    obtain ⟨q, hq⟩ : ∃ q, q = u0.heap.size + 1 := ⟨_, rfl⟩
    obtain ⟨b0, hb0⟩ : ∃ b, b = w.heap.size := ⟨_, rfl⟩
    rw [← hq] at hRB ⊢
    rw [← hp] at hPW ⊢
    rw [← hb0] at hS ⊢
    have c0 := (hS.2 0 _ rfl).1
    have c1 := (hS.2 1 _ rfl).1
    have c2 := (hS.2 2 _ rfl).1
    have c3 := (hS.2 3 _ rfl).1
    have c4 := (hS.2 4 _ rfl).1
    have c5 := (hS.2 5 _ rfl).1
    have hS := hS.keep ((Turned.refl [] u3).drew) (by simp)
    have hPW := hPW.keep ((Turned.refl [] u3).drew) (by simp)
    have hRB := hRB.keep ((Turned.refl [] u3).drew) (by simp)
    have HT0 := HT0.drew
    clear hp hq hb0 kP kP2 hd1 hd2 hm2 hm3 HTa HTb hRB0 kA hblk hsz0 hsz1 HT1
    refine wp_region_held_drew (S := (fun w' => w'.cell? ⟨b0, 0, none⟩ = some (.int .u32 (a0.n : Int)) ∧ w'.cell? ⟨b0, 1, none⟩ = some (.int .i8 a0.x) ∧ w'.cell? ⟨b0, 2, none⟩ = some (.int .i8 a0.y) ∧ w'.cell? ⟨b0, 3, none⟩ = some (.bool a0.f) ∧ w'.cell? ⟨b0, 4, none⟩ = some (.int .u32 (a0.v : Int)) ∧ w'.cell? ⟨b0, 5, none⟩ = some (.int .u8 (a0.q : Int)))) (by kernel_rfl) ?_ (fun hHeld => ?_)
    · exact ⟨c0, c1, c2, c3, c4, c5⟩
    refine BtL.take_d (some 27) (i := 0) (v := ?_) rfl rfl (by kernel_rfl) (by kernel_rfl) (by kernel_rfl) (fun _ _ _ h => h) (Or.inl ⟨by rfl, ?_⟩) (by assumption) ?_
    rotate_left
    · (intro w hSw; (try dsimp only at hSw); go_simp; try with_reducible rfl)
    simp only [Act.put, List.setIfInBounds_toArray, List.set_cons_zero, List.set_cons_succ]
    refine BtL.take_d (some 29) (i := 2) (v := ?_) rfl rfl (by kernel_rfl) (by kernel_rfl) (by kernel_rfl) (fun _ _ _ h => h) (Or.inl ⟨by rfl, ?_⟩) (by assumption) ?_
    rotate_left
    · (intro w hSw; (try dsimp only at hSw); go_simp; try with_reducible rfl)
    simp only [Act.put, List.setIfInBounds_toArray, List.set_cons_zero, List.set_cons_succ]
    refine BtL.one_d (some 28) (i := 1) rfl rfl (by kernel_rfl) (by rfl) 12 #[cmVal a0] (by go_simp) ?_
    refine (kF1 _).mono ?_
    rintro e u9 ⟨rfl, HT9⟩
    have hS := hS.keep HT9 (by simp)
    have c0 := (hS.2 0 _ rfl).1
    have c1 := (hS.2 1 _ rfl).1
    have c2 := (hS.2 2 _ rfl).1
    have c3 := (hS.2 3 _ rfl).1
    have c4 := (hS.2 4 _ rfl).1
    have c5 := (hS.2 5 _ rfl).1
    have hPW := hPW.keep HT9 (by simp)
    have hRB := hRB.keep HT9 (by simp)
    have HT0 := HT0.trans HT9 (by simp)
    refine ⟨_, rfl, ⟨c0, c1, c2, c3, c4, c5⟩, fun hHeld => ?_⟩
    simp only [Act.put, List.setIfInBounds_toArray, List.set_cons_zero, List.set_cons_succ]
    refine BtL.one_d (some 30) (i := 3) rfl rfl (by kernel_rfl) (by rfl) 13 #[cmVal a0] (by go_simp) ?_
    refine (kF2 _).mono ?_
    rintro e u9 ⟨rfl, HT9⟩
    have hS := hS.keep HT9 (by simp)
    have c0 := (hS.2 0 _ rfl).1
    have c1 := (hS.2 1 _ rfl).1
    have c2 := (hS.2 2 _ rfl).1
    have c3 := (hS.2 3 _ rfl).1
    have c4 := (hS.2 4 _ rfl).1
    have c5 := (hS.2 5 _ rfl).1
    have hPW := hPW.keep HT9 (by simp)
    have hRB := hRB.keep HT9 (by simp)
    have HT0 := HT0.trans HT9 (by simp)
    refine ⟨_, rfl, ⟨c0, c1, c2, c3, c4, c5⟩, fun hHeld => ?_⟩
    simp only [Act.put, List.setIfInBounds_toArray, List.set_cons_zero, List.set_cons_succ]
    refine BtL.take_d (some 31) (i := 4) (v := ?_) rfl rfl (by kernel_rfl) (by kernel_rfl) (by kernel_rfl) (fun _ _ _ h => h) (Or.inl ⟨by rfl, ?_⟩) (by assumption) ?_
    rotate_left
    · (intro w hSw; (try dsimp only at hSw); go_simp; try with_reducible rfl)
    simp only [Act.put, List.setIfInBounds_toArray, List.set_cons_zero, List.set_cons_succ]
    try rw [hef]
    refine BtL.take_d (some 32) (i := 5) (v := ?_) rfl rfl (by kernel_rfl) (by kernel_rfl) (by kernel_rfl) (fun _ _ _ h => h) (Or.inl ⟨by rfl, ?_⟩) (by assumption) ?_
    rotate_left
    · (intro w hSw; (try dsimp only at hSw); go_simp; try with_reducible rfl)
    simp only [Act.put, List.setIfInBounds_toArray, List.set_cons_zero, List.set_cons_succ]
    refine BtL.take_d (some 33) (i := 6) (v := ?_) rfl rfl (by kernel_rfl) (by kernel_rfl) (by kernel_rfl) (fun _ _ _ h => h) (Or.inl ⟨by rfl, ?_⟩) (by assumption) ?_
    rotate_left
    · (intro w hSw; (try dsimp only at hSw); go_simp; try with_reducible rfl)
    simp only [Act.put, List.setIfInBounds_toArray, List.set_cons_zero, List.set_cons_succ]
    refine BtL.take_d (some 35) (i := 8) (v := ?_) rfl rfl (by kernel_rfl) (by kernel_rfl) (by kernel_rfl) (fun _ _ _ h => h) (Or.inl ⟨by rfl, ?_⟩) (by assumption) ?_
    rotate_left
    · (intro w hSw; (try dsimp only at hSw); go_simp; try with_reducible rfl)
    simp only [Act.put, List.setIfInBounds_toArray, List.set_cons_zero, List.set_cons_succ]
    refine BtL.one_d (some 34) (i := 7) rfl rfl (by kernel_rfl) (by rfl) 14 #[.slice a1_o a1_n a1_c] (by go_simp) ?_
    refine (kR1 _ (w1.turned HT0 (by simp))).mono ?_
    rintro e u9 ⟨rfl, HT9⟩
    have hS := hS.keep HT9 (by simp)
    have c0 := (hS.2 0 _ rfl).1
    have c1 := (hS.2 1 _ rfl).1
    have c2 := (hS.2 2 _ rfl).1
    have c3 := (hS.2 3 _ rfl).1
    have c4 := (hS.2 4 _ rfl).1
    have c5 := (hS.2 5 _ rfl).1
    have hPW := hPW.keep HT9 (by simp)
    have hRB := hRB.keep HT9 (by simp)
    have HT0 := HT0.trans HT9 (by simp)
    refine ⟨_, rfl, ⟨c0, c1, c2, c3, c4, c5⟩, fun hHeld => ?_⟩
    simp only [Act.put, List.setIfInBounds_toArray, List.set_cons_zero, List.set_cons_succ]
    refine BtL.one_d (some 36) (i := 9) rfl rfl (by kernel_rfl) (by rfl) 15 #[.slice a1_o a1_n a1_c] (by go_simp) ?_
    refine (kR2 _ (w1.turned HT0 (by simp))).mono ?_
    rintro e u9 ⟨rfl, HT9⟩
    have hS := hS.keep HT9 (by simp)
    have c0 := (hS.2 0 _ rfl).1
    have c1 := (hS.2 1 _ rfl).1
    have c2 := (hS.2 2 _ rfl).1
    have c3 := (hS.2 3 _ rfl).1
    have c4 := (hS.2 4 _ rfl).1
    have c5 := (hS.2 5 _ rfl).1
    have hPW := hPW.keep HT9 (by simp)
    have hRB := hRB.keep HT9 (by simp)
    have HT0 := HT0.trans HT9 (by simp)
    refine ⟨_, rfl, ⟨c0, c1, c2, c3, c4, c5⟩, fun hHeld => ?_⟩
    simp only [Act.put, List.setIfInBounds_toArray, List.set_cons_zero, List.set_cons_succ]
    refine BtL.take_d (some 37) (i := 10) (v := ?_) rfl rfl (by kernel_rfl) (by kernel_rfl) (by kernel_rfl) (fun _ _ _ h => h) (Or.inl ⟨by rfl, ?_⟩) (by assumption) ?_
    rotate_left
    · (intro w hSw; (try dsimp only at hSw); go_simp; try with_reducible rfl)
    simp only [Act.put, List.setIfInBounds_toArray, List.set_cons_zero, List.set_cons_succ]
    try rw [her]
    refine BtL.take_d (some 38) (i := 11) (v := ?_) rfl rfl (by kernel_rfl) (by kernel_rfl) (by kernel_rfl) (fun _ _ _ h => h) (Or.inl ⟨by rfl, ?_⟩) (by assumption) ?_
    rotate_left
    · (intro w hSw; (try dsimp only at hSw); go_simp; try with_reducible rfl)
    simp only [Act.put, List.setIfInBounds_toArray, List.set_cons_zero, List.set_cons_succ]
    refine BtL.take_d (some 39) (i := 12) (v := ?_) rfl rfl (by kernel_rfl) (by kernel_rfl) (by kernel_rfl) (fun _ _ _ h => h) (Or.inl ⟨by rfl, ?_⟩) (by assumption) ?_
    rotate_left
    · (intro w hSw; (try dsimp only at hSw); go_simp; try with_reducible rfl)
    simp only [Act.put, List.setIfInBounds_toArray, List.set_cons_zero, List.set_cons_succ]
    refine BtL.take_d (some 40) (i := 13) (v := ?_) rfl rfl (by kernel_rfl) (by kernel_rfl) (by kernel_rfl) (fun _ _ _ h => h) (Or.inl ⟨by rfl, ?_⟩) (by assumption) ?_
    rotate_left
    · (intro w hSw; (try dsimp only at hSw); go_simp; try with_reducible rfl)
    simp only [Act.put, List.setIfInBounds_toArray, List.set_cons_zero, List.set_cons_succ]
    refine BtL.take_d (some 41) (i := 14) (v := ?_) rfl rfl (by kernel_rfl) (by kernel_rfl) (by kernel_rfl) (fun _ _ _ h => h) (Or.inl ⟨by rfl, ?_⟩) (by assumption) ?_
    rotate_left
    · (intro w hSw; (try dsimp only at hSw); go_simp; try with_reducible rfl)
    simp only [Act.put, List.setIfInBounds_toArray, List.set_cons_zero, List.set_cons_succ]
    refine BtL.take_d (some 42) (i := 15) (v := ?_) rfl rfl (by kernel_rfl) (by kernel_rfl) (by kernel_rfl) (fun _ _ _ h => h) (Or.inl ⟨by rfl, ?_⟩) (by assumption) ?_
    rotate_left
    · (intro w hSw; (try dsimp only at hSw); go_simp; try with_reducible rfl)
    simp only [Act.put, List.setIfInBounds_toArray, List.set_cons_zero, List.set_cons_succ]
    try rw [her]
    refine BtL.take_d (some 43) (i := 16) (v := ?_) rfl rfl (by kernel_rfl) (by kernel_rfl) (by kernel_rfl) (fun _ _ _ h => h) (Or.inl ⟨by rfl, ?_⟩) (by assumption) ?_
    rotate_left
    · (intro w hSw; (try dsimp only at hSw); go_simp; try with_reducible rfl)
    simp only [Act.put, List.setIfInBounds_toArray, List.set_cons_zero, List.set_cons_succ]
    refine BtL.take_d (some 44) (i := 17) (v := ?_) rfl rfl (by kernel_rfl) (by kernel_rfl) (by kernel_rfl) (fun _ _ _ h => h) (Or.inl ⟨by rfl, ?_⟩) (by assumption) ?_
    rotate_left
    · (intro w hSw; (try dsimp only at hSw); go_simp; try with_reducible rfl)
    simp only [Act.put, List.setIfInBounds_toArray, List.set_cons_zero, List.set_cons_succ]
    refine BtL.take_d (some 45) (i := 18) (v := ?_) rfl rfl (by kernel_rfl) (by kernel_rfl) (by kernel_rfl) (fun _ _ _ h => h) (Or.inl ⟨by rfl, ?_⟩) (by assumption) ?_
    rotate_left
    · (intro w hSw; (try dsimp only at hSw); go_simp; try with_reducible rfl)
    simp only [Act.put, List.setIfInBounds_toArray, List.set_cons_zero, List.set_cons_succ]
    refine BtL.take_d (some 47) (i := 20) (v := ?_) rfl rfl (by kernel_rfl) (by kernel_rfl) (by kernel_rfl) (fun _ _ _ h => h) (Or.inl ⟨by rfl, ?_⟩) (by assumption) ?_
    rotate_left
    · (intro w hSw; (try dsimp only at hSw); go_simp; try with_reducible rfl)
    simp only [Act.put, List.setIfInBounds_toArray, List.set_cons_zero, List.set_cons_succ]
    refine BtL.one_d (some 46) (i := 19) rfl rfl (by kernel_rfl) (by rfl) 17 #[.pointer (some ⟨p, 0, none⟩)] (by go_simp) ?_
    refine (kB1 _ _ _ hPW).mono ?_
    rintro e u9 ⟨v1, rfl, ho1, HT9, hv1⟩
    obtain ⟨oa, ca, rfl, _, _, hra, _⟩ := ho1.rowOf byEnc_len
    have hS := hS.keep HT9 (by simp)
    have c0 := (hS.2 0 _ rfl).1
    have c1 := (hS.2 1 _ rfl).1
    have c2 := (hS.2 2 _ rfl).1
    have c3 := (hS.2 3 _ rfl).1
    have c4 := (hS.2 4 _ rfl).1
    have c5 := (hS.2 5 _ rfl).1
    have hPW := hPW.keep HT9 (by simp)
    have hRB := hRB.keep HT9 (by simp)
    have HT0 := HT0.trans HT9 (by simp)
    refine ⟨_, rfl, ⟨c0, c1, c2, c3, c4, c5⟩, fun hHeld => ?_⟩
    simp only [Act.put, List.setIfInBounds_toArray, List.set_cons_zero, List.set_cons_succ]
    refine BtL.one_d (some 48) (i := 21) rfl rfl (by kernel_rfl) (by rfl) 18 #[.pointer (some ⟨q, 0, none⟩)] (by go_simp) ?_
    refine (kB2 _ _ _ hRB).mono ?_
    rintro e u9 ⟨v2, rfl, ho2, HT9, hv2⟩
    obtain ⟨ob, cb, rfl, _, _, hrb, _⟩ := ho2.rowOf byEnc_len
    have hra := hra.turned HT9 (by simp)
    have hS := hS.keep HT9 (by simp)
    have c0 := (hS.2 0 _ rfl).1
    have c1 := (hS.2 1 _ rfl).1
    have c2 := (hS.2 2 _ rfl).1
    have c3 := (hS.2 3 _ rfl).1
    have c4 := (hS.2 4 _ rfl).1
    have c5 := (hS.2 5 _ rfl).1
    have hPW := hPW.keep HT9 (by simp)
    have hRB := hRB.keep HT9 (by simp)
    have HT0 := HT0.trans HT9 (by simp)
    refine ⟨_, rfl, ⟨c0, c1, c2, c3, c4, c5⟩, fun hHeld => ?_⟩
    simp only [Act.put, List.setIfInBounds_toArray, List.set_cons_zero, List.set_cons_succ]
    refine BtL.one_d (some 49) (i := 22) rfl rfl (by kernel_rfl) (by rfl) 16 #[.slice oa (Bt.pack D).length ca, .slice ob (Bt.pack D).length cb] (by go_simp) ?_
    refine (kSm oa ob ca cb _ hra hrb).mono ?_
    rintro e u9 ⟨rfl, HT9⟩
    have hS := hS.keep HT9 (by simp)
    have c0 := (hS.2 0 _ rfl).1
    have c1 := (hS.2 1 _ rfl).1
    have c2 := (hS.2 2 _ rfl).1
    have c3 := (hS.2 3 _ rfl).1
    have c4 := (hS.2 4 _ rfl).1
    have c5 := (hS.2 5 _ rfl).1
    have hPW := hPW.keep HT9 (by simp)
    have hRB := hRB.keep HT9 (by simp)
    have HT0 := HT0.trans HT9 (by simp)
    refine ⟨_, rfl, ⟨c0, c1, c2, c3, c4, c5⟩, fun hHeld => ?_⟩
    simp only [Act.put, List.setIfInBounds_toArray, List.set_cons_zero, List.set_cons_succ]
    refine BtL.take_d (some 50) (i := 23) (v := ?_) rfl rfl (by kernel_rfl) (by kernel_rfl) (by kernel_rfl) (fun _ _ _ h => h) (Or.inl ⟨by rfl, ?_⟩) (by assumption) ?_
    rotate_left
    · (intro w hSw; (try dsimp only at hSw); go_simp; try with_reducible rfl)
    simp only [Act.put, List.setIfInBounds_toArray, List.set_cons_zero, List.set_cons_succ]
    refine BtL.take_d (some 4) (i := 24) (v := ?_) rfl rfl (by kernel_rfl) (by kernel_rfl) (by kernel_rfl) (fun _ _ _ h => h) (Or.inl ⟨by rfl, ?_⟩) (by assumption) ?_
    rotate_left
    · (intro w hSw; (try dsimp only at hSw); go_simp; try with_reducible rfl)
    simp only [Act.put, List.setIfInBounds_toArray, List.set_cons_zero, List.set_cons_succ]
    refine wpAnyH_done (by kernel_rfl) ?_ _
    go_wp2_with fail
    go_ret
    exact ⟨rfl, HT0.none⟩
  · have hsz' : 100 < (a1_n : Int) := by omega
    clear K
    go_enter Try.func3, Try.ntmps3
    have HT0 := (Turned.refl [] w).alloc (.cells (cmEnc a0).toArray 25)
    go_wp2_with (go_at_call 9; (with_reducible refine (kA _).mono ?_); rintro e u0 ⟨rfl, HT1⟩; have HT0 := HT0.trans HT1 (by simp))
    go_ret
    exact ⟨rfl, HT0.none⟩

set_option maxRecDepth 100000 in
theorem lifted (os : Os) (started : os.Started) (H : Type) (enc : TypeId × Value → H) :
    ReturnsInHanded {} Try.checked os 3 .any (Rows.commandFormsSpec.pre6 enc Try.prog Try.f3 Rows.commandFormsRow.domain false) (Rows.commandFormsSpec.post enc Try.prog Try.f3 false true false false) := by
  refine returnsInHanded_of_change (C := Try.checked) own started (by kernel_rfl) Try.func3
    (ChangeSpec.witness6 (enc := enc) (C := Try.checked) false ⟨#[], #[.agg #[.int .u32 0, .int .i8 0, .int .i8 0, .bool false, .int .u32 0, .int .u8 0], .slice none 0 0], []⟩ 8 (by kernel_rfl) (by kernel_rfl) (by kernel_rfl) (by kernel_rfl)) ?_
  intro W base args ds gs before hval0 hW hcnd _
  have hval : ∀ (j : Nat) t v, Try.f3.params[j]? = some t → args[j]? = some v → Value.okWide Try.prog W .any base t v := hval0
  have hW' := hW
  obtain ⟨p, q, hA0, hV, rfl, hfz, hnd⟩ := hW
  have hA : DataW.TrodAll enc Try.prog W 0 (fun _ => true) true Try.f3.params.toList args.toList ds p := hA0
  rw [Try.params3] at hA hval
  obtain ⟨v0, vs0, d0, ds0, p0, q0, hargs, rfl, rfl, h0, r0⟩ := trodAll_cons hA
  obtain ⟨v1, vs1, d1, ds1, p1, q1, rfl, rfl, rfl, h1, r1⟩ := trodAll_cons r0
  obtain ⟨rfl, rfl, rfl⟩ := trodAll_nil r1
  obtain rfl : args = #[v0, v1] := by cases args; simp_all
  obtain ⟨rfl, rfl⟩ := trodVars_none hV
  have k0 := h0
  have lt0 : ∀ x ∈ p0, x.block < W.heap.size := by obtain ⟨m, hm⟩ := k0; exact DataW.trod_lt m _ _ _ hm
  have k1 := h1
  have lt1 : ∀ x ∈ p1, x.block < W.heap.size := by obtain ⟨m, hm⟩ := k1; exact DataW.trod_lt m _ _ _ hm
  obtain ⟨cs0, rfl, ok0⟩ := open_flat (d := 8) (ks := [.int .u32, .int .i8, .int .i8, .bool, .int .u32, .int .u8]) (Or.inl ⟨_, Try.underlying25⟩) (by kernel_rfl) (hval 0 25 v0 rfl rfl) h0
  obtain ⟨a0, rfl⟩ := cmEnc_of cs0 ok0
  have w0_k := ok0
  obtain ⟨a1_o, a1_n, a1_c, a1_l, rfl, w1_m, w1_l, w1_e, w1, w1_k⟩ := open_flats (d := 8) (ks := [.int .u32, .int .i8, .int .i8, .bool, .int .u32, .int .u8]) cmEnc Try.underlying26 (by kernel_rfl) (by kernel_rfl) (by decide) cmEnc_of (hval 1 26 v1 rfl rfl) h1
  clear hA0 hval0
  refine (walk a0 a1_o a1_n a1_c a1_l w0_k w1_m w1_l w1_e w1_k W w1).mono fun e W' ⟨he, bel⟩ => ?_
  subst he
  exact ⟨_, rfl, _, _, _, [], _, [], hW', trodAll_mk1 (shut_bool Try.underlying4 _), (trodAll_cons_mk (Below.trod laidOut (by kernel_rfl) (of_decide_eq_true (by kernel_rfl)) k0 bel lt0) (trodAll_cons_mk (Below.trod laidOut (by kernel_rfl) (of_decide_eq_true (by kernel_rfl)) k1 bel lt1) trodAll_mk0)), rfl, bel.frame _, fun h => by cases h⟩

theorem over : Rows.commandFormsRow.holds Try.pinned (OpenSpec.ofChange Rows.commandFormsSpec) :=
  OpenClaim.holds_of_wide 3 Try.f3 rfl rfl rfl rfl rfl rfl rfl ⟨rfl, rfl, rfl, rfl, rfl⟩ rfl rfl rfl rfl rfl (by kernel_rfl) Try.func3 (by kernel_rfl)
    (of_decide_eq_true (by kernel_rfl)) (by unfold Func.isWrapper; first | (rw [if_pos (by decide +kernel)]; kernel_rfl) | (rw [if_neg (by decide +kernel)]; exact ⟨rfl, rfl⟩))
    (fun os started H enc _ => lifted os started H enc)

theorem proved : Rows.CommandFormsSaid :=
  over
#print axioms proved
end Go.Proofs.Ytodfgekhffeapaa.commandForms

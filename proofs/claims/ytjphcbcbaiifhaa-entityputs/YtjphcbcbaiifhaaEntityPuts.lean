/- On every base each formed entity has its bits, each other one none, as the reference does. -/
import Derived.Test.YtjphcbcbaiifhaaRows
import Derived.Test.YtjphcbcbaiifhaaEntWalks
import Derived.Test.YtjphcbcbaiifhaaEntLaw2
import Derived.Test.YtjphcbcbaiifhaaInts
import Derived.Test.YtjphcbcbaiifhaaFlat
import Derived.Test.YtjphcbcbaiifhaaBitHeld
import Derived.WalkKit
import Derived.ProofKit
import Derived.OpenShut
import Derived.ChangeOld
import Derived.Below
import Derived.WalkSmall
import Derived.Lib.SmallJoins
import Derived.Laws.IdiomArrays
namespace Go.Proofs.Ytjphcbcbaiifhaa.entityPuts
open Go.ChangeShapes Go.WideShapes Go.ChangeAt Go.RowKit
set_option linter.unusedVariables false

theorem own : ownKnob Try.prog.godebug = none := by kernel_rfl
theorem laidOut : laidOutB Try.prog = true := by kernel_rfl

set_option maxRecDepth 20000 in
set_option maxHeartbeats 4000000 in
theorem walk (a0 : En.E) (a1 : En.E) (w0_k : AllOk [.int .i64, .int .i64, .int .i64, .int .i64, .int .i64, .int .i64, .int .i64, .int .i64] (enEnc a0)) (w1_k : AllOk [.int .i64, .int .i64, .int .i64, .int .i64, .int .i64, .int .i64, .int .i64, .int .i64] (enEnc a1)) (w : World) :
    Calls Try.prog 4 #[enVal a0, enVal a1] w fun e w' => e = .returned (.bool true) ∧ Below w.heap.size w w' := by
  have K := EnW.contracts
  have hb := en_wf w0_k
  have he := en_wf w1_k
  have kA := EnL.awake_any K
  obtain ⟨hS1, hS2, HT0, hsz⟩ := EnL.boxes a0 a1 w
  obtain ⟨W2, hW2⟩ : ∃ W2, W2 = (w.alloc (.cells (enEnc a0).toArray 29)).alloc (.cells (enEnc a1).toArray 29) := ⟨_, rfl⟩
  rw [← hW2] at hS1 hS2 HT0 hsz
  have hPp0 := EnL.writer_new hsz
  have hPp1 := hPp0.keep ((Turned.refl [] _).alloc (.cells #[.slice none 0 0] 40)) (by simp)
  have hPq1 : BtR.RB (w.heap.size + 1 + 1 + 1) [] [w.heap.size + 1 + 1 + 1] ((W2.alloc (.cells #[.slice none 0 0, .int .i64 0] 36)).alloc (.cells #[.slice none 0 0] 40)) := by
    have := RBits.new 4 (W2.alloc (.cells #[.slice none 0 0, .int .i64 0] 36)) 40
    rw [show (W2.alloc (.cells #[.slice none 0 0, .int .i64 0] 36)).heap.size = w.heap.size + 1 + 1 + 1 by simp [hsz]] at this
    exact this
  obtain ⟨W4, hW4⟩ : ∃ W4, W4 = (W2.alloc (.cells #[.slice none 0 0, .int .i64 0] 36)).alloc (.cells #[.slice none 0 0] 40) := ⟨_, rfl⟩
  have hTa : Turned [] W2 W4 := by rw [hW4]; exact ((Turned.refl [] _).alloc _).alloc _
  have hs4 : W4.heap.size = w.heap.size + 1 + 1 + 1 + 1 := by rw [hW4]; simp [hsz]
  rw [← hW4] at hPp1 hPq1
  obtain ⟨B1, hB1⟩ : ∃ B, B = w.heap.size := ⟨_, rfl⟩
  obtain ⟨B2, hB2⟩ : ∃ B, B = w.heap.size + 1 := ⟨_, rfl⟩
  obtain ⟨p, hp⟩ : ∃ p, p = w.heap.size + 1 + 1 := ⟨_, rfl⟩
  obtain ⟨q, hq⟩ : ∃ q, q = w.heap.size + 1 + 1 + 1 := ⟨_, rfl⟩
  have hS1 := hS1.keep hTa (by simp)
  have hS2 := hS2.keep hTa (by simp)
  have HT0 := HT0.trans hTa (by simp)
  obtain ⟨D, hD⟩ : ∃ D, D = if EnR.fits a0 a1 = true then En.all a0 a1 else [] := ⟨_, rfl⟩
  have hDl : D.length ≤ 486 := by
    rw [hD]
    split
    · exact En.all_len a0 a1
    · simp
  have kP1 := fun (u : World) (h : PW p [] [p] u) => K.put p [] [p] a0 a1 hb he u h (by simp)
  have kP2 := fun (u : World) (h : BtR.RB q [] [q] u) => EnR.put_any q [] [q] a0 a1 u h (by simp)
  simp only [List.nil_append, ← hD] at kP1 kP2
  obtain ⟨ft, hft⟩ : ∃ b, b = EnR.fits a0 a1 := ⟨_, rfl⟩
  rw [← hft] at kP1 kP2
  have kB1 := fun (p : Nat) (F : List Nat) (u : World) (h : PW p D F u) => BtW.bytes_any p D F u h (by omega)
  have kB2 := fun (p : Nat) (F : List Nat) (u : World) (h : BtR.RB p D F u) => BtR.bytes_any p D F u h (by omega)
  have kSm := fun (oa ob : Option Addr) (ca cb : Nat) (u : World) (ha : RowOf 1 byEnc oa (Bt.pack D) u) (hb : RowOf 1 byEnc ob (Bt.pack D) u) => BtL.same_any oa ob ca cb (Bt.pack D) (Bt.pack D) u ha hb (by rw [Bt.pack_length]; omega) (by rw [Bt.pack_length]; omega)
  simp only [decide_true] at kSm
  have kC := fun (p : Nat) (F : List Nat) (u : World) (h : PW p D F u) => (BtW.count_any p D F u h).mono (fun _ w' (h : _ ∧ w' = u) => (⟨h.1, by rw [h.2]; exact Turned.refl [] u⟩ : _ ∧ Turned [] u w'))
  obtain ⟨nD, hnD⟩ : ∃ n, n = D.length := ⟨_, rfl⟩
  rw [← hnD] at kC
  have HND : Hid (D.length = nD) := hnD.symm
  rw [← hp] at hPp1
  rw [← hq] at hPq1
  rw [← hB1] at hS1
  rw [← hB2] at hS2
  clear hD hft hnD hDl K hb he w0_k w1_k hTa hPp0 hsz
  go_enter Try.func4, Try.ntmps4
  go_wp2_with fail
  unfold enEnc at hW2
  rw [← hW2, ← hW4]
  rw [← hq, ← hp, ← hB2, ← hB1]
  have b1 : w.heap.size ≤ B1 := by omega
  have hlt1 : B1 ≠ p := by omega
  have hlt2 : B2 ≠ p := by omega
  have hlt3 : B1 ≠ q := by omega
  have hlt4 : B2 ≠ q := by omega
  have hlt5 : q ≠ p := by omega
  have hlt6 : w.heap.size ≤ p := by omega
  have hlt7 : w.heap.size ≤ q := by omega
  have hlt8 : q < W4.heap.size := by omega
  clear hW2 hW4 hB1 hB2 hp hq hs4
  have c0 := (hS1.2 0 _ rfl).1
  have c1 := (hS1.2 1 _ rfl).1
  have c2 := (hS1.2 2 _ rfl).1
  have c3 := (hS1.2 3 _ rfl).1
  have c4 := (hS1.2 4 _ rfl).1
  have c5 := (hS1.2 5 _ rfl).1
  have c6 := (hS1.2 6 _ rfl).1
  have c7 := (hS1.2 7 _ rfl).1
  have d0 := (hS2.2 0 _ rfl).1
  have d1 := (hS2.2 1 _ rfl).1
  have d2 := (hS2.2 2 _ rfl).1
  have d3 := (hS2.2 3 _ rfl).1
  have d4 := (hS2.2 4 _ rfl).1
  have d5 := (hS2.2 5 _ rfl).1
  have d6 := (hS2.2 6 _ rfl).1
  have d7 := (hS2.2 7 _ rfl).1
  have hS1 := hS1.keep ((Turned.refl [] W4).drew) (by simp)
  have hS2 := hS2.keep ((Turned.refl [] W4).drew) (by simp)
  have hPp := hPp1.keep ((Turned.refl [] W4).drew) (by simp)
  have hPq := hPq1.keep ((Turned.refl [] W4).drew) (by simp)
  have HT0 := HT0.drew
  have hlt9 : q < W4.drew.heap.size := hlt8
  clear hPp1 hPq1
  refine wp_region_held_drew (S := (fun w' => w'.cell? ⟨B1, 0, none⟩ = some (.int .i64 a0.id) ∧ w'.cell? ⟨B1, 1, none⟩ = some (.int .i64 a0.kind) ∧ w'.cell? ⟨B1, 2, none⟩ = some (.int .i64 a0.ax) ∧ w'.cell? ⟨B1, 3, none⟩ = some (.int .i64 a0.ay) ∧ w'.cell? ⟨B1, 4, none⟩ = some (.int .i64 a0.vx) ∧ w'.cell? ⟨B1, 5, none⟩ = some (.int .i64 a0.vy) ∧ w'.cell? ⟨B1, 6, none⟩ = some (.int .i64 a0.h) ∧ w'.cell? ⟨B1, 7, none⟩ = some (.int .i64 a0.t) ∧ w'.cell? ⟨B2, 0, none⟩ = some (.int .i64 a1.id) ∧ w'.cell? ⟨B2, 1, none⟩ = some (.int .i64 a1.kind) ∧ w'.cell? ⟨B2, 2, none⟩ = some (.int .i64 a1.ax) ∧ w'.cell? ⟨B2, 3, none⟩ = some (.int .i64 a1.ay) ∧ w'.cell? ⟨B2, 4, none⟩ = some (.int .i64 a1.vx) ∧ w'.cell? ⟨B2, 5, none⟩ = some (.int .i64 a1.vy) ∧ w'.cell? ⟨B2, 6, none⟩ = some (.int .i64 a1.h) ∧ w'.cell? ⟨B2, 7, none⟩ = some (.int .i64 a1.t))) (by kernel_rfl) ?_ (fun hHeld => ?_)
  · exact ⟨c0, c1, c2, c3, c4, c5, c6, c7, d0, d1, d2, d3, d4, d5, d6, d7⟩
  refine BtL.take_d (some 13) (i := 0) (v := ?_) rfl rfl (by kernel_rfl) (by kernel_rfl) (by kernel_rfl) (fun _ _ _ h => h) (Or.inl ⟨by rfl, ?_⟩) (by assumption) ?_
  rotate_left
  · (intro w hSw; (try dsimp only at hSw); go_simp; try with_reducible rfl)
  simp only [Act.put, List.setIfInBounds_toArray, List.set_cons_zero, List.set_cons_succ]
  refine BtL.take_d (some 14) (i := 1) (v := ?_) rfl rfl (by kernel_rfl) (by kernel_rfl) (by kernel_rfl) (fun _ _ _ h => h) (Or.inl ⟨by rfl, ?_⟩) (by assumption) ?_
  rotate_left
  · (intro w hSw; (try dsimp only at hSw); go_simp; try with_reducible rfl)
  simp only [Act.put, List.setIfInBounds_toArray, List.set_cons_zero, List.set_cons_succ]
  refine BtL.take_d (some 15) (i := 2) (v := ?_) rfl rfl (by kernel_rfl) (by kernel_rfl) (by kernel_rfl) (fun _ _ _ h => h) (Or.inl ⟨by rfl, ?_⟩) (by assumption) ?_
  rotate_left
  · (intro w hSw; (try dsimp only at hSw); go_simp; try with_reducible rfl)
  simp only [Act.put, List.setIfInBounds_toArray, List.set_cons_zero, List.set_cons_succ]
  refine BtL.take_d (some 17) (i := 4) (v := ?_) rfl rfl (by kernel_rfl) (by kernel_rfl) (by kernel_rfl) (fun _ _ _ h => h) (Or.inl ⟨by rfl, ?_⟩) (by assumption) ?_
  rotate_left
  · (intro w hSw; (try dsimp only at hSw); go_simp; try with_reducible rfl)
  simp only [Act.put, List.setIfInBounds_toArray, List.set_cons_zero, List.set_cons_succ]
  refine BtL.take_d (some 18) (i := 5) (v := ?_) rfl rfl (by kernel_rfl) (by kernel_rfl) (by kernel_rfl) (fun _ _ _ h => h) (Or.inl ⟨by rfl, ?_⟩) (by assumption) ?_
  rotate_left
  · (intro w hSw; (try dsimp only at hSw); go_simp; try with_reducible rfl)
  simp only [Act.put, List.setIfInBounds_toArray, List.set_cons_zero, List.set_cons_succ]
  refine BtL.take_d (some 19) (i := 6) (v := ?_) rfl rfl (by kernel_rfl) (by kernel_rfl) (by kernel_rfl) (fun _ _ _ h => h) (Or.inl ⟨by rfl, ?_⟩) (by assumption) ?_
  rotate_left
  · (intro w hSw; (try dsimp only at hSw); go_simp; try with_reducible rfl)
  simp only [Act.put, List.setIfInBounds_toArray, List.set_cons_zero, List.set_cons_succ]
  refine BtL.one_d (some 16) (i := 3) rfl rfl (by kernel_rfl) (by rfl) 16 #[.pointer (some ⟨p, 0, none⟩), enVal a0, enVal a1] (by go_simp) ?_
  refine (kP1 _ hPp).mono ?_
  rintro r1 u1 ⟨rfl, F1, hP1, hm1⟩
  have hS1 := hS1.keep hm1.1 (by simp; omega)
  have hS2 := hS2.keep hm1.1 (by simp; omega)
  have c0 := (hS1.2 0 _ rfl).1
  have c1 := (hS1.2 1 _ rfl).1
  have c2 := (hS1.2 2 _ rfl).1
  have c3 := (hS1.2 3 _ rfl).1
  have c4 := (hS1.2 4 _ rfl).1
  have c5 := (hS1.2 5 _ rfl).1
  have c6 := (hS1.2 6 _ rfl).1
  have c7 := (hS1.2 7 _ rfl).1
  have d0 := (hS2.2 0 _ rfl).1
  have d1 := (hS2.2 1 _ rfl).1
  have d2 := (hS2.2 2 _ rfl).1
  have d3 := (hS2.2 3 _ rfl).1
  have d4 := (hS2.2 4 _ rfl).1
  have d5 := (hS2.2 5 _ rfl).1
  have d6 := (hS2.2 6 _ rfl).1
  have d7 := (hS2.2 7 _ rfl).1
  have hQ1 := hPq.keep hm1.1 (by simp; omega)
  have hFq : ∀ k ∈ F1, k ∉ [q] := (by intro k hk hn; simp at hn; rcases hm1.2 k hk with h | h <;> (try simp at h) <;> omega)
  have HT0 := HT0.trans hm1.1 (by intro k hk hl; simp at hk; omega)
  refine ⟨_, rfl, ⟨c0, c1, c2, c3, c4, c5, c6, c7, d0, d1, d2, d3, d4, d5, d6, d7⟩, fun hHeld => ?_⟩
  simp only [Act.put, List.setIfInBounds_toArray, List.set_cons_zero, List.set_cons_succ]
  refine BtL.one_d (some 20) (i := 7) rfl rfl (by kernel_rfl) (by rfl) 17 #[.pointer (some ⟨q, 0, none⟩), enVal a0, enVal a1] (by go_simp) ?_
  refine (kP2 _ hQ1).mono ?_
  rintro r2 u2 ⟨rfl, F2, hQ2, hm2⟩
  have hS1 := hS1.keep hm2.1 (by simp; omega)
  have hS2 := hS2.keep hm2.1 (by simp; omega)
  have c0 := (hS1.2 0 _ rfl).1
  have c1 := (hS1.2 1 _ rfl).1
  have c2 := (hS1.2 2 _ rfl).1
  have c3 := (hS1.2 3 _ rfl).1
  have c4 := (hS1.2 4 _ rfl).1
  have c5 := (hS1.2 5 _ rfl).1
  have c6 := (hS1.2 6 _ rfl).1
  have c7 := (hS1.2 7 _ rfl).1
  have d0 := (hS2.2 0 _ rfl).1
  have d1 := (hS2.2 1 _ rfl).1
  have d2 := (hS2.2 2 _ rfl).1
  have d3 := (hS2.2 3 _ rfl).1
  have d4 := (hS2.2 4 _ rfl).1
  have d5 := (hS2.2 5 _ rfl).1
  have d6 := (hS2.2 6 _ rfl).1
  have d7 := (hS2.2 7 _ rfl).1
  have hP2 := hP1.keep hm2.1 hFq
  have HT0 := HT0.trans hm2.1 (by intro k hk hl; simp at hk; omega)
  refine ⟨_, rfl, ⟨c0, c1, c2, c3, c4, c5, c6, c7, d0, d1, d2, d3, d4, d5, d6, d7⟩, fun hHeld => ?_⟩
  simp only [Act.put, List.setIfInBounds_toArray, List.set_cons_zero, List.set_cons_succ]
  refine BtL.take_d (some 7) (i := 8) (v := ?_) rfl rfl (by kernel_rfl) (by kernel_rfl) (by kernel_rfl) (fun _ _ _ h => h) (Or.inl ⟨by rfl, ?_⟩) (by assumption) ?_
  rotate_left
  · (intro w hSw; (try dsimp only at hSw); go_simp; try with_reducible rfl)
  simp only [Act.put, List.setIfInBounds_toArray, List.set_cons_zero, List.set_cons_succ]
  refine BtL.take_d (some 8) (i := 9) (v := ?_) rfl rfl (by kernel_rfl) (by kernel_rfl) (by kernel_rfl) (fun _ _ _ h => h) (Or.inl ⟨by rfl, ?_⟩) (by assumption) ?_
  rotate_left
  · (intro w hSw; (try dsimp only at hSw); go_simp; try with_reducible rfl)
  simp only [Act.put, List.setIfInBounds_toArray, List.set_cons_zero, List.set_cons_succ]
  refine wpAnyH_done (by kernel_rfl) ?_ _
  obtain ⟨vq, hSq, hoq, _, _⟩ := id hQ2
  obtain ⟨oc, cc, rfl, _, _, _, _⟩ := hoq.rowOf bEnc_len
  rw [HND.out] at hSq
  have c0 := (hSq.2 0 _ rfl).1
  have hSq := hSq.keep ((Turned.refl [] u2).drew) (by simp)
  have hP2 := hP2.keep ((Turned.refl [] u2).drew) (by simp)
  have hQ2 := hQ2.keep ((Turned.refl [] u2).drew) (by simp)
  have HT0 := HT0.drew
  have heq : (ft == ft) = true := by simp
  have heq2 : ((nD : Int) == (nD : Int)) = true := by simp
  go_wp2_with fail
  refine wp_region_held_drew (S := (fun w' => w'.cell? ⟨q, 0, none⟩ = some (.slice oc nD cc))) (by kernel_rfl) ?_ (fun hHeld => ?_)
  · exact c0
  refine BtL.one_d (some 21) (i := 0) rfl rfl (by kernel_rfl) (by rfl) 9 #[] (by go_simp) ?_
  refine (kA _).mono ?_
  rintro r3 u3 ⟨rfl, HT9⟩
  have hP2 := hP2.keep HT9 (by simp)
  have hQ2 := hQ2.keep HT9 (by simp)
  have hSq := hSq.keep HT9 (by simp)
  have c0 := (hSq.2 0 _ rfl).1
  have HT0 := HT0.trans HT9 (by simp)
  refine ⟨_, rfl, c0, fun hHeld => ?_⟩
  simp only [Act.put, List.setIfInBounds_toArray, List.set_cons_zero, List.set_cons_succ]
  refine BtL.take_d (some 22) (i := 1) (v := ?_) rfl rfl (by kernel_rfl) (by kernel_rfl) (by kernel_rfl) (fun _ _ _ h => h) (Or.inl ⟨by rfl, ?_⟩) (by assumption) ?_
  rotate_left
  · (intro w hSw; (try dsimp only at hSw); go_simp; try with_reducible rfl)
  simp only [Act.put, List.setIfInBounds_toArray, List.set_cons_zero, List.set_cons_succ]
  refine BtL.take_d (some 23) (i := 2) (v := ?_) rfl rfl (by kernel_rfl) (by kernel_rfl) (by kernel_rfl) (fun _ _ _ h => h) (Or.inl ⟨by rfl, ?_⟩) (by assumption) ?_
  rotate_left
  · (intro w hSw; (try dsimp only at hSw); go_simp; try with_reducible rfl)
  simp only [Act.put, List.setIfInBounds_toArray, List.set_cons_zero, List.set_cons_succ]
  refine BtL.take_d (some 24) (i := 3) (v := ?_) rfl rfl (by kernel_rfl) (by kernel_rfl) (by kernel_rfl) (fun _ _ _ h => h) (Or.inl ⟨by rfl, ?_⟩) (by assumption) ?_
  rotate_left
  · (intro w hSw; (try dsimp only at hSw); go_simp; try with_reducible rfl)
  simp only [Act.put, List.setIfInBounds_toArray, List.set_cons_zero, List.set_cons_succ]
  refine BtL.take_d (some 25) (i := 4) (v := ?_) rfl rfl (by kernel_rfl) (by kernel_rfl) (by kernel_rfl) (fun _ _ _ h => h) (Or.inl ⟨by rfl, ?_⟩) (by assumption) ?_
  rotate_left
  · (intro w hSw; (try dsimp only at hSw); go_simp; try with_reducible rfl)
  simp only [Act.put, List.setIfInBounds_toArray, List.set_cons_zero, List.set_cons_succ]
  try rw [heq]
  refine BtL.take_d (some 26) (i := 5) (v := ?_) rfl rfl (by kernel_rfl) (by kernel_rfl) (by kernel_rfl) (fun _ _ _ h => h) (Or.inl ⟨by rfl, ?_⟩) (by assumption) ?_
  rotate_left
  · (intro w hSw; (try dsimp only at hSw); go_simp; try with_reducible rfl)
  simp only [Act.put, List.setIfInBounds_toArray, List.set_cons_zero, List.set_cons_succ]
  refine BtL.take_d (some 27) (i := 6) (v := ?_) rfl rfl (by kernel_rfl) (by kernel_rfl) (by kernel_rfl) (fun _ _ _ h => h) (Or.inl ⟨by rfl, ?_⟩) (by assumption) ?_
  rotate_left
  · (intro w hSw; (try dsimp only at hSw); go_simp; try with_reducible rfl)
  simp only [Act.put, List.setIfInBounds_toArray, List.set_cons_zero, List.set_cons_succ]
  refine BtL.take_d (some 28) (i := 7) (v := ?_) rfl rfl (by kernel_rfl) (by kernel_rfl) (by kernel_rfl) (fun _ _ _ h => h) (Or.inl ⟨by rfl, ?_⟩) (by assumption) ?_
  rotate_left
  · (intro w hSw; (try dsimp only at hSw); go_simp; try with_reducible rfl)
  simp only [Act.put, List.setIfInBounds_toArray, List.set_cons_zero, List.set_cons_succ]
  refine BtL.take_d (some 30) (i := 9) (v := ?_) rfl rfl (by kernel_rfl) (by kernel_rfl) (by kernel_rfl) (fun _ _ _ h => h) (Or.inl ⟨by rfl, ?_⟩) (by assumption) ?_
  rotate_left
  · (intro w hSw; (try dsimp only at hSw); go_simp; try with_reducible rfl)
  simp only [Act.put, List.setIfInBounds_toArray, List.set_cons_zero, List.set_cons_succ]
  refine BtL.one_d (some 29) (i := 8) rfl rfl (by kernel_rfl) (by rfl) 19 #[.pointer (some ⟨p, 0, none⟩)] (by go_simp) ?_
  refine (kB1 _ _ _ hP2).mono ?_
  rintro r4 u4 ⟨v4, rfl, ho4, HT9, hv4⟩
  obtain ⟨oa, ca, rfl, _, _, hra, _⟩ := ho4.rowOf byEnc_len
  have hP2 := hP2.keep HT9 (by simp)
  have hQ2 := hQ2.keep HT9 (by simp)
  have hSq := hSq.keep HT9 (by simp)
  have c0 := (hSq.2 0 _ rfl).1
  have HT0 := HT0.trans HT9 (by simp)
  refine ⟨_, rfl, c0, fun hHeld => ?_⟩
  simp only [Act.put, List.setIfInBounds_toArray, List.set_cons_zero, List.set_cons_succ]
  refine BtL.one_d (some 31) (i := 10) rfl rfl (by kernel_rfl) (by rfl) 20 #[.pointer (some ⟨q, 0, none⟩)] (by go_simp) ?_
  refine (kB2 _ _ _ hQ2).mono ?_
  rintro r5 u5 ⟨v5, rfl, ho5, HT9, hv5⟩
  obtain ⟨ob, cb, rfl, _, _, hrb, _⟩ := ho5.rowOf byEnc_len
  have hra := hra.turned HT9 (by simp)
  have hP2 := hP2.keep HT9 (by simp)
  have hQ2 := hQ2.keep HT9 (by simp)
  have hSq := hSq.keep HT9 (by simp)
  have c0 := (hSq.2 0 _ rfl).1
  have HT0 := HT0.trans HT9 (by simp)
  refine ⟨_, rfl, c0, fun hHeld => ?_⟩
  simp only [Act.put, List.setIfInBounds_toArray, List.set_cons_zero, List.set_cons_succ]
  refine BtL.one_d (some 32) (i := 11) rfl rfl (by kernel_rfl) (by rfl) 18 #[.slice oa (Bt.pack D).length ca, .slice ob (Bt.pack D).length cb] (by go_simp) ?_
  refine (kSm oa ob ca cb _ hra hrb).mono ?_
  rintro r6 u6 ⟨rfl, HT9⟩
  have hP2 := hP2.keep HT9 (by simp)
  have hQ2 := hQ2.keep HT9 (by simp)
  have hSq := hSq.keep HT9 (by simp)
  have c0 := (hSq.2 0 _ rfl).1
  have HT0 := HT0.trans HT9 (by simp)
  refine ⟨_, rfl, c0, fun hHeld => ?_⟩
  simp only [Act.put, List.setIfInBounds_toArray, List.set_cons_zero, List.set_cons_succ]
  refine BtL.take_d (some 33) (i := 12) (v := ?_) rfl rfl (by kernel_rfl) (by kernel_rfl) (by kernel_rfl) (fun _ _ _ h => h) (Or.inl ⟨by rfl, ?_⟩) (by assumption) ?_
  rotate_left
  · (intro w hSw; (try dsimp only at hSw); go_simp; try with_reducible rfl)
  simp only [Act.put, List.setIfInBounds_toArray, List.set_cons_zero, List.set_cons_succ]
  refine BtL.take_d (some 34) (i := 13) (v := ?_) rfl rfl (by kernel_rfl) (by kernel_rfl) (by kernel_rfl) (fun _ _ _ h => h) (Or.inl ⟨by rfl, ?_⟩) (by assumption) ?_
  rotate_left
  · (intro w hSw; (try dsimp only at hSw); go_simp; try with_reducible rfl)
  simp only [Act.put, List.setIfInBounds_toArray, List.set_cons_zero, List.set_cons_succ]
  refine BtL.take_d (some 35) (i := 14) (v := ?_) rfl rfl (by kernel_rfl) (by kernel_rfl) (by kernel_rfl) (fun _ _ _ h => h) (Or.inl ⟨by rfl, ?_⟩) (by assumption) ?_
  rotate_left
  · (intro w hSw; (try dsimp only at hSw); go_simp; try with_reducible rfl)
  simp only [Act.put, List.setIfInBounds_toArray, List.set_cons_zero, List.set_cons_succ]
  refine BtL.take_d (some 37) (i := 16) (v := ?_) rfl rfl (by kernel_rfl) (by kernel_rfl) (by kernel_rfl) (fun _ _ _ h => h) (Or.inl ⟨by rfl, ?_⟩) (by assumption) ?_
  rotate_left
  · (intro w hSw; (try dsimp only at hSw); go_simp; try with_reducible rfl)
  simp only [Act.put, List.setIfInBounds_toArray, List.set_cons_zero, List.set_cons_succ]
  refine BtL.take_d (some 38) (i := 17) (v := ?_) rfl rfl (by kernel_rfl) (by kernel_rfl) (by kernel_rfl) (fun _ _ _ h => h) (Or.inl ⟨by rfl, ?_⟩) (by assumption) ?_
  rotate_left
  · (intro w hSw; (try dsimp only at hSw); go_simp; try with_reducible rfl)
  simp only [Act.put, List.setIfInBounds_toArray, List.set_cons_zero, List.set_cons_succ]
  refine BtL.take_d (some 39) (i := 18) (v := ?_) rfl rfl (by kernel_rfl) (by kernel_rfl) (by kernel_rfl) (fun _ _ _ h => h) (Or.inl ⟨by rfl, ?_⟩) (by assumption) ?_
  rotate_left
  · (intro w hSw; (try dsimp only at hSw); go_simp; try with_reducible rfl)
  simp only [Act.put, List.setIfInBounds_toArray, List.set_cons_zero, List.set_cons_succ]
  refine BtL.take_d (some 40) (i := 19) (v := ?_) rfl rfl (by kernel_rfl) (by kernel_rfl) (by kernel_rfl) (fun _ _ _ h => h) (Or.inl ⟨by rfl, ?_⟩) (by assumption) ?_
  rotate_left
  · (intro w hSw; (try dsimp only at hSw); go_simp; try with_reducible rfl)
  simp only [Act.put, List.setIfInBounds_toArray, List.set_cons_zero, List.set_cons_succ]
  refine BtL.take_d (some 41) (i := 20) (v := ?_) rfl rfl (by kernel_rfl) (by kernel_rfl) (by kernel_rfl) (fun _ _ _ h => h) (Or.inl ⟨by rfl, ?_⟩) (by assumption) ?_
  rotate_left
  · (intro w hSw; (try dsimp only at hSw); go_simp; try with_reducible rfl)
  simp only [Act.put, List.setIfInBounds_toArray, List.set_cons_zero, List.set_cons_succ]
  refine BtL.one_d (some 36) (i := 15) rfl rfl (by kernel_rfl) (by rfl) 21 #[.pointer (some ⟨p, 0, none⟩)] (by go_simp) ?_
  refine (kC _ _ _ hP2).mono ?_
  rintro r7 u7 ⟨rfl, HT9⟩
  have hP2 := hP2.keep HT9 (by simp)
  have hQ2 := hQ2.keep HT9 (by simp)
  have hSq := hSq.keep HT9 (by simp)
  have c0 := (hSq.2 0 _ rfl).1
  have HT0 := HT0.trans HT9 (by simp)
  refine ⟨_, rfl, c0, fun hHeld => ?_⟩
  simp only [Act.put, List.setIfInBounds_toArray, List.set_cons_zero, List.set_cons_succ]
  refine BtL.take_d (some 42) (i := 21) (v := ?_) rfl rfl (by kernel_rfl) (by kernel_rfl) (by kernel_rfl) (fun _ _ _ h => h) (Or.inl ⟨by rfl, ?_⟩) (by assumption) ?_
  rotate_left
  · (intro w hSw; (try dsimp only at hSw); go_simp; try with_reducible rfl)
  simp only [Act.put, List.setIfInBounds_toArray, List.set_cons_zero, List.set_cons_succ]
  try rw [heq]
  refine BtL.take_d (some 43) (i := 22) (v := ?_) rfl rfl (by kernel_rfl) (by kernel_rfl) (by kernel_rfl) (fun _ _ _ h => h) (Or.inl ⟨by rfl, ?_⟩) (by assumption) ?_
  rotate_left
  · (intro w hSw; (try dsimp only at hSw); go_simp; try with_reducible rfl)
  simp only [Act.put, List.setIfInBounds_toArray, List.set_cons_zero, List.set_cons_succ]
  refine BtL.take_d (some 4) (i := 23) (v := ?_) rfl rfl (by kernel_rfl) (by kernel_rfl) (by kernel_rfl) (fun _ _ _ h => h) (Or.inl ⟨by rfl, ?_⟩) (by assumption) ?_
  rotate_left
  · (intro w hSw; (try dsimp only at hSw); go_simp; try with_reducible rfl)
  simp only [Act.put, List.setIfInBounds_toArray, List.set_cons_zero, List.set_cons_succ]
  refine wpAnyH_done (by kernel_rfl) ?_ _
  go_wp2_with fail
  go_ret
  exact ⟨rfl, HT0.none⟩

set_option maxRecDepth 100000 in
theorem lifted (os : Os) (started : os.Started) (H : Type) (enc : TypeId × Value → H) :
    ReturnsInHanded {} Try.checked os 4 .any (Rows.entityPutsSpec.pre6 enc Try.prog Try.f4 Rows.entityPutsRow.domain false) (Rows.entityPutsSpec.post enc Try.prog Try.f4 false true false false) := by
  refine returnsInHanded_of_change (C := Try.checked) own started (by kernel_rfl) Try.func4
    (ChangeSpec.witness6 (enc := enc) (C := Try.checked) false ⟨#[], #[.agg #[.int .i64 0, .int .i64 0, .int .i64 0, .int .i64 0, .int .i64 0, .int .i64 0, .int .i64 0, .int .i64 0], .agg #[.int .i64 0, .int .i64 0, .int .i64 0, .int .i64 0, .int .i64 0, .int .i64 0, .int .i64 0, .int .i64 0]], []⟩ 8 (by kernel_rfl) (by kernel_rfl) (by kernel_rfl) (by kernel_rfl)) ?_
  intro W base args ds gs before hval0 hW hcnd _
  have hval : ∀ (j : Nat) t v, Try.f4.params[j]? = some t → args[j]? = some v → Value.okWide Try.prog W .any base t v := hval0
  have hW' := hW
  obtain ⟨p, q, hA0, hV, rfl, hfz, hnd⟩ := hW
  have hA : DataW.TrodAll enc Try.prog W 0 (fun _ => true) true Try.f4.params.toList args.toList ds p := hA0
  rw [Try.params4] at hA hval
  obtain ⟨v0, vs0, d0, ds0, p0, q0, hargs, rfl, rfl, h0, r0⟩ := trodAll_cons hA
  obtain ⟨v1, vs1, d1, ds1, p1, q1, rfl, rfl, rfl, h1, r1⟩ := trodAll_cons r0
  obtain ⟨rfl, rfl, rfl⟩ := trodAll_nil r1
  obtain rfl : args = #[v0, v1] := by cases args; simp_all
  obtain ⟨rfl, rfl⟩ := trodVars_none hV
  have k0 := h0
  have lt0 : ∀ x ∈ p0, x.block < W.heap.size := by obtain ⟨m, hm⟩ := k0; exact DataW.trod_lt m _ _ _ hm
  have k1 := h1
  have lt1 : ∀ x ∈ p1, x.block < W.heap.size := by obtain ⟨m, hm⟩ := k1; exact DataW.trod_lt m _ _ _ hm
  obtain ⟨cs0, rfl, ok0⟩ := open_flat (d := 8) (ks := [.int .i64, .int .i64, .int .i64, .int .i64, .int .i64, .int .i64, .int .i64, .int .i64]) (Or.inl ⟨_, Try.underlying29⟩) (by kernel_rfl) (hval 0 29 v0 rfl rfl) h0
  obtain ⟨a0, rfl⟩ := enEnc_of cs0 ok0
  have w0_k := ok0
  obtain ⟨cs1, rfl, ok1⟩ := open_flat (d := 8) (ks := [.int .i64, .int .i64, .int .i64, .int .i64, .int .i64, .int .i64, .int .i64, .int .i64]) (Or.inl ⟨_, Try.underlying29⟩) (by kernel_rfl) (hval 1 29 v1 rfl rfl) h1
  obtain ⟨a1, rfl⟩ := enEnc_of cs1 ok1
  have w1_k := ok1
  clear hA0 hval0
  refine (walk a0 a1 w0_k w1_k W).mono fun e W' ⟨he, bel⟩ => ?_
  subst he
  exact ⟨_, rfl, _, _, _, [], _, [], hW', trodAll_mk1 (shut_bool Try.underlying4 _), (trodAll_cons_mk (Below.trod laidOut (by kernel_rfl) (of_decide_eq_true (by kernel_rfl)) k0 bel lt0) (trodAll_cons_mk (Below.trod laidOut (by kernel_rfl) (of_decide_eq_true (by kernel_rfl)) k1 bel lt1) trodAll_mk0)), rfl, bel.frame _, fun h => by cases h⟩

theorem over : Rows.entityPutsRow.holds Try.pinned (OpenSpec.ofChange Rows.entityPutsSpec) :=
  OpenClaim.holds_of_wide 4 Try.f4 rfl rfl rfl rfl rfl rfl rfl ⟨rfl, rfl, rfl, rfl, rfl⟩ rfl rfl rfl rfl rfl (by kernel_rfl) Try.func4 (by kernel_rfl)
    (of_decide_eq_true (by kernel_rfl)) (by unfold Func.isWrapper; first | (rw [if_pos (by decide +kernel)]; kernel_rfl) | (rw [if_neg (by decide +kernel)]; exact ⟨rfl, rfl⟩))
    (fun os started H enc _ => lifted os started H enc)

theorem proved : Rows.EntityPutsSaid :=
  over
#print axioms proved
end Go.Proofs.Ytjphcbcbaiifhaa.entityPuts

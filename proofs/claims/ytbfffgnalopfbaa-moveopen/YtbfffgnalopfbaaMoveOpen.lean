/- Where nothing is near, a step leads just by the speed that is entered, and back again by what is entered turned about, but for what rounding takes. -/
import Derived.Test.YtbfffgnalopfbaaRows
import Derived.Test.YtbfffgnalopfbaaMvWalks
import Derived.Test.YtbfffgnalopfbaaMvLaw2
import Derived.Test.YtbfffgnalopfbaaFlat
import Derived.WalkKit
import Derived.ProofKit
import Derived.OpenShut
import Derived.ChangeOld
import Derived.Below
import Derived.WalkSmall
import Derived.Lib.SmallJoins
import Derived.Laws.IdiomArrays
namespace Go.Proofs.Ytbfffgnalopfbaa.moveOpen
open Go.ChangeShapes Go.WideShapes Go.ChangeAt Go.RowKit
set_option linter.unusedVariables false

theorem own : ownKnob Try.prog.godebug = none := by kernel_rfl
theorem laidOut : laidOutB Try.prog = true := by kernel_rfl

set_option maxRecDepth 20000 in
set_option maxHeartbeats 8000000 in
theorem walk (a0 : Int) (a1 : Int) (w0 : (Lit.int .i8 a0).wf = true) (w1 : (Lit.int .i8 a1).wf = true) (w : World) :
    Calls Try.prog 7 #[.int .i8 a0, .int .i8 a1] w fun e w' => e = .returned (.bool true) ∧ Below w.heap.size w w' := by
  have K := MvW.contracts
  have kA := MvL.awake_any K
  have hx := i8_in w0
  have hy := i8_in w1
  have kr := fun u => TiW.read_any ⟨Mv.textO.toArray⟩ (by decide) u
  unfold TiR.Answers at kr
  rw [show (⟨Mv.textO.toArray⟩ : ByteArray).data.toList = Mv.textO from rfl, Mv.readO] at kr
  simp only [Ti.ansM, Ti.ansN, Ti.ansE] at kr
  rw [show Ti.mOf ⟨0, 3, 3, [false, false, false, false, false, false, false, false, false], [(98304, 98304)]⟩ = Mv.mapO from rfl] at kr
  have kr : ∀ u, Calls Try.prog 17 #[.string ⟨#[194, 183, 194, 183, 194, 183, 10, 194, 183, 226, 151, 142, 194, 183, 10, 194, 183, 194, 183, 194, 183, 10]⟩] u fun e w' => ∃ oa ca ob cb, e = .returned (.tuple #[.agg #[.int .i64 3, .int .i64 3, .slice oa 9 ca, .slice ob 1 cb], .int .i64 0, .int .i64 0]) ∧ MapAt Mv.mapO oa ob w' ∧ (∀ a, oa = some a → u.heap.size ≤ a.block) ∧ (∀ a, ob = some a → u.heap.size ≤ a.block) ∧ Turned [] u w' := kr
  by_cases h1 : a0 = -128
  · have i1 : (a0 == -128) = true := by rw [beq_iff_eq]; exact h1
    clear h1
    go_enter Try.func7, Try.ntmps7
    go_wp2_with (first | (go_at_call 17; (with_reducible refine (kr _).mono ?_); rintro r u1 ⟨oa, ca, ob, cb, rfl, hM1, _, _, HT1⟩; obtain ⟨g, off, hob, hg, v0, v1⟩ := place_at hM1.sp (k := 0) (b := (98304, 98304)) rfl; rw [Nat.zero_mul, Nat.add_zero] at v0 v1; subst hob; have hS := Struct.new u1 [.int .i64 3, .int .i64 3, .slice oa 9 ca, .slice (some ⟨g, off, none⟩) 1 cb] 25; have hMa := hM1.calm ((Turned.refl [] u1).alloc (.cells #[.int .i64 3, .int .i64 3, .slice oa 9 ca, .slice (some ⟨g, off, none⟩) 1 cb] 25)); have HT0 := HT1.alloc (.cells #[.int .i64 3, .int .i64 3, .slice oa 9 ca, .slice (some ⟨g, off, none⟩) 1 cb] 25)) | (go_at_call 8; (with_reducible refine (kA _).mono ?_); rintro r u2 ⟨rfl, HT2⟩; have HT0 := HT0.trans HT2 (by simp)))
    go_ret
    exact ⟨rfl, HT0.none⟩
  · have i1 : (a0 == -128) = false := by rw [beq_eq_false_iff_ne]; exact h1
    by_cases h2 : a1 = -128
    · have i2 : (a1 == -128) = true := by rw [beq_iff_eq]; exact h2
      clear h1 h2
      go_enter Try.func7, Try.ntmps7
      go_wp2_with (first | (go_at_call 17; (with_reducible refine (kr _).mono ?_); rintro r u1 ⟨oa, ca, ob, cb, rfl, hM1, _, _, HT1⟩; obtain ⟨g, off, hob, hg, v0, v1⟩ := place_at hM1.sp (k := 0) (b := (98304, 98304)) rfl; rw [Nat.zero_mul, Nat.add_zero] at v0 v1; subst hob; have hS := Struct.new u1 [.int .i64 3, .int .i64 3, .slice oa 9 ca, .slice (some ⟨g, off, none⟩) 1 cb] 25; have hMa := hM1.calm ((Turned.refl [] u1).alloc (.cells #[.int .i64 3, .int .i64 3, .slice oa 9 ca, .slice (some ⟨g, off, none⟩) 1 cb] 25)); have HT0 := HT1.alloc (.cells #[.int .i64 3, .int .i64 3, .slice oa 9 ca, .slice (some ⟨g, off, none⟩) 1 cb] 25)) | (go_at_call 8; (with_reducible refine (kA _).mono ?_); rintro r u2 ⟨rfl, HT2⟩; have HT0 := HT0.trans HT2 (by simp)))
      go_ret
      exact ⟨rfl, HT0.none⟩
    · have i2 : (a1 == -128) = false := by rw [beq_eq_false_iff_ne]; exact h2
      have q1 := Mv.down_in (n := a0) (by omega) (by omega)
      have q2 := Mv.down_in (n := a1) (by omega) (by omega)
      have b1 := Mv.down_back a0
      have b2 := Mv.down_back a1
      have s1 := Mv.down_pos a0
      have s2 := Mv.down_neg a1
      have e1 := Mv.open_walk (ax := 98304) (ay := 98304) (vx := 0) (vy := 0) (mx := a0) (my := a1) (by omega) (by omega) (by omega) (by omega) (by omega) (by omega)
      obtain ⟨dx, hdx⟩ : ∃ d, d = Mv.down (a0 * 16384) := ⟨_, rfl⟩
      obtain ⟨dy, hdy⟩ : ∃ d, d = Mv.down (a1 * 16384) := ⟨_, rfl⟩
      rw [← hdx] at q1 b1 s1
      rw [← hdy] at q2 b2 s2
      rw [← hdx, ← hdy] at e1
      obtain ⟨ax, hax⟩ : ∃ d, d = 98304 + dx := ⟨_, rfl⟩
      obtain ⟨ay, hay⟩ : ∃ d, d = 98304 + dy := ⟨_, rfl⟩
      rw [← hax, ← hay] at e1
      have e2 := Mv.open_walk (ax := ax) (ay := ay) (vx := dx) (vy := dy) (mx := -a0) (my := -a1) (by omega) (by omega) (by omega) (by omega) (by omega) (by omega)
      have e3 := Mv.open_walk (ax := ax) (ay := ay) (vx := dx) (vy := dy) (mx := 0) (my := 0) (by omega) (by omega) (by omega) (by omega) (by omega) (by omega)
      rw [Mv.down_zero, Int.add_zero, Int.add_zero] at e3
      obtain ⟨ex, hex⟩ : ∃ d, d = Mv.down (-a0 * 16384) := ⟨_, rfl⟩
      obtain ⟨ey, hey⟩ : ∃ d, d = Mv.down (-a1 * 16384) := ⟨_, rfl⟩
      rw [← hex] at b1
      rw [← hey] at b2
      rw [← hex, ← hey] at e2
      have k1 := fun (oa : Option Addr) (ca : Nat) (ob : Option Addr) (cb : Nat) (u : World) (hu : MapAt Mv.mapO oa ob u) => K.walk Mv.mapO oa ca ob cb ⟨5, 1, 98304, 98304, 0, 0, 1, 0⟩ a0 a1 (by unfold En.E.wf En.I64; decide) (by omega) (by omega) u hu
      have hwf : (⟨5, 1, ax, ay, dx, dy, 1, 0⟩ : En.E).wf := ⟨by unfold En.I64; show -9223372036854775808 ≤ (5 : Int) ∧ (5 : Int) < 9223372036854775808; omega, by unfold En.I64; show -9223372036854775808 ≤ (1 : Int) ∧ (1 : Int) < 9223372036854775808; omega, by unfold En.I64; show -9223372036854775808 ≤ ax ∧ ax < 9223372036854775808; omega, by unfold En.I64; show -9223372036854775808 ≤ ay ∧ ay < 9223372036854775808; omega, by unfold En.I64; show -9223372036854775808 ≤ dx ∧ dx < 9223372036854775808; omega, by unfold En.I64; show -9223372036854775808 ≤ dy ∧ dy < 9223372036854775808; omega, by unfold En.I64; show -9223372036854775808 ≤ (1 : Int) ∧ (1 : Int) < 9223372036854775808; omega, by unfold En.I64; show -9223372036854775808 ≤ (0 : Int) ∧ (0 : Int) < 9223372036854775808; omega⟩
      have k2 := fun (oa : Option Addr) (ca : Nat) (ob : Option Addr) (cb : Nat) (u : World) (hu : MapAt Mv.mapO oa ob u) => K.walk Mv.mapO oa ca ob cb ⟨5, 1, ax, ay, dx, dy, 1, 0⟩ (-a0) (-a1) hwf (by omega) (by omega) u hu
      have k3 := fun (oa : Option Addr) (ca : Nat) (ob : Option Addr) (cb : Nat) (u : World) (hu : MapAt Mv.mapO oa ob u) => K.walk Mv.mapO oa ca ob cb ⟨5, 1, ax, ay, dx, dy, 1, 0⟩ 0 0 hwf (by omega) (by omega) u hu
      rw [e1] at k1
      rw [e2] at k2
      rw [e3] at k3
      have k1 : ∀ (oa : Option Addr) (ca : Nat) (ob : Option Addr) (cb : Nat) (u : World), MapAt Mv.mapO oa ob u → Calls Try.prog 10 #[.agg #[.int .i64 3, .int .i64 3, .slice oa 9 ca, .slice ob 1 cb], .agg #[.int .i64 5, .int .i64 1, .int .i64 98304, .int .i64 98304, .int .i64 0, .int .i64 0, .int .i64 1, .int .i64 0], .int .i8 a0, .int .i8 a1] u fun r w' => r = .returned (.agg #[.int .i64 5, .int .i64 1, .int .i64 ax, .int .i64 ay, .int .i64 dx, .int .i64 dy, .int .i64 1, .int .i64 0]) ∧ Turned [] u w' := k1
      have k2 : ∀ (oa : Option Addr) (ca : Nat) (ob : Option Addr) (cb : Nat) (u : World), MapAt Mv.mapO oa ob u → Calls Try.prog 10 #[.agg #[.int .i64 3, .int .i64 3, .slice oa 9 ca, .slice ob 1 cb], .agg #[.int .i64 5, .int .i64 1, .int .i64 ax, .int .i64 ay, .int .i64 dx, .int .i64 dy, .int .i64 1, .int .i64 0], .int .i8 (-a0), .int .i8 (-a1)] u fun r w' => r = .returned (.agg #[.int .i64 5, .int .i64 1, .int .i64 (ax + ex), .int .i64 (ay + ey), .int .i64 ex, .int .i64 ey, .int .i64 1, .int .i64 0]) ∧ Turned [] u w' := k2
      have k3 : ∀ (oa : Option Addr) (ca : Nat) (ob : Option Addr) (cb : Nat) (u : World), MapAt Mv.mapO oa ob u → Calls Try.prog 10 #[.agg #[.int .i64 3, .int .i64 3, .slice oa 9 ca, .slice ob 1 cb], .agg #[.int .i64 5, .int .i64 1, .int .i64 ax, .int .i64 ay, .int .i64 dx, .int .i64 dy, .int .i64 1, .int .i64 0], .int .i8 0, .int .i8 0] u fun r w' => r = .returned (.agg #[.int .i64 5, .int .i64 1, .int .i64 ax, .int .i64 ay, .int .i64 0, .int .i64 0, .int .i64 1, .int .i64 0]) ∧ Turned [] u w' := k3
      have kz1 := fun u => MvL.size_any (ax + ex - 98304) (by unfold En.I64; omega) u
      have kz2 := fun u => MvL.size_any (ay + ey - 98304) (by unfold En.I64; omega) u
      obtain ⟨z1, hz1, l1⟩ : ∃ z, Mv.size (ax + ex - 98304) = z ∧ z ≤ 1 := ⟨_, rfl, by unfold Mv.size; split <;> (try split) <;> omega⟩
      obtain ⟨z2, hz2, l2⟩ : ∃ z, Mv.size (ay + ey - 98304) = z ∧ z ≤ 1 := ⟨_, rfl, by unfold Mv.size; split <;> (try split) <;> omega⟩
      rw [hz1] at kz1
      rw [hz2] at kz2
      have j1 : (ax != 98304 + dx) = false := by rw [bne_eq_false_iff_eq]; exact hax
      have j2 : (ay != 98304 + dy) = false := by rw [bne_eq_false_iff_eq]; exact hay
      have bax : 81920 ≤ ax ∧ ax ≤ 114688 := by omega
      have bay : 81920 ≤ ay ∧ ay ≤ 114688 := by omega
      have bex : -16386 ≤ ex ∧ ex ≤ 16386 := by omega
      have bey : -16386 ≤ ey ∧ ey ≤ 16386 := by omega
      have heq : ∀ u, (binOp .eql 28 (.agg #[.int .i64 ax, .int .i64 ay]) (.agg #[.int .i64 ax, .int .i64 ay])).run Try.prog u = .ok (.bool true) u := fun u => by rw [tv_eql]; simp
      have hfl : ∀ u, (Instr.field 30 (.agg #[.int .i64 5, .int .i64 1, .int .i64 ax, .int .i64 ay, .int .i64 0, .int .i64 0, .int .i64 1, .int .i64 0]) 2).run Try.prog u = .ok (.agg #[.int .i64 ax, .int .i64 ay]) u := fun u => by unfold Instr.field; go_simp; rfl
      have n1 : IntKind.i8.wrap (-a0) = -a0 := by simp [IntKind.wrap, IntKind.bits, IntKind.signed]; omega
      have n2 : IntKind.i8.wrap (-a1) = -a1 := by simp [IntKind.wrap, IntKind.bits, IntKind.signed]; omega
      clear h1 h2 hdx hdy hex hey e1 e2 e3 hz1 hz2 hax hay b1 b2
      go_enter Try.func7, Try.ntmps7
      go_wp2_with (first | (go_at_call 17; (with_reducible refine (kr _).mono ?_); rintro r u1 ⟨oa, ca, ob, cb, rfl, hM1, _, _, HT1⟩; obtain ⟨g, off, hob, hg, v0, v1⟩ := place_at hM1.sp (k := 0) (b := (98304, 98304)) rfl; rw [Nat.zero_mul, Nat.add_zero] at v0 v1; subst hob; have hS := Struct.new u1 [.int .i64 3, .int .i64 3, .slice oa 9 ca, .slice (some ⟨g, off, none⟩) 1 cb] 25; have hMa := hM1.calm ((Turned.refl [] u1).alloc (.cells #[.int .i64 3, .int .i64 3, .slice oa 9 ca, .slice (some ⟨g, off, none⟩) 1 cb] 25)); have HT0 := HT1.alloc (.cells #[.int .i64 3, .int .i64 3, .slice oa 9 ca, .slice (some ⟨g, off, none⟩) 1 cb] 25)) | (go_at_call 8; (with_reducible refine (kA _).mono ?_); rintro r u2 ⟨rfl, HT2⟩; have hS := hS.keep HT2 (by simp); have hMa := hMa.calm HT2; have HT0 := HT0.trans HT2 (by simp); have hAA := ((Turned.refl [] u1).alloc (.cells #[.int .i64 3, .int .i64 3, .slice oa 9 ca, .slice (some ⟨g, off, none⟩) 1 cb] 25)).trans HT2 (by simp); have q0 := (hAA.cell (p := ⟨g, off, none⟩) hg (by simp)).trans v0; have q1 := (hAA.cell (p := ⟨g, off + 1, none⟩) hg (by simp)).trans v1; have d0 := (hS.2 0 _ rfl).1; have do0 := fun o => ((hS.keep ((Turned.refl [] _).alloc o) (by simp)).2 0 _ rfl).1; have d1 := (hS.2 1 _ rfl).1; have do1 := fun o => ((hS.keep ((Turned.refl [] _).alloc o) (by simp)).2 1 _ rfl).1; have d2 := (hS.2 2 _ rfl).1; have do2 := fun o => ((hS.keep ((Turned.refl [] _).alloc o) (by simp)).2 2 _ rfl).1; have d3 := (hS.2 3 _ rfl).1; have do3 := fun o => ((hS.keep ((Turned.refl [] _).alloc o) (by simp)).2 3 _ rfl).1) | (go_at_call 10; (with_reducible refine (k1 oa ca (some ⟨g, off, none⟩) cb _ (hMa.calm ((Turned.refl [] u2).alloc _))).mono ?_); rintro r u3 ⟨rfl, HT3⟩; have hA := ((Turned.refl [] u2).alloc (.cells #[.int .i64 5, .int .i64 1, .int .i64 98304, .int .i64 98304, .int .i64 0, .int .i64 0, .int .i64 1, .int .i64 0] 30)).trans HT3 (by simp); have hS := hS.keep hA (by simp); have hMa := hMa.calm hA; have HT0 := HT0.trans hA (by simp); have hP := (Struct.new u2 [.int .i64 5, .int .i64 1, .int .i64 98304, .int .i64 98304, .int .i64 0, .int .i64 0, .int .i64 1, .int .i64 0] 30).keep HT3 (by simp); have d0 := (hS.2 0 _ rfl).1; have do0 := fun o => ((hS.keep ((Turned.refl [] _).alloc o) (by simp)).2 0 _ rfl).1; have d1 := (hS.2 1 _ rfl).1; have do1 := fun o => ((hS.keep ((Turned.refl [] _).alloc o) (by simp)).2 1 _ rfl).1; have d2 := (hS.2 2 _ rfl).1; have do2 := fun o => ((hS.keep ((Turned.refl [] _).alloc o) (by simp)).2 2 _ rfl).1; have d3 := (hS.2 3 _ rfl).1; have do3 := fun o => ((hS.keep ((Turned.refl [] _).alloc o) (by simp)).2 3 _ rfl).1; have p0 := (hP.2 0 _ rfl).1; have po0 := fun o => ((hP.keep ((Turned.refl [] _).alloc o) (by simp)).2 0 _ rfl).1; have p1 := (hP.2 1 _ rfl).1; have po1 := fun o => ((hP.keep ((Turned.refl [] _).alloc o) (by simp)).2 1 _ rfl).1; have p2 := (hP.2 2 _ rfl).1; have po2 := fun o => ((hP.keep ((Turned.refl [] _).alloc o) (by simp)).2 2 _ rfl).1; have p3 := (hP.2 3 _ rfl).1; have po3 := fun o => ((hP.keep ((Turned.refl [] _).alloc o) (by simp)).2 3 _ rfl).1; have p4 := (hP.2 4 _ rfl).1; have po4 := fun o => ((hP.keep ((Turned.refl [] _).alloc o) (by simp)).2 4 _ rfl).1; have p5 := (hP.2 5 _ rfl).1; have po5 := fun o => ((hP.keep ((Turned.refl [] _).alloc o) (by simp)).2 5 _ rfl).1; have p6 := (hP.2 6 _ rfl).1; have po6 := fun o => ((hP.keep ((Turned.refl [] _).alloc o) (by simp)).2 6 _ rfl).1; have p7 := (hP.2 7 _ rfl).1; have po7 := fun o => ((hP.keep ((Turned.refl [] _).alloc o) (by simp)).2 7 _ rfl).1) | (go_at_call 10; (with_reducible refine (k2 oa ca (some ⟨g, off, none⟩) cb _ (hMa.calm ((Turned.refl [] u3).alloc _))).mono ?_); rintro r u4 ⟨rfl, HT4⟩; have hA := ((Turned.refl [] u3).alloc (.cells #[.int .i64 5, .int .i64 1, .int .i64 ax, .int .i64 ay, .int .i64 dx, .int .i64 dy, .int .i64 1, .int .i64 0] 30)).trans HT4 (by simp); have hS := hS.keep hA (by simp); have hMa := hMa.calm hA; have HT0 := HT0.trans hA (by simp); have hP := hP.keep hA (by simp); have hX := (Struct.new u3 [.int .i64 5, .int .i64 1, .int .i64 ax, .int .i64 ay, .int .i64 dx, .int .i64 dy, .int .i64 1, .int .i64 0] 30).keep HT4 (by simp); have d0 := (hS.2 0 _ rfl).1; have do0 := fun o => ((hS.keep ((Turned.refl [] _).alloc o) (by simp)).2 0 _ rfl).1; have d1 := (hS.2 1 _ rfl).1; have do1 := fun o => ((hS.keep ((Turned.refl [] _).alloc o) (by simp)).2 1 _ rfl).1; have d2 := (hS.2 2 _ rfl).1; have do2 := fun o => ((hS.keep ((Turned.refl [] _).alloc o) (by simp)).2 2 _ rfl).1; have d3 := (hS.2 3 _ rfl).1; have do3 := fun o => ((hS.keep ((Turned.refl [] _).alloc o) (by simp)).2 3 _ rfl).1; have p0 := (hP.2 0 _ rfl).1; have po0 := fun o => ((hP.keep ((Turned.refl [] _).alloc o) (by simp)).2 0 _ rfl).1; have p1 := (hP.2 1 _ rfl).1; have po1 := fun o => ((hP.keep ((Turned.refl [] _).alloc o) (by simp)).2 1 _ rfl).1; have p2 := (hP.2 2 _ rfl).1; have po2 := fun o => ((hP.keep ((Turned.refl [] _).alloc o) (by simp)).2 2 _ rfl).1; have p3 := (hP.2 3 _ rfl).1; have po3 := fun o => ((hP.keep ((Turned.refl [] _).alloc o) (by simp)).2 3 _ rfl).1; have p4 := (hP.2 4 _ rfl).1; have po4 := fun o => ((hP.keep ((Turned.refl [] _).alloc o) (by simp)).2 4 _ rfl).1; have p5 := (hP.2 5 _ rfl).1; have po5 := fun o => ((hP.keep ((Turned.refl [] _).alloc o) (by simp)).2 5 _ rfl).1; have p6 := (hP.2 6 _ rfl).1; have po6 := fun o => ((hP.keep ((Turned.refl [] _).alloc o) (by simp)).2 6 _ rfl).1; have p7 := (hP.2 7 _ rfl).1; have po7 := fun o => ((hP.keep ((Turned.refl [] _).alloc o) (by simp)).2 7 _ rfl).1; have x0 := (hX.2 0 _ rfl).1; have xo0 := fun o => ((hX.keep ((Turned.refl [] _).alloc o) (by simp)).2 0 _ rfl).1; have x1 := (hX.2 1 _ rfl).1; have xo1 := fun o => ((hX.keep ((Turned.refl [] _).alloc o) (by simp)).2 1 _ rfl).1; have x2 := (hX.2 2 _ rfl).1; have xo2 := fun o => ((hX.keep ((Turned.refl [] _).alloc o) (by simp)).2 2 _ rfl).1; have x3 := (hX.2 3 _ rfl).1; have xo3 := fun o => ((hX.keep ((Turned.refl [] _).alloc o) (by simp)).2 3 _ rfl).1; have x4 := (hX.2 4 _ rfl).1; have xo4 := fun o => ((hX.keep ((Turned.refl [] _).alloc o) (by simp)).2 4 _ rfl).1; have x5 := (hX.2 5 _ rfl).1; have xo5 := fun o => ((hX.keep ((Turned.refl [] _).alloc o) (by simp)).2 5 _ rfl).1; have x6 := (hX.2 6 _ rfl).1; have xo6 := fun o => ((hX.keep ((Turned.refl [] _).alloc o) (by simp)).2 6 _ rfl).1; have x7 := (hX.2 7 _ rfl).1; have xo7 := fun o => ((hX.keep ((Turned.refl [] _).alloc o) (by simp)).2 7 _ rfl).1) | (go_at_call 16; (with_reducible refine (kz1 _).mono ?_); rintro r w9 ⟨rfl, hw9⟩; rw [hw9]; clear hw9 w9) | (go_at_call 16; (with_reducible refine (kz2 _).mono ?_); rintro r w9 ⟨rfl, hw9⟩; rw [hw9]; clear hw9 w9))
      obtain ⟨V, hV⟩ : ∃ V, V = u4.alloc (.cells #[.int .i64 5, .int .i64 1, .int .i64 (ax + ex), .int .i64 (ay + ey), .int .i64 ex, .int .i64 ey, .int .i64 1, .int .i64 0] 30) := ⟨_, rfl⟩
      have hAV : Turned [] u4 V := by rw [hV]; exact (Turned.refl [] u4).alloc _
      rw [← hV]
      have hSv := hS.keep hAV (by simp)
      have hXv := hX.keep hAV (by simp)
      have HTV := HT0.trans hAV (by simp)
      have hMv := hMa.calm hAV
      clear hV
      have kd0 := KeptW.at hSv.1 (hSv.2 0 _ rfl).1
      have kd1 := KeptW.at hSv.1 (hSv.2 1 _ rfl).1
      have kd2 := KeptW.at hSv.1 (hSv.2 2 _ rfl).1
      have kd3 := KeptW.at hSv.1 (hSv.2 3 _ rfl).1
      have kx0 := KeptW.at hXv.1 (hXv.2 0 _ rfl).1
      have kx1 := KeptW.at hXv.1 (hXv.2 1 _ rfl).1
      have kx2 := KeptW.at hXv.1 (hXv.2 2 _ rfl).1
      have kx3 := KeptW.at hXv.1 (hXv.2 3 _ rfl).1
      have kx4 := KeptW.at hXv.1 (hXv.2 4 _ rfl).1
      have kx5 := KeptW.at hXv.1 (hXv.2 5 _ rfl).1
      have kx6 := KeptW.at hXv.1 (hXv.2 6 _ rfl).1
      have kx7 := KeptW.at hXv.1 (hXv.2 7 _ rfl).1
      have ne : Nonempty (KeptW V) := KeptW.one V
      have g3 := fun (v : KeptW V) => MvL.quiet (k3 oa ca (some ⟨g, off, none⟩) cb v.u (hMv.calm (Turned.ofBelow v.h)))
      have c1 : (decide (0 < dx) = true ∧ decide (0 < a0) = true) ∨ (decide (0 < dx) = false ∧ decide (0 < a0) = false) := Mv.both s1
      have c2 : (decide (dy < 0) = true ∧ decide (a1 < 0) = true) ∨ (decide (dy < 0) = false ∧ decide (a1 < 0) = false) := Mv.both s2
      clear s1 s2
      rcases c1 with ⟨c1, c3⟩ | ⟨c1, c3⟩ <;> rcases c2 with ⟨c2, c4⟩ | ⟨c2, c4⟩
      all_goals
        refine wp_region_kept (by kernel_rfl) (by kernel_rfl) ?_
        repeat (go_big_quiet_step (first | (go_at_call 10; with_reducible exact g3 _)))
        refine wpQuiet_nil ?_
        rintro _ ⟨v, rfl⟩
        go_wp2_with fail
        go_ret
        exact ⟨rfl, (HTV.trans (Turned.ofBelow v.h) (by simp)).none⟩

set_option maxRecDepth 100000 in
theorem lifted (os : Os) (started : os.Started) (H : Type) (enc : TypeId × Value → H) :
    ReturnsInHanded {} Try.checked os 7 .any (Rows.moveOpenSpec.pre6 enc Try.prog Try.f7 Rows.moveOpenRow.domain false) (Rows.moveOpenSpec.post enc Try.prog Try.f7 false true false false) := by
  refine returnsInHanded_of_change (C := Try.checked) own started (by kernel_rfl) Try.func7
    (ChangeSpec.witness6 (enc := enc) (C := Try.checked) false ⟨#[], #[.int .i8 0, .int .i8 0], []⟩ 8 (by kernel_rfl) (by kernel_rfl) (by kernel_rfl) (by kernel_rfl)) ?_
  intro W base args ds gs before hval0 hW hcnd _
  have hval : ∀ (j : Nat) t v, Try.f7.params[j]? = some t → args[j]? = some v → Value.okWide Try.prog W .any base t v := hval0
  have hW' := hW
  obtain ⟨p, q, hA0, hV, rfl, hfz, hnd⟩ := hW
  have hA : DataW.TrodAll enc Try.prog W 0 (fun _ => true) true Try.f7.params.toList args.toList ds p := hA0
  rw [Try.params7] at hA hval
  obtain ⟨v0, vs0, d0, ds0, p0, q0, hargs, rfl, rfl, h0, r0⟩ := trodAll_cons hA
  obtain ⟨v1, vs1, d1, ds1, p1, q1, rfl, rfl, rfl, h1, r1⟩ := trodAll_cons r0
  obtain ⟨rfl, rfl, rfl⟩ := trodAll_nil r1
  obtain rfl : args = #[v0, v1] := by cases args; simp_all
  obtain ⟨rfl, rfl⟩ := trodVars_none hV
  have k0 := h0
  have lt0 : ∀ x ∈ p0, x.block < W.heap.size := by obtain ⟨m, hm⟩ := k0; exact DataW.trod_lt m _ _ _ hm
  have k1 := h1
  have lt1 : ∀ x ∈ p1, x.block < W.heap.size := by obtain ⟨m, hm⟩ := k1; exact DataW.trod_lt m _ _ _ hm
  obtain ⟨a0, rfl, _, _, w0⟩ := open_int Try.underlying31 (hval 0 31 v0 rfl rfl) h0
  obtain ⟨a1, rfl, _, _, w1⟩ := open_int Try.underlying31 (hval 1 31 v1 rfl rfl) h1
  clear hA0 hval0
  refine (walk a0 a1 w0 w1 W).mono fun e W' ⟨he, bel⟩ => ?_
  subst he
  exact ⟨_, rfl, _, _, _, [], _, [], hW', trodAll_mk1 (shut_bool Try.underlying4 _), (trodAll_cons_mk (Below.trod laidOut (by kernel_rfl) (of_decide_eq_true (by kernel_rfl)) k0 bel lt0) (trodAll_cons_mk (Below.trod laidOut (by kernel_rfl) (of_decide_eq_true (by kernel_rfl)) k1 bel lt1) trodAll_mk0)), rfl, bel.frame _, fun h => by cases h⟩

theorem over : Rows.moveOpenRow.holds Try.pinned (OpenSpec.ofChange Rows.moveOpenSpec) :=
  OpenClaim.holds_of_wide 7 Try.f7 rfl rfl rfl rfl rfl rfl rfl ⟨rfl, rfl, rfl, rfl, rfl⟩ rfl rfl rfl rfl rfl (by kernel_rfl) Try.func7 (by kernel_rfl)
    (of_decide_eq_true (by kernel_rfl)) (by unfold Func.isWrapper; first | (rw [if_pos (by decide +kernel)]; kernel_rfl) | (rw [if_neg (by decide +kernel)]; exact ⟨rfl, rfl⟩))
    (fun os started H enc _ => lifted os started H enc)

theorem proved : Rows.MoveOpenSaid :=
  over
#print axioms proved
end Go.Proofs.Ytbfffgnalopfbaa.moveOpen

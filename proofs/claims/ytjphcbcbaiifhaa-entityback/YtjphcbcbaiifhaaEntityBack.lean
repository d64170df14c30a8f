/- What is put on a base is taken on it; on itself it has six bits. -/
import Derived.Test.YtjphcbcbaiifhaaRows
import Derived.Test.YtjphcbcbaiifhaaEntWalks
import Derived.Test.YtjphcbcbaiifhaaEntLaw2
import Derived.Test.YtjphcbcbaiifhaaInts
import Derived.Test.YtjphcbcbaiifhaaFlat
import Derived.WalkKit
import Derived.ProofKit
import Derived.OpenShut
import Derived.ChangeOld
import Derived.Below
import Derived.WalkSmall
import Derived.Lib.SmallJoins
import Derived.Laws.IdiomArrays
namespace Go.Proofs.Ytjphcbcbaiifhaa.entityBack
open Go.ChangeShapes Go.WideShapes Go.ChangeAt Go.RowKit
set_option linter.unusedVariables false

theorem own : ownKnob Try.prog.godebug = none := by kernel_rfl
theorem laidOut : laidOutB Try.prog = true := by kernel_rfl

set_option maxRecDepth 20000 in
set_option maxHeartbeats 4000000 in
theorem walk (a0 : En.E) (a1 : En.E) (w0_k : AllOk [.int .i64, .int .i64, .int .i64, .int .i64, .int .i64, .int .i64, .int .i64, .int .i64] (enEnc a0)) (w1_k : AllOk [.int .i64, .int .i64, .int .i64, .int .i64, .int .i64, .int .i64, .int .i64, .int .i64] (enEnc a1)) (w : World) :
    Calls Try.prog 6 #[enVal a0, enVal a1] w fun e w' => e = .returned (.bool true) ∧ Below w.heap.size w w' := by
  have K := EnW.contracts
  have hb := en_wf w0_k
  have he := en_wf w1_k
  have kA := EnL.awake_any K
  obtain ⟨hS1, hS2, HT0, hsz⟩ := EnL.boxes a0 a1 w
  have kF := K.formed a1 he
  by_cases h1 : En.Formed a1
  · have f1 : decide (En.Formed a1) = true := by simpa using h1
    rw [f1] at kF
    have hb' : (⟨a1.id, a1.kind, a0.ax, a0.ay, a0.vx, a0.vy, a0.h, a0.t⟩ : En.E).wf := ⟨he.1, he.2.1, hb.2.2.1, hb.2.2.2.1, hb.2.2.2.2.1, hb.2.2.2.2.2.1, hb.2.2.2.2.2.2.1, hb.2.2.2.2.2.2.2⟩
    obtain ⟨b, hbe⟩ : ∃ b, b = (⟨a1.id, a1.kind, a0.ax, a0.ay, a0.vx, a0.vy, a0.h, a0.t⟩ : En.E) := ⟨_, rfl⟩
    have ft1 : EnR.fits b a1 = true := by rw [hbe, EnL.fits_iff, f1]; simp
    have ft2 : EnR.fits a1 a1 = true := by rw [EnL.fits_iff, f1]; simp
    have hal := En.all_len b a1
    have hnx := EnL.back_next (b := b) h1 (by rw [hbe]) (by rw [hbe])
    have hdn := EnL.back_done (b := b) (e := a1)
    have kP1 := fun (u : World) (F : List Nat) (p : Nat) (h : PW p [] F u) => K.put p [] F b a1 (by rw [hbe]; exact hb') he u h (by simp)
    have kP2 := fun (u : World) (F : List Nat) (p : Nat) (h : PW p [] F u) => K.put p [] F a1 a1 he he u h (by simp)
    have kC := fun (p : Nat) (F : List Nat) (u : World) (h : PW p (En.all a1 a1) F u) => BtW.count_any p (En.all a1 a1) F u h
    rw [EnL.self_len] at kC
    have kB := fun (p : Nat) (F : List Nat) (u : World) (h : PW p (En.all b a1) F u) => BtW.bytes_any p (En.all b a1) F u h (by omega)
    have hpl : (Bt.pack (En.all b a1)).length ≤ 4294967296 := by rw [Bt.pack_length]; omega
    have kN := fun (oa : Option Addr) (ca : Nat) (u : World) (hr : RowOf 1 byEnc oa (Bt.pack (En.all b a1)) u) => BtD.new_any oa (Bt.pack (En.all b a1)).length ca (Bt.pack (En.all b a1)) u rfl hr hpl (Bt.pack_lt _)
    obtain ⟨bs, hbs⟩ : ∃ bs, bs = Bt.pack (En.all b a1) := ⟨_, rfl⟩
    rw [← hbs] at kB kN hnx hdn
    have kT := fun (p : Nat) (v : Value) (u : World) (h : PRd p v bs ⟨Bt.unpack bs, 0, false⟩ u) => K.take_next (by rw [hbe]; exact hb') h hnx
    have kD := fun (p : Nat) (v : Value) (u : World) (h : PRd p v bs ⟨Bt.unpack bs, 0 + (En.all b a1).length, false⟩ u) => BtD.done_any p v bs _ u h
    rw [hdn] at kD
    simp only [ft1, ft2, if_true, List.nil_append] at kP1 kP2
    have hes := en_same a1
    subst hbe
    clear ft1 ft2 hal hnx hdn hpl f1 h1 K hb he hb' w0_k w1_k hbs
    go_enter Try.func6, Try.ntmps6
    go_wp2_with (first | (go_at_call 9; (with_reducible refine (kA _).mono ?_); rintro r0 u0 ⟨rfl, HT1⟩; have hS1 := hS1.keep HT1 (by simp); have hS2 := hS2.keep HT1 (by simp); have HT0 := HT0.trans HT1 (by simp); have d0 := (hS2.2 0 _ rfl).1; have d1 := (hS2.2 1 _ rfl).1; have d2 := (hS2.2 2 _ rfl).1; have d3 := (hS2.2 3 _ rfl).1; have d4 := (hS2.2 4 _ rfl).1; have d5 := (hS2.2 5 _ rfl).1; have d6 := (hS2.2 6 _ rfl).1; have d7 := (hS2.2 7 _ rfl).1) | (go_at_call 10; refine (kF _).mono ?_; rintro r1 u1 ⟨rfl, HT1⟩; have hS1 := hS1.keep HT1 (by simp); have hS2 := hS2.keep HT1 (by simp); have HT0 := HT0.trans HT1 (by simp); have hbs := hS2.1; have c0 := (hS1.2 0 _ rfl).1; have c1 := (hS1.2 1 _ rfl).1; have f0 := (hS1.2 0 _ rfl).2; have f1 := (hS1.2 1 _ rfl).2; have d0 := (hS2.2 0 _ rfl).1; have d1 := (hS2.2 1 _ rfl).1; have d2 := (hS2.2 2 _ rfl).1; have d3 := (hS2.2 3 _ rfl).1; have d4 := (hS2.2 4 _ rfl).1; have d5 := (hS2.2 5 _ rfl).1; have d6 := (hS2.2 6 _ rfl).1; have d7 := (hS2.2 7 _ rfl).1; have hTs : Turned [w.heap.size] u1 ((u1.setCell ⟨w.heap.size, 0, none⟩ (.int .i64 a1.id)).setCell ⟨w.heap.size, 1, none⟩ (.int .i64 a1.kind)) := ((Turned.refl [w.heap.size] u1).setCell (.inl (by simp)) _).setCell (.inl (by simp)) _; have HTW : Turned [] w ((u1.setCell ⟨w.heap.size, 0, none⟩ (.int .i64 a1.id)).setCell ⟨w.heap.size, 1, none⟩ (.int .i64 a1.kind)) := ((HT0.setCell (p := ⟨w.heap.size, 0, none⟩) (.inr (Nat.le_refl _)) _).setCell (p := ⟨w.heap.size, 1, none⟩) (.inr (Nat.le_refl _)) _); have hB1 : Struct w.heap.size (enEnc (⟨a1.id, a1.kind, a0.ax, a0.ay, a0.vx, a0.vy, a0.h, a0.t⟩ : En.E)) ((u1.setCell ⟨w.heap.size, 0, none⟩ (.int .i64 a1.id)).setCell ⟨w.heap.size, 1, none⟩ (.int .i64 a1.kind)) := ((hS1.set (i := 0) (by simp [enEnc]) (.int .i64 a1.id)).set (i := 1) (by simp [enEnc]) (.int .i64 a1.kind)); have hB2 := hS2.keep hTs (by simp); have hB1 := (hB1.keep ((Turned.refl [] _).alloc (.cells #[.slice none 0 0, .int .i64 0] 36)) (by simp)).keep ((Turned.refl [] _).alloc (.cells #[.slice none 0 0, .int .i64 0] 36)) (by simp); have hB2 := (hB2.keep ((Turned.refl [] _).alloc (.cells #[.slice none 0 0, .int .i64 0] 36)) (by simp)).keep ((Turned.refl [] _).alloc (.cells #[.slice none 0 0, .int .i64 0] 36)) (by simp); have hPp := (EnL.writer_new (W := ((u1.setCell ⟨w.heap.size, 0, none⟩ (.int .i64 a1.id)).setCell ⟨w.heap.size, 1, none⟩ (.int .i64 a1.kind))) (n := u1.heap.size) (by simp)).keep ((Turned.refl [] _).alloc (.cells #[.slice none 0 0, .int .i64 0] 36)) (by simp); have hPq := EnL.writer_new (W := ((u1.setCell ⟨w.heap.size, 0, none⟩ (.int .i64 a1.id)).setCell ⟨w.heap.size, 1, none⟩ (.int .i64 a1.kind)).alloc (.cells #[.slice none 0 0, .int .i64 0] 36)) (n := u1.heap.size + 1) (by simp); have HTW := (HTW.alloc (.cells #[.slice none 0 0, .int .i64 0] 36)).alloc (.cells #[.slice none 0 0, .int .i64 0] 36); have hsu := HT0.size; have x0 := (hB1.2 0 _ rfl).1; have x1 := (hB1.2 1 _ rfl).1; have x2 := (hB1.2 2 _ rfl).1; have x3 := (hB1.2 3 _ rfl).1; have x4 := (hB1.2 4 _ rfl).1; have x5 := (hB1.2 5 _ rfl).1; have x6 := (hB1.2 6 _ rfl).1; have x7 := (hB1.2 7 _ rfl).1; have y0 := (hB2.2 0 _ rfl).1; have y1 := (hB2.2 1 _ rfl).1; have y2 := (hB2.2 2 _ rfl).1; have y3 := (hB2.2 3 _ rfl).1; have y4 := (hB2.2 4 _ rfl).1; have y5 := (hB2.2 5 _ rfl).1; have y6 := (hB2.2 6 _ rfl).1; have y7 := (hB2.2 7 _ rfl).1) | (go_at_call 16; (with_reducible refine (kP1 _ _ _ hPp).mono ?_); rintro r2 u2 ⟨rfl, F2, hP2, hm2⟩; have hq2 := hPq.keep hm2.1 (by simp); have hB1 := hB1.keep hm2.1 (by simp; omega); have hB2 := hB2.keep hm2.1 (by simp; omega); have hF2q : ∀ k ∈ F2, k ∉ [u1.heap.size + 1] := (by intro k hk hn; simp at hn; rcases hm2.2 k hk with h | h <;> simp at h <;> omega); have HTW := HTW.trans hm2.1 (by intro k hk hl; simp at hk; omega); have x0 := (hB1.2 0 _ rfl).1; have x1 := (hB1.2 1 _ rfl).1; have x2 := (hB1.2 2 _ rfl).1; have x3 := (hB1.2 3 _ rfl).1; have x4 := (hB1.2 4 _ rfl).1; have x5 := (hB1.2 5 _ rfl).1; have x6 := (hB1.2 6 _ rfl).1; have x7 := (hB1.2 7 _ rfl).1; have y0 := (hB2.2 0 _ rfl).1; have y1 := (hB2.2 1 _ rfl).1; have y2 := (hB2.2 2 _ rfl).1; have y3 := (hB2.2 3 _ rfl).1; have y4 := (hB2.2 4 _ rfl).1; have y5 := (hB2.2 5 _ rfl).1; have y6 := (hB2.2 6 _ rfl).1; have y7 := (hB2.2 7 _ rfl).1) | (go_at_call 16; (with_reducible refine (kP2 _ _ _ hq2).mono ?_); rintro r3 u3 ⟨rfl, F3, hQ3, hm3⟩; have hP3 := hP2.keep hm3.1 hF2q; have hB1 := hB1.keep hm3.1 (by simp; omega); have hB2 := hB2.keep hm3.1 (by simp; omega); have HTW := HTW.trans hm3.1 (by intro k hk hl; simp at hk; omega)) | (go_at_call 21; (with_reducible refine (kC _ _ _ hQ3).mono ?_); rintro r4 u4 ⟨rfl, rfl⟩) | (go_at_call 19; (with_reducible refine (kB _ _ _ hP3).mono ?_); rintro r5 u5 ⟨v5, rfl, ho5, HT5, hv5⟩; have HTW := HTW.trans HT5 (by simp); have hB1 := hB1.keep HT5 (by simp); have hB2 := hB2.keep HT5 (by simp); obtain ⟨oa, ca, rfl, _, _, hra, _⟩ := ho5.rowOf byEnc_len) | (go_at_call 22; (with_reducible refine (kN oa ca _ hra).mono ?_); rintro r6 u6 ⟨p, v, rfl, hN6, HT6, hpn, hvn⟩; have hpw : w.heap.size ≤ p := Nat.le_trans HTW.size hpn; have hp1 : w.heap.size ∉ [p] := (by have := hB1.1; simp; omega); have hp2 : w.heap.size + 1 ∉ [p] := (by have := hB2.1; simp; omega); have HTW := HTW.trans HT6 (by simp); have hB1 := hB1.keep HT6 (by simp); have hB2 := hB2.keep HT6 (by simp); have x0 := (hB1.2 0 _ rfl).1; have x1 := (hB1.2 1 _ rfl).1; have x2 := (hB1.2 2 _ rfl).1; have x3 := (hB1.2 3 _ rfl).1; have x4 := (hB1.2 4 _ rfl).1; have x5 := (hB1.2 5 _ rfl).1; have x6 := (hB1.2 6 _ rfl).1; have x7 := (hB1.2 7 _ rfl).1) | (go_at_call 24; (with_reducible refine (kT _ _ _ hN6).mono ?_); rintro r7 u7 ⟨rfl, hN7, HT7⟩; have HTW := (HTW.trans HT7 (by intro k hk hl; simp at hk; omega)).alloc (.cells (enEnc a1).toArray 29); have hB2 := (hB2.keep HT7 hp2).keep ((Turned.refl [] u7).alloc (.cells (enEnc a1).toArray 29)) (by simp); have hN8 := hN7.keep ((Turned.refl [] u7).alloc (.cells (enEnc a1).toArray 29)) (by simp) (by simp); have y0 := (hB2.2 0 _ rfl).1; have y1 := (hB2.2 1 _ rfl).1; have y2 := (hB2.2 2 _ rfl).1; have y3 := (hB2.2 3 _ rfl).1; have y4 := (hB2.2 4 _ rfl).1; have y5 := (hB2.2 5 _ rfl).1; have y6 := (hB2.2 6 _ rfl).1; have y7 := (hB2.2 7 _ rfl).1; (try simp only [enEnc] at y0 y1 y2 y3 y4 y5 y6 y7)) | (go_at_call 28; refine (kD _ _ _ hN8).mono ?_; rintro r9 u9 ⟨rfl, HT9⟩; have HTW := HTW.trans HT9 (by simp)))
    go_ret
    exact ⟨rfl, HTW.none⟩
  · have f1 : decide (En.Formed a1) = false := by simpa using h1
    rw [f1] at kF
    clear h1 f1 K
    go_enter Try.func6, Try.ntmps6
    go_wp2_with (first | (go_at_call 9; (with_reducible refine (kA _).mono ?_); rintro r0 u0 ⟨rfl, HT1⟩; have hS1 := hS1.keep HT1 (by simp); have hS2 := hS2.keep HT1 (by simp); have HT0 := HT0.trans HT1 (by simp); have d0 := (hS2.2 0 _ rfl).1; have d1 := (hS2.2 1 _ rfl).1; have d2 := (hS2.2 2 _ rfl).1; have d3 := (hS2.2 3 _ rfl).1; have d4 := (hS2.2 4 _ rfl).1; have d5 := (hS2.2 5 _ rfl).1; have d6 := (hS2.2 6 _ rfl).1; have d7 := (hS2.2 7 _ rfl).1) | (go_at_call 10; refine (kF _).mono ?_; rintro r1 u1 ⟨rfl, HT1⟩; have hS1 := hS1.keep HT1 (by simp); have hS2 := hS2.keep HT1 (by simp); have HT0 := HT0.trans HT1 (by simp)))
    go_ret
    exact ⟨rfl, HT0.none⟩

set_option maxRecDepth 100000 in
theorem lifted (os : Os) (started : os.Started) (H : Type) (enc : TypeId × Value → H) :
    ReturnsInHanded {} Try.checked os 6 .any (Rows.entityBackSpec.pre6 enc Try.prog Try.f6 Rows.entityBackRow.domain false) (Rows.entityBackSpec.post enc Try.prog Try.f6 false true false false) := by
  refine returnsInHanded_of_change (C := Try.checked) own started (by kernel_rfl) Try.func6
    (ChangeSpec.witness6 (enc := enc) (C := Try.checked) false ⟨#[], #[.agg #[.int .i64 0, .int .i64 0, .int .i64 0, .int .i64 0, .int .i64 0, .int .i64 0, .int .i64 0, .int .i64 0], .agg #[.int .i64 0, .int .i64 0, .int .i64 0, .int .i64 0, .int .i64 0, .int .i64 0, .int .i64 0, .int .i64 0]], []⟩ 8 (by kernel_rfl) (by kernel_rfl) (by kernel_rfl) (by kernel_rfl)) ?_
  intro W base args ds gs before hval0 hW hcnd _
  have hval : ∀ (j : Nat) t v, Try.f6.params[j]? = some t → args[j]? = some v → Value.okWide Try.prog W .any base t v := hval0
  have hW' := hW
  obtain ⟨p, q, hA0, hV, rfl, hfz, hnd⟩ := hW
  have hA : DataW.TrodAll enc Try.prog W 0 (fun _ => true) true Try.f6.params.toList args.toList ds p := hA0
  rw [Try.params6] at hA hval
  obtain ⟨v0, vs0, d0, ds0, p0, q0, hargs, rfl, rfl, h0, r0⟩ := trodAll_cons hA
  obtain ⟨v1, vs1, d1, ds1, p1, q1, rfl, rfl, rfl, h1, r1⟩ := trodAll_cons r0
  obtain ⟨rfl, rfl, rfl⟩ := trodAll_nil r1
  obtain rfl : args = #[v0, v1] := by cases args; simp_all
  obtain ⟨rfl, rfl⟩ := trodVars_none hV
  have k0 := h0
  have lt0 : ∀ x ∈ p0, x.block < W.heap.size := by obtain ⟨m, hm⟩ := k0; exact DataW.trod_lt m _ _ _ hm
  have k1 := h1
  have lt1 : ∀ x ∈ p1, x.block < W.heap.size := by obtain ⟨m, hm⟩ := k1; exact DataW.trod_lt m _ _ _ hm
  obtain ⟨cs0, rfl, ok0⟩ := open_flat (d := 8) (ks := [.int .i64, .int .i64, .int .i64, .int .i64, .int .i64, .int .i64, .int .i64, .int .i64]) (Or.inl ⟨_, Try.underlying29⟩) (by kernel_rfl) (hval 0 29 v0 rfl rfl) h0
  obtain ⟨a0, rfl⟩ := enEnc_of cs0 ok0
  have w0_k := ok0
  obtain ⟨cs1, rfl, ok1⟩ := open_flat (d := 8) (ks := [.int .i64, .int .i64, .int .i64, .int .i64, .int .i64, .int .i64, .int .i64, .int .i64]) (Or.inl ⟨_, Try.underlying29⟩) (by kernel_rfl) (hval 1 29 v1 rfl rfl) h1
  obtain ⟨a1, rfl⟩ := enEnc_of cs1 ok1
  have w1_k := ok1
  clear hA0 hval0
  refine (walk a0 a1 w0_k w1_k W).mono fun e W' ⟨he, bel⟩ => ?_
  subst he
  exact ⟨_, rfl, _, _, _, [], _, [], hW', trodAll_mk1 (shut_bool Try.underlying4 _), (trodAll_cons_mk (Below.trod laidOut (by kernel_rfl) (of_decide_eq_true (by kernel_rfl)) k0 bel lt0) (trodAll_cons_mk (Below.trod laidOut (by kernel_rfl) (of_decide_eq_true (by kernel_rfl)) k1 bel lt1) trodAll_mk0)), rfl, bel.frame _, fun h => by cases h⟩

theorem over : Rows.entityBackRow.holds Try.pinned (OpenSpec.ofChange Rows.entityBackSpec) :=
  OpenClaim.holds_of_wide 6 Try.f6 rfl rfl rfl rfl rfl rfl rfl ⟨rfl, rfl, rfl, rfl, rfl⟩ rfl rfl rfl rfl rfl (by kernel_rfl) Try.func6 (by kernel_rfl)
    (of_decide_eq_true (by kernel_rfl)) (by unfold Func.isWrapper; first | (rw [if_pos (by decide +kernel)]; kernel_rfl) | (rw [if_neg (by decide +kernel)]; exact ⟨rfl, rfl⟩))
    (fun os started H enc _ => lifted os started H enc)

theorem proved : Rows.EntityBackSaid :=
  over
#print axioms proved
end Go.Proofs.Ytjphcbcbaiifhaa.entityBack

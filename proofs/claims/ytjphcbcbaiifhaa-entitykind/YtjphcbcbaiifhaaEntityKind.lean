/- On a base of another ID or Kind nothing is put. -/
import Derived.Test.YtjphcbcbaiifhaaRows
import Derived.Test.YtjphcbcbaiifhaaEntWalks
import Derived.Test.YtjphcbcbaiifhaaEntLaw2
import Derived.Test.YtjphcbcbaiifhaaInts
import Derived.Test.YtjphcbcbaiifhaaFlat
import Derived.WalkKit
import Derived.ProofKit
import Derived.OpenShut
import Derived.ChangeOld
import Derived.Below
import Derived.WalkSmall
import Derived.Lib.SmallJoins
import Derived.Laws.IdiomArrays
namespace Go.Proofs.Ytjphcbcbaiifhaa.entityKind
open Go.ChangeShapes Go.WideShapes Go.ChangeAt Go.RowKit
set_option linter.unusedVariables false

theorem own : ownKnob Try.prog.godebug = none := by kernel_rfl
theorem laidOut : laidOutB Try.prog = true := by kernel_rfl

set_option maxRecDepth 20000 in
set_option maxHeartbeats 4000000 in
theorem walk (a0 : En.E) (a1 : En.E) (w0_k : AllOk [.int .i64, .int .i64, .int .i64, .int .i64, .int .i64, .int .i64, .int .i64, .int .i64] (enEnc a0)) (w1_k : AllOk [.int .i64, .int .i64, .int .i64, .int .i64, .int .i64, .int .i64, .int .i64, .int .i64] (enEnc a1)) (w : World) :
    Calls Try.prog 8 #[enVal a0, enVal a1] w fun e w' => e = .returned (.bool true) ∧ Below w.heap.size w w' := by
  have K := EnW.contracts
  have hb := en_wf w0_k
  have he := en_wf w1_k
  have kA := EnL.awake_any K
  obtain ⟨hS1, hS2, HT0, hsz⟩ := EnL.boxes a0 a1 w
  have hPW0 := EnL.writer_new hsz
  have kP := fun (u : World) (h : PW (w.heap.size + 1 + 1) [] [w.heap.size + 1 + 1] u) => K.put _ [] _ a0 a1 hb he u h (by simp)
  have kF := K.formed a1 he
  rw [EnL.fits_iff] at kP
  simp only [List.nil_append] at kP
  clear K hb he w0_k w1_k
  by_cases h1 : En.Formed a1
  · have f1 : decide (En.Formed a1) = true := by simpa using h1
    rw [f1] at kF kP
    by_cases h2 : a0.id = a1.id
    · have i2 : (a0.id == a1.id) = true := by simpa using h2
      rw [i2] at kP
      by_cases h3 : a0.kind = a1.kind
      · have i3 : (a0.kind == a1.kind) = true := by simpa using h3
        rw [i3] at kP
        simp only [Bool.and_self, if_true] at kP
        clear h1 h2 h3 f1
        go_enter Try.func8, Try.ntmps8
        go_wp2_with (first | (go_at_call 16; refine (kP _ hPW0).mono ?_; rintro r1 u1 ⟨rfl, F1, hPW1, hm1⟩; have hS1 := (hS1.keep ((Turned.refl [] _).alloc _) (by simp)).keep hm1.1 (by simp; omega); have hS2 := (hS2.keep ((Turned.refl [] _).alloc _) (by simp)).keep hm1.1 (by simp); have HT0 := (HT0.alloc _).trans hm1.1 (by intro k hk hl; simp at hk; omega); have c0 := (hS1.2 0 _ rfl).1; have c1 := (hS1.2 1 _ rfl).1; have d0 := (hS2.2 0 _ rfl).1; have d1 := (hS2.2 1 _ rfl).1; have d2 := (hS2.2 2 _ rfl).1; have d3 := (hS2.2 3 _ rfl).1; have d4 := (hS2.2 4 _ rfl).1; have d5 := (hS2.2 5 _ rfl).1; have d6 := (hS2.2 6 _ rfl).1; have d7 := (hS2.2 7 _ rfl).1) | (go_at_call 9; (with_reducible refine (kA _).mono ?_); rintro r2 u2 ⟨rfl, HT2⟩; have hS1 := hS1.keep HT2 (by simp); have hS2 := hS2.keep HT2 (by simp); have hPW1 := hPW1.keep HT2 (by simp); have HT0 := HT0.trans HT2 (by simp); have c0 := (hS1.2 0 _ rfl).1; have c1 := (hS1.2 1 _ rfl).1; have d0 := (hS2.2 0 _ rfl).1; have d1 := (hS2.2 1 _ rfl).1; have d2 := (hS2.2 2 _ rfl).1; have d3 := (hS2.2 3 _ rfl).1; have d4 := (hS2.2 4 _ rfl).1; have d5 := (hS2.2 5 _ rfl).1; have d6 := (hS2.2 6 _ rfl).1; have d7 := (hS2.2 7 _ rfl).1) | (go_at_call 10; refine (kF _).mono ?_; rintro r3 u3 ⟨rfl, HT3⟩; have hS1 := hS1.keep HT3 (by simp); have hS2 := hS2.keep HT3 (by simp); have hPW1 := hPW1.keep HT3 (by simp); have HT0 := HT0.trans HT3 (by simp); have c0 := (hS1.2 0 _ rfl).1; have c1 := (hS1.2 1 _ rfl).1; have d0 := (hS2.2 0 _ rfl).1; have d1 := (hS2.2 1 _ rfl).1) | (go_at_call 21; (with_reducible refine (BtW.count_any _ _ _ _ hPW1).mono ?_); rintro r4 u4 ⟨rfl, rfl⟩))
        go_ret
        exact ⟨rfl, HT0.none⟩
      · have i3 : (a0.kind == a1.kind) = false := by simpa using h3
        rw [i3] at kP
        simp only [Bool.and_false, Bool.false_eq_true, if_false] at kP
        clear h1 h2 h3 f1
        go_enter Try.func8, Try.ntmps8
        go_wp2_with (first | (go_at_call 16; refine (kP _ hPW0).mono ?_; rintro r1 u1 ⟨rfl, F1, hPW1, hm1⟩; have hS1 := (hS1.keep ((Turned.refl [] _).alloc _) (by simp)).keep hm1.1 (by simp; omega); have hS2 := (hS2.keep ((Turned.refl [] _).alloc _) (by simp)).keep hm1.1 (by simp); have HT0 := (HT0.alloc _).trans hm1.1 (by intro k hk hl; simp at hk; omega); have c0 := (hS1.2 0 _ rfl).1; have c1 := (hS1.2 1 _ rfl).1; have d0 := (hS2.2 0 _ rfl).1; have d1 := (hS2.2 1 _ rfl).1; have d2 := (hS2.2 2 _ rfl).1; have d3 := (hS2.2 3 _ rfl).1; have d4 := (hS2.2 4 _ rfl).1; have d5 := (hS2.2 5 _ rfl).1; have d6 := (hS2.2 6 _ rfl).1; have d7 := (hS2.2 7 _ rfl).1) | (go_at_call 9; (with_reducible refine (kA _).mono ?_); rintro r2 u2 ⟨rfl, HT2⟩; have hS1 := hS1.keep HT2 (by simp); have hS2 := hS2.keep HT2 (by simp); have hPW1 := hPW1.keep HT2 (by simp); have HT0 := HT0.trans HT2 (by simp); have c0 := (hS1.2 0 _ rfl).1; have c1 := (hS1.2 1 _ rfl).1; have d0 := (hS2.2 0 _ rfl).1; have d1 := (hS2.2 1 _ rfl).1; have d2 := (hS2.2 2 _ rfl).1; have d3 := (hS2.2 3 _ rfl).1; have d4 := (hS2.2 4 _ rfl).1; have d5 := (hS2.2 5 _ rfl).1; have d6 := (hS2.2 6 _ rfl).1; have d7 := (hS2.2 7 _ rfl).1) | (go_at_call 10; refine (kF _).mono ?_; rintro r3 u3 ⟨rfl, HT3⟩; have hS1 := hS1.keep HT3 (by simp); have hS2 := hS2.keep HT3 (by simp); have hPW1 := hPW1.keep HT3 (by simp); have HT0 := HT0.trans HT3 (by simp); have c0 := (hS1.2 0 _ rfl).1; have c1 := (hS1.2 1 _ rfl).1; have d0 := (hS2.2 0 _ rfl).1; have d1 := (hS2.2 1 _ rfl).1) | (go_at_call 21; (with_reducible refine (BtW.count_any _ _ _ _ hPW1).mono ?_); rintro r4 u4 ⟨rfl, rfl⟩))
        go_ret
        exact ⟨rfl, HT0.none⟩
    · have i2 : (a0.id == a1.id) = false := by simpa using h2
      rw [i2] at kP
      simp only [Bool.and_false, Bool.false_and, Bool.false_eq_true, if_false] at kP
      clear h1 h2 f1
      go_enter Try.func8, Try.ntmps8
      go_wp2_with (first | (go_at_call 16; refine (kP _ hPW0).mono ?_; rintro r1 u1 ⟨rfl, F1, hPW1, hm1⟩; have hS1 := (hS1.keep ((Turned.refl [] _).alloc _) (by simp)).keep hm1.1 (by simp; omega); have hS2 := (hS2.keep ((Turned.refl [] _).alloc _) (by simp)).keep hm1.1 (by simp); have HT0 := (HT0.alloc _).trans hm1.1 (by intro k hk hl; simp at hk; omega); have c0 := (hS1.2 0 _ rfl).1; have c1 := (hS1.2 1 _ rfl).1; have d0 := (hS2.2 0 _ rfl).1; have d1 := (hS2.2 1 _ rfl).1; have d2 := (hS2.2 2 _ rfl).1; have d3 := (hS2.2 3 _ rfl).1; have d4 := (hS2.2 4 _ rfl).1; have d5 := (hS2.2 5 _ rfl).1; have d6 := (hS2.2 6 _ rfl).1; have d7 := (hS2.2 7 _ rfl).1) | (go_at_call 9; (with_reducible refine (kA _).mono ?_); rintro r2 u2 ⟨rfl, HT2⟩; have hS1 := hS1.keep HT2 (by simp); have hS2 := hS2.keep HT2 (by simp); have hPW1 := hPW1.keep HT2 (by simp); have HT0 := HT0.trans HT2 (by simp); have c0 := (hS1.2 0 _ rfl).1; have c1 := (hS1.2 1 _ rfl).1; have d0 := (hS2.2 0 _ rfl).1; have d1 := (hS2.2 1 _ rfl).1; have d2 := (hS2.2 2 _ rfl).1; have d3 := (hS2.2 3 _ rfl).1; have d4 := (hS2.2 4 _ rfl).1; have d5 := (hS2.2 5 _ rfl).1; have d6 := (hS2.2 6 _ rfl).1; have d7 := (hS2.2 7 _ rfl).1) | (go_at_call 10; refine (kF _).mono ?_; rintro r3 u3 ⟨rfl, HT3⟩; have hS1 := hS1.keep HT3 (by simp); have hS2 := hS2.keep HT3 (by simp); have hPW1 := hPW1.keep HT3 (by simp); have HT0 := HT0.trans HT3 (by simp); have c0 := (hS1.2 0 _ rfl).1; have c1 := (hS1.2 1 _ rfl).1; have d0 := (hS2.2 0 _ rfl).1; have d1 := (hS2.2 1 _ rfl).1) | (go_at_call 21; (with_reducible refine (BtW.count_any _ _ _ _ hPW1).mono ?_); rintro r4 u4 ⟨rfl, rfl⟩))
      go_ret
      exact ⟨rfl, HT0.none⟩
  · have f1 : decide (En.Formed a1) = false := by simpa using h1
    rw [f1] at kF kP
    simp only [Bool.false_and, Bool.false_eq_true, if_false] at kP
    clear h1 f1
    go_enter Try.func8, Try.ntmps8
    go_wp2_with (first | (go_at_call 16; refine (kP _ hPW0).mono ?_; rintro r1 u1 ⟨rfl, F1, hPW1, hm1⟩; have hS1 := (hS1.keep ((Turned.refl [] _).alloc _) (by simp)).keep hm1.1 (by simp; omega); have hS2 := (hS2.keep ((Turned.refl [] _).alloc _) (by simp)).keep hm1.1 (by simp); have HT0 := (HT0.alloc _).trans hm1.1 (by intro k hk hl; simp at hk; omega); have c0 := (hS1.2 0 _ rfl).1; have c1 := (hS1.2 1 _ rfl).1; have d0 := (hS2.2 0 _ rfl).1; have d1 := (hS2.2 1 _ rfl).1; have d2 := (hS2.2 2 _ rfl).1; have d3 := (hS2.2 3 _ rfl).1; have d4 := (hS2.2 4 _ rfl).1; have d5 := (hS2.2 5 _ rfl).1; have d6 := (hS2.2 6 _ rfl).1; have d7 := (hS2.2 7 _ rfl).1) | (go_at_call 9; (with_reducible refine (kA _).mono ?_); rintro r2 u2 ⟨rfl, HT2⟩; have hS1 := hS1.keep HT2 (by simp); have hS2 := hS2.keep HT2 (by simp); have hPW1 := hPW1.keep HT2 (by simp); have HT0 := HT0.trans HT2 (by simp); have c0 := (hS1.2 0 _ rfl).1; have c1 := (hS1.2 1 _ rfl).1; have d0 := (hS2.2 0 _ rfl).1; have d1 := (hS2.2 1 _ rfl).1; have d2 := (hS2.2 2 _ rfl).1; have d3 := (hS2.2 3 _ rfl).1; have d4 := (hS2.2 4 _ rfl).1; have d5 := (hS2.2 5 _ rfl).1; have d6 := (hS2.2 6 _ rfl).1; have d7 := (hS2.2 7 _ rfl).1) | (go_at_call 10; refine (kF _).mono ?_; rintro r3 u3 ⟨rfl, HT3⟩; have hS1 := hS1.keep HT3 (by simp); have hS2 := hS2.keep HT3 (by simp); have hPW1 := hPW1.keep HT3 (by simp); have HT0 := HT0.trans HT3 (by simp); have c0 := (hS1.2 0 _ rfl).1; have c1 := (hS1.2 1 _ rfl).1; have d0 := (hS2.2 0 _ rfl).1; have d1 := (hS2.2 1 _ rfl).1) | (go_at_call 21; (with_reducible refine (BtW.count_any _ _ _ _ hPW1).mono ?_); rintro r4 u4 ⟨rfl, rfl⟩))
    go_ret
    exact ⟨rfl, HT0.none⟩

set_option maxRecDepth 100000 in
theorem lifted (os : Os) (started : os.Started) (H : Type) (enc : TypeId × Value → H) :
    ReturnsInHanded {} Try.checked os 8 .any (Rows.entityKindSpec.pre6 enc Try.prog Try.f8 Rows.entityKindRow.domain false) (Rows.entityKindSpec.post enc Try.prog Try.f8 false true false false) := by
  refine returnsInHanded_of_change (C := Try.checked) own started (by kernel_rfl) Try.func8
    (ChangeSpec.witness6 (enc := enc) (C := Try.checked) false ⟨#[], #[.agg #[.int .i64 0, .int .i64 0, .int .i64 0, .int .i64 0, .int .i64 0, .int .i64 0, .int .i64 0, .int .i64 0], .agg #[.int .i64 0, .int .i64 0, .int .i64 0, .int .i64 0, .int .i64 0, .int .i64 0, .int .i64 0, .int .i64 0]], []⟩ 8 (by kernel_rfl) (by kernel_rfl) (by kernel_rfl) (by kernel_rfl)) ?_
  intro W base args ds gs before hval0 hW hcnd _
  have hval : ∀ (j : Nat) t v, Try.f8.params[j]? = some t → args[j]? = some v → Value.okWide Try.prog W .any base t v := hval0
  have hW' := hW
  obtain ⟨p, q, hA0, hV, rfl, hfz, hnd⟩ := hW
  have hA : DataW.TrodAll enc Try.prog W 0 (fun _ => true) true Try.f8.params.toList args.toList ds p := hA0
  rw [Try.params8] at hA hval
  obtain ⟨v0, vs0, d0, ds0, p0, q0, hargs, rfl, rfl, h0, r0⟩ := trodAll_cons hA
  obtain ⟨v1, vs1, d1, ds1, p1, q1, rfl, rfl, rfl, h1, r1⟩ := trodAll_cons r0
  obtain ⟨rfl, rfl, rfl⟩ := trodAll_nil r1
  obtain rfl : args = #[v0, v1] := by cases args; simp_all
  obtain ⟨rfl, rfl⟩ := trodVars_none hV
  have k0 := h0
  have lt0 : ∀ x ∈ p0, x.block < W.heap.size := by obtain ⟨m, hm⟩ := k0; exact DataW.trod_lt m _ _ _ hm
  have k1 := h1
  have lt1 : ∀ x ∈ p1, x.block < W.heap.size := by obtain ⟨m, hm⟩ := k1; exact DataW.trod_lt m _ _ _ hm
  obtain ⟨cs0, rfl, ok0⟩ := open_flat (d := 8) (ks := [.int .i64, .int .i64, .int .i64, .int .i64, .int .i64, .int .i64, .int .i64, .int .i64]) (Or.inl ⟨_, Try.underlying29⟩) (by kernel_rfl) (hval 0 29 v0 rfl rfl) h0
  obtain ⟨a0, rfl⟩ := enEnc_of cs0 ok0
  have w0_k := ok0
  obtain ⟨cs1, rfl, ok1⟩ := open_flat (d := 8) (ks := [.int .i64, .int .i64, .int .i64, .int .i64, .int .i64, .int .i64, .int .i64, .int .i64]) (Or.inl ⟨_, Try.underlying29⟩) (by kernel_rfl) (hval 1 29 v1 rfl rfl) h1
  obtain ⟨a1, rfl⟩ := enEnc_of cs1 ok1
  have w1_k := ok1
  clear hA0 hval0
  refine (walk a0 a1 w0_k w1_k W).mono fun e W' ⟨he, bel⟩ => ?_
  subst he
  exact ⟨_, rfl, _, _, _, [], _, [], hW', trodAll_mk1 (shut_bool Try.underlying4 _), (trodAll_cons_mk (Below.trod laidOut (by kernel_rfl) (of_decide_eq_true (by kernel_rfl)) k0 bel lt0) (trodAll_cons_mk (Below.trod laidOut (by kernel_rfl) (of_decide_eq_true (by kernel_rfl)) k1 bel lt1) trodAll_mk0)), rfl, bel.frame _, fun h => by cases h⟩

theorem over : Rows.entityKindRow.holds Try.pinned (OpenSpec.ofChange Rows.entityKindSpec) :=
  OpenClaim.holds_of_wide 8 Try.f8 rfl rfl rfl rfl rfl rfl rfl ⟨rfl, rfl, rfl, rfl, rfl⟩ rfl rfl rfl rfl rfl (by kernel_rfl) Try.func8 (by kernel_rfl)
    (of_decide_eq_true (by kernel_rfl)) (by unfold Func.isWrapper; first | (rw [if_pos (by decide +kernel)]; kernel_rfl) | (rw [if_neg (by decide +kernel)]; exact ⟨rfl, rfl⟩))
    (fun os started H enc _ => lifted os started H enc)

theorem proved : Rows.EntityKindSaid :=
  over
#print axioms proved
end Go.Proofs.Ytjphcbcbaiifhaa.entityKind

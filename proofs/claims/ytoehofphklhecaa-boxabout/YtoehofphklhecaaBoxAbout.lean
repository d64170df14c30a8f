/- Whatever two places and half are handed in, BoxAbout answers true: boxes of the same half around two places overlap just if the places are less than twice that apart in both directions. No condition. -/
import Derived.Test.YtoehofphklhecaaRows
import Derived.Test.YtoehofphklhecaaBoxLaw
import Derived.Test.YtoehofphklhecaaBoxAround
import Derived.WalkKit
import Derived.ProofKit
import Derived.OpenShut
import Derived.ChangeOld
import Derived.Below
import Derived.WalkSmall
import Derived.Lib.SmallJoins
import Derived.Laws.IdiomArrays
namespace Go.Proofs.Ytoehofphklhecaa.boxAbout
open Go.ChangeShapes Go.WideShapes Go.ChangeAt Go.RowKit
set_option linter.unusedVariables false

theorem own : ownKnob Try.prog.godebug = none := by kernel_rfl
theorem laidOut : laidOutB Try.prog = true := by kernel_rfl

theorem sub_s {a h : Int} (ha : -2097152 ≤ a ∧ a ≤ 2097152) (hh : 0 ≤ h ∧ h ≤ 65535) : Fx.sub a h = a - h := by
  unfold Fx.sub; rw [Fx.hold_of (x := a) (by omega) (by omega), Fx.hold_of (x := h) (by omega) (by omega), Fx.hold_of (by omega) (by omega)]
theorem add_s {a h : Int} (ha : -2097152 ≤ a ∧ a ≤ 2097152) (hh : 0 ≤ h ∧ h ≤ 65535) : Fx.add a h = a + h := by
  unfold Fx.add; rw [Fx.hold_of (x := a) (by omega) (by omega), Fx.hold_of (x := h) (by omega) (by omega), Fx.hold_of (by omega) (by omega)]
theorem overlap_s {ax ay bx b_y h : Int} (h1 : -2097152 ≤ ax ∧ ax ≤ 2097152) (h2 : -2097152 ≤ ay ∧ ay ≤ 2097152) (h3 : -2097152 ≤ bx ∧ bx ≤ 2097152) (h4 : -2097152 ≤ b_y ∧ b_y ≤ 2097152) (hh : 0 ≤ h ∧ h ≤ 65535) :
    Bx.overlap (ax - h) (ay - h) (ax + h) (ay + h) (bx - h) (b_y - h) (bx + h) (b_y + h) = (BxL.near ax bx h && BxL.near ay b_y h) := by
  rw [Bool.eq_iff_iff]
  simp only [Bx.overlap, Bx.laps, BxL.near, Bool.and_eq_true, decide_eq_true_eq, Bx.formed_iff]
  omega
theorem in_s {ax ay h : Int} (h1 : -2097152 ≤ ax ∧ ax ≤ 2097152) (h2 : -2097152 ≤ ay ∧ ay ≤ 2097152) (hh : 0 ≤ h ∧ h ≤ 65535) : Bx.inB ax ay (ax - h) (ay - h) (ax + h) (ay + h) = true := by
  rw [Bx.inB_iff, Bx.formed_iff]; omega

set_option maxHeartbeats 2000000 in
theorem walk (a0_0 : Int) (a0_1 : Int) (a1_0 : Int) (a1_1 : Int) (a2 : Int) (w0_0 : (Lit.int .i64 a0_0).wf = true) (w0_1 : (Lit.int .i64 a0_1).wf = true) (w1_0 : (Lit.int .i64 a1_0).wf = true) (w1_1 : (Lit.int .i64 a1_1).wf = true) (w2 : (Lit.int .u16 a2).wf = true) (w : World) :
    Calls Try.prog 8 #[.agg #[.int .i64 a0_0, .int .i64 a0_1], .agg #[.int .i64 a1_0, .int .i64 a1_1], .int .u16 a2] w fun e w' => e = .returned (.bool true) ∧ Below w.heap.size w w' := by
  obtain ⟨p1, p2⟩ := bounds_u16 w2
  clear w0_0 w0_1 w1_0 w1_1 w2
  by_cases g0 : 2097152 < a0_0
  · go_enter Try.func8, Try.ntmps8
    go_wp2_with (first | (go_at_call 10; refine (BxL.awake_any _).mono ?_; rintro e w' ⟨rfl, hb⟩; have hK : Keep w [(w.heap.size, [.int .i64 a0_0, .int .i64 a0_1]), (w.heap.size + 1, [.int .i64 a1_0, .int .i64 a1_1])] w' := Keep.on (by first | assumption | exact ⟨by simp [Lie, LieAt, go_sem, World.cell?_alloc_past, World.frozen?_alloc_past], by simp; omega, ((Below.refl _ _).alloc (Nat.le_refl _) _).alloc (by simp) _⟩) hb; have hS := hK; simp only [Keep, Lie, LieAt, Nat.reduceAdd] at hS))
    go_ret
    exact ⟨rfl, hK.2.2⟩
  ·
    by_cases g1 : a0_0 < -2097152
    · go_enter Try.func8, Try.ntmps8
      go_wp2_with (first | (go_at_call 10; refine (BxL.awake_any _).mono ?_; rintro e w' ⟨rfl, hb⟩; have hK : Keep w [(w.heap.size, [.int .i64 a0_0, .int .i64 a0_1]), (w.heap.size + 1, [.int .i64 a1_0, .int .i64 a1_1])] w' := Keep.on (by first | assumption | exact ⟨by simp [Lie, LieAt, go_sem, World.cell?_alloc_past, World.frozen?_alloc_past], by simp; omega, ((Below.refl _ _).alloc (Nat.le_refl _) _).alloc (by simp) _⟩) hb; have hS := hK; simp only [Keep, Lie, LieAt, Nat.reduceAdd] at hS))
      go_ret
      exact ⟨rfl, hK.2.2⟩
    ·
      by_cases g2 : 2097152 < a0_1
      · go_enter Try.func8, Try.ntmps8
        go_wp2_with (first | (go_at_call 10; refine (BxL.awake_any _).mono ?_; rintro e w' ⟨rfl, hb⟩; have hK : Keep w [(w.heap.size, [.int .i64 a0_0, .int .i64 a0_1]), (w.heap.size + 1, [.int .i64 a1_0, .int .i64 a1_1])] w' := Keep.on (by first | assumption | exact ⟨by simp [Lie, LieAt, go_sem, World.cell?_alloc_past, World.frozen?_alloc_past], by simp; omega, ((Below.refl _ _).alloc (Nat.le_refl _) _).alloc (by simp) _⟩) hb; have hS := hK; simp only [Keep, Lie, LieAt, Nat.reduceAdd] at hS))
        go_ret
        exact ⟨rfl, hK.2.2⟩
      ·
        by_cases g3 : a0_1 < -2097152
        · go_enter Try.func8, Try.ntmps8
          go_wp2_with (first | (go_at_call 10; refine (BxL.awake_any _).mono ?_; rintro e w' ⟨rfl, hb⟩; have hK : Keep w [(w.heap.size, [.int .i64 a0_0, .int .i64 a0_1]), (w.heap.size + 1, [.int .i64 a1_0, .int .i64 a1_1])] w' := Keep.on (by first | assumption | exact ⟨by simp [Lie, LieAt, go_sem, World.cell?_alloc_past, World.frozen?_alloc_past], by simp; omega, ((Below.refl _ _).alloc (Nat.le_refl _) _).alloc (by simp) _⟩) hb; have hS := hK; simp only [Keep, Lie, LieAt, Nat.reduceAdd] at hS))
          go_ret
          exact ⟨rfl, hK.2.2⟩
        ·
          by_cases g4 : 2097152 < a1_0
          · go_enter Try.func8, Try.ntmps8
            go_wp2_with (first | (go_at_call 10; refine (BxL.awake_any _).mono ?_; rintro e w' ⟨rfl, hb⟩; have hK : Keep w [(w.heap.size, [.int .i64 a0_0, .int .i64 a0_1]), (w.heap.size + 1, [.int .i64 a1_0, .int .i64 a1_1])] w' := Keep.on (by first | assumption | exact ⟨by simp [Lie, LieAt, go_sem, World.cell?_alloc_past, World.frozen?_alloc_past], by simp; omega, ((Below.refl _ _).alloc (Nat.le_refl _) _).alloc (by simp) _⟩) hb; have hS := hK; simp only [Keep, Lie, LieAt, Nat.reduceAdd] at hS))
            go_ret
            exact ⟨rfl, hK.2.2⟩
          ·
            by_cases g5 : a1_0 < -2097152
            · go_enter Try.func8, Try.ntmps8
              go_wp2_with (first | (go_at_call 10; refine (BxL.awake_any _).mono ?_; rintro e w' ⟨rfl, hb⟩; have hK : Keep w [(w.heap.size, [.int .i64 a0_0, .int .i64 a0_1]), (w.heap.size + 1, [.int .i64 a1_0, .int .i64 a1_1])] w' := Keep.on (by first | assumption | exact ⟨by simp [Lie, LieAt, go_sem, World.cell?_alloc_past, World.frozen?_alloc_past], by simp; omega, ((Below.refl _ _).alloc (Nat.le_refl _) _).alloc (by simp) _⟩) hb; have hS := hK; simp only [Keep, Lie, LieAt, Nat.reduceAdd] at hS))
              go_ret
              exact ⟨rfl, hK.2.2⟩
            ·
              by_cases g6 : 2097152 < a1_1
              · go_enter Try.func8, Try.ntmps8
                go_wp2_with (first | (go_at_call 10; refine (BxL.awake_any _).mono ?_; rintro e w' ⟨rfl, hb⟩; have hK : Keep w [(w.heap.size, [.int .i64 a0_0, .int .i64 a0_1]), (w.heap.size + 1, [.int .i64 a1_0, .int .i64 a1_1])] w' := Keep.on (by first | assumption | exact ⟨by simp [Lie, LieAt, go_sem, World.cell?_alloc_past, World.frozen?_alloc_past], by simp; omega, ((Below.refl _ _).alloc (Nat.le_refl _) _).alloc (by simp) _⟩) hb; have hS := hK; simp only [Keep, Lie, LieAt, Nat.reduceAdd] at hS))
                go_ret
                exact ⟨rfl, hK.2.2⟩
              ·
                by_cases g7 : a1_1 < -2097152
                · go_enter Try.func8, Try.ntmps8
                  go_wp2_with (first | (go_at_call 10; refine (BxL.awake_any _).mono ?_; rintro e w' ⟨rfl, hb⟩; have hK : Keep w [(w.heap.size, [.int .i64 a0_0, .int .i64 a0_1]), (w.heap.size + 1, [.int .i64 a1_0, .int .i64 a1_1])] w' := Keep.on (by first | assumption | exact ⟨by simp [Lie, LieAt, go_sem, World.cell?_alloc_past, World.frozen?_alloc_past], by simp; omega, ((Below.refl _ _).alloc (Nat.le_refl _) _).alloc (by simp) _⟩) hb; have hS := hK; simp only [Keep, Lie, LieAt, Nat.reduceAdd] at hS))
                  go_ret
                  exact ⟨rfl, hK.2.2⟩
                ·
                  have r0 : -2097152 ≤ a0_0 ∧ a0_0 ≤ 2097152 := by omega
                  have r1 : -2097152 ≤ a0_1 ∧ a0_1 ≤ 2097152 := by omega
                  have r2 : -2097152 ≤ a1_0 ∧ a1_0 ≤ 2097152 := by omega
                  have r3 : -2097152 ≤ a1_1 ∧ a1_1 ≤ 2097152 := by omega
                  have AA := BxW.around_any a0_0 a0_1 a2
                  have AB := BxW.around_any a1_0 a1_1 a2
                  rw [sub_s r0 ⟨p1, p2⟩, sub_s r1 ⟨p1, p2⟩, add_s r0 ⟨p1, p2⟩, add_s r1 ⟨p1, p2⟩] at AA
                  rw [sub_s r2 ⟨p1, p2⟩, sub_s r3 ⟨p1, p2⟩, add_s r2 ⟨p1, p2⟩, add_s r3 ⟨p1, p2⟩] at AB
                  have OV := BxW.overlap_any (a0_0 - a2) (a0_1 - a2) (a0_0 + a2) (a0_1 + a2) (a1_0 - a2) (a1_1 - a2) (a1_0 + a2) (a1_1 + a2)
                  rw [overlap_s r0 r1 r2 r3 ⟨p1, p2⟩] at OV
                  have IN := BxW.in_any a0_0 a0_1 (a0_0 - a2) (a0_1 - a2) (a0_0 + a2) (a0_1 + a2)
                  rw [in_s r0 r1 ⟨p1, p2⟩] at IN
                  have NX := BxL.near_any a0_0 a1_0 a2 r0 r2 ⟨p1, p2⟩
                  have NY := BxL.near_any a0_1 a1_1 a2 r1 r3 ⟨p1, p2⟩
                  generalize BxL.near a0_0 a1_0 a2 = nx at *
                  generalize BxL.near a0_1 a1_1 a2 = ny at *
                  cases nx
                  all_goals cases ny
                  all_goals simp only [Bool.and_self, Bool.and_false, Bool.and_true] at OV
                  all_goals
                    go_enter Try.func8, Try.ntmps8
                    go_wp2_with (first | (go_at_call 10; refine (BxL.awake_any _).mono ?_; rintro e w' ⟨rfl, hb⟩; have hK : Keep w [(w.heap.size, [.int .i64 a0_0, .int .i64 a0_1]), (w.heap.size + 1, [.int .i64 a1_0, .int .i64 a1_1])] w' := Keep.on (by first | assumption | exact ⟨by simp [Lie, LieAt, go_sem, World.cell?_alloc_past, World.frozen?_alloc_past], by simp; omega, ((Below.refl _ _).alloc (Nat.le_refl _) _).alloc (by simp) _⟩) hb; have hS := hK; simp only [Keep, Lie, LieAt, Nat.reduceAdd] at hS))
                    have hS := hK
                    simp only [Keep, Lie, LieAt, Nat.reduceAdd] at hS
                    obtain ⟨⟨⟨c0, f0, c1, f1, l0⟩, ⟨c2, f2, c3, f3, l1⟩, -⟩, -⟩ := hS
                    have ne : Nonempty (KeptW w') := KeptW.one w'
                    have d0 := KeptW.at l0 c0
                    have d1 := KeptW.at l0 c1
                    have d2 := KeptW.at l1 c2
                    have d3 := KeptW.at l1 c3
                    refine wp_region_kept (by kernel_rfl) (by kernel_rfl) ?_
                    repeat (go_big_quiet_step (first | (go_at_call_of 20 (Value.agg #[Value.int IntKind.i64 a0_0, Value.int IntKind.i64 a0_1]); exact kept_call (AA _)) | (go_at_call 20; exact kept_call (AB _)) | (go_at_call 16; exact kept_call (OV _)) | (go_at_call_of 26 (Value.int IntKind.i64 a0_0); exact kept_same (NX _)) | (go_at_call 26; exact kept_same (NY _)) | (go_at_call 14; exact kept_call (IN _))))
                    refine wpQuiet_nil ?_
                    rintro _ ⟨x, rfl⟩
                    go_wp2
                    go_ret
                    exact ⟨rfl, hK.2.2.trans (x.h.mono hK.2.1)⟩

set_option maxRecDepth 100000 in
theorem lifted (os : Os) (started : os.Started) (H : Type) (enc : TypeId × Value → H) :
    ReturnsInHanded {} Try.checked os 8 .any (Rows.boxAboutSpec.pre6 enc Try.prog Try.f8 Rows.boxAboutRow.domain false) (Rows.boxAboutSpec.post enc Try.prog Try.f8 false true false false) := by
  refine returnsInHanded_of_change (C := Try.checked) own started (by kernel_rfl) Try.func8
    (ChangeSpec.witness6 (enc := enc) (C := Try.checked) false ⟨#[], #[.agg #[.int .i64 0, .int .i64 0], .agg #[.int .i64 0, .int .i64 0], .int .u16 0], []⟩ 8 (by kernel_rfl) (by kernel_rfl) (by kernel_rfl) (by kernel_rfl)) ?_
  intro W base args ds gs before hval0 hW hcnd _
  have hval : ∀ (j : Nat) t v, Try.f8.params[j]? = some t → args[j]? = some v → Value.okWide Try.prog W .any base t v := hval0
  have hW' := hW
  obtain ⟨p, q, hA0, hV, rfl, hfz, hnd⟩ := hW
  have hA : DataW.TrodAll enc Try.prog W 0 (fun _ => true) true Try.f8.params.toList args.toList ds p := hA0
  rw [Try.params8] at hA hval
  obtain ⟨v0, vs0, d0, ds0, p0, q0, hargs, rfl, rfl, h0, r0⟩ := trodAll_cons hA
  obtain ⟨v1, vs1, d1, ds1, p1, q1, rfl, rfl, rfl, h1, r1⟩ := trodAll_cons r0
  obtain ⟨v2, vs2, d2, ds2, p2, q2, rfl, rfl, rfl, h2, r2⟩ := trodAll_cons r1
  obtain ⟨rfl, rfl, rfl⟩ := trodAll_nil r2
  obtain rfl : args = #[v0, v1, v2] := by cases args; simp_all
  obtain ⟨rfl, rfl⟩ := trodVars_none hV
  have k0 := h0
  have lt0 : ∀ x ∈ p0, x.block < W.heap.size := by obtain ⟨m, hm⟩ := k0; exact DataW.trod_lt m _ _ _ hm
  have k1 := h1
  have lt1 : ∀ x ∈ p1, x.block < W.heap.size := by obtain ⟨m, hm⟩ := k1; exact DataW.trod_lt m _ _ _ hm
  have k2 := h2
  have lt2 : ∀ x ∈ p2, x.block < W.heap.size := by obtain ⟨m, hm⟩ := k2; exact DataW.trod_lt m _ _ _ hm
  obtain ⟨u0_0, u0_1, y0_0, y0_1, m0, rfl, _, _, g0_0, g0_1⟩ := Go.Joins.open_agg2 Try.underlying24 (by kernel_rfl) (by kernel_rfl) (hval 0 24 v0 rfl rfl) h0
  obtain ⟨a0_0, e0_0, _, w0_0⟩ := DataW.trod_int Try.underlying22 g0_0
  simp at e0_0
  subst e0_0
  obtain ⟨a0_1, e0_1, _, w0_1⟩ := DataW.trod_int Try.underlying22 g0_1
  simp at e0_1
  subst e0_1
  obtain ⟨u1_0, u1_1, y1_0, y1_1, m1, rfl, _, _, g1_0, g1_1⟩ := Go.Joins.open_agg2 Try.underlying24 (by kernel_rfl) (by kernel_rfl) (hval 1 24 v1 rfl rfl) h1
  obtain ⟨a1_0, e1_0, _, w1_0⟩ := DataW.trod_int Try.underlying22 g1_0
  simp at e1_0
  subst e1_0
  obtain ⟨a1_1, e1_1, _, w1_1⟩ := DataW.trod_int Try.underlying22 g1_1
  simp at e1_1
  subst e1_1
  obtain ⟨a2, rfl, _, _, w2⟩ := open_int Try.underlying53 (hval 2 53 v2 rfl rfl) h2
  clear hA0 hval0
  refine (walk a0_0 a0_1 a1_0 a1_1 a2 w0_0 w0_1 w1_0 w1_1 w2 W).mono fun e W' ⟨he, bel⟩ => ?_
  subst he
  exact ⟨_, rfl, _, _, _, [], _, [], hW', trodAll_mk1 (shut_bool Try.underlying4 _), (trodAll_cons_mk (Below.trod laidOut (by kernel_rfl) (of_decide_eq_true (by kernel_rfl)) k0 bel lt0) (trodAll_cons_mk (Below.trod laidOut (by kernel_rfl) (of_decide_eq_true (by kernel_rfl)) k1 bel lt1) (trodAll_cons_mk (Below.trod laidOut (by kernel_rfl) (of_decide_eq_true (by kernel_rfl)) k2 bel lt2) trodAll_mk0))), rfl, bel.frame _, fun h => by cases h⟩

theorem over : Rows.boxAboutRow.holds Try.pinned (OpenSpec.ofChange Rows.boxAboutSpec) :=
  OpenClaim.holds_of_wide 8 Try.f8 rfl rfl rfl rfl rfl rfl rfl ⟨rfl, rfl, rfl, rfl, rfl⟩ rfl rfl rfl rfl rfl (by kernel_rfl) Try.func8 (by kernel_rfl)
    (of_decide_eq_true (by kernel_rfl)) (by unfold Func.isWrapper; first | (rw [if_pos (by decide +kernel)]; kernel_rfl) | (rw [if_neg (by decide +kernel)]; exact ⟨rfl, rfl⟩))
    (fun os started H enc _ => lifted os started H enc)

theorem proved : Rows.BoxAboutSaid :=
  over
#print axioms proved
end Go.Proofs.Ytoehofphklhecaa.boxAbout

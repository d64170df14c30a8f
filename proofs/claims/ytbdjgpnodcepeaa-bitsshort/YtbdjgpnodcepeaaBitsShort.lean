/- Of every two numbers, the small numbers are of eight to eighty bits, and of one that is less, with its sign, never more. -/
import Derived.Test.YtbdjgpnodcepeaaRows
import Derived.Test.YtbdjgpnodcepeaaBitLaw
import Derived.Test.YtbdjgpnodcepeaaBitRd2
import Derived.WalkKit
import Derived.ProofKit
import Derived.OpenShut
import Derived.ChangeOld
import Derived.Below
import Derived.WalkSmall
import Derived.Lib.SmallJoins
import Derived.Laws.IdiomArrays
namespace Go.Proofs.Ytbdjgpnodcepeaa.bitsShort
open Go.ChangeShapes Go.WideShapes Go.ChangeAt Go.RowKit
set_option linter.unusedVariables false

theorem own : ownKnob Try.prog.godebug = none := by kernel_rfl
theorem laidOut : laidOutB Try.prog = true := by kernel_rfl

theorem near_le {a b : Int} (h : (0 ≤ a ∧ a ≤ b) ∨ (a < 0 ∧ b ≤ a)) : Bt.zig a ≤ Bt.zig b := by
  unfold Bt.zig
  rcases h with ⟨h1, h2⟩ | ⟨h1, h2⟩
  · rw [if_neg (by omega), if_neg (by omega)]; omega
  · rw [if_pos h1, if_pos (by omega)]; omega

set_option maxHeartbeats 2000000 in
theorem walk (a0 : Int) (a1 : Int) (w0 : (Lit.int .i64 a0).wf = true) (w1 : (Lit.int .i64 a1).wf = true) (w : World) :
    Calls Try.prog 6 #[.int .i64 a0, .int .i64 a1] w fun e w' => e = .returned (.bool true) ∧ Below w.heap.size w w' := by
  have r0 := BtL.i64_range w0
  have r1 := BtL.i64_range w1
  have ka := BtW.small_any w.heap.size [] [w.heap.size] a0 r0.1 r0.2 _ ((PW.new w 27).keep ((Turned.refl [] _).alloc (.cells #[.slice none 0 0, .int .i64 0] 27)) (by simp)) (by simp)
  have hnb : PW (w.heap.size + 1) [] [w.heap.size + 1] ((w.alloc (.cells #[.slice none 0 0, .int .i64 0] 27)).alloc (.cells #[.slice none 0 0, .int .i64 0] 27)) := by
    have := PW.new (w.alloc (.cells #[.slice none 0 0, .int .i64 0] 27)) 27
    simpa using this
  have kb := fun (F1 : List Nat) (w1 : World) (hm : Moved [w.heap.size] F1 ((w.alloc (.cells #[.slice none 0 0, .int .i64 0] 27)).alloc (.cells #[.slice none 0 0, .int .i64 0] 27)) w1) => BtW.small_any (w.heap.size + 1) [] [w.heap.size + 1] a1 r1.1 r1.2 w1 (hnb.keep hm.1 (by simp)) (by simp)
  rw [List.nil_append] at ka kb
  have la := Bt.sm_length (Bt.zig a0)
  have lb := Bt.sm_length (Bt.zig a1)
  have ea := Bt.eights_ten (Bt.zig_lt r0.1 r0.2)
  have ep := Bt.eights_pos (Bt.zig a0)
  have hnear := near_le (a := a0) (b := a1)
  have hmono := fun h => Bt.eights_mono (hnear h)
  have hA : (8 * Bt.eights (Bt.zig a0)) % 8 = 0 := by omega
  obtain ⟨la0, hla0⟩ : ∃ l, l = Bt.sm (Bt.zig a0) := ⟨_, rfl⟩
  obtain ⟨lb0, hlb0⟩ : ∃ l, l = Bt.sm (Bt.zig a1) := ⟨_, rfl⟩
  rw [← hla0] at ka la
  rw [← hlb0] at kb lb
  obtain ⟨E1, hE1⟩ : ∃ E, E = Bt.eights (Bt.zig a0) := ⟨_, rfl⟩
  obtain ⟨E2, hE2⟩ : ∃ E, E = Bt.eights (Bt.zig a1) := ⟨_, rfl⟩
  rw [← hE1] at la ea ep hmono
  rw [← hE2] at lb hmono
  clear hA hla0 hlb0 hE1 hE2 hnear hnb w0 w1
  have x1 : ((la0.length : Int) % 8) = 0 := by omega
  have x2 : ¬ (la0.length : Int) < 8 := by omega
  have x3 : ¬ 80 < (la0.length : Int) := by omega
  have HL : Hid (∀ (_ : (0 ≤ a0 ∧ a0 ≤ a1) ∨ (a0 < 0 ∧ a1 ≤ a0)), (la0.length : Int) ≤ (lb0.length : Int)) := by
    intro h
    have := hmono h
    omega
  clear hmono la lb ea ep r0 r1
  have kca := fun (F1 : List Nat) (u : World) (h : PW w.heap.size la0 F1 u) => BtW.count_any w.heap.size la0 F1 u h
  have kcb := fun (F1 : List Nat) (u : World) (h : PW (w.heap.size + 1) lb0 F1 u) => BtW.count_any (w.heap.size + 1) lb0 F1 u h
  have hka : ∀ (F1 F2 : List Nat) (u v : World), PW w.heap.size la0 F1 u → Moved [w.heap.size + 1] F2 u v → w.heap.size + 1 < u.heap.size → Moved [w.heap.size] F1 ((w.alloc (.cells #[.slice none 0 0, .int .i64 0] 27)).alloc (.cells #[.slice none 0 0, .int .i64 0] 27)) u → PW w.heap.size la0 F1 v := by
    intro F1 F2 u v hp hm hs hm0
    refine hp.keep hm.1 ?_
    intro k hk hn
    simp at hn
    subst hn
    rcases hm0.2 _ hk with h | h
    · simp at h
    · simp at h; omega
  have hst : ∀ (F1 : List Nat) (u : World), Moved [w.heap.size] F1 ((w.alloc (.cells #[.slice none 0 0, .int .i64 0] 27)).alloc (.cells #[.slice none 0 0, .int .i64 0] 27)) u → w.heap.size + 1 < u.heap.size := by
    intro F1 u hm
    have := hm.size
    simp at this
    omega
  have htb : ∀ (F1 F2 : List Nat) (u v : World), Moved [w.heap.size] F1 ((w.alloc (.cells #[.slice none 0 0, .int .i64 0] 27)).alloc (.cells #[.slice none 0 0, .int .i64 0] 27)) u → Moved [w.heap.size + 1] F2 u v → Turned [] w v := by
    intro F1 F2 u v h1 h2
    refine ((((Turned.refl [] w).alloc _).alloc _).trans h1.1 ?_).trans h2.1 ?_
    · intro k hk hl; simp at hk; omega
    · intro k hk hl; simp at hk; omega
  by_cases hn : (0 ≤ a0 ∧ a0 ≤ a1) ∨ (a0 < 0 ∧ a1 ≤ a0)
  · have hle := HL.out hn
    rcases hn with ⟨n1, n2⟩ | ⟨n1, n2⟩
    all_goals
      clear HL
      go_enter Try.func6, Try.ntmps6
      go_wp2_with (first | (go_at_call 11; with_reducible refine ka.mono ?_; rintro e u1 ⟨rfl, F1, h1, hm1⟩) | (go_at_call 11; with_reducible refine (kb F1 u1 hm1).mono ?_; rintro e u2 ⟨rfl, F2, h2, hm2⟩; have h3 := hka F1 F2 u1 u2 h1 hm2 (hst F1 u1 hm1) hm1; have HT := htb F1 F2 u1 u2 hm1 hm2) | (go_at_call 10; with_reducible refine (BtL.awake_any _).mono ?_; rintro e u3 ⟨rfl, HA⟩; have h4 := h3.keep HA (by simp); have h5 := h2.keep HA (by simp)) | (go_at_call 15; with_reducible refine (kca F1 _ h4).mono ?_; rintro e u4 ⟨rfl, rfl⟩) | (go_at_call 15; with_reducible refine (kcb F2 _ h5).mono ?_; rintro e u4 ⟨rfl, rfl⟩))
      go_ret
      exact BtL.bool_ret (by simp) (HT.trans HA (fun k hk _ => hk)).none
  · by_cases n1 : 0 ≤ a0
    · have n2 : a1 < a0 := by omega
      clear HL hn
      go_enter Try.func6, Try.ntmps6
      go_wp2_with (first | (go_at_call 11; with_reducible refine ka.mono ?_; rintro e u1 ⟨rfl, F1, h1, hm1⟩) | (go_at_call 11; with_reducible refine (kb F1 u1 hm1).mono ?_; rintro e u2 ⟨rfl, F2, h2, hm2⟩; have h3 := hka F1 F2 u1 u2 h1 hm2 (hst F1 u1 hm1) hm1; have HT := htb F1 F2 u1 u2 hm1 hm2) | (go_at_call 10; with_reducible refine (BtL.awake_any _).mono ?_; rintro e u3 ⟨rfl, HA⟩; have h4 := h3.keep HA (by simp); have h5 := h2.keep HA (by simp)) | (go_at_call 15; with_reducible refine (kca F1 _ h4).mono ?_; rintro e u4 ⟨rfl, rfl⟩) | (go_at_call 15; with_reducible refine (kcb F2 _ h5).mono ?_; rintro e u4 ⟨rfl, rfl⟩))
      go_ret
      exact ⟨rfl, (HT.trans HA (fun k hk _ => hk)).none⟩
    · have n2 : a0 < a1 := by omega
      clear HL hn
      go_enter Try.func6, Try.ntmps6
      go_wp2_with (first | (go_at_call 11; with_reducible refine ka.mono ?_; rintro e u1 ⟨rfl, F1, h1, hm1⟩) | (go_at_call 11; with_reducible refine (kb F1 u1 hm1).mono ?_; rintro e u2 ⟨rfl, F2, h2, hm2⟩; have h3 := hka F1 F2 u1 u2 h1 hm2 (hst F1 u1 hm1) hm1; have HT := htb F1 F2 u1 u2 hm1 hm2) | (go_at_call 10; with_reducible refine (BtL.awake_any _).mono ?_; rintro e u3 ⟨rfl, HA⟩; have h4 := h3.keep HA (by simp); have h5 := h2.keep HA (by simp)) | (go_at_call 15; with_reducible refine (kca F1 _ h4).mono ?_; rintro e u4 ⟨rfl, rfl⟩) | (go_at_call 15; with_reducible refine (kcb F2 _ h5).mono ?_; rintro e u4 ⟨rfl, rfl⟩))
      go_ret
      exact ⟨rfl, (HT.trans HA (fun k hk _ => hk)).none⟩

set_option maxRecDepth 100000 in
theorem lifted (os : Os) (started : os.Started) (H : Type) (enc : TypeId × Value → H) :
    ReturnsInHanded {} Try.checked os 6 .any (Rows.bitsShortSpec.pre6 enc Try.prog Try.f6 Rows.bitsShortRow.domain false) (Rows.bitsShortSpec.post enc Try.prog Try.f6 false true false false) := by
  refine returnsInHanded_of_change (C := Try.checked) own started (by kernel_rfl) Try.func6
    (ChangeSpec.witness6 (enc := enc) (C := Try.checked) false ⟨#[], #[.int .i64 0, .int .i64 0], []⟩ 8 (by kernel_rfl) (by kernel_rfl) (by kernel_rfl) (by kernel_rfl)) ?_
  intro W base args ds gs before hval0 hW hcnd _
  have hval : ∀ (j : Nat) t v, Try.f6.params[j]? = some t → args[j]? = some v → Value.okWide Try.prog W .any base t v := hval0
  have hW' := hW
  obtain ⟨p, q, hA0, hV, rfl, hfz, hnd⟩ := hW
  have hA : DataW.TrodAll enc Try.prog W 0 (fun _ => true) true Try.f6.params.toList args.toList ds p := hA0
  rw [Try.params6] at hA hval
  obtain ⟨v0, vs0, d0, ds0, p0, q0, hargs, rfl, rfl, h0, r0⟩ := trodAll_cons hA
  obtain ⟨v1, vs1, d1, ds1, p1, q1, rfl, rfl, rfl, h1, r1⟩ := trodAll_cons r0
  obtain ⟨rfl, rfl, rfl⟩ := trodAll_nil r1
  obtain rfl : args = #[v0, v1] := by cases args; simp_all
  obtain ⟨rfl, rfl⟩ := trodVars_none hV
  have k0 := h0
  have lt0 : ∀ x ∈ p0, x.block < W.heap.size := by obtain ⟨m, hm⟩ := k0; exact DataW.trod_lt m _ _ _ hm
  have k1 := h1
  have lt1 : ∀ x ∈ p1, x.block < W.heap.size := by obtain ⟨m, hm⟩ := k1; exact DataW.trod_lt m _ _ _ hm
  obtain ⟨a0, rfl, _, _, w0⟩ := open_int Try.underlying2 (hval 0 2 v0 rfl rfl) h0
  obtain ⟨a1, rfl, _, _, w1⟩ := open_int Try.underlying2 (hval 1 2 v1 rfl rfl) h1
  clear hA0 hval0
  refine (walk a0 a1 w0 w1 W).mono fun e W' ⟨he, bel⟩ => ?_
  subst he
  exact ⟨_, rfl, _, _, _, [], _, [], hW', trodAll_mk1 (shut_bool Try.underlying4 _), (trodAll_cons_mk (Below.trod laidOut (by kernel_rfl) (of_decide_eq_true (by kernel_rfl)) k0 bel lt0) (trodAll_cons_mk (Below.trod laidOut (by kernel_rfl) (of_decide_eq_true (by kernel_rfl)) k1 bel lt1) trodAll_mk0)), rfl, bel.frame _, fun h => by cases h⟩

theorem over : Rows.bitsShortRow.holds Try.pinned (OpenSpec.ofChange Rows.bitsShortSpec) :=
  OpenClaim.holds_of_wide 6 Try.f6 rfl rfl rfl rfl rfl rfl rfl ⟨rfl, rfl, rfl, rfl, rfl⟩ rfl rfl rfl rfl rfl (by kernel_rfl) Try.func6 (by kernel_rfl)
    (of_decide_eq_true (by kernel_rfl)) (by unfold Func.isWrapper; first | (rw [if_pos (by decide +kernel)]; kernel_rfl) | (rw [if_neg (by decide +kernel)]; exact ⟨rfl, rfl⟩))
    (fun os started H enc _ => lifted os started H enc)

theorem proved : Rows.BitsShortSaid :=
  over
#print axioms proved
end Go.Proofs.Ytbdjgpnodcepeaa.bitsShort

/- A row has 35 bits, 17 of each command, and 40 more of each that fires. -/
import Derived.Test.YtodfgekhffeapaaRows
import Derived.Test.YtodfgekhffeapaaCmdWalks
import Derived.Test.YtodfgekhffeapaaCmdLaw
import Derived.Test.YtodfgekhffeapaaBitWr
import Derived.Test.YtodfgekhffeapaaFlat
import Derived.WalkKit
import Derived.ProofKit
import Derived.OpenShut
import Derived.ChangeOld
import Derived.Below
import Derived.WalkSmall
import Derived.Lib.SmallJoins
import Derived.Laws.IdiomArrays
namespace Go.Proofs.Ytodfgekhffeapaa.commandSizes
open Go.ChangeShapes Go.WideShapes Go.ChangeAt Go.RowKit
set_option linter.unusedVariables false

theorem own : ownKnob Try.prog.godebug = none := by kernel_rfl
theorem laidOut : laidOutB Try.prog = true := by kernel_rfl

set_option maxRecDepth 20000 in
set_option maxHeartbeats 4000000 in
theorem walk (a0_o : Option Addr) (a0_n a0_c : Nat) (a0_l : List (Cm.C)) (w0_m : a0_n ≤ maxLen) (w0_l : a0_n ≤ a0_c) (w0_e : a0_l.length = a0_n) (w0_k : ∀ a ∈ a0_l, AllOk [.int .u32, .int .i8, .int .i8, .bool, .int .u32, .int .u8] (cmEnc a)) (w : World) (w0 : RowOf 6 cmEnc a0_o a0_l w) :
    Calls Try.prog 7 #[.slice a0_o a0_n a0_c] w fun e w' => e = .returned (.bool true) ∧ Below w.heap.size w w' := by
  have K := CmW.contracts
  unfold maxLen at w0_m
  have hw : ∀ c ∈ a0_l, c.wf := fun c hc => cm_wf (w0_k c hc)
  have hlen : (a0_l.length : Int) ≤ 9223372036854775807 := by omega
  have kA := CmL.awake_any K
  have kR := fun (u : World) (hr : RowOf 6 cmEnc a0_o a0_l u) => K.row a0_o a0_c a0_l hw u hr hlen
  have kP := fun (u : World) (F : List Nat) (p : Nat) (hp : PW p [] F u) (hr : RowOf 6 cmEnc a0_o a0_l u) (hd : ∀ a, a0_o = some a → a.block ∉ F) => K.put p [] F a0_o a0_c a0_l hw u hp (by simp) hr hlen (fun a ha _ => hd a ha)
  rw [w0_e] at kR kP
  have HE : Hid (a0_l.length = a0_n) := w0_e
  clear w0_e hlen w0_k
  by_cases hrow : Cm.row a0_l = true
  · have h8 : (a0_n : Int) ≤ 8 := by have := (Cm.row_iff a0_l).1 hrow; have := HE.out; omega
    have HROW : Hid (Cm.row a0_l = true) := hrow
    simp only [hrow, if_true, List.nil_append] at kR kP
    clear hrow
    go_enter Try.func7, Try.ntmps7
    go_wp2_with (first | (go_at_call 9; (with_reducible refine (kA _).mono ?_); rintro e u0 ⟨rfl, HT0⟩) | (go_at_call 14; (with_reducible refine (kR _ (w0.turned HT0 (by simp))).mono ?_); rintro e u1 ⟨rfl, HT1⟩))
    have HT2 : Turned [] w (u1.alloc (.cells #[.slice none 0 0, .int .i64 0] 31)) := (HT0.trans HT1 (by simp)).alloc _
    have hr2 := w0.turned HT2 (by simp)
    have hp0 := PW.new u1 31
    have hblk : ∀ a, a0_o = some a → a0_n ≠ 0 → a.block < u1.heap.size := by
      intro a ha hn
      obtain ⟨c, hc⟩ : ∃ c, a0_l[0]? = some c := ⟨_, List.getElem?_eq_getElem (by have := HE.out; omega)⟩
      obtain ⟨b, off, ho, hlt, _⟩ := (w0.turned (HT0.trans HT1 (by simp)) (by simp)) 0 c hc
      rw [ho] at ha
      simp at ha
      subst ha
      exact hlt
    have hd0 : ∀ a, a0_o = some a → a.block ∉ [u1.heap.size] := by
      intro a ha
      have := hblk a ha (by have := (Cm.row_iff a0_l).1 HROW.out; have := HE.out; omega)
      simp; omega
    have kP0 := kP _ _ _ hp0 hr2 hd0
    clear kP hblk hd0
    go_loop [4, 5] (fun nv i => ∃ k : Nat, k ≤ a0_n ∧ i = .int .i64 (k : Int) ∧ nv = .int .i64 ((35 + Cm.size (a0_l.take k) : Nat) : Int)) (fun _ i => a0_n - (intOf i).toNat)
    case atStart => exact ⟨0, by omega, rfl, rfl⟩
    case round =>
      obtain ⟨k, hk, rfl, rfl⟩ := hrel
      by_cases hlt : (k : Int) < (a0_n : Int)
      · obtain ⟨c, hc⟩ : ∃ c, a0_l[k]? = some c := ⟨_, List.getElem?_eq_getElem (by have := HE.out; omega)⟩
        obtain ⟨g, off, rfl, hg, _, _, _, p3, _, _⟩ := cm_at hr2 hc
        have HZ : Hid (Cm.size (a0_l.take (k + 1)) = Cm.size (a0_l.take k) + (if c.f then 57 else 17)) := Cm.size_take hc
        have hz : (35 + Cm.size (a0_l.take k) : Nat) ≤ 35 + 57 * 8 := by
          have := Cm.size_le (a0_l.take k)
          rw [List.length_take] at this
          omega
        obtain ⟨Z, hZ⟩ : ∃ Z, Z = 35 + Cm.size (a0_l.take k) := ⟨_, rfl⟩
        have HZ2 : Hid (35 + Cm.size (a0_l.take (k + 1)) = Z + (if c.f then 57 else 17)) := by show _ = _; rw [HZ.out]; omega
        rw [← hZ] at hz ⊢
        have hz' : (Z : Int) ≤ 491 := by omega
        clear hz hZ HZ hc
        cases hf : c.f with
        | true =>
          rw [hf] at p3 HZ2
          go_wp2_with fail
          go_round
          case rel => exact ⟨k + 1, by omega, by go_num, by rw [HZ2.out]; simp; omega⟩
          case measure => simp [intOf]; omega
        | false =>
          rw [hf] at p3 HZ2
          go_wp2_with fail
          go_round
          case rel => exact ⟨k + 1, by omega, by go_num, by rw [HZ2.out]; simp⟩
          case measure => simp [intOf]; omega
      · have hk' : a0_n = k := by omega
        subst hk'
        have hsz : ((35 + Cm.size (a0_l.take a0_n) : Nat) : Int) = ((Cm.all a0_l).length : Int) := by
          rw [Cm.all_length, ← HE.out, List.take_length]
        rw [hsz]
        have kC := fun (F : List Nat) (u : World) (h : PW u1.heap.size (Cm.all a0_l) F u) => BtW.count_any u1.heap.size (Cm.all a0_l) F u h
        obtain ⟨Z, hZ⟩ : ∃ Z, Z = (Cm.all a0_l).length := ⟨_, rfl⟩
        rw [← hZ] at kC ⊢
        clear hsz hZ
        go_wp2_with (first | (go_at_call 10; (with_reducible refine kP0.mono ?_); rintro e u2 ⟨rfl, F2, hp2, hm2⟩) | (go_at_call 30; (with_reducible refine (kC _ _ hp2).mono ?_); rintro e u3 ⟨rfl, rfl⟩))
        go_ret
        exact ⟨rfl, hm2.below HT2.none (by have := HT2.size; omega) (by intro k hk; simp at hk; have := (HT0.trans HT1 (S' := []) (by simp)).size; omega)⟩
  · have hrf : Cm.row a0_l = false := by simpa using hrow
    simp only [hrf] at kR
    clear kP hrow hrf
    have HT0 : Turned [] w w := Turned.refl _ _
    go_enter Try.func7, Try.ntmps7
    go_wp2_with (first | (go_at_call 14; (with_reducible refine (kR _ (w0.turned HT0 (by simp))).mono ?_); rintro e u1 ⟨rfl, HT1⟩; have HT0 := HT0.trans HT1 (by simp)) | (go_at_call 9; (with_reducible refine (kA _).mono ?_); rintro e u0 ⟨rfl, HT1⟩; have HT0 := HT0.trans HT1 (by simp)))
    go_ret
    exact ⟨rfl, HT0.none⟩

set_option maxRecDepth 100000 in
theorem lifted (os : Os) (started : os.Started) (H : Type) (enc : TypeId × Value → H) :
    ReturnsInHanded {} Try.checked os 7 .any (Rows.commandSizesSpec.pre6 enc Try.prog Try.f7 Rows.commandSizesRow.domain false) (Rows.commandSizesSpec.post enc Try.prog Try.f7 false true false false) := by
  refine returnsInHanded_of_change (C := Try.checked) own started (by kernel_rfl) Try.func7
    (ChangeSpec.witness6 (enc := enc) (C := Try.checked) false ⟨#[], #[.slice none 0 0], []⟩ 8 (by kernel_rfl) (by kernel_rfl) (by kernel_rfl) (by kernel_rfl)) ?_
  intro W base args ds gs before hval0 hW hcnd _
  have hval : ∀ (j : Nat) t v, Try.f7.params[j]? = some t → args[j]? = some v → Value.okWide Try.prog W .any base t v := hval0
  have hW' := hW
  obtain ⟨p, q, hA0, hV, rfl, hfz, hnd⟩ := hW
  have hA : DataW.TrodAll enc Try.prog W 0 (fun _ => true) true Try.f7.params.toList args.toList ds p := hA0
  rw [Try.params7] at hA hval
  obtain ⟨v0, vs0, d0, ds0, p0, q0, hargs, rfl, rfl, h0, r0⟩ := trodAll_cons hA
  obtain ⟨rfl, rfl, rfl⟩ := trodAll_nil r0
  obtain rfl : args = #[v0] := by cases args; simp_all
  obtain ⟨rfl, rfl⟩ := trodVars_none hV
  have k0 := h0
  have lt0 : ∀ x ∈ p0, x.block < W.heap.size := by obtain ⟨m, hm⟩ := k0; exact DataW.trod_lt m _ _ _ hm
  obtain ⟨a0_o, a0_n, a0_c, a0_l, rfl, w0_m, w0_l, w0_e, w0, w0_k⟩ := open_flats (d := 8) (ks := [.int .u32, .int .i8, .int .i8, .bool, .int .u32, .int .u8]) cmEnc Try.underlying26 (by kernel_rfl) (by kernel_rfl) (by decide) cmEnc_of (hval 0 26 v0 rfl rfl) h0
  clear hA0 hval0
  refine (walk a0_o a0_n a0_c a0_l w0_m w0_l w0_e w0_k W w0).mono fun e W' ⟨he, bel⟩ => ?_
  subst he
  exact ⟨_, rfl, _, _, _, [], _, [], hW', trodAll_mk1 (shut_bool Try.underlying4 _), (trodAll_cons_mk (Below.trod laidOut (by kernel_rfl) (of_decide_eq_true (by kernel_rfl)) k0 bel lt0) trodAll_mk0), rfl, bel.frame _, fun h => by cases h⟩

theorem over : Rows.commandSizesRow.holds Try.pinned (OpenSpec.ofChange Rows.commandSizesSpec) :=
  OpenClaim.holds_of_wide 7 Try.f7 rfl rfl rfl rfl rfl rfl rfl ⟨rfl, rfl, rfl, rfl, rfl⟩ rfl rfl rfl rfl rfl (by kernel_rfl) Try.func7 (by kernel_rfl)
    (of_decide_eq_true (by kernel_rfl)) (by unfold Func.isWrapper; first | (rw [if_pos (by decide +kernel)]; kernel_rfl) | (rw [if_neg (by decide +kernel)]; exact ⟨rfl, rfl⟩))
    (fun os started H enc _ => lifted os started H enc)

theorem proved : Rows.CommandSizesSaid :=
  over
#print axioms proved
end Go.Proofs.Ytodfgekhffeapaa.commandSizes

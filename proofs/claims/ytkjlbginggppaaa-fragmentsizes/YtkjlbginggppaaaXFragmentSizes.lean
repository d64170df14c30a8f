/- A message's parts have 303 bytes each, but for the last one, together three of each and the message's: FragmentSizes returns true for every input, without a panic and without changing its arguments. -/
import Derived.Test.YtkjlbginggppaaaJ6
import Derived.Test.YtkjlbginggppaaaRows
import Derived.WalkKit
import Derived.ProofKit
import Derived.OpenShut
import Derived.ChangeOld
import Derived.Below
import Derived.WalkSmall
import Derived.Lib.SmallJoins
import Derived.Laws.IdiomArrays
namespace Go.Proofs.Ytkjlbginggppaaa.fragmentSizes
open Go.ChangeShapes Go.WideShapes Go.ChangeAt Go.RowKit
set_option linter.unusedVariables false

theorem own : ownKnob Try.prog.godebug = none := by kernel_rfl
theorem laidOut : laidOutB Try.prog = true := by kernel_rfl

/-- what is told of the parts' lengths -/
theorem sizes_cases (id : Nat) (M : List Nat) (n : Nat) (hn : n = M.length) :
    (n = 0 ∧ Fg.splitE M = 1 ∧ Fg.splitL id M = []) ∨ (4000 < n ∧ Fg.splitE M = 3 ∧ Fg.splitL id M = []) ∨ (1 ≤ n ∧ n ≤ 4000 ∧ Fg.splitE M = 0 ∧ (Fg.splitL id M).length = (n + 299) / 300 ∧ ∀ i, i < (n + 299) / 300 → ∃ y, (Fg.splitL id M)[i]? = some y ∧ y.length = 3 + min 300 (n - 300 * i)) := by
  subst hn
  rcases Nat.eq_zero_or_pos M.length with h0 | h0
  · exact .inl ⟨h0, Fg.splitE_no h0, Fg.splitL_no (by omega)⟩
  · by_cases h1 : 4000 < M.length
    · exact .inr (.inl ⟨h1, Fg.splitE_long h1, Fg.splitL_no (by omega)⟩)
    · refine .inr (.inr ⟨h0, by omega, Fg.splitE_ok ⟨h0, by omega⟩, ?_, ?_⟩)
      · rw [Fg.splitL_ok ⟨h0, by omega⟩, Fg.parts_len]; rfl
      · intro i hi
        rw [Fg.splitL_ok ⟨h0, by omega⟩]
        exact ⟨_, Fg.parts_at hi, by rw [Fg.bytes_len]; show 3 + (Fg.piece M i).length = _; rw [Fg.piece_len]⟩

set_option linter.unusedSimpArgs false in
set_option maxRecDepth 20000 in
set_option maxHeartbeats 8000000 in
theorem walk (a0_0 : Int) (a0_1 : Int) (a0_2 : Int) (w0_0 : (Lit.int .u16 a0_0).wf = true) (w0_1 : (Lit.int .u16 a0_1).wf = true) (w0_2 : (Lit.int .u8 a0_2).wf = true) (w : World) :
    Calls Try.prog 7 #[.agg #[.int .u16 a0_0, .int .u16 a0_1, .int .u8 a0_2]] w fun e w' => e = .returned (.bool true) ∧ Below w.heap.size w w' := by
  obtain ⟨id, rfl, hid⟩ := FgL.u16_nat w0_0
  obtain ⟨size, rfl, hs⟩ := FgL.u16_nat w0_1
  obtain ⟨x, rfl, hx⟩ := FgL.u8_nat w0_2
  clear w0_0 w0_1 w0_2
  have m8 := Fg.msg_lt size x
  have ml : (Fg.msg size x).length < 4200 := by rw [Fg.msg_len]; omega
  obtain ⟨M, hM⟩ : ∃ M, M = Fg.msg size x := ⟨_, rfl⟩
  have kB : ∀ u, Calls Try.prog 11 #[.agg #[.int .u16 (id : Int), .int .u16 (size : Int), .int .u8 (x : Int)]] u fun e u' => ∃ v, e = .returned v ∧ BytesAt v M u' ∧ Turned [] u u' := fun u => by rw [hM]; exact FgL.bytes_w id size x hs hx u
  rw [← hM] at m8 ml
  clear hM
  obtain ⟨n, hn⟩ : ∃ n, n = M.length := ⟨_, rfl⟩
  have kB2 : ∀ u, Calls Try.prog 11 #[.agg #[.int .u16 (id : Int), .int .u16 (size : Int), .int .u8 (x : Int)]] u fun e u' => ∃ o c, e = .returned (.slice o n c) ∧ BytesAt (.slice o n c) M u' ∧ Turned [] u u' := fun u => (kB u).mono fun e u' ⟨v, he, hb, ht⟩ => by
    have hb2 := hb
    obtain ⟨o, c, rfl, rest⟩ := hb2
    exact ⟨o, c, by rw [hn]; exact he, by rw [hn]; exact hb, ht⟩
  have hcase := sizes_cases id M n hn
  have kS : ∀ u v, BytesAt v M u → Calls Try.prog 10 #[.int .u16 (id : Int), v] u fun e u' => ∃ o c, e = .returned (.tuple #[.slice o (Fg.splitL id M).length c, .int .i64 (Fg.splitE M)]) ∧ LsAt (.slice o (Fg.splitL id M).length c) (Fg.splitL id M) u' ∧ Turned [] u u' := fun u v hv => (FgL.split_w id v M u hid m8 hv).mono fun e u' ⟨v', he, hl, ht⟩ => by
    have hl2 := hl
    obtain ⟨o, c, Q, rfl, rest⟩ := hl2
    exact ⟨o, c, he, hl, ht⟩
  rw [← hn] at ml
  generalize Fg.splitE M = E at kS hcase
  generalize Fg.splitL id M = X at kS hcase
  clear kB m8 hn hid hs hx
  go_enter Try.func7, Try.ntmps7
  go_wp2_with fail
  obtain ⟨W0, hW0⟩ : ∃ W, W = w.alloc (.cells #[.int .u16 (id : Int), .int .u16 (size : Int), .int .u8 (x : Int)] 24) := ⟨_, rfl⟩
  obtain ⟨B, hB⟩ : ∃ B, B = w.heap.size := ⟨_, rfl⟩
  rw [← hW0, ← hB]
  have TW : Turned [] w W0 := by rw [hW0]; exact (Turned.refl [] w).alloc _
  have hS : Struct B [.int .u16 (id : Int), .int .u16 (size : Int), .int .u8 (x : Int)] W0 := by rw [hW0, hB]; exact Struct.new w [.int .u16 (id : Int), .int .u16 (size : Int), .int .u8 (x : Int)] _
  clear hW0 hB
  have HT0 : Turned [] W0 W0 := Turned.refl _ _
  have three : ∀ u, Turned [] W0 u → u.cell? ⟨B, 0, none⟩ = some (.int .u16 (id : Int)) ∧ u.cell? ⟨B, 1, none⟩ = some (.int .u16 (size : Int)) ∧ u.cell? ⟨B, 2, none⟩ = some (.int .u8 (x : Int)) := fun u hu => FgL.three hS hu
  clear hS
  obtain ⟨c0, c1, c2⟩ := three _ HT0
  go_wp2_with (first
    | (go_at_call 11; (with_reducible refine (kB2 _).mono ?_); rintro e u1 ⟨o1, c1', rfl, HB1, HT1⟩; have HTa : Turned [] W0 u1 := HT0.trans HT1 (by simp); obtain ⟨d0, d1, d2⟩ := three _ HTa)
    | (go_at_call 10; (with_reducible refine (kS _ _ HB1).mono ?_); rintro e u2 ⟨o2, c2', rfl, HL1, HT2⟩; have HTb : Turned [] W0 u2 := HTa.trans HT2 (by simp); clear HT1 HT2 HB1 HTa))
  rcases hcase with ⟨h0, rfl, rfl⟩ | ⟨h1, rfl, rfl⟩ | ⟨h1, h2, rfl, hX, hY⟩
  · subst h0
    go_wp2_with (go_at_call 9; (with_reducible refine (FgL.awake_any _).mono ?_); rintro e u3 ⟨rfl, HT3⟩; have HTc := HTb.trans HT3 (by simp))
    go_loopw [6, 7] (fun s i wr => s = .int .i64 0 ∧ i = .int .i64 0 ∧ Turned [] W0 wr) (fun s i _ => 0)
    case atStart => exact ⟨rfl, rfl, HTc⟩
    case round =>
      obtain ⟨rfl, rfl, hT2⟩ := hrel
      go_wp2_with fail
      go_ret
      exact ⟨rfl, (TW.trans hT2 (by simp)).none⟩
  · have h1' : (4000 : Int) < (n : Int) := by omega
    have h1'' : ¬ (n : Int) = 0 := by omega
    go_wp2_with (go_at_call 9; (with_reducible refine (FgL.awake_any _).mono ?_); rintro e u3 ⟨rfl, HT3⟩; have HTc := HTb.trans HT3 (by simp))
    go_loopw [6, 7] (fun s i wr => s = .int .i64 0 ∧ i = .int .i64 0 ∧ Turned [] W0 wr) (fun s i _ => 0)
    case atStart => exact ⟨rfl, rfl, HTc⟩
    case round =>
      obtain ⟨rfl, rfl, hT2⟩ := hrel
      go_wp2_with fail
      go_ret
      exact ⟨rfl, (TW.trans hT2 (by simp)).none⟩
  · have h1' : ¬ (4000 : Int) < (n : Int) := by omega
    have h1'' : ¬ (n : Int) = 0 := by omega
    obtain ⟨N, hN⟩ : ∃ N, N = (n + 299) / 300 := ⟨_, rfl⟩
    rw [← hN] at hX hY
    rw [hX] at HL1 ⊢
    have HN : Hid (N = (n + 299) / 300) := hN
    have hN40 : (N : Int) ≤ 14 := by omega
    clear hX hN kS
    go_wp2_with (go_at_call 9; (with_reducible refine (FgL.awake_any _).mono ?_); rintro e u3 ⟨rfl, HT3⟩; have HTc := HTb.trans HT3 (by simp); have HL2 := HL1.on HT3)
    · exfalso
      rename_i hh
      rw [beq_iff_eq] at hh
      omega
    · have HL : Hid (LsAt (.slice o2 N c2') X u3) := HL2
      have HT : Hid (Turned [] W0 u3) := HTc
      clear HL2 HTc HL1 HTb
      go_loopw [6, 7] (fun s i wr => ∃ k : Nat, k ≤ N ∧ i = .int .i64 (k : Int) ∧ s = .int .i64 ((min (300 * k) n : Nat) : Int) ∧ Turned [] u3 wr) (fun s i _ => N - (intOf i).toNat)
      case atStart => exact ⟨0, by omega, rfl, by simp, Turned.refl _ _⟩
      case round =>
        obtain ⟨k, hk, rfl, rfl, hT2⟩ := hrel
        by_cases hlt : (k : Int) < (N : Int)
        · obtain ⟨y, hy, hyl⟩ := hY k (by omega)
          obtain ⟨g1, q1, v1, rfl, hg1, e1, B1⟩ := (HL.out.on hT2).elem hy
          obtain ⟨p1, cc1, rfl, _, _, _⟩ := B1
          obtain ⟨p, hp⟩ : ∃ p, p = y.length := ⟨_, rfl⟩
          rw [← hp] at e1 hyl
          clear hp hy
          obtain ⟨q, hq⟩ : ∃ q : Nat, q = min (300 * k) n := ⟨_, rfl⟩
          rw [← hq]
          have hN := HN.out
          by_cases hl : k + 1 < N
          · have hp : p = 303 := by omega
            subst hp
            have hl' : (k : Int) + 1 < (N : Int) := by omega
            have hq2 : q + 300 = min (300 * (k + 1)) n := by omega
            have hqb : (q : Int) ≤ 4200 := by omega
            have HQ : Hid (q + 300 = min (300 * (k + 1)) n) := hq2
            clear hyl hN hq hq2
            go_wp2_with fail
            go_roundw
            all_goals first | exact ⟨k + 1, by omega, by go_num, by rw [← HQ.out]; go_num, hT2⟩ | (simp [intOf]; omega)
          · have hp1 : ¬ (p : Int) < 4 := by omega
            have hp2 : ¬ (303 : Int) < (p : Int) := by omega
            have hl' : ¬ (k : Int) + 1 < (N : Int) := by omega
            have hq2 : q + (p - 3) = min (300 * (k + 1)) n := by omega
            have hqb : (q : Int) ≤ 4200 := by omega
            have HQ : Hid (q + (p - 3) = min (300 * (k + 1)) n) := hq2
            have hp3 : 4 ≤ p := by omega
            clear hyl hN hq hq2
            go_wp2_with fail
            go_roundw
            all_goals first | exact ⟨k + 1, by omega, by go_num, by rw [← HQ.out]; go_num, hT2⟩ | (simp [intOf]; omega)
        · have hk' : k = N := by omega
          have hq : min (300 * k) n = n := by have := HN.out; omega
          rw [hq]
          clear hq
          go_wp2_with fail
          go_ret
          exact ⟨rfl, (TW.trans (HT.out.trans hT2 (by simp)) (by simp)).none⟩

set_option maxRecDepth 100000 in
theorem lifted (os : Os) (started : os.Started) (H : Type) (enc : TypeId × Value → H) :
    ReturnsInHanded {} Try.checked os 7 .any (Rows.fragmentSizesSpec.pre6 enc Try.prog Try.f7 Rows.fragmentSizesRow.domain false) (Rows.fragmentSizesSpec.post enc Try.prog Try.f7 false true false false) := by
  refine returnsInHanded_of_change (C := Try.checked) own started (by kernel_rfl) Try.func7
    (ChangeSpec.witness6 (enc := enc) (C := Try.checked) false ⟨#[], #[.agg #[.int .u16 0, .int .u16 0, .int .u8 0]], []⟩ 8 (by kernel_rfl) (by kernel_rfl) (by kernel_rfl) (by kernel_rfl)) ?_
  intro W base args ds gs before hval0 hW hcnd _
  have hval : ∀ (j : Nat) t v, Try.f7.params[j]? = some t → args[j]? = some v → Value.okWide Try.prog W .any base t v := hval0
  have hW' := hW
  obtain ⟨p, q, hA0, hV, rfl, hfz, hnd⟩ := hW
  have hA : DataW.TrodAll enc Try.prog W 0 (fun _ => true) true Try.f7.params.toList args.toList ds p := hA0
  rw [Try.params7] at hA hval
  obtain ⟨v0, vs0, d0, ds0, p0, q0, hargs, rfl, rfl, h0, r0⟩ := trodAll_cons hA
  obtain ⟨rfl, rfl, rfl⟩ := trodAll_nil r0
  obtain rfl : args = #[v0] := by cases args; simp_all
  obtain ⟨rfl, rfl⟩ := trodVars_none hV
  have k0 := h0
  have lt0 : ∀ x ∈ p0, x.block < W.heap.size := by obtain ⟨m, hm⟩ := k0; exact DataW.trod_lt m _ _ _ hm
  obtain ⟨u0_0, u0_1, u0_2, y0_0, y0_1, y0_2, m0, rfl, _, _, g0_0, g0_1, g0_2⟩ := Go.Joins.open_agg3 Try.underlying24 (by kernel_rfl) (by kernel_rfl) (hval 0 24 v0 rfl rfl) h0
  obtain ⟨a0_0, e0_0, _, w0_0⟩ := DataW.trod_int Try.underlying22 g0_0
  simp at e0_0
  subst e0_0
  obtain ⟨a0_1, e0_1, _, w0_1⟩ := DataW.trod_int Try.underlying22 g0_1
  simp at e0_1
  subst e0_1
  obtain ⟨a0_2, e0_2, _, w0_2⟩ := DataW.trod_int Try.underlying5 g0_2
  simp at e0_2
  subst e0_2
  clear hA0 hval0
  refine (walk a0_0 a0_1 a0_2 w0_0 w0_1 w0_2 W).mono fun e W' ⟨he, bel⟩ => ?_
  subst he
  exact ⟨_, rfl, _, _, _, [], _, [], hW', trodAll_mk1 (shut_bool Try.underlying4 _), (trodAll_cons_mk (Below.trod laidOut (by kernel_rfl) (of_decide_eq_true (by kernel_rfl)) k0 bel lt0) trodAll_mk0), rfl, bel.frame _, fun h => by cases h⟩

theorem over : Rows.fragmentSizesRow.holds Try.pinned (OpenSpec.ofChange Rows.fragmentSizesSpec) :=
  OpenClaim.holds_of_wide 7 Try.f7 rfl rfl rfl rfl rfl rfl rfl ⟨rfl, rfl, rfl, rfl, rfl⟩ rfl rfl rfl rfl rfl (by kernel_rfl) Try.func7 (by kernel_rfl)
    (of_decide_eq_true (by kernel_rfl)) (by unfold Func.isWrapper; first | (rw [if_pos (by decide +kernel)]; kernel_rfl) | (rw [if_neg (by decide +kernel)]; exact ⟨rfl, rfl⟩))
    (fun os started H enc _ => lifted os started H enc)

theorem proved : Rows.FragmentSizesSaid :=
  over
#print axioms proved
end Go.Proofs.Ytkjlbginggppaaa.fragmentSizes

/- A part that is fed twice is refused the second time, as long as its message isn't whole, and the message comes all the same: FragmentTwice returns true for every input, without a panic and without changing its arguments. -/
import Derived.Test.YtkjlbginggppaaaJ6
import Derived.Test.YtkjlbginggppaaaRows
import Derived.WalkKit
import Derived.ProofKit
import Derived.OpenShut
import Derived.ChangeOld
import Derived.Below
import Derived.WalkSmall
import Derived.Lib.SmallJoins
import Derived.Laws.IdiomArrays
namespace Go.Proofs.Ytkjlbginggppaaa.fragmentTwice
open Go.ChangeShapes Go.WideShapes Go.ChangeAt Go.RowKit
set_option linter.unusedVariables false

theorem own : ownKnob Try.prog.godebug = none := by kernel_rfl
theorem laidOut : laidOutB Try.prog = true := by kernel_rfl

/-- what is told of the parts -/
theorem twice_cases (id : Nat) (M : List Nat) : (Fg.splitE M ≠ 0 ∧ Fg.splitL id M = []) ∨ (Fg.splitE M = 0 ∧ 1 ≤ M.length ∧ M.length ≤ 4000 ∧ (Fg.splitL id M).length = Fg.many M ∧ ∀ i, i < Fg.many M → (Fg.splitL id M)[i]? = some (Fg.bytes (Fg.part id M i))) := by
  rcases Nat.eq_zero_or_pos M.length with h0 | h0
  · exact .inl ⟨by rw [Fg.splitE_no h0]; decide, Fg.splitL_no (by omega)⟩
  · by_cases h1 : 4000 < M.length
    · exact .inl ⟨by rw [Fg.splitE_long h1]; decide, Fg.splitL_no (by omega)⟩
    · refine .inr ⟨Fg.splitE_ok ⟨h0, by omega⟩, h0, by omega, ?_, ?_⟩
      · rw [Fg.splitL_ok ⟨h0, by omega⟩, Fg.parts_len]
      · intro i hi
        rw [Fg.splitL_ok ⟨h0, by omega⟩]
        exact Fg.parts_at hi
theorem amod_in {a : Int} {n : Nat} (ha : 0 ≤ a) (hn : 1 ≤ n) : ∃ k : Nat, a.tmod (n : Int) = (k : Int) ∧ k < n := by
  have h1 : a.tmod (n : Int) = a % (n : Int) := Int.tmod_eq_emod_of_nonneg ha
  have h2 := Int.emod_nonneg a (show (n : Int) ≠ 0 by omega)
  have h3 := Int.emod_lt_of_pos a (show (0 : Int) < (n : Int) by omega)
  exact ⟨(a.tmod (n : Int)).toNat, by rw [h1]; omega, by rw [h1]; omega⟩

set_option linter.unusedSimpArgs false in
set_option maxRecDepth 20000 in
set_option maxHeartbeats 8000000 in
theorem walk (a0_0 : Int) (a0_1 : Int) (a0_2 : Int) (a1 : Int) (w0_0 : (Lit.int .u16 a0_0).wf = true) (w0_1 : (Lit.int .u16 a0_1).wf = true) (w0_2 : (Lit.int .u8 a0_2).wf = true) (w1 : (Lit.int .u8 a1).wf = true) (w : World) :
    Calls Try.prog 8 #[.agg #[.int .u16 a0_0, .int .u16 a0_1, .int .u8 a0_2], .int .u8 a1] w fun e w' => e = .returned (.bool true) ∧ Below w.heap.size w w' := by
  obtain ⟨ID, rfl, hid⟩ := FgL.u16_nat w0_0
  obtain ⟨size, rfl, hs⟩ := FgL.u16_nat w0_1
  obtain ⟨x, rfl, hx⟩ := FgL.u8_nat w0_2
  obtain ⟨at_, rfl, hat⟩ := FgL.u8_nat w1
  clear w0_0 w0_1 w0_2 w1
  have m8 := Fg.msg_lt size x
  have ml : (Fg.msg size x).length < 4200 := by rw [Fg.msg_len]; omega
  obtain ⟨M, hM⟩ : ∃ M, M = Fg.msg size x := ⟨_, rfl⟩
  have kB : ∀ u, Calls Try.prog 11 #[.agg #[.int .u16 (ID : Int), .int .u16 (size : Int), .int .u8 (x : Int)]] u fun e u' => ∃ v, e = .returned v ∧ BytesAt v M u' ∧ Turned [] u u' := fun u => by rw [hM]; exact FgL.bytes_w ID size x hs hx u
  rw [← hM] at m8 ml
  clear hM
  have hcase := twice_cases ID M
  have kS : ∀ u v, BytesAt v M u → Calls Try.prog 10 #[.int .u16 (ID : Int), v] u fun e u' => ∃ o c, e = .returned (.tuple #[.slice o (Fg.splitL ID M).length c, .int .i64 (Fg.splitE M)]) ∧ LsIn u'.heap.size (.slice o (Fg.splitL ID M).length c) (Fg.splitL ID M) u' ∧ Turned [] u u' := fun u v hv => (FgL.split_in ID v M u hid m8 hv).mono fun e u' ⟨v', he, hl, ht⟩ => by
    have hl2 := hl
    obtain ⟨o, c, Q, rfl, rest⟩ := hl2
    exact ⟨o, c, he, hl, ht⟩
  generalize hE : Fg.splitE M = E at kS hcase
  generalize hXX : Fg.splitL ID M = X at kS hcase
  clear hE hXX hs hx
  have PK : Hid (ID < 65536 ∧ (∀ y ∈ M, y < 256) ∧ M.length < 4200) := ⟨hid, m8, ml⟩
  clear hid m8 ml
  go_enter Try.func8, Try.ntmps8
  go_wp2_with fail
  obtain ⟨W0, hW0⟩ : ∃ W, W = w.alloc (.cells #[.int .u16 (ID : Int), .int .u16 (size : Int), .int .u8 (x : Int)] 24) := ⟨_, rfl⟩
  obtain ⟨B, hB⟩ : ∃ B, B = w.heap.size := ⟨_, rfl⟩
  rw [← hW0, ← hB]
  have TW : Turned [] w W0 := by rw [hW0]; exact (Turned.refl [] w).alloc _
  have hS : Struct B [.int .u16 (ID : Int), .int .u16 (size : Int), .int .u8 (x : Int)] W0 := by rw [hW0, hB]; exact Struct.new w [.int .u16 (ID : Int), .int .u16 (size : Int), .int .u8 (x : Int)] _
  clear hW0 hB
  have HT0 : Turned [] W0 W0 := Turned.refl _ _
  have three : ∀ u, Turned [] W0 u → u.cell? ⟨B, 0, none⟩ = some (.int .u16 (ID : Int)) ∧ u.cell? ⟨B, 1, none⟩ = some (.int .u16 (size : Int)) ∧ u.cell? ⟨B, 2, none⟩ = some (.int .u8 (x : Int)) := fun u hu => FgL.three hS hu
  clear hS
  obtain ⟨c0, c1, c2⟩ := three _ HT0
  go_wp2_with (first
    | (go_at_call 11; (with_reducible refine (kB _).mono ?_); rintro e u1 ⟨v1, rfl, HB1, HT1⟩; have HTa : Turned [] W0 u1 := HT0.trans HT1 (by simp); obtain ⟨d0, d1, d2⟩ := three _ HTa)
    | (go_at_call 10; (with_reducible refine (kS _ _ HB1).mono ?_); rintro e u2 ⟨o2, c2', rfl, HL1, HT2⟩; have HTb : Turned [] W0 u2 := HTa.trans HT2 (by simp); have HB2 := HB1.keep HT2 (by simp); clear HT1 HT2 HB1 HTa))
  have HBlt := HB2.lt
  rcases hcase with ⟨h0, rfl⟩ | ⟨rfl, hn1, hn2, hX, hY⟩
  · go_wp2_with (go_at_call 9; (with_reducible refine (FgL.awake_any _).mono ?_); rintro e u3 ⟨rfl, HT3⟩; have HTb := HTb.trans HT3 (by simp))
    go_ret
    exact ⟨rfl, (TW.trans HTb (by simp)).none⟩
  · obtain ⟨N, hN⟩ : ∃ N, N = Fg.many M := ⟨_, rfl⟩
    have HN : Hid (N = Fg.many M) := hN
    have hN14 : (N : Int) ≤ 14 := by rw [hN]; unfold Fg.many; omega
    rw [← hN] at hX hY
    rw [hX] at HL1 ⊢
    clear hX kS hN
    by_cases h2 : (N : Int) < 2
    · go_wp2_with (go_at_call 9; (with_reducible refine (FgL.awake_any _).mono ?_); rintro e u3 ⟨rfl, HT3⟩; have HTb := HTb.trans HT3 (by simp))
      go_ret
      exact ⟨rfl, (TW.trans HTb (by simp)).none⟩
    · obtain ⟨k, hk, hkN⟩ := amod_in (a := (at_ : Int)) (n := N) (by omega) (by omega)
      have hkN' : (k : Int) < (N : Int) := by omega
      obtain ⟨g, o, v0, rfl, _, _, _, _⟩ := HL1.elem (k := k) (hY k hkN)
      have hid : ∀ m m', m < 4 → m' < 4 → (fun m => ID + m) m = (fun m => ID + m) m' → m = m' := fun m m' _ _ h => by simp only at h; omega
      have HPx : ∀ i, PartOk (fun m => ID + m) (fun _ => M) (0, i) := fun i => ⟨PK.out.1, PK.out.2.1, Nat.le_of_lt PK.out.2.2⟩
      obtain ⟨hp0, htw⟩ := Fg.Tw.start (M := M) (k := k) (by rw [← HN.out]; exact hkN)
      have hc0 : 0 < Fg.cnt 0 ((Fg.sole M).erase (0, k)) := by rw [htw.cnt, ← HN.out]; omega
      have hin : Fg.Inv (fun _ => M) [] (Fg.sole M) := Fg.start_inv (Fg.sole_nd M)
      have HL : ∀ u S, Turned S u2 u → (∀ q ∈ S, u2.heap.size ≤ q) → ∀ i, i < N → ∃ v, u.cell? ⟨g, o + i, none⟩ = some v ∧ BytesAt v (Fg.bytes (Fg.pt (fun m => ID + m) (fun _ => M) (0, i))) u := fun u S hu hS i hi => by
        obtain ⟨g', o', v, e, _, hc, hb, _⟩ := (HL1.on hu hS).elem (hY i hi)
        cases e
        exact ⟨v, hc, hb⟩
      go_wp2_with (first
        | (go_at_call 9; (with_reducible refine (FgL.awake_any _).mono ?_); rintro e u3 ⟨rfl, HT3⟩; have HTc := HTb.trans HT3 (by simp); have HR0 := Runs.new (w := u3) (id := fun m => ID + m) 40 hin; have HA : u2.heap.size ≤ u3.heap.size := HT3.size; have HT4 : Turned [u3.heap.size] u2 (u3.alloc (.cells #[.slice none 0 0] 40)) := (HT3.alloc _).mono (by simp); obtain ⟨v4, hc4, hb4⟩ := HL _ _ HT4 (by simpa using HA) k hkN)
        | (go_at_call 14; (with_reducible refine (FgL.feed_more hid HR0 (HPx k) hb4 hp0 hc0).mono ?_); rintro e u5 ⟨v5, rfl, HR1, HT5⟩; have HT6 := HT4.trans HT5 (by simp); obtain ⟨v6, hc6, hb6⟩ := HL _ _ HT6 (by simpa using HA) k hkN; clear HR0 HT5 hc4 hb4)
        | (go_at_call 14; (with_reducible refine (FgL.feed_again HR1 (HPx k) hb6 (by simp)).mono ?_); rintro e u7 ⟨v7, rfl, HR2, HT7⟩; have HT8 := HT6.trans HT7 (by simp); clear HR1 HT7 HT6 HT4 hc6 hb6))
      obtain ⟨A, hA⟩ : ∃ A, A = u3.heap.size := ⟨_, rfl⟩
      rw [← hA] at HR2 HT8 HA ⊢
      clear hA
      obtain ⟨p2, cc2, rfl, hcc2, hr2, hb2⟩ := HB2
      have SM : Hid (∀ u va, Turned [A] u2 u → BytesAt va M u → ∃ p c, va = .slice p M.length c ∧ Calls Try.prog 16 #[.slice p M.length c, .slice p2 M.length cc2] u fun e u' => e = .returned (.bool true) ∧ Turned [] u u') := fun u va hu hv => by
        obtain ⟨p, c, rfl, _, hr, _⟩ := hv
        refine ⟨p, c, rfl, (BtL.same_any p p2 c cc2 M M u hr (hr2.turned hu fun a ha hk => ?_) (by have := PK.out.2.2; omega) (by have := PK.out.2.2; omega)).mono ?_⟩
        · have h1 := (hb2 a ha).1
          have h3 : a.block = A := by simpa using hk
          omega
        · rintro e u' ⟨rfl, ht⟩
          exact ⟨by rw [decide_eq_true rfl], ht⟩
      have HLs : Hid (∀ u, Turned [A] u2 u → ∀ i, i < N → ∃ v, u.cell? ⟨g, o + i, none⟩ = some v ∧ BytesAt v (Fg.bytes (Fg.pt (fun m => ID + m) (fun _ => M) (0, i))) u) := fun u hu i hi => HL u _ hu (by simpa using HA) i hi
      have HHI : Hid (∀ m m', m < 4 → m' < 4 → (fun m => ID + m) m = (fun m => ID + m) m' → m = m') := hid
      have HHP : Hid (∀ i, PartOk (fun m => ID + m) (fun _ => M) (0, i)) := HPx
      have HTW : Hid (Turned [] w u2) := TW.trans HTb (by simp)
      have HAw : Hid (w.heap.size ≤ A) := Nat.le_trans HTW.out.size HA
      have HTw : Hid (Fg.Tw N k 0 (N - 1) ((Fg.sole M).erase (0, k))) := by show Fg.Tw _ _ _ _ _; rw [HN.out]; exact htw
      clear HL1 HL HPx hid hin hc0 hp0 htw HBlt hr2 hb2 hcc2 HTb HTc HT3 hY HA
      go_loopw [16, 17, 18, 19, 20] (fun lf i x y z wr => ∃ (j c : Nat) (K R : List (Nat × Nat)), j ≤ N ∧ c < N ∧ i = .int .i64 (j : Int) ∧ lf = .int .i64 (c : Int) ∧ Runs A (fun m => ID + m) (fun _ => M) K R wr ∧ Fg.Tw N k j c R ∧ Turned [A] u2 wr) (fun lf i x y z _ => N - (intOf i).toNat)
      case atStart => exact ⟨0, N - 1, _, _, Nat.zero_le _, by omega, rfl, by rw [show ((N - 1 : Nat) : Int) = (N : Int) - 1 by omega], HR2, HTw.out, HT8⟩
      case round =>
        obtain ⟨j, c, K, R, hj, hcN, rfl, rfl, hR, hTw, hT2⟩ := hrel
        clear HR2 HT8
        by_cases hlt : (j : Int) < (N : Int)
        · by_cases hjk : (j : Int) = (k : Int)
          · have hjk' : j = k := by omega
            go_wp2_with fail
            go_roundw
            all_goals first | exact ⟨j + 1, c, K, R, by omega, hcN, by go_num, rfl, hR, by rw [hjk'] at hTw ⊢; exact hTw.skip, hT2⟩ | (simp [intOf]; omega)
          · obtain ⟨hp, hTw2, hc1⟩ := hTw.step (i := j) (by omega) (by omega)
            have hcnt := hTw2.cnt
            obtain ⟨v, hcell, hbv⟩ := HLs.out _ hT2 j (by omega)
            by_cases h1 : c = 1
            · subst h1
              have kF := FgL.feed_last HHI.out hR (HHP.out j) hbv hp (by rw [hcnt])
              clear hcnt hp hbv
              go_wp2_with (first
                | (go_at_call 14; (with_reducible refine kF.mono ?_); rintro e u9 ⟨v9, rfl, hv9, HR9, HT9, _⟩; have HT10 := hT2.trans HT9 (by simp); obtain ⟨p9, c9, rfl, kS⟩ := SM.out u9 v9 HT10 hv9)
                | (go_at_call 16; (with_reducible refine kS.mono ?_); rintro e u10 ⟨rfl, HT11⟩))
              go_roundw
              all_goals first | exact ⟨j + 1, 0, _, _, by omega, by omega, by go_num, by go_num, HR9.on HT11, hTw2, HT10.trans HT11 (by simp)⟩ | (simp [intOf]; omega)
            · have kF := FgL.feed_more HHI.out hR (HHP.out j) hbv hp (by rw [hcnt]; omega)
              clear hcnt hp hbv
              have hc0 : ¬ (c : Int) - 1 = 0 := by omega
              go_wp2_with (go_at_call 14; (with_reducible refine kF.mono ?_); rintro e u9 ⟨v9, rfl, HR9, HT9⟩; have HT10 := hT2.trans HT9 (by simp))
              go_roundw
              all_goals first | exact ⟨j + 1, c - 1, _, _, by omega, by omega, by go_num, by go_num, HR9, hTw2, HT10⟩ | (simp [intOf]; omega)
        · have hj' : j = N := by omega
          have hR0 : R = [] := by rw [hj'] at hTw; exact hTw.done
          rw [hR0] at hR
          clear hTw hR0
          go_wp2_with (go_at_call 17; (with_reducible refine (FgL.waits_done hR).mono ?_); rintro e u9 ⟨rfl, HT9⟩)
          go_ret
          exact ⟨rfl, ((HTW.out.trans hT2 fun q hq hl => by have h1 := HAw.out; have h3 : q = A := (by simpa using hq); omega).trans HT9 (by simp)).none⟩

set_option maxRecDepth 100000 in
theorem lifted (os : Os) (started : os.Started) (H : Type) (enc : TypeId × Value → H) :
    ReturnsInHanded {} Try.checked os 8 .any (Rows.fragmentTwiceSpec.pre6 enc Try.prog Try.f8 Rows.fragmentTwiceRow.domain false) (Rows.fragmentTwiceSpec.post enc Try.prog Try.f8 false true false false) := by
  refine returnsInHanded_of_change (C := Try.checked) own started (by kernel_rfl) Try.func8
    (ChangeSpec.witness6 (enc := enc) (C := Try.checked) false ⟨#[], #[.agg #[.int .u16 0, .int .u16 0, .int .u8 0], .int .u8 0], []⟩ 8 (by kernel_rfl) (by kernel_rfl) (by kernel_rfl) (by kernel_rfl)) ?_
  intro W base args ds gs before hval0 hW hcnd _
  have hval : ∀ (j : Nat) t v, Try.f8.params[j]? = some t → args[j]? = some v → Value.okWide Try.prog W .any base t v := hval0
  have hW' := hW
  obtain ⟨p, q, hA0, hV, rfl, hfz, hnd⟩ := hW
  have hA : DataW.TrodAll enc Try.prog W 0 (fun _ => true) true Try.f8.params.toList args.toList ds p := hA0
  rw [Try.params8] at hA hval
  obtain ⟨v0, vs0, d0, ds0, p0, q0, hargs, rfl, rfl, h0, r0⟩ := trodAll_cons hA
  obtain ⟨v1, vs1, d1, ds1, p1, q1, rfl, rfl, rfl, h1, r1⟩ := trodAll_cons r0
  obtain ⟨rfl, rfl, rfl⟩ := trodAll_nil r1
  obtain rfl : args = #[v0, v1] := by cases args; simp_all
  obtain ⟨rfl, rfl⟩ := trodVars_none hV
  have k0 := h0
  have lt0 : ∀ x ∈ p0, x.block < W.heap.size := by obtain ⟨m, hm⟩ := k0; exact DataW.trod_lt m _ _ _ hm
  have k1 := h1
  have lt1 : ∀ x ∈ p1, x.block < W.heap.size := by obtain ⟨m, hm⟩ := k1; exact DataW.trod_lt m _ _ _ hm
  obtain ⟨u0_0, u0_1, u0_2, y0_0, y0_1, y0_2, m0, rfl, _, _, g0_0, g0_1, g0_2⟩ := Go.Joins.open_agg3 Try.underlying24 (by kernel_rfl) (by kernel_rfl) (hval 0 24 v0 rfl rfl) h0
  obtain ⟨a0_0, e0_0, _, w0_0⟩ := DataW.trod_int Try.underlying22 g0_0
  simp at e0_0
  subst e0_0
  obtain ⟨a0_1, e0_1, _, w0_1⟩ := DataW.trod_int Try.underlying22 g0_1
  simp at e0_1
  subst e0_1
  obtain ⟨a0_2, e0_2, _, w0_2⟩ := DataW.trod_int Try.underlying5 g0_2
  simp at e0_2
  subst e0_2
  obtain ⟨a1, rfl, _, _, w1⟩ := open_int Try.underlying5 (hval 1 5 v1 rfl rfl) h1
  clear hA0 hval0
  refine (walk a0_0 a0_1 a0_2 a1 w0_0 w0_1 w0_2 w1 W).mono fun e W' ⟨he, bel⟩ => ?_
  subst he
  exact ⟨_, rfl, _, _, _, [], _, [], hW', trodAll_mk1 (shut_bool Try.underlying4 _), (trodAll_cons_mk (Below.trod laidOut (by kernel_rfl) (of_decide_eq_true (by kernel_rfl)) k0 bel lt0) (trodAll_cons_mk (Below.trod laidOut (by kernel_rfl) (of_decide_eq_true (by kernel_rfl)) k1 bel lt1) trodAll_mk0)), rfl, bel.frame _, fun h => by cases h⟩

theorem over : Rows.fragmentTwiceRow.holds Try.pinned (OpenSpec.ofChange Rows.fragmentTwiceSpec) :=
  OpenClaim.holds_of_wide 8 Try.f8 rfl rfl rfl rfl rfl rfl rfl ⟨rfl, rfl, rfl, rfl, rfl⟩ rfl rfl rfl rfl rfl (by kernel_rfl) Try.func8 (by kernel_rfl)
    (of_decide_eq_true (by kernel_rfl)) (by unfold Func.isWrapper; first | (rw [if_pos (by decide +kernel)]; kernel_rfl) | (rw [if_neg (by decide +kernel)]; exact ⟨rfl, rfl⟩))
    (fun os started H enc _ => lifted os started H enc)

theorem proved : Rows.FragmentTwiceSaid :=
  over
#print axioms proved
end Go.Proofs.Ytkjlbginggppaaa.fragmentTwice

/- What is too long isn't wrapped, nor opened; what is too short isn't opened. -/
import Derived.Test.YtdaedmbdoniaiaaRows
import Derived.Test.YtdaedmbdoniaiaaFrAll
import Derived.Test.YtdaedmbdoniaiaaInts
import Derived.WalkKit
import Derived.ProofKit
import Derived.OpenShut
import Derived.ChangeOld
import Derived.Below
import Derived.WalkSmall
import Derived.Lib.SmallJoins
import Derived.Laws.IdiomArrays
namespace Go.Proofs.Ytdaedmbdoniaiaa.frameSizes
open Go.ChangeShapes Go.WideShapes Go.ChangeAt Go.RowKit
set_option linter.unusedVariables false

theorem own : ownKnob Try.prog.godebug = none := by kernel_rfl
theorem laidOut : laidOutB Try.prog = true := by kernel_rfl

theorem made_own {base n : Nat} {v : Value} {w : World} (h : w.ownsRow base 5 1 v n (madeCells (Value.int .u8 0).cells (n * 1)).toList) : OwnL 5 1 byEnc v (List.replicate n 0) w := by
  have e : (madeCells (Value.int .u8 0).cells (n * 1)).toList = (List.replicate n 0).flatMap byEnc := by
    have e2 : (List.replicate n 0).flatMap byEnc = (List.replicate n 0).map bv := flat_one bv _
    rw [e2]
    simp [madeCells, Value.cells, bv, Nat.mod_one]
    apply List.ext_getElem
    · simp
    · intro i h1 h2
      simp
  rw [e] at h
  unfold OwnL
  rw [List.length_replicate]
  refine ⟨h.1, ?_⟩
  rcases h.2 with hn | ⟨g, cap, cur, hv, hg, rest⟩
  · exact .inl hn
  · exact .inr ⟨g, cap, cur, hv, Nat.zero_le _, rest⟩
theorem grown_turned {w w' : World} (h : w.grownBy w' none) : Turned [] w w' := (Turned.refl [] w).grown h (by simp)
theorem zeros_lt {n : Nat} : ∀ x ∈ List.replicate n 0, x < 256 := by
  intro x hx
  have := List.eq_of_mem_replicate hx
  omega

set_option maxRecDepth 20000 in
set_option maxHeartbeats 4000000 in
theorem walk (a0 : Int) (a1 : Int) (w0 : (Lit.int .u32 a0).wf = true) (w1 : (Lit.int .u16 a1).wf = true) (w : World) :
    Calls Try.prog 7 #[.int .u32 a0, .int .u16 a1] w fun e w' => e = .returned (.bool true) ∧ Below w.heap.size w w' := by
  obtain ⟨key, rfl, hk⟩ := FrL.u32_nat w0
  obtain ⟨n, rfl, hn⟩ : ∃ n : Nat, a1 = (n : Int) ∧ n < 65536 := by
    simp [Lit.wf, IntKind.min, IntKind.max, IntKind.bits, IntKind.signed] at w1
    exact ⟨a1.toNat, by omega, by omega⟩
  clear w0 w1
  obtain ⟨k, hke⟩ : ∃ k : Nat, (n : Int) % 1500 = (k : Int) := ⟨n % 1500, by omega⟩
  have hk15 : (k : Int) < 1500 := by omega
  obtain ⟨i0, hi, hz0, hz1, hz2⟩ := info_parts info_u8
  have kW : ∀ u o c, RowOf 1 byEnc o (List.replicate k 0) u → Calls Try.prog 9 #[.int .u32 (key : Int), .slice o k c] u fun e u' => ∃ o2 c2, e = .returned (.tuple #[.slice o2 (Fr.wrapL key (List.replicate k 0)).length c2, .int .i64 (Fr.wrapC (List.replicate k 0))]) ∧ Turned [] u u' := by
    intro u o c hu
    refine (FrW.wrap_all key hk o (List.replicate k 0) k c u (List.length_replicate ..) (by omega) hu zeros_lt).mono ?_
    rintro e u' ⟨v, rfl, ho, ht', _⟩
    obtain ⟨o2, c2, hv, _, _, hrow, _⟩ := ho.rowOf byEnc_len
    exact ⟨o2, c2, by rw [hv], ht'⟩
  have kO : ∀ u o, RowOf 1 byEnc o (List.replicate k 0) u → Calls Try.prog 11 #[.int .u32 (key : Int), .slice o k k] u fun e u' => ∃ v, e = .returned (.tuple #[v, .int .i64 (Fr.openC key (List.replicate k 0))]) ∧ Turned [] u u' := by
    intro u o hu
    refine (FrW.open_all key hk o (List.replicate k 0) k k u (List.length_replicate ..) (by omega) (by omega) hu zeros_lt).mono ?_
    rintro e u' ⟨v, rfl, ho, ht', _⟩
    exact ⟨v, rfl, ht'⟩
  have own_row : ∀ g u, OwnL 5 1 byEnc (.slice (some ⟨g, 0, none⟩) k k) (List.replicate k 0) u → RowOf 1 byEnc (some ⟨g, 0, none⟩) (List.replicate k 0) u := by
    intro g u ho
    obtain ⟨oa, cap, hv, _, _, hrow, _⟩ := ho.rowOf byEnc_len
    rw [(Value.slice.inj hv).1]
    exact hrow
  have cases4 : ((k : Int) < 4 ∧ (k : Int) ≤ 1400 ∧ ((Fr.wrapL key (List.replicate k 0)).length : Int) = (k : Int) + 4 ∧ Fr.wrapC (List.replicate k 0) = 0 ∧ Fr.openC key (List.replicate k 0) = 4) ∨ (4 ≤ (k : Int) ∧ (k : Int) ≤ 1400 ∧ ((Fr.wrapL key (List.replicate k 0)).length : Int) = (k : Int) + 4 ∧ Fr.wrapC (List.replicate k 0) = 0 ∧ Fr.openC key (List.replicate k 0) = 0) ∨ (4 ≤ (k : Int) ∧ (k : Int) ≤ 1400 ∧ ((Fr.wrapL key (List.replicate k 0)).length : Int) = (k : Int) + 4 ∧ Fr.wrapC (List.replicate k 0) = 0 ∧ Fr.openC key (List.replicate k 0) = 5) ∨ (1400 < (k : Int) ∧ (k : Int) ≤ 1404 ∧ Fr.wrapC (List.replicate k 0) = 3 ∧ Fr.openC key (List.replicate k 0) = 0) ∨ (1400 < (k : Int) ∧ (k : Int) ≤ 1404 ∧ Fr.wrapC (List.replicate k 0) = 3 ∧ Fr.openC key (List.replicate k 0) = 5) ∨ (1404 < (k : Int) ∧ Fr.wrapC (List.replicate k 0) = 3 ∧ Fr.openC key (List.replicate k 0) = 3) := by
    have hl : (List.replicate k 0).length = k := List.length_replicate ..
    have h5 : 4 ≤ k → k ≤ 1404 → Fr.openC key (List.replicate k 0) = 0 ∨ Fr.openC key (List.replicate k 0) = 5 := by
      intro h1 h2
      rw [Fr.openC_in (by omega) (by omega)]
      split
      · exact .inl rfl
      · exact .inr rfl
    have h6 : k ≤ 1400 → ((Fr.wrapL key (List.replicate k 0)).length : Int) = (k : Int) + 4 := by
      intro h
      rw [Fr.wrapL_ok (by omega), Fr.wrap_length, hl]
      omega
    by_cases h1 : k < 4
    · exact .inl ⟨by omega, by omega, h6 (by omega), Fr.wrapC_ok (by omega), Fr.openC_short (by omega)⟩
    · by_cases h2 : k ≤ 1400
      · rcases h5 (by omega) (by omega) with h | h
        · exact .inr (.inl ⟨by omega, by omega, h6 (by omega), Fr.wrapC_ok (by omega), h⟩)
        · exact .inr (.inr (.inl ⟨by omega, by omega, h6 (by omega), Fr.wrapC_ok (by omega), h⟩))
      · by_cases h3 : k ≤ 1404
        · rcases h5 (by omega) (by omega) with h | h
          · exact .inr (.inr (.inr (.inl ⟨by omega, by omega, Fr.wrapC_long (by omega), h⟩)))
          · exact .inr (.inr (.inr (.inr (.inl ⟨by omega, by omega, Fr.wrapC_long (by omega), h⟩))))
        · exact .inr (.inr (.inr (.inr (.inr ⟨by omega, Fr.wrapC_long (by omega), Fr.openC_long (by omega)⟩))))
  generalize (Fr.wrapL key (List.replicate k 0)).length = X at kW cases4
  generalize Fr.wrapC (List.replicate k 0) = p at kW cases4
  generalize Fr.openC key (List.replicate k 0) = q at kO cases4
  have go : ∀ (u0 u1 : World), Turned [] w u0 → u0.ownsRow 0 5 1 (.slice (some ⟨u1.heap.size, 0, none⟩) k k) k (madeCells (Value.int .u8 0).cells (k * 1)).toList → RowOf 1 byEnc (some ⟨u1.heap.size, 0, none⟩) (List.replicate k 0) u0 := fun u0 u1 _ h => own_row _ _ (made_own h)
  have HN : Hid (k ≤ 1500) := by show k ≤ 1500; omega
  clear own_row hk hn
  go_enter Try.func7, Try.ntmps7
  rcases cases4 with ⟨h1, h2, hX, rfl, rfl⟩ | ⟨h1, h2, hX, rfl, rfl⟩ | ⟨h1, h2, hX, rfl, rfl⟩ | ⟨h1, h2, rfl, rfl⟩ | ⟨h1, h2, rfl, rfl⟩ | ⟨h1, rfl, rfl⟩
  all_goals go_wp2_with (first | (at_make; refine wpList_make_full _ rfl _ _ 23 rfl 0 5 i0 (.int .u8 0) 1 (by kernel_rfl) hi hz0 hz1 .i64 .i64 _ _ k rfl rfl rfl rfl (by have := HN.out; rw [hz2]; omega) (by have := HN.out; unfold maxLen; omega) (Nat.zero_le _) ?_; intro w1 ho1 hg1; first | (have T3 : Turned [] w w1 := T2.trans (grown_turned hg1) (fun k hk _ => hk); have R2 := go w1 _ T3 ho1) | (have T1 : Turned [] w w1 := grown_turned hg1; have R1 := go w1 _ T1 ho1)) | (go_at_call 9; with_reducible refine (kW _ _ _ R1).mono ?_; rintro e w2 ⟨o2, c2, rfl, T2'⟩; have T2 := T1.trans T2' (fun k hk _ => hk)) | (go_at_call 11; with_reducible refine (kO _ _ R2).mono ?_; rintro e w4 ⟨v4, rfl, T4'⟩; have T4 := T3.trans T4' (fun k hk _ => hk)) | (go_at_call 8; refine (FrL.awake_any _).mono ?_; rintro e w5 ⟨rfl, T5'⟩; have T5 := T4.trans T5' (fun k hk _ => hk)))
  all_goals go_ret
  all_goals refine BtL.bool_ret (b := true) ?_ T5.none
  all_goals first | rfl | (simp; done) | (simp; omega)

set_option maxRecDepth 100000 in
theorem lifted (os : Os) (started : os.Started) (H : Type) (enc : TypeId × Value → H) :
    ReturnsInHanded {} Try.checked os 7 .any (Rows.frameSizesSpec.pre6 enc Try.prog Try.f7 Rows.frameSizesRow.domain false) (Rows.frameSizesSpec.post enc Try.prog Try.f7 false true false false) := by
  refine returnsInHanded_of_change (C := Try.checked) own started (by kernel_rfl) Try.func7
    (ChangeSpec.witness6 (enc := enc) (C := Try.checked) false ⟨#[], #[.int .u32 0, .int .u16 0], []⟩ 8 (by kernel_rfl) (by kernel_rfl) (by kernel_rfl) (by kernel_rfl)) ?_
  intro W base args ds gs before hval0 hW hcnd _
  have hval : ∀ (j : Nat) t v, Try.f7.params[j]? = some t → args[j]? = some v → Value.okWide Try.prog W .any base t v := hval0
  have hW' := hW
  obtain ⟨p, q, hA0, hV, rfl, hfz, hnd⟩ := hW
  have hA : DataW.TrodAll enc Try.prog W 0 (fun _ => true) true Try.f7.params.toList args.toList ds p := hA0
  rw [Try.params7] at hA hval
  obtain ⟨v0, vs0, d0, ds0, p0, q0, hargs, rfl, rfl, h0, r0⟩ := trodAll_cons hA
  obtain ⟨v1, vs1, d1, ds1, p1, q1, rfl, rfl, rfl, h1, r1⟩ := trodAll_cons r0
  obtain ⟨rfl, rfl, rfl⟩ := trodAll_nil r1
  obtain rfl : args = #[v0, v1] := by cases args; simp_all
  obtain ⟨rfl, rfl⟩ := trodVars_none hV
  have k0 := h0
  have lt0 : ∀ x ∈ p0, x.block < W.heap.size := by obtain ⟨m, hm⟩ := k0; exact DataW.trod_lt m _ _ _ hm
  have k1 := h1
  have lt1 : ∀ x ∈ p1, x.block < W.heap.size := by obtain ⟨m, hm⟩ := k1; exact DataW.trod_lt m _ _ _ hm
  obtain ⟨a0, rfl, _, _, w0⟩ := open_int Try.underlying22 (hval 0 22 v0 rfl rfl) h0
  obtain ⟨a1, rfl, _, _, w1⟩ := open_int Try.underlying33 (hval 1 33 v1 rfl rfl) h1
  clear hA0 hval0
  refine (walk a0 a1 w0 w1 W).mono fun e W' ⟨he, bel⟩ => ?_
  subst he
  exact ⟨_, rfl, _, _, _, [], _, [], hW', trodAll_mk1 (shut_bool Try.underlying4 _), (trodAll_cons_mk (Below.trod laidOut (by kernel_rfl) (of_decide_eq_true (by kernel_rfl)) k0 bel lt0) (trodAll_cons_mk (Below.trod laidOut (by kernel_rfl) (of_decide_eq_true (by kernel_rfl)) k1 bel lt1) trodAll_mk0)), rfl, bel.frame _, fun h => by cases h⟩

theorem over : Rows.frameSizesRow.holds Try.pinned (OpenSpec.ofChange Rows.frameSizesSpec) :=
  OpenClaim.holds_of_wide 7 Try.f7 rfl rfl rfl rfl rfl rfl rfl ⟨rfl, rfl, rfl, rfl, rfl⟩ rfl rfl rfl rfl rfl (by kernel_rfl) Try.func7 (by kernel_rfl)
    (of_decide_eq_true (by kernel_rfl)) (by unfold Func.isWrapper; first | (rw [if_pos (by decide +kernel)]; kernel_rfl) | (rw [if_neg (by decide +kernel)]; exact ⟨rfl, rfl⟩))
    (fun os started H enc _ => lifted os started H enc)

theorem proved : Rows.FrameSizesSaid :=
  over
#print axioms proved
end Go.Proofs.Ytdaedmbdoniaiaa.frameSizes

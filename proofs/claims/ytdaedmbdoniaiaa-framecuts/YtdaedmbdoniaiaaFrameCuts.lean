/- A datagram to which bytes are put isn't opened, but by a sum that is the same. -/
import Derived.Test.YtdaedmbdoniaiaaRows
import Derived.Test.YtdaedmbdoniaiaaFrLaw
import Derived.Test.YtdaedmbdoniaiaaInts
import Derived.WalkKit
import Derived.ProofKit
import Derived.OpenShut
import Derived.ChangeOld
import Derived.Below
import Derived.WalkSmall
import Derived.Lib.SmallJoins
import Derived.Laws.IdiomArrays
namespace Go.Proofs.Ytdaedmbdoniaiaa.frameCuts
open Go.ChangeShapes Go.WideShapes Go.ChangeAt Go.RowKit
set_option linter.unusedVariables false

theorem own : ownKnob Try.prog.godebug = none := by kernel_rfl
theorem laidOut : laidOutB Try.prog = true := by kernel_rfl

set_option maxRecDepth 20000 in
set_option maxHeartbeats 4000000 in
theorem walk (a0 : Int) (a1_o : Option Addr) (a1_n a1_c : Nat) (a2_o : Option Addr) (a2_n a2_c : Nat) (w0 : (Lit.int .u32 a0).wf = true) (w1_m : a1_n ≤ maxLen) (w1_l : a1_n ≤ a1_c) (w2_m : a2_n ≤ maxLen) (w2_l : a2_n ≤ a2_c) (w : World) (w1 : Ints .u8 a1_o a1_n w) (w2 : Ints .u8 a2_o a2_n w) :
    Calls Try.prog 6 #[.int .u32 a0, .slice a1_o a1_n a1_c, .slice a2_o a2_n a2_c] w fun e w' => e = .returned (.bool true) ∧ Below w.heap.size w w' := by
  obtain ⟨key, rfl, hk⟩ := FrL.u32_nat w0
  clear w0
  have HM1 : (a1_n : Int) ≤ 9223372036854775807 := by unfold maxLen at w1_m; omega
  have HM2 : (a2_n : Int) ≤ 9223372036854775807 := by unfold maxLen at w2_m; omega
  clear w1_m w2_m w1_l w2_l
  by_cases h : (a1_n : Int) ≤ 1300 ∧ 0 < (a2_n : Int) ∧ (a2_n : Int) ≤ 60
  · obtain ⟨h1, h2, h3⟩ := h
    obtain ⟨l, hl, hb, hr⟩ := bytes_row w1
    obtain ⟨m, hm, hc, hq⟩ := bytes_row w2
    clear w1 w2
    obtain ⟨nX, hnX⟩ : ∃ n, (Fr.wrap key l).length = n := ⟨_, rfl⟩
    obtain ⟨nL, hnL⟩ : ∃ n, ([] ++ Fr.wrap key l ++ m).length = n := ⟨_, rfl⟩
    obtain ⟨n8, hn8⟩ : ∃ n, ([] ++ l ++ m).length = n := ⟨_, rfl⟩
    obtain ⟨nZ, hnZ⟩ : ∃ n, (Fr.wrap key (l ++ m)).length = n := ⟨_, rfl⟩
    have hw0 : nX = a1_n + 4 := by rw [← hnX, Fr.wrap_length, hl]
    have hwL : nL = a1_n + 4 + a2_n := by rw [← hnL, List.nil_append, List.length_append, hnX, hw0, hm]
    have hw8 : n8 = a1_n + a2_n := by rw [← hn8, List.nil_append, List.length_append, hl, hm]
    have hw1 : nZ = a1_n + a2_n + 4 := by rw [← hnZ, Fr.wrap_length, List.length_append, hl, hm]
    have hbx : ∀ x ∈ Fr.wrap key l, x < 256 := Fr.wrap_lt hb
    have kW : ∀ u, Turned [] w u → Calls Try.prog 9 #[.int .u32 (key : Int), .slice a1_o a1_n a1_c] u fun e u' => ∃ g c, e = .returned (.tuple #[.slice (some ⟨g, 0, none⟩) nX c, .int .i64 0]) ∧ OwnL 5 1 byEnc (.slice (some ⟨g, 0, none⟩) nX c) (Fr.wrap key l) u' ∧ RowOf 1 byEnc (some ⟨g, 0, none⟩) (Fr.wrap key l) u' ∧ Turned [] w u' := by
      intro u ht
      refine (FrW.wrap_any key hk a1_o l a1_n a1_c u hl (by omega) (hr.turned ht (by simp)) hb).mono ?_
      rintro e u' ⟨v, rfl, ho, ht', _⟩
      obtain ⟨g, c, hv, _, _⟩ := FrL.four_cells ho rfl
      obtain ⟨o2, c2, hv2, _, _, hrow, _⟩ := ho.rowOf byEnc_len
      rw [hnX] at hv
      subst hv
      have e1 := (Value.slice.inj hv2).1
      rw [← e1] at hrow
      exact ⟨g, c, rfl, ho, hrow, ht.trans ht' (fun k hk _ => hk)⟩
    have kO : ∀ u o c, Hid (nL ≤ c) → RowOf 1 byEnc o ([] ++ Fr.wrap key l ++ m) u → Calls Try.prog 11 #[.int .u32 (key : Int), .slice o nL c] u fun e u' => ∃ o2 c2, e = .returned (.tuple #[.slice o2 (Fr.openL key (Fr.wrap key l ++ m)).length c2, .int .i64 (Fr.openC key (Fr.wrap key l ++ m))]) ∧ Turned [] u u' := by
      intro u o c HC hu
      have hcc := HC.out
      rw [List.nil_append] at hu
      refine (FrW.open_all key hk o (Fr.wrap key l ++ m) nL c u hnL (by omega) (by omega) hu (Cr.append_lt hbx hc)).mono ?_
      rintro e u' ⟨v, rfl, ho, ht', _⟩
      obtain ⟨o2, c2, hv2, _, _, hrow, _⟩ := ho.rowOf byEnc_len
      exact ⟨o2, c2, by rw [hv2], ht'⟩
    obtain ⟨y0, y1, y2, y3, hy⟩ : ∃ y0 y1 y2 y3, Cr.four4 (Fr.sum key (l ++ m)) = [y0, y1, y2, y3] := ⟨_, _, _, _, rfl⟩
    obtain ⟨x0, x1, x2, x3, hx⟩ : ∃ x0 x1 x2 x3, Cr.four4 (Fr.sum key l) = [x0, x1, x2, x3] := ⟨_, _, _, _, rfl⟩
    have eX : Fr.wrap key l = [x0, x1, x2, x3] ++ l := by unfold Fr.wrap; rw [hx]
    have eZ : Fr.wrap key (l ++ m) = [y0, y1, y2, y3] ++ (l ++ m) := by unfold Fr.wrap; rw [hy]
    have kR : ∀ u o c, RowOf 1 byEnc o ([] ++ l ++ m) u → Calls Try.prog 10 #[.int .u32 (key : Int), .slice o n8 c] u fun e u' => ∃ g c, e = .returned (.tuple #[.slice (some ⟨g, 0, none⟩) nZ c, .int .i64 0]) ∧ (u'.cell? ⟨g, 0, none⟩ = some (.int .u8 (y0 : Int)) ∧ u'.cell? ⟨g, 1, none⟩ = some (.int .u8 (y1 : Int)) ∧ u'.cell? ⟨g, 2, none⟩ = some (.int .u8 (y2 : Int)) ∧ u'.cell? ⟨g, 3, none⟩ = some (.int .u8 (y3 : Int))) ∧ Turned [] u u' := by
      intro u o c hu
      rw [List.nil_append] at hu
      refine (FrR.wrap_any key hk o (l ++ m) n8 c u hn8 (by omega) hu (Cr.append_lt hb hc)).mono ?_
      rintro e u' ⟨v, rfl, ho, ht', _⟩
      obtain ⟨g, c, hv, _, hcell⟩ := FrL.four_cells ho eZ
      exact ⟨g, c, by rw [hv, hnZ], hcell, ht'⟩
    have cX : ∀ v u u', OwnL 5 1 byEnc v (Fr.wrap key l) u → Below u.heap.size u u' → ∃ g cap, v = .slice (some ⟨g, 0, none⟩) nX cap ∧ u'.cell? ⟨g, 0, none⟩ = some (.int .u8 (x0 : Int)) ∧ u'.cell? ⟨g, 1, none⟩ = some (.int .u8 (x1 : Int)) ∧ u'.cell? ⟨g, 2, none⟩ = some (.int .u8 (x2 : Int)) ∧ u'.cell? ⟨g, 3, none⟩ = some (.int .u8 (x3 : Int)) := by
      intro v u u' ho hbl
      obtain ⟨g, c, hv, hg, c0, c1, c2, c3⟩ := FrL.four_cells ho eX
      rw [hnX] at hv
      exact ⟨g, c, hv, (hbl.cell (p := ⟨g, 0, none⟩) hg).trans c0, (hbl.cell (p := ⟨g, 1, none⟩) hg).trans c1, (hbl.cell (p := ⟨g, 2, none⟩) hg).trans c2, (hbl.cell (p := ⟨g, 3, none⟩) hg).trans c3⟩
    have hop := FrL.cuts_opens key l m
    rw [hx, hy] at hop
    have hC := Fr.openC_in (key := key) (l := Fr.wrap key l ++ m) (by rw [List.length_append]; omega) (by rw [List.length_append]; omega)
    rw [hop] at hC
    have nb : ∀ {a b : Nat}, ¬ a = b → ((a : Int) == (b : Int)) = false := by intro a b h; rw [beq_eq_false_iff_ne]; omega
    have cases5 : (((y0 : Int) == (x0 : Int)) = false ∧ Fr.openC key (Fr.wrap key l ++ m) = 5) ∨ (y0 = x0 ∧ ((y1 : Int) == (x1 : Int)) = false ∧ Fr.openC key (Fr.wrap key l ++ m) = 5) ∨ (y0 = x0 ∧ y1 = x1 ∧ ((y2 : Int) == (x2 : Int)) = false ∧ Fr.openC key (Fr.wrap key l ++ m) = 5) ∨ (y0 = x0 ∧ y1 = x1 ∧ y2 = x2 ∧ ((y3 : Int) == (x3 : Int)) = false ∧ Fr.openC key (Fr.wrap key l ++ m) = 5) ∨ (y0 = x0 ∧ y1 = x1 ∧ y2 = x2 ∧ y3 = x3 ∧ Fr.openC key (Fr.wrap key l ++ m) = 0 ∧ ((Fr.openL key (Fr.wrap key l ++ m)).length : Int) = (a1_n : Int) + (a2_n : Int)) := by
      by_cases hd : [x0, x1, x2, x3] = [y0, y1, y2, y3]
      · rw [decide_eq_true hd, if_pos rfl] at hC
        obtain ⟨rfl, rfl, rfl, rfl⟩ := FrL.list4.1 hd
        refine .inr (.inr (.inr (.inr ⟨rfl, rfl, rfl, rfl, hC, ?_⟩)))
        rw [Fr.openL_ok hC, FrL.drop_wrap, List.length_append]
        omega
      · rw [decide_eq_false hd, if_neg (by simp)] at hC
        rw [FrL.list4] at hd
        by_cases e0 : y0 = x0
        · by_cases e1 : y1 = x1
          · by_cases e2 : y2 = x2
            · exact .inr (.inr (.inr (.inl ⟨e0, e1, e2, nb (by omega), hC⟩)))
            · exact .inr (.inr (.inl ⟨e0, e1, nb (by omega), hC⟩))
          · exact .inr (.inl ⟨e0, nb (by omega), hC⟩)
        · exact .inl ⟨nb (by omega), hC⟩
    have hXl : (nX : Int) = (a1_n : Int) + 4 := by omega
    have hZl : (nZ : Int) = (a1_n : Int) + (a2_n : Int) + 4 := by omega
    have L1 : Hid (([] : List Nat).length + nX ≤ 10000) := by show 0 + _ ≤ 10000; omega
    have L2 : Hid (([] ++ Fr.wrap key l).length + a2_n ≤ 10000) := by show ([] ++ Fr.wrap key l).length + a2_n ≤ 10000; rw [List.nil_append]; omega
    have L3 : Hid (([] : List Nat).length + a1_n ≤ 10000) := by show 0 + _ ≤ 10000; omega
    have L4 : Hid (([] ++ l).length + a2_n ≤ 10000) := by show ([] ++ l).length + a2_n ≤ 10000; rw [List.nil_append]; omega
    have HnX : Hid ((Fr.wrap key l).length = nX) := hnX
    have HnL : Hid (([] ++ Fr.wrap key l ++ m).length = nL) := hnL
    have Hn8 : Hid (([] ++ l ++ m).length = n8) := hn8
    have Hl : Hid (l.length = a1_n) := hl
    have Hm : Hid (m.length = a2_n) := hm
    clear hnX hnL hn8 hnZ hwL hw8 hl hm
    clear hC hop hw0 hw1 eX eZ hbx hx hy hk
    generalize (Fr.openL key (Fr.wrap key l ++ m)).length = Yl at kO cases5
    generalize Fr.openC key (Fr.wrap key l ++ m) = q at kO cases5
    generalize Fr.wrap key l = X at kW kO cX L2 HnX HnL
    clear hb hc
    have hz : ((a2_n : Int) == 0) = false := by rw [beq_eq_false_iff_ne]; omega
    go_enter Try.func6, Try.ntmps6
    go_wp2_with (first
      | (go_at_call 8; refine (FrL.awake_any _).mono ?_; rintro e w1 ⟨rfl, T1⟩)
      | (go_at_call 9; with_reducible refine (kW _ T1).mono ?_; rintro e w2 ⟨g1, c1, rfl, O1, R1, T2⟩)
      | (at_builtin; refine wp_pushAll elem_u8 rfl _ _ rfl rfl (OwnL.nil _ _ _ _) (some ⟨g1, 0, none⟩) nX c1 X HnX.out rfl R1 byEnc_len byEnc_one (by have := L1.out; unfold maxLen; omega) (by have := L1.out; omega) ?_; intro v3 w3 O3 T3 B3; obtain ⟨HB3, HV3⟩ := FrL.push_below (Below.refl w2.heap.size w2) (Nat.le_refl _) (FrL.nil_ge _) T3 B3; have RM3 := hq.keep (((T2.none).trans (HB3.mono T2.size))))
      | (at_builtin; refine wp_pushAll elem_u8 rfl _ _ rfl rfl O3 a2_o a2_n a2_c m Hm.out rfl RM3 byEnc_len byEnc_one (by have := L2.out; unfold maxLen; omega) (by have := L2.out; omega) ?_; intro v4 w4 O4 T4 B4; obtain ⟨HB4, _⟩ := FrL.push_below HB3 (Nat.le_refl _) HV3 T4 B4; obtain ⟨o4, c4, hv4, hc4, _, R4, _⟩ := O4.rowOf byEnc_len; rw [HnL.out] at hc4 hv4; have HC4 : Hid (nL ≤ c4) := hc4; clear hc4; subst hv4)
      | (go_at_call 11; with_reducible refine (kO _ o4 c4 HC4 R4).mono ?_; rintro e w5 ⟨o5, c5, rfl, T5⟩; have HB5 := FrL.turned_below HB4 (Nat.le_refl _) T5; have HB6 := HB5.alloc HB5.size (.cells #[] 5); have HW6 := (T2.none).trans (HB6.mono T2.size); have RL6 := hr.keep HW6)
      | (at_builtin; refine wp_pushAll elem_u8 rfl _ _ rfl rfl (OwnL.fresh [] w5 (Nat.zero_le _)) a1_o a1_n a1_c l Hl.out rfl RL6 byEnc_len byEnc_one (by have := L3.out; unfold maxLen; omega) (by have := L3.out; omega) ?_; intro v7 w7 O7 T7 B7; obtain ⟨HB7, HV7⟩ := FrL.push_below HB6 (Nat.le_refl _) (FrL.fresh_blk HB5.size) T7 B7; have RM7 := hq.keep ((T2.none).trans (HB7.mono T2.size)))
      | (at_builtin; refine wp_pushAll elem_u8 rfl _ _ rfl rfl O7 a2_o a2_n a2_c m Hm.out rfl RM7 byEnc_len byEnc_one (by have := L4.out; unfold maxLen; omega) (by have := L4.out; omega) ?_; intro v8 w8 O8 T8 B8; obtain ⟨HB8, _⟩ := FrL.push_below HB7 (Nat.le_refl _) HV7 T8 B8; obtain ⟨o8, c8, hv8, _, _, R8, _⟩ := O8.rowOf byEnc_len; rw [Hn8.out] at hv8; subst hv8)
      | (go_at_call 10; with_reducible refine (kR _ o8 c8 R8).mono ?_; rintro e w9 ⟨g9, c9, rfl, D9, T9⟩; have HB9 := FrL.turned_below HB8 (Nat.le_refl _) T9))
    obtain ⟨d0, d1, d2, d3⟩ := D9
    obtain ⟨g1', c1', hv1, b0, b1, b2, b3⟩ := cX _ _ _ O1 HB9
    obtain ⟨rfl, _⟩ : g1 = g1' ∧ c1 = c1' := by simpa using hv1
    have HF : ∀ n, Below w.heap.size w (w9.drewN n) := fun n => below_drewN ((T2.none).trans (HB9.mono T2.size)) n
    have hZ0 : 0 < (nZ : Int) := by omega
    have hZ1 : 1 < (nZ : Int) := by omega
    have hZ2 : 2 < (nZ : Int) := by omega
    have hZ3 : 3 < (nZ : Int) := by omega
    have hX0 : 0 < (nX : Int) := by omega
    have hX1 : 1 < (nX : Int) := by omega
    have hX2 : 2 < (nX : Int) := by omega
    have hX3 : 3 < (nX : Int) := by omega
    clear hv1 cX kW kO kR O1 R1 O3 O4 R4 O7 O8 R8 T3 T4 T5 T7 T8 T9 HB3 HB4 HB5 HB6 HB7 HB8 HB9 HW6 RL6 RM3 RM7 B3 B4 B7 B8 HV3 HV7 hr hq
    rcases cases5 with ⟨n0, rfl⟩ | ⟨rfl, n1, rfl⟩ | ⟨rfl, rfl, n2, rfl⟩ | ⟨rfl, rfl, rfl, n3, rfl⟩ | ⟨rfl, rfl, rfl, rfl, rfl, hY⟩
    all_goals go_quiet (fail)
    all_goals go_wp2_with fail
    all_goals go_ret
    all_goals exact ⟨rfl, HF _⟩
  · clear w1 w2
    have h' : 1300 < (a1_n : Int) ∨ ((a1_n : Int) ≤ 1300 ∧ (a2_n : Int) = 0) ∨ ((a1_n : Int) ≤ 1300 ∧ 60 < (a2_n : Int)) := by omega
    clear h
    go_enter Try.func6, Try.ntmps6
    rcases h' with h | ⟨h, h'⟩ | ⟨h, h'⟩
    all_goals go_wp2_with (go_at_call 8; refine (FrL.awake_any _).mono ?_; rintro e w' ⟨rfl, HB⟩; first | (have HC : Turned [] w w' := HC.trans HB (fun k hk _ => hk)) | (have HC : Turned [] w w' := HB))
    all_goals go_ret
    all_goals exact ⟨rfl, HC.none⟩

set_option maxRecDepth 100000 in
theorem lifted (os : Os) (started : os.Started) (H : Type) (enc : TypeId × Value → H) :
    ReturnsInHanded {} Try.checked os 6 .any (Rows.frameCutsSpec.pre6 enc Try.prog Try.f6 Rows.frameCutsRow.domain false) (Rows.frameCutsSpec.post enc Try.prog Try.f6 false true false false) := by
  refine returnsInHanded_of_change (C := Try.checked) own started (by kernel_rfl) Try.func6
    (ChangeSpec.witness6 (enc := enc) (C := Try.checked) false ⟨#[], #[.int .u32 0, .slice none 0 0, .slice none 0 0], []⟩ 8 (by kernel_rfl) (by kernel_rfl) (by kernel_rfl) (by kernel_rfl)) ?_
  intro W base args ds gs before hval0 hW hcnd _
  have hval : ∀ (j : Nat) t v, Try.f6.params[j]? = some t → args[j]? = some v → Value.okWide Try.prog W .any base t v := hval0
  have hW' := hW
  obtain ⟨p, q, hA0, hV, rfl, hfz, hnd⟩ := hW
  have hA : DataW.TrodAll enc Try.prog W 0 (fun _ => true) true Try.f6.params.toList args.toList ds p := hA0
  rw [Try.params6] at hA hval
  obtain ⟨v0, vs0, d0, ds0, p0, q0, hargs, rfl, rfl, h0, r0⟩ := trodAll_cons hA
  obtain ⟨v1, vs1, d1, ds1, p1, q1, rfl, rfl, rfl, h1, r1⟩ := trodAll_cons r0
  obtain ⟨v2, vs2, d2, ds2, p2, q2, rfl, rfl, rfl, h2, r2⟩ := trodAll_cons r1
  obtain ⟨rfl, rfl, rfl⟩ := trodAll_nil r2
  obtain rfl : args = #[v0, v1, v2] := by cases args; simp_all
  obtain ⟨rfl, rfl⟩ := trodVars_none hV
  have k0 := h0
  have lt0 : ∀ x ∈ p0, x.block < W.heap.size := by obtain ⟨m, hm⟩ := k0; exact DataW.trod_lt m _ _ _ hm
  have k1 := h1
  have lt1 : ∀ x ∈ p1, x.block < W.heap.size := by obtain ⟨m, hm⟩ := k1; exact DataW.trod_lt m _ _ _ hm
  have k2 := h2
  have lt2 : ∀ x ∈ p2, x.block < W.heap.size := by obtain ⟨m, hm⟩ := k2; exact DataW.trod_lt m _ _ _ hm
  obtain ⟨a0, rfl, _, _, w0⟩ := open_int Try.underlying22 (hval 0 22 v0 rfl rfl) h0
  obtain ⟨a1_o, a1_n, a1_c, rfl, w1_m, w1_l, w1⟩ := open_row Try.underlying23 Try.underlying5 (by kernel_rfl) (hval 1 23 v1 rfl rfl) h1
  obtain ⟨a2_o, a2_n, a2_c, rfl, w2_m, w2_l, w2⟩ := open_row Try.underlying23 Try.underlying5 (by kernel_rfl) (hval 2 23 v2 rfl rfl) h2
  clear hA0 hval0
  refine (walk a0 a1_o a1_n a1_c a2_o a2_n a2_c w0 w1_m w1_l w2_m w2_l W w1 w2).mono fun e W' ⟨he, bel⟩ => ?_
  subst he
  exact ⟨_, rfl, _, _, _, [], _, [], hW', trodAll_mk1 (shut_bool Try.underlying4 _), (trodAll_cons_mk (Below.trod laidOut (by kernel_rfl) (of_decide_eq_true (by kernel_rfl)) k0 bel lt0) (trodAll_cons_mk (Below.trod laidOut (by kernel_rfl) (of_decide_eq_true (by kernel_rfl)) k1 bel lt1) (trodAll_cons_mk (Below.trod laidOut (by kernel_rfl) (of_decide_eq_true (by kernel_rfl)) k2 bel lt2) trodAll_mk0))), rfl, bel.frame _, fun h => by cases h⟩

theorem over : Rows.frameCutsRow.holds Try.pinned (OpenSpec.ofChange Rows.frameCutsSpec) :=
  OpenClaim.holds_of_wide 6 Try.f6 rfl rfl rfl rfl rfl rfl rfl ⟨rfl, rfl, rfl, rfl, rfl⟩ rfl rfl rfl rfl rfl (by kernel_rfl) Try.func6 (by kernel_rfl)
    (of_decide_eq_true (by kernel_rfl)) (by unfold Func.isWrapper; first | (rw [if_pos (by decide +kernel)]; kernel_rfl) | (rw [if_neg (by decide +kernel)]; exact ⟨rfl, rfl⟩))
    (fun os started H enc _ => lifted os started H enc)

theorem proved : Rows.FrameCutsSaid :=
  over
#print axioms proved
end Go.Proofs.Ytdaedmbdoniaiaa.frameCuts

/- For all bytes b, places at and four bytes by the law CrcTells answers true. -/
import Derived.Test.YtbiidllbcnlaeaaRows
import Derived.Test.YtbiidllbcnlaeaaInts
import Derived.Test.YtbiidllbcnlaeaaCrcTold
import Derived.WalkKit
import Derived.ProofKit
import Derived.OpenShut
import Derived.ChangeOld
import Derived.Below
import Derived.WalkSmall
import Derived.Lib.SmallJoins
import Derived.Laws.IdiomArrays
namespace Go.Proofs.Ytbiidllbcnlaeaa.crcTells
open Go.ChangeShapes Go.WideShapes Go.ChangeAt Go.RowKit
set_option linter.unusedVariables false

theorem own : ownKnob Try.prog.godebug = none := by kernel_rfl
theorem laidOut : laidOutB Try.prog = true := by kernel_rfl

set_option maxHeartbeats 2000000 in
theorem walk (a0_o : Option Addr) (a0_n a0_c : Nat) (a1 : Int) (a2_0 : Int) (a2_1 : Int) (a2_2 : Int) (a2_3 : Int) (w0_m : a0_n ≤ maxLen) (w0_l : a0_n ≤ a0_c) (w1 : (Lit.int .u16 a1).wf = true) (w2_0 : (Lit.int .u8 a2_0).wf = true) (w2_1 : (Lit.int .u8 a2_1).wf = true) (w2_2 : (Lit.int .u8 a2_2).wf = true) (w2_3 : (Lit.int .u8 a2_3).wf = true) (w : World) (w0 : Ints .u8 a0_o a0_n w) :
    Calls Try.prog 4 #[.slice a0_o a0_n a0_c, .int .u16 a1, .agg #[.int .u8 a2_0, .int .u8 a2_1, .int .u8 a2_2, .int .u8 a2_3]] w fun e w' => e = .returned (.bool true) ∧ Below w.heap.size w w' := by
  have HM : a0_n ≤ 9223372036854775807 := by unfold maxLen at w0_m; omega
  clear w0_m
  obtain ⟨l, hl, hb, hr⟩ := row_of w0
  clear w0
  have bd : ∀ {z : Int}, (Lit.int .u8 z).wf = true → ∃ n : Nat, z = (n : Int) ∧ n < 256 := by
    intro z h
    simp [Lit.wf, IntKind.min, IntKind.max, IntKind.bits, IntKind.signed] at h
    exact ⟨z.toNat, by omega, by omega⟩
  obtain ⟨b0, rfl, hb0⟩ := bd w2_0
  obtain ⟨b1, rfl, hb1⟩ := bd w2_1
  obtain ⟨b2, rfl, hb2⟩ := bd w2_2
  obtain ⟨b3, rfl, hb3⟩ := bd w2_3
  obtain ⟨t, rfl, ht⟩ : ∃ n : Nat, a1 = (n : Int) ∧ n < 65536 := by
    simp [Lit.wf, IntKind.min, IntKind.max, IntKind.bits, IntKind.signed] at w1
    exact ⟨a1.toNat, by omega, by omega⟩
  clear w2_0 w2_1 w2_2 w2_3 w1 bd
  have aw : ∀ {u : World}, Below w.heap.size w u → ∀ {u' : World}, Below u.heap.size u u' → Below w.heap.size w u' := fun h _ h' => h.trans (h'.mono h.size)
  have hst : Below w.heap.size w (w.alloc (.cells #[.int .u8 (b0 : Int), .int .u8 (b1 : Int), .int .u8 (b2 : Int), .int .u8 (b3 : Int)] 29)) := (Below.refl _ _).alloc (Nat.le_refl _) _
  by_cases h4 : a0_n < 4 ∨ 1000 < a0_n
  · go_enter Try.func4, Try.ntmps4
    rcases h4 with h4 | h4
    all_goals go_wp2_with (go_at_call 7; refine (CrL.awake_any _).mono ?_; rintro e w' ⟨rfl, HB⟩; first | (have HC : Below w.heap.size w w' := aw hst HB) | (have HC : Below w.heap.size w w' := aw HC HB))
    all_goals go_ret
    all_goals exact ⟨rfl, HC⟩
  · have h5 : 4 ≤ a0_n := by omega
    have h6 : a0_n ≤ 1000 := by omega
    clear h4
    have hlay : Lay w.heap.size [b0, b1, b2, b3] (w.alloc (.cells #[.int .u8 (b0 : Int), .int .u8 (b1 : Int), .int .u8 (b2 : Int), .int .u8 (b3 : Int)] 29)) := by
      refine ⟨by simp, fun k hk => ?_⟩
      have hk' : k < 4 := hk
      match k, hk' with
      | 0, _ => simp [go_sem]
      | 1, _ => simp [go_sem]
      | 2, _ => simp [go_sem]
      | 3, _ => simp [go_sem]
    obtain ⟨k, hk⟩ : ∃ k, k = t % (a0_n - 3) := ⟨_, rfl⟩
    have hke : (t : Int) % ((a0_n : Int) - 3) = (k : Int) := by
      rw [hk, show ((a0_n : Int) - 3) = ((a0_n - 3 : Nat) : Int) by omega]; rfl
    have hkl : k + 4 ≤ l.length := by
      have : t % (a0_n - 3) < a0_n - 3 := Nat.mod_lt _ (by omega)
      omega
    clear hk
    have hbs : ∀ x ∈ [b0, b1, b2, b3], x < 256 := by
      intro x hx
      simp at hx
      omega
    go_enter Try.func4, Try.ntmps4
    go_wp2_with (first | (go_at_call 7; refine (CrL.awake_any _).mono ?_; rintro e u ⟨rfl, HB⟩; have HC : Below w.heap.size w u := aw hst HB; have HL := hlay.keep HB; have HR := hr.keep HC) | (at_builtin; refine wp_putAll _ rfl _ _ rfl u.heap.size _ [] rfl (Own.nil _ _) a0_o l a0_n a0_c rfl hl HR (by omega) (by simp; omega) (Nat.le_refl _) ?_; intro v' w1 hown' HD))
    have hown2 : Own u.heap.size v' l w1 := hown'
    clear hown'
    obtain ⟨g, cap, rfl, hg, hL1⟩ := hown2.lay (by omega)
    rw [hl]
    clear hown2
    go_loopw [9] (fun i wr => ∃ j : Nat, j ≤ 4 ∧ i = .int .i64 j ∧ Lay g (Cr.upd l k [b0, b1, b2, b3] j) wr ∧ Below u.heap.size u wr) (fun i _ => 4 - (intOf i).toNat)
    case atStart => exact ⟨0, by omega, rfl, hL1, HD⟩
    case round =>
      clear hL1 HD
      obtain ⟨j, hj, rfl, hlj, hbj⟩ := hrel
      have hL2 := HL.keepB hbj HL.1
      have hlen := Cr.upd_length l k [b0, b1, b2, b3] j
      by_cases h : j < 4
      · have c1 := hlj.2 (k + j) (by omega)
        rw [Cr.upd_past _ _ _ _ _ (Nat.le_refl _)] at c1
        have c2 := (hL2.2 j h).1
        have hx8 := byte_at hb (k + j)
        have hy8 := byte_at hbs j
        obtain ⟨x, hx⟩ : ∃ x, x = l.getD (k + j) 0 := ⟨_, rfl⟩
        obtain ⟨y, hy⟩ : ∃ y, y = [b0, b1, b2, b3].getD j 0 := ⟨_, rfl⟩
        rw [← hx] at c1 hx8
        rw [← hy] at c2 hy8
        have HX : Hid (x = l.getD (k + j) 0) := hx
        have HY : Hid (y = [b0, b1, b2, b3].getD j 0) := hy
        clear hx hy
        obtain ⟨c1, f1⟩ := c1
        have hxor := u8_xor_nat x y hx8 hy8
        have hgl := hlj.1
        have hwl := hL2.1
        go_wp2_with fail
        go_region
        go_wp2
        go_roundw
        case rel =>
          refine ⟨j + 1, by omega, by go_num, ?_, (hbj.setCell (p := ⟨g, k + j, none⟩) hg _).drew⟩
          have := (hlj.put (i := k + j) (by omega) (x ^^^ y)).drew
          rw [HX.out, HY.out] at this
          rw [HX.out, HY.out]
          exact this
        case measure => simp [intOf]; omega
      · obtain rfl : j = 4 := by omega
        have hrow := hlj.row
        have hrb := HR.keep hbj
        have hul := Cr.upd_lt k hb hbs 4
        have hiff := Cr.upd_four hkl hb hb0 hb1 hb2 hb3
        have hae := arr_eql
        have d0 := KeptW.at hL2.1 (hL2.2 0 (by show 0 < 4; omega)).1
        have d1 := KeptW.at hL2.1 (hL2.2 1 (by show 1 < 4; omega)).1
        have d2 := KeptW.at hL2.1 (hL2.2 2 (by show 2 < 4; omega)).1
        have d3 := KeptW.at hL2.1 (hL2.2 3 (by show 3 < 4; omega)).1
        simp only [List.getD_cons_zero, List.getD_cons_succ] at d0 d1 d2 d3
        have hfin := HC.trans (hbj.mono HC.size)
        clear hlj hL2 hbj HB HC HL HR hlay hst
        obtain ⟨m, hm⟩ : ∃ m, m = Cr.upd l k [b0, b1, b2, b3] 4 := ⟨_, rfl⟩
        rw [← hm] at hrow hul hiff hlen
        clear hm
        have sm : ∀ x : KeptW wr, Calls Try.prog 8 #[.slice (some ⟨g, 0, none⟩) a0_n cap] x.u fun e w'' => e = .returned (.int .u32 ((Cr.sum m : Nat) : Int)) ∧ ∃ y : KeptW wr, w'' = y.u :=
          fun x => kept_same (CrW.sum_any _ m _ _ _ (hlen.trans hl) (by omega) (hrow.keep x.h) hul)
        have sl : ∀ x : KeptW wr, Calls Try.prog 8 #[.slice a0_o a0_n a0_c] x.u fun e w'' => e = .returned (.int .u32 ((Cr.sum l : Nat) : Int)) ∧ ∃ y : KeptW wr, w'' = y.u :=
          fun x => kept_same (CrW.sum_any _ l _ _ _ hl (by omega) (hrb.keep x.h) hb)
        have ne : Nonempty (KeptW wr) := KeptW.one wr
        clear hrow hrb hul hlen
        by_cases hz : b0 = 0 ∧ b1 = 0 ∧ b2 = 0 ∧ b3 = 0
        · obtain ⟨rfl, rfl, rfl, rfl⟩ := hz
          have heq := hiff.2 ⟨rfl, rfl, rfl, rfl⟩
          go_wp2_with fail
          refine wp_region_kept (by kernel_rfl) (by kernel_rfl) ?_
          repeat (go_big_quiet_step (first | (go_at_call 8; with_reducible exact sm _) | (go_at_call 8; with_reducible exact sl _)))
          refine wpQuiet_nil ?_
          rintro _ ⟨x, rfl⟩
          go_wp2
          go_ret
          exact ⟨rfl, hfin.trans (x.h.mono hfin.size)⟩
        · have hne : (((Cr.sum m : Nat) : Int) == ((Cr.sum l : Nat) : Int)) = false := by
            rw [beq_eq_false_iff_ne]
            intro h
            exact hz (hiff.1 (by omega))
          have hze : (((!((b0 : Int) == 0) || !((b1 : Int) == 0)) || !((b2 : Int) == 0)) || !((b3 : Int) == 0)) = true := by
            by_cases z0 : b0 = 0
            · by_cases z1 : b1 = 0
              · by_cases z2 : b2 = 0
                · have z3 : b3 ≠ 0 := fun z3 => hz ⟨z0, z1, z2, z3⟩
                  simp [z3]
                · simp [z2]
              · simp [z1]
            · simp [z0]
          have HZ : Hid (_ = true) := hze
          clear hze
          go_wp2_with fail
          refine wp_region_kept (by kernel_rfl) (by kernel_rfl) ?_
          repeat (go_big_quiet_step (first | (go_at_call 8; with_reducible exact sm _) | (go_at_call 8; with_reducible exact sl _)))
          refine wpQuiet_nil ?_
          rintro _ ⟨x, rfl⟩
          go_wp2
          go_ret
          exact ⟨congrArg (fun b => Ending.returned (.bool b)) HZ.out, hfin.trans (x.h.mono hfin.size)⟩

set_option maxRecDepth 100000 in
theorem lifted (os : Os) (started : os.Started) (H : Type) (enc : TypeId × Value → H) :
    ReturnsInHanded {} Try.checked os 4 .any (Rows.crcTellsSpec.pre6 enc Try.prog Try.f4 Rows.crcTellsRow.domain false) (Rows.crcTellsSpec.post enc Try.prog Try.f4 false true false false) := by
  refine returnsInHanded_of_change (C := Try.checked) own started (by kernel_rfl) Try.func4
    (ChangeSpec.witness6 (enc := enc) (C := Try.checked) false ⟨#[], #[.slice none 0 0, .int .u16 0, .agg #[.int .u8 0, .int .u8 0, .int .u8 0, .int .u8 0]], []⟩ 8 (by kernel_rfl) (by kernel_rfl) (by kernel_rfl) (by kernel_rfl)) ?_
  intro W base args ds gs before hval0 hW hcnd _
  have hval : ∀ (j : Nat) t v, Try.f4.params[j]? = some t → args[j]? = some v → Value.okWide Try.prog W .any base t v := hval0
  have hW' := hW
  obtain ⟨p, q, hA0, hV, rfl, hfz, hnd⟩ := hW
  have hA : DataW.TrodAll enc Try.prog W 0 (fun _ => true) true Try.f4.params.toList args.toList ds p := hA0
  rw [Try.params4] at hA hval
  obtain ⟨v0, vs0, d0, ds0, p0, q0, hargs, rfl, rfl, h0, r0⟩ := trodAll_cons hA
  obtain ⟨v1, vs1, d1, ds1, p1, q1, rfl, rfl, rfl, h1, r1⟩ := trodAll_cons r0
  obtain ⟨v2, vs2, d2, ds2, p2, q2, rfl, rfl, rfl, h2, r2⟩ := trodAll_cons r1
  obtain ⟨rfl, rfl, rfl⟩ := trodAll_nil r2
  obtain rfl : args = #[v0, v1, v2] := by cases args; simp_all
  obtain ⟨rfl, rfl⟩ := trodVars_none hV
  have k0 := h0
  have lt0 : ∀ x ∈ p0, x.block < W.heap.size := by obtain ⟨m, hm⟩ := k0; exact DataW.trod_lt m _ _ _ hm
  have k1 := h1
  have lt1 : ∀ x ∈ p1, x.block < W.heap.size := by obtain ⟨m, hm⟩ := k1; exact DataW.trod_lt m _ _ _ hm
  have k2 := h2
  have lt2 : ∀ x ∈ p2, x.block < W.heap.size := by obtain ⟨m, hm⟩ := k2; exact DataW.trod_lt m _ _ _ hm
  obtain ⟨a0_o, a0_n, a0_c, rfl, w0_m, w0_l, w0⟩ := open_row Try.underlying22 Try.underlying5 (by kernel_rfl) (hval 0 22 v0 rfl rfl) h0
  obtain ⟨a1, rfl, _, _, w1⟩ := open_int Try.underlying28 (hval 1 28 v1 rfl rfl) h1
  obtain ⟨a2_0, a2_1, a2_2, a2_3, rfl, w2_0, w2_1, w2_2, w2_3⟩ : ∃ b0 b1 b2 b3, v2 = .agg #[.int .u8 b0, .int .u8 b1, .int .u8 b2, .int .u8 b3] ∧ (Lit.int .u8 b0).wf = true ∧ (Lit.int .u8 b1).wf = true ∧ (Lit.int .u8 b2).wf = true ∧ (Lit.int .u8 b3).wf = true := by
    have hv := hval 2 29 v2 rfl rfl
    simp only [Value.okWide, Try.underlying29] at hv
    obtain ⟨cs, rfl, hsz, _⟩ := hv
    obtain ⟨c0, c1, c2, c3, rfl⟩ := Go.Joins.array4 (hsz.trans (show Try.prog.cellsOf 29 = 4 by kernel_rfl))
    obtain ⟨fuel, hf⟩ := h2
    obtain ⟨y0, y1, y2, y3, m, _, g0, g1, g2, g3⟩ := trod_array4 Try.underlying29 (show Try.prog.cellsOf 5 = 1 by kernel_rfl) (by simpa [Value.cells] using hf)
    obtain ⟨b0, e0, _, q0⟩ := DataW.trod_int Try.underlying5 g0
    obtain ⟨b1, e1, _, q1⟩ := DataW.trod_int Try.underlying5 g1
    obtain ⟨b2, e2, _, q2⟩ := DataW.trod_int Try.underlying5 g2
    obtain ⟨b3, e3, _, q3⟩ := DataW.trod_int Try.underlying5 g3
    simp at e0 e1 e2 e3
    subst e0 e1 e2 e3
    exact ⟨b0, b1, b2, b3, rfl, q0, q1, q2, q3⟩
  clear hA0 hval0
  refine (walk a0_o a0_n a0_c a1 a2_0 a2_1 a2_2 a2_3 w0_m w0_l w1 w2_0 w2_1 w2_2 w2_3 W w0).mono fun e W' ⟨he, bel⟩ => ?_
  subst he
  exact ⟨_, rfl, _, _, _, [], _, [], hW', trodAll_mk1 (shut_bool Try.underlying4 _), (trodAll_cons_mk (Below.trod laidOut (by kernel_rfl) (of_decide_eq_true (by kernel_rfl)) k0 bel lt0) (trodAll_cons_mk (Below.trod laidOut (by kernel_rfl) (of_decide_eq_true (by kernel_rfl)) k1 bel lt1) (trodAll_cons_mk (Below.trod laidOut (by kernel_rfl) (of_decide_eq_true (by kernel_rfl)) k2 bel lt2) trodAll_mk0))), rfl, bel.frame _, fun h => by cases h⟩

theorem over : Rows.crcTellsRow.holds Try.pinned (OpenSpec.ofChange Rows.crcTellsSpec) :=
  OpenClaim.holds_of_wide 4 Try.f4 rfl rfl rfl rfl rfl rfl rfl ⟨rfl, rfl, rfl, rfl, rfl⟩ rfl rfl rfl rfl rfl (by kernel_rfl) Try.func4 (by kernel_rfl)
    (of_decide_eq_true (by kernel_rfl)) (by unfold Func.isWrapper; first | (rw [if_pos (by decide +kernel)]; kernel_rfl) | (rw [if_neg (by decide +kernel)]; exact ⟨rfl, rfl⟩))
    (fun os started H enc _ => lifted os started H enc)

theorem proved : Rows.CrcTellsSaid :=
  over
#print axioms proved
end Go.Proofs.Ytbiidllbcnlaeaa.crcTells

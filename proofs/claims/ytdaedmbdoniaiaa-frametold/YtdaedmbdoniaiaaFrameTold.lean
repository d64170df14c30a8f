/- A datagram of which up to four bytes side by side, of the sum or of the payload, are others isn't opened. -/
import Derived.Test.YtdaedmbdoniaiaaRows
import Derived.Test.YtdaedmbdoniaiaaFrLaw
import Derived.Test.YtdaedmbdoniaiaaInts
import Derived.Test.YtdaedmbdoniaiaaFlat
import Derived.WalkKit
import Derived.ProofKit
import Derived.OpenShut
import Derived.ChangeOld
import Derived.Below
import Derived.WalkSmall
import Derived.Lib.SmallJoins
import Derived.Laws.IdiomArrays
namespace Go.Proofs.Ytdaedmbdoniaiaa.frameTold
open Go.ChangeShapes Go.WideShapes Go.ChangeAt Go.RowKit
set_option linter.unusedVariables false

theorem own : ownKnob Try.prog.godebug = none := by kernel_rfl
theorem laidOut : laidOutB Try.prog = true := by kernel_rfl

theorem flat2_of (cs : List Value) (h : AllOk [.int .u8, .int .u8, .int .u8, .int .u8, .int .u8, .int .u8] cs) : ∃ x0 x1 x2 x3 x4 x5, cs = [.int .u8 x0, .int .u8 x1, .int .u8 x2, .int .u8 x3, .int .u8 x4, .int .u8 x5] ∧ (Lit.int .u8 x0).wf = true ∧ (Lit.int .u8 x1).wf = true ∧ (Lit.int .u8 x2).wf = true ∧ (Lit.int .u8 x3).wf = true ∧ (Lit.int .u8 x4).wf = true ∧ (Lit.int .u8 x5).wf = true := by
  match cs, h with
  | [_, _, _, _, _, _], ⟨⟨x0, rfl, y0⟩, ⟨x1, rfl, y1⟩, ⟨x2, rfl, y2⟩, ⟨x3, rfl, y3⟩, ⟨x4, rfl, y4⟩, ⟨x5, rfl, y5⟩, _⟩ => exact ⟨x0, x1, x2, x3, x4, x5, rfl, y0, y1, y2, y3, y4, y5⟩

/-- is one of the first j bytes not 0? -/
def chg (bs : List Nat) (j : Nat) : Bool := (bs.take j).any (fun b => b != 0)
theorem chg_next {bs : List Nat} {j : Nat} (h : j < bs.length) : chg bs (j + 1) = (chg bs j || (bs.getD j 0 != 0)) := by
  unfold chg
  rw [List.take_add_one, List.getElem?_eq_getElem h, List.any_append]
  simp [List.getD, List.getElem?_eq_getElem h]
theorem chg_four (b0 b1 b2 b3 b4 b5 : Nat) : chg [b0, b1, b2, b3, b4, b5] 4 = !decide (b0 = 0 ∧ b1 = 0 ∧ b2 = 0 ∧ b3 = 0) := by
  by_cases h0 : b0 = 0 <;> by_cases h1 : b1 = 0 <;> by_cases h2 : b2 = 0 <;> by_cases h3 : b3 = 0 <;> simp [chg, h0, h1, h2, h3]
theorem upd_six (X : List Nat) (f b0 b1 b2 b3 b4 b5 : Nat) : Cr.upd X f [b0, b1, b2, b3, b4, b5] 4 = Cr.upd X f [b0, b1, b2, b3] 4 := by simp [Cr.upd]

set_option maxRecDepth 20000 in
set_option maxHeartbeats 8000000 in
theorem walk (a0 : Int) (a1_o : Option Addr) (a1_n a1_c : Nat) (a2_0 : Int) (a2_1 : Int) (a2_2 : Int) (a2_3 : Int) (a2_4 : Int) (a2_5 : Int) (w0 : (Lit.int .u32 a0).wf = true) (w1_m : a1_n ≤ maxLen) (w1_l : a1_n ≤ a1_c) (w2_0 : (Lit.int .u8 a2_0).wf = true) (w2_1 : (Lit.int .u8 a2_1).wf = true) (w2_2 : (Lit.int .u8 a2_2).wf = true) (w2_3 : (Lit.int .u8 a2_3).wf = true) (w2_4 : (Lit.int .u8 a2_4).wf = true) (w2_5 : (Lit.int .u8 a2_5).wf = true) (w : World) (w1 : Ints .u8 a1_o a1_n w) :
    Calls Try.prog 5 #[.int .u32 a0, .slice a1_o a1_n a1_c, .agg #[.int .u8 a2_0, .int .u8 a2_1, .int .u8 a2_2, .int .u8 a2_3, .int .u8 a2_4, .int .u8 a2_5]] w fun e w' => e = .returned (.bool true) ∧ Below w.heap.size w w' := by
  obtain ⟨key, rfl, hk⟩ := FrL.u32_nat w0
  clear w0
  have HM : (a1_n : Int) ≤ 9223372036854775807 := by unfold maxLen at w1_m; omega
  clear w1_m w1_l
  have bd : ∀ {z : Int}, (Lit.int .u8 z).wf = true → ∃ n : Nat, z = (n : Int) ∧ n < 256 := by
    intro z h
    simp [Lit.wf, IntKind.min, IntKind.max, IntKind.bits, IntKind.signed] at h
    exact ⟨z.toNat, by omega, by omega⟩
  obtain ⟨b0, rfl, hb0⟩ := bd w2_0
  obtain ⟨b1, rfl, hb1⟩ := bd w2_1
  obtain ⟨b2, rfl, hb2⟩ := bd w2_2
  obtain ⟨b3, rfl, hb3⟩ := bd w2_3
  obtain ⟨b4, rfl, hb4⟩ := bd w2_4
  obtain ⟨b5, rfl, hb5⟩ := bd w2_5
  clear w2_0 w2_1 w2_2 w2_3 w2_4 w2_5 bd
  have T0 := (Turned.refl [] w).alloc (.cells #[.int .u8 (b0 : Int), .int .u8 (b1 : Int), .int .u8 (b2 : Int), .int .u8 (b3 : Int), .int .u8 (b4 : Int), .int .u8 (b5 : Int)] 31)
  by_cases h1 : (a1_n : Int) ≤ 1000
  · obtain ⟨l, hl, hb, hr⟩ := bytes_row w1
    clear w1
    have hlay : Lay w.heap.size [b0, b1, b2, b3, b4, b5] (w.alloc (.cells #[.int .u8 (b0 : Int), .int .u8 (b1 : Int), .int .u8 (b2 : Int), .int .u8 (b3 : Int), .int .u8 (b4 : Int), .int .u8 (b5 : Int)] 31)) := by
      refine ⟨by simp, fun k hk => ?_⟩
      have hk' : k < 6 := hk
      match k, hk' with
      | 0, _ => simp [go_sem]
      | 1, _ => simp [go_sem]
      | 2, _ => simp [go_sem]
      | 3, _ => simp [go_sem]
      | 4, _ => simp [go_sem]
      | 5, _ => simp [go_sem]
    have hbs : ∀ x ∈ [b0, b1, b2, b3, b4, b5], x < 256 := by
      intro x hx
      simp at hx
      omega
    obtain ⟨nX, hnX⟩ : ∃ n, (Fr.wrap key l).length = n := ⟨_, rfl⟩
    have hXn : nX = a1_n + 4 := by rw [← hnX, Fr.wrap_length, hl]
    have hXi : (nX : Int) = (a1_n : Int) + 4 := by omega
    have hbx : ∀ x ∈ Fr.wrap key l, x < 256 := Fr.wrap_lt hb
    have kW : ∀ u, Turned [] w u → Calls Try.prog 9 #[.int .u32 (key : Int), .slice a1_o a1_n a1_c] u fun e u' => ∃ g c, e = .returned (.tuple #[.slice (some ⟨g, 0, none⟩) nX c, .int .i64 0]) ∧ Hid (nX ≤ c) ∧ Hid (u.heap.size ≤ g) ∧ Lay g (Fr.wrap key l) u' ∧ Turned [] u u' := by
      intro u ht
      refine (FrW.wrap_any key hk a1_o l a1_n a1_c u hl (by omega) (hr.turned ht (by simp)) hb).mono ?_
      rintro e u' ⟨v, rfl, ho, ht', hge⟩
      obtain ⟨o2, c2, hv2, hle, _, _, _⟩ := ho.rowOf byEnc_len
      obtain ⟨g, c, hv, hg, hL⟩ := (ho.own hge).lay (by omega)
      have hcc : c2 = c := by rw [hv] at hv2; exact (Value.slice.inj hv2).2.2.symm
      rw [hnX] at hv hle
      rw [hcc] at hle
      exact ⟨g, c, by rw [hv], hle, hg, hL, ht'⟩
    -- where the four bytes lie
    have cases3 : ∃ f : Nat, f + 4 ≤ nX ∧ Fr.opens key (Cr.upd (Fr.wrap key l) f [b0, b1, b2, b3, b4, b5] 4) = decide (b0 = 0 ∧ b1 = 0 ∧ b2 = 0 ∧ b3 = 0) ∧ ((((b4 : Int) % 2 = 0) ∧ f = 0) ∨ (((b4 : Int) % 2 = 1) ∧ (a1_n : Int) < 4 ∧ f = 0) ∨ (((b4 : Int) % 2 = 1) ∧ 4 ≤ (a1_n : Int) ∧ ∃ k : Nat, (b5 : Int) % ((a1_n : Int) - 3) = (k : Int) ∧ 4 + (k : Int) = (f : Int))) := by
      by_cases hm : (b4 : Int) % 2 = 1 ∧ 4 ≤ (a1_n : Int)
      · obtain ⟨hm, h4⟩ := hm
        obtain ⟨k, hke⟩ : ∃ k, k = b5 % (a1_n - 3) := ⟨_, rfl⟩
        have hki : (b5 : Int) % ((a1_n : Int) - 3) = (k : Int) := by
          rw [hke, show ((a1_n : Int) - 3) = ((a1_n - 3 : Nat) : Int) by omega]; rfl
        have hkl : k + 4 ≤ l.length := by
          have : b5 % (a1_n - 3) < a1_n - 3 := Nat.mod_lt _ (by omega)
          omega
        refine ⟨4 + k, by omega, ?_, .inr (.inr ⟨hm, h4, k, hki, by omega⟩)⟩
        rw [upd_six, FrL.told_payload hkl hb hb0 hb1 hb2 hb3]
      · refine ⟨0, by omega, ?_, ?_⟩
        · rw [upd_six, FrL.told_sum]
        · by_cases h2 : (b4 : Int) % 2 = 0
          · exact .inl ⟨h2, rfl⟩
          · exact .inr (.inl ⟨by omega, by omega, rfl⟩)
    obtain ⟨f, hf4, hop, cases3⟩ := cases3
    have hfi : (f : Int) + 4 ≤ (nX : Int) := by omega
    have kO : ∀ u g c, Hid (nX ≤ c) → Lay g (Cr.upd (Fr.wrap key l) f [b0, b1, b2, b3, b4, b5] 4) u → Calls Try.prog 11 #[.int .u32 (key : Int), .slice (some ⟨g, 0, none⟩) nX c] u fun e u' => ∃ v, e = .returned (.tuple #[v, .int .i64 (if b0 = 0 ∧ b1 = 0 ∧ b2 = 0 ∧ b3 = 0 then 0 else 5)]) ∧ Turned [] u u' := by
      intro u g c HC hL
      have hcc := HC.out
      have hul := Cr.upd_length (Fr.wrap key l) f [b0, b1, b2, b3, b4, b5] 4
      refine (FrW.open_all key hk (some ⟨g, 0, none⟩) _ nX c u (hul.trans hnX) (by omega) (by omega) hL.row.rowOf (Cr.upd_lt f hbx hbs 4)).mono ?_
      rintro e u' ⟨v, rfl, ho, ht', _⟩
      refine ⟨v, ?_, ht'⟩
      rw [Fr.openC_in (by omega) (by omega), hop]
      by_cases hz : b0 = 0 ∧ b1 = 0 ∧ b2 = 0 ∧ b3 = 0
      · rw [if_pos (by simpa using hz), if_pos hz]
      · rw [if_neg (by simpa using hz), if_neg hz]
    have hlen := fun j => Cr.upd_length (Fr.wrap key l) f [b0, b1, b2, b3, b4, b5] j
    have HF4 : Hid (f + 4 ≤ nX) := hf4
    have HnX : Hid ((Fr.wrap key l).length = nX) := hnX
    have HM4 : Hid (b4 < 256) := hb4
    have h5 : (b5 : Int) < 256 := by omega
    clear hop hf4 hnX hl hXn hr hb hk hb0 hb1 hb2 hb3 hb4 hb5
    generalize Fr.wrap key l = X at kW kO hlen HnX hbx
    have ce := chg_four b0 b1 b2 b3 b4 b5
    go_enter Try.func5, Try.ntmps5
    rcases cases3 with ⟨hm, rfl⟩ | ⟨hm, h4, rfl⟩ | ⟨hm, h4, k, hki, hfk⟩
    · go_wp2_with (first
        | (go_at_call 8; refine (FrL.awake_any _).mono ?_; rintro e u ⟨rfl, T1⟩; have TU := T0.trans T1 (fun k hk _ => hk); have HL := hlay.keep T1.none)
        | (go_at_call 9; (with_reducible refine (kW _ TU).mono ?_); rintro e w2 ⟨g, c, rfl, HC, HG, LX, T2⟩; have HL2 := HL.keep T2.none; have q4 := (HL2.2 4 (by show 4 < 6; omega)).1; have q5 := (HL2.2 5 (by show 5 < 6; omega)).1; simp only [List.getD_cons_zero, List.getD_cons_succ] at q4 q5))
      have hbel : Below u.heap.size u w2 := T2.none
      have hgw : ¬ g = w.heap.size := by have h1 := HG.out; have h2 := HL.1; omega
      have hwg : ¬ w.heap.size = g := fun h => hgw h.symm
      clear kW T0 T1 hlay q4 q5 HL2
      go_loopw [11, 12] (fun ch i wr => ∃ j : Nat, j ≤ 4 ∧ i = .int .i64 j ∧ ch = .bool (chg [b0, b1, b2, b3, b4, b5] j) ∧ Lay g (Cr.upd X 0 [b0, b1, b2, b3, b4, b5] j) wr ∧ Below u.heap.size u wr) (fun _ i _ => 4 - (intOf i).toNat)
      case atStart => exact ⟨0, by omega, rfl, rfl, LX, hbel⟩
      case round =>
        clear LX hbel
        obtain ⟨j, hj, rfl, rfl, hlj, hbj⟩ := hrel
        have hL2 := HL.keepB hbj HL.1
        have hul := hlen j
        by_cases h : j < 4
        · have c1 := hlj.2 (0 + j) (by have h1 := HF4.out; have h2 := HnX.out; omega)
          rw [Cr.upd_past _ _ _ _ _ (Nat.le_refl _)] at c1
          have c2 := (hL2.2 j (by show j < 6; omega)).1
          have hx8 := byte_at hbx (0 + j)
          have hy8 := byte_at hbs j
          have cn := chg_next (bs := [b0, b1, b2, b3, b4, b5]) (j := j) (by show j < 6; omega)
          obtain ⟨x, hx⟩ : ∃ x, x = X.getD (0 + j) 0 := ⟨_, rfl⟩
          obtain ⟨y, hy⟩ : ∃ y, y = [b0, b1, b2, b3, b4, b5].getD j 0 := ⟨_, rfl⟩
          rw [← hx] at c1 hx8
          rw [← hy] at c2 hy8 cn
          have HX : Hid (x = X.getD (0 + j) 0) := hx
          have HY : Hid (y = [b0, b1, b2, b3, b4, b5].getD j 0) := hy
          clear hx hy
          obtain ⟨c1, f1⟩ := c1
          rw [Nat.zero_add] at c1 f1
          have hxor := u8_xor_nat x y hx8 hy8
          have hgl := hlj.1
          have hwl := hL2.1
          have HP : Hid (Lay g (Cr.upd X 0 [b0, b1, b2, b3, b4, b5] (j + 1)) (wr.setCell ⟨g, j, none⟩ (.int .u8 ((x ^^^ y : Nat) : Int))).drew ∧ Below u.heap.size u (wr.setCell ⟨g, j, none⟩ (.int .u8 ((x ^^^ y : Nat) : Int))).drew) := by
            refine ⟨?_, (hbj.setCell (p := ⟨g, j, none⟩) HG.out _).drew⟩
            have := (hlj.put (i := 0 + j) (by have h1 := HF4.out; have h2 := HnX.out; omega) (x ^^^ y)).drew
            rw [Nat.zero_add] at this
            have e : Cr.upd X 0 [b0, b1, b2, b3, b4, b5] (j + 1) = (Cr.upd X 0 [b0, b1, b2, b3, b4, b5] j).set (j) (x ^^^ y) := by
              show (Cr.upd X 0 [b0, b1, b2, b3, b4, b5] j).set (0 + j) (X.getD (0 + j) 0 ^^^ [b0, b1, b2, b3, b4, b5].getD j 0) = _
              rw [← HX.out, ← HY.out, Nat.zero_add]
            rw [e]
            exact this
          have HCN : Hid (chg [b0, b1, b2, b3, b4, b5] (j + 1) = (chg [b0, b1, b2, b3, b4, b5] j || y != 0)) := cn
          obtain ⟨q, hq⟩ : ∃ q, q = chg [b0, b1, b2, b3, b4, b5] j := ⟨_, rfl⟩
          have HQ : Hid (q = chg [b0, b1, b2, b3, b4, b5] j) := hq
          rw [← hq]
          clear hq cn hlj hbj hL2 hul kO ce
          cases q
          · have HN : Hid (((y : Int) != 0) = (y != 0)) := by
              show ((y : Int) != 0) = (y != 0)
              by_cases hy0 : y = 0
              · subst hy0; rfl
              · have h1 : ((y : Int) != 0) = true := by simpa using hy0
                have h2 : (y != 0) = true := by simpa using hy0
                rw [h1, h2]
            go_wp2_with fail
            go_region
            go_wp2_with fail
            go_roundw
            case rel => exact ⟨j + 1, by omega, by go_num, by rw [HCN.out, ← HQ.out, ← HN.out]; rfl, HP.out.1, HP.out.2⟩
            case measure => simp [intOf]; omega
          · go_wp2_with fail
            go_region
            go_wp2_with fail
            go_roundw
            case rel => exact ⟨j + 1, by omega, by go_num, by rw [HCN.out, ← HQ.out]; rfl, HP.out.1, HP.out.2⟩
            case measure => simp [intOf]; omega
        · obtain rfl : j = 4 := by omega
          have kO' := kO wr g c HC hlj
          have hfin : ∀ w5, Turned [] wr w5 → Below w.heap.size w w5 := fun w5 T5 => (TU.none).trans ((FrL.turned_below hbj (Nat.le_refl _) T5).mono TU.size)
          clear hlj hL2 hul kO hbj HL HG hlen hbx hbs
          rw [ce]
          by_cases hz : b0 = 0 ∧ b1 = 0 ∧ b2 = 0 ∧ b3 = 0
          · rw [if_pos hz] at kO'
            rw [decide_eq_true hz, show ((4 : Nat) : Int) = 4 from rfl]
            clear hz ce
            go_wp2_with (go_at_call 11; (with_reducible refine kO'.mono ?_); rintro e w5 ⟨v5, rfl, T5⟩)
            go_ret
            exact ⟨rfl, hfin _ T5⟩
          · rw [if_neg hz] at kO'
            rw [decide_eq_false hz, show ((4 : Nat) : Int) = 4 from rfl]
            clear hz ce
            go_wp2_with (go_at_call 11; (with_reducible refine kO'.mono ?_); rintro e w5 ⟨v5, rfl, T5⟩)
            go_ret
            exact ⟨rfl, hfin _ T5⟩
    · go_wp2_with (first
        | (go_at_call 8; refine (FrL.awake_any _).mono ?_; rintro e u ⟨rfl, T1⟩; have TU := T0.trans T1 (fun k hk _ => hk); have HL := hlay.keep T1.none)
        | (go_at_call 9; (with_reducible refine (kW _ TU).mono ?_); rintro e w2 ⟨g, c, rfl, HC, HG, LX, T2⟩; have HL2 := HL.keep T2.none; have q4 := (HL2.2 4 (by show 4 < 6; omega)).1; have q5 := (HL2.2 5 (by show 5 < 6; omega)).1; simp only [List.getD_cons_zero, List.getD_cons_succ] at q4 q5))
      have hbel : Below u.heap.size u w2 := T2.none
      have hgw : ¬ g = w.heap.size := by have h1 := HG.out; have h2 := HL.1; omega
      have hwg : ¬ w.heap.size = g := fun h => hgw h.symm
      clear kW T0 T1 hlay q4 q5 HL2
      go_loopw [11, 12] (fun ch i wr => ∃ j : Nat, j ≤ 4 ∧ i = .int .i64 j ∧ ch = .bool (chg [b0, b1, b2, b3, b4, b5] j) ∧ Lay g (Cr.upd X 0 [b0, b1, b2, b3, b4, b5] j) wr ∧ Below u.heap.size u wr) (fun _ i _ => 4 - (intOf i).toNat)
      case atStart => exact ⟨0, by omega, rfl, rfl, LX, hbel⟩
      case round =>
        clear LX hbel
        obtain ⟨j, hj, rfl, rfl, hlj, hbj⟩ := hrel
        have hL2 := HL.keepB hbj HL.1
        have hul := hlen j
        by_cases h : j < 4
        · have c1 := hlj.2 (0 + j) (by have h1 := HF4.out; have h2 := HnX.out; omega)
          rw [Cr.upd_past _ _ _ _ _ (Nat.le_refl _)] at c1
          have c2 := (hL2.2 j (by show j < 6; omega)).1
          have hx8 := byte_at hbx (0 + j)
          have hy8 := byte_at hbs j
          have cn := chg_next (bs := [b0, b1, b2, b3, b4, b5]) (j := j) (by show j < 6; omega)
          obtain ⟨x, hx⟩ : ∃ x, x = X.getD (0 + j) 0 := ⟨_, rfl⟩
          obtain ⟨y, hy⟩ : ∃ y, y = [b0, b1, b2, b3, b4, b5].getD j 0 := ⟨_, rfl⟩
          rw [← hx] at c1 hx8
          rw [← hy] at c2 hy8 cn
          have HX : Hid (x = X.getD (0 + j) 0) := hx
          have HY : Hid (y = [b0, b1, b2, b3, b4, b5].getD j 0) := hy
          clear hx hy
          obtain ⟨c1, f1⟩ := c1
          rw [Nat.zero_add] at c1 f1
          have hxor := u8_xor_nat x y hx8 hy8
          have hgl := hlj.1
          have hwl := hL2.1
          have HP : Hid (Lay g (Cr.upd X 0 [b0, b1, b2, b3, b4, b5] (j + 1)) (wr.setCell ⟨g, j, none⟩ (.int .u8 ((x ^^^ y : Nat) : Int))).drew ∧ Below u.heap.size u (wr.setCell ⟨g, j, none⟩ (.int .u8 ((x ^^^ y : Nat) : Int))).drew) := by
            refine ⟨?_, (hbj.setCell (p := ⟨g, j, none⟩) HG.out _).drew⟩
            have := (hlj.put (i := 0 + j) (by have h1 := HF4.out; have h2 := HnX.out; omega) (x ^^^ y)).drew
            rw [Nat.zero_add] at this
            have e : Cr.upd X 0 [b0, b1, b2, b3, b4, b5] (j + 1) = (Cr.upd X 0 [b0, b1, b2, b3, b4, b5] j).set (j) (x ^^^ y) := by
              show (Cr.upd X 0 [b0, b1, b2, b3, b4, b5] j).set (0 + j) (X.getD (0 + j) 0 ^^^ [b0, b1, b2, b3, b4, b5].getD j 0) = _
              rw [← HX.out, ← HY.out, Nat.zero_add]
            rw [e]
            exact this
          have HCN : Hid (chg [b0, b1, b2, b3, b4, b5] (j + 1) = (chg [b0, b1, b2, b3, b4, b5] j || y != 0)) := cn
          obtain ⟨q, hq⟩ : ∃ q, q = chg [b0, b1, b2, b3, b4, b5] j := ⟨_, rfl⟩
          have HQ : Hid (q = chg [b0, b1, b2, b3, b4, b5] j) := hq
          rw [← hq]
          clear hq cn hlj hbj hL2 hul kO ce
          cases q
          · have HN : Hid (((y : Int) != 0) = (y != 0)) := by
              show ((y : Int) != 0) = (y != 0)
              by_cases hy0 : y = 0
              · subst hy0; rfl
              · have h1 : ((y : Int) != 0) = true := by simpa using hy0
                have h2 : (y != 0) = true := by simpa using hy0
                rw [h1, h2]
            go_wp2_with fail
            go_region
            go_wp2_with fail
            go_roundw
            case rel => exact ⟨j + 1, by omega, by go_num, by rw [HCN.out, ← HQ.out, ← HN.out]; rfl, HP.out.1, HP.out.2⟩
            case measure => simp [intOf]; omega
          · go_wp2_with fail
            go_region
            go_wp2_with fail
            go_roundw
            case rel => exact ⟨j + 1, by omega, by go_num, by rw [HCN.out, ← HQ.out]; rfl, HP.out.1, HP.out.2⟩
            case measure => simp [intOf]; omega
        · obtain rfl : j = 4 := by omega
          have kO' := kO wr g c HC hlj
          have hfin : ∀ w5, Turned [] wr w5 → Below w.heap.size w w5 := fun w5 T5 => (TU.none).trans ((FrL.turned_below hbj (Nat.le_refl _) T5).mono TU.size)
          clear hlj hL2 hul kO hbj HL HG hlen hbx hbs
          rw [ce]
          by_cases hz : b0 = 0 ∧ b1 = 0 ∧ b2 = 0 ∧ b3 = 0
          · rw [if_pos hz] at kO'
            rw [decide_eq_true hz, show ((4 : Nat) : Int) = 4 from rfl]
            clear hz ce
            go_wp2_with (go_at_call 11; (with_reducible refine kO'.mono ?_); rintro e w5 ⟨v5, rfl, T5⟩)
            go_ret
            exact ⟨rfl, hfin _ T5⟩
          · rw [if_neg hz] at kO'
            rw [decide_eq_false hz, show ((4 : Nat) : Int) = 4 from rfl]
            clear hz ce
            go_wp2_with (go_at_call 11; (with_reducible refine kO'.mono ?_); rintro e w5 ⟨v5, rfl, T5⟩)
            go_ret
            exact ⟨rfl, hfin _ T5⟩
    · go_wp2_with (first
        | (go_at_call 8; refine (FrL.awake_any _).mono ?_; rintro e u ⟨rfl, T1⟩; have TU := T0.trans T1 (fun k hk _ => hk); have HL := hlay.keep T1.none)
        | (go_at_call 9; (with_reducible refine (kW _ TU).mono ?_); rintro e w2 ⟨g, c, rfl, HC, HG, LX, T2⟩; have HL2 := HL.keep T2.none; have q4 := (HL2.2 4 (by show 4 < 6; omega)).1; have q5 := (HL2.2 5 (by show 5 < 6; omega)).1; simp only [List.getD_cons_zero, List.getD_cons_succ] at q4 q5))
      have hbel : Below u.heap.size u w2 := T2.none
      have hgw : ¬ g = w.heap.size := by have h1 := HG.out; have h2 := HL.1; omega
      have hwg : ¬ w.heap.size = g := fun h => hgw h.symm
      clear kW T0 T1 hlay q4 q5 HL2
      go_loopw [11, 12] (fun ch i wr => ∃ j : Nat, j ≤ 4 ∧ i = .int .i64 j ∧ ch = .bool (chg [b0, b1, b2, b3, b4, b5] j) ∧ Lay g (Cr.upd X f [b0, b1, b2, b3, b4, b5] j) wr ∧ Below u.heap.size u wr) (fun _ i _ => 4 - (intOf i).toNat)
      case atStart => exact ⟨0, by omega, rfl, rfl, LX, hbel⟩
      case round =>
        clear LX hbel
        obtain ⟨j, hj, rfl, rfl, hlj, hbj⟩ := hrel
        have hL2 := HL.keepB hbj HL.1
        have hul := hlen j
        by_cases h : j < 4
        · have c1 := hlj.2 (f + j) (by have h1 := HF4.out; have h2 := HnX.out; omega)
          rw [Cr.upd_past _ _ _ _ _ (Nat.le_refl _)] at c1
          have c2 := (hL2.2 j (by show j < 6; omega)).1
          have hx8 := byte_at hbx (f + j)
          have hy8 := byte_at hbs j
          have cn := chg_next (bs := [b0, b1, b2, b3, b4, b5]) (j := j) (by show j < 6; omega)
          obtain ⟨x, hx⟩ : ∃ x, x = X.getD (f + j) 0 := ⟨_, rfl⟩
          obtain ⟨y, hy⟩ : ∃ y, y = [b0, b1, b2, b3, b4, b5].getD j 0 := ⟨_, rfl⟩
          rw [← hx] at c1 hx8
          rw [← hy] at c2 hy8 cn
          have HX : Hid (x = X.getD (f + j) 0) := hx
          have HY : Hid (y = [b0, b1, b2, b3, b4, b5].getD j 0) := hy
          clear hx hy
          obtain ⟨c1, f1⟩ := c1
          skip
          have hxor := u8_xor_nat x y hx8 hy8
          have hgl := hlj.1
          have hwl := hL2.1
          have HP : Hid (Lay g (Cr.upd X f [b0, b1, b2, b3, b4, b5] (j + 1)) (wr.setCell ⟨g, f + j, none⟩ (.int .u8 ((x ^^^ y : Nat) : Int))).drew ∧ Below u.heap.size u (wr.setCell ⟨g, f + j, none⟩ (.int .u8 ((x ^^^ y : Nat) : Int))).drew) := by
            refine ⟨?_, (hbj.setCell (p := ⟨g, f + j, none⟩) HG.out _).drew⟩
            have := (hlj.put (i := f + j) (by have h1 := HF4.out; have h2 := HnX.out; omega) (x ^^^ y)).drew
            skip
            have e : Cr.upd X f [b0, b1, b2, b3, b4, b5] (j + 1) = (Cr.upd X f [b0, b1, b2, b3, b4, b5] j).set (f + j) (x ^^^ y) := by
              show (Cr.upd X f [b0, b1, b2, b3, b4, b5] j).set (f + j) (X.getD (f + j) 0 ^^^ [b0, b1, b2, b3, b4, b5].getD j 0) = _
              rw [← HX.out, ← HY.out]
            rw [e]
            exact this
          have HCN : Hid (chg [b0, b1, b2, b3, b4, b5] (j + 1) = (chg [b0, b1, b2, b3, b4, b5] j || y != 0)) := cn
          obtain ⟨q, hq⟩ : ∃ q, q = chg [b0, b1, b2, b3, b4, b5] j := ⟨_, rfl⟩
          have HQ : Hid (q = chg [b0, b1, b2, b3, b4, b5] j) := hq
          rw [← hq]
          clear hq cn hlj hbj hL2 hul kO ce
          cases q
          · have HN : Hid (((y : Int) != 0) = (y != 0)) := by
              show ((y : Int) != 0) = (y != 0)
              by_cases hy0 : y = 0
              · subst hy0; rfl
              · have h1 : ((y : Int) != 0) = true := by simpa using hy0
                have h2 : (y != 0) = true := by simpa using hy0
                rw [h1, h2]
            go_wp2_with fail
            go_region
            go_wp2_with fail
            go_roundw
            case rel => exact ⟨j + 1, by omega, by go_num, by rw [HCN.out, ← HQ.out, ← HN.out]; rfl, HP.out.1, HP.out.2⟩
            case measure => simp [intOf]; omega
          · go_wp2_with fail
            go_region
            go_wp2_with fail
            go_roundw
            case rel => exact ⟨j + 1, by omega, by go_num, by rw [HCN.out, ← HQ.out]; rfl, HP.out.1, HP.out.2⟩
            case measure => simp [intOf]; omega
        · obtain rfl : j = 4 := by omega
          have kO' := kO wr g c HC hlj
          have hfin : ∀ w5, Turned [] wr w5 → Below w.heap.size w w5 := fun w5 T5 => (TU.none).trans ((FrL.turned_below hbj (Nat.le_refl _) T5).mono TU.size)
          clear hlj hL2 hul kO hbj HL HG hlen hbx hbs
          rw [ce]
          by_cases hz : b0 = 0 ∧ b1 = 0 ∧ b2 = 0 ∧ b3 = 0
          · rw [if_pos hz] at kO'
            rw [decide_eq_true hz, show ((4 : Nat) : Int) = 4 from rfl]
            clear hz ce
            go_wp2_with (go_at_call 11; (with_reducible refine kO'.mono ?_); rintro e w5 ⟨v5, rfl, T5⟩)
            go_ret
            exact ⟨rfl, hfin _ T5⟩
          · rw [if_neg hz] at kO'
            rw [decide_eq_false hz, show ((4 : Nat) : Int) = 4 from rfl]
            clear hz ce
            go_wp2_with (go_at_call 11; (with_reducible refine kO'.mono ?_); rintro e w5 ⟨v5, rfl, T5⟩)
            go_ret
            exact ⟨rfl, hfin _ T5⟩
  · clear w1
    have h : 1000 < (a1_n : Int) := by omega
    clear h1
    go_enter Try.func5, Try.ntmps5
    go_wp2_with (go_at_call 8; refine (FrL.awake_any _).mono ?_; rintro e w' ⟨rfl, HB⟩; first | (have HC : Turned [] w w' := HC.trans HB (fun k hk _ => hk)) | (have HC : Turned [] w w' := T0.trans HB (fun k hk _ => hk)))
    go_ret
    exact ⟨rfl, HC.none⟩

set_option maxRecDepth 100000 in
theorem lifted (os : Os) (started : os.Started) (H : Type) (enc : TypeId × Value → H) :
    ReturnsInHanded {} Try.checked os 5 .any (Rows.frameToldSpec.pre6 enc Try.prog Try.f5 Rows.frameToldRow.domain false) (Rows.frameToldSpec.post enc Try.prog Try.f5 false true false false) := by
  refine returnsInHanded_of_change (C := Try.checked) own started (by kernel_rfl) Try.func5
    (ChangeSpec.witness6 (enc := enc) (C := Try.checked) false ⟨#[], #[.int .u32 0, .slice none 0 0, .agg #[.int .u8 0, .int .u8 0, .int .u8 0, .int .u8 0, .int .u8 0, .int .u8 0]], []⟩ 8 (by kernel_rfl) (by kernel_rfl) (by kernel_rfl) (by kernel_rfl)) ?_
  intro W base args ds gs before hval0 hW hcnd _
  have hval : ∀ (j : Nat) t v, Try.f5.params[j]? = some t → args[j]? = some v → Value.okWide Try.prog W .any base t v := hval0
  have hW' := hW
  obtain ⟨p, q, hA0, hV, rfl, hfz, hnd⟩ := hW
  have hA : DataW.TrodAll enc Try.prog W 0 (fun _ => true) true Try.f5.params.toList args.toList ds p := hA0
  rw [Try.params5] at hA hval
  obtain ⟨v0, vs0, d0, ds0, p0, q0, hargs, rfl, rfl, h0, r0⟩ := trodAll_cons hA
  obtain ⟨v1, vs1, d1, ds1, p1, q1, rfl, rfl, rfl, h1, r1⟩ := trodAll_cons r0
  obtain ⟨v2, vs2, d2, ds2, p2, q2, rfl, rfl, rfl, h2, r2⟩ := trodAll_cons r1
  obtain ⟨rfl, rfl, rfl⟩ := trodAll_nil r2
  obtain rfl : args = #[v0, v1, v2] := by cases args; simp_all
  obtain ⟨rfl, rfl⟩ := trodVars_none hV
  have k0 := h0
  have lt0 : ∀ x ∈ p0, x.block < W.heap.size := by obtain ⟨m, hm⟩ := k0; exact DataW.trod_lt m _ _ _ hm
  have k1 := h1
  have lt1 : ∀ x ∈ p1, x.block < W.heap.size := by obtain ⟨m, hm⟩ := k1; exact DataW.trod_lt m _ _ _ hm
  have k2 := h2
  have lt2 : ∀ x ∈ p2, x.block < W.heap.size := by obtain ⟨m, hm⟩ := k2; exact DataW.trod_lt m _ _ _ hm
  obtain ⟨a0, rfl, _, _, w0⟩ := open_int Try.underlying22 (hval 0 22 v0 rfl rfl) h0
  obtain ⟨a1_o, a1_n, a1_c, rfl, w1_m, w1_l, w1⟩ := open_row Try.underlying23 Try.underlying5 (by kernel_rfl) (hval 1 23 v1 rfl rfl) h1
  obtain ⟨cs2, rfl, ok2⟩ := open_flat (d := 8) (ks := [.int .u8, .int .u8, .int .u8, .int .u8, .int .u8, .int .u8]) (Or.inr ⟨_, _, Try.underlying31⟩) (by kernel_rfl) (hval 2 31 v2 rfl rfl) h2
  obtain ⟨a2_0, a2_1, a2_2, a2_3, a2_4, a2_5, rfl, w2_0, w2_1, w2_2, w2_3, w2_4, w2_5⟩ := flat2_of cs2 ok2
  clear hA0 hval0
  refine (walk a0 a1_o a1_n a1_c a2_0 a2_1 a2_2 a2_3 a2_4 a2_5 w0 w1_m w1_l w2_0 w2_1 w2_2 w2_3 w2_4 w2_5 W w1).mono fun e W' ⟨he, bel⟩ => ?_
  subst he
  exact ⟨_, rfl, _, _, _, [], _, [], hW', trodAll_mk1 (shut_bool Try.underlying4 _), (trodAll_cons_mk (Below.trod laidOut (by kernel_rfl) (of_decide_eq_true (by kernel_rfl)) k0 bel lt0) (trodAll_cons_mk (Below.trod laidOut (by kernel_rfl) (of_decide_eq_true (by kernel_rfl)) k1 bel lt1) (trodAll_cons_mk (Below.trod laidOut (by kernel_rfl) (of_decide_eq_true (by kernel_rfl)) k2 bel lt2) trodAll_mk0))), rfl, bel.frame _, fun h => by cases h⟩

theorem over : Rows.frameToldRow.holds Try.pinned (OpenSpec.ofChange Rows.frameToldSpec) :=
  OpenClaim.holds_of_wide 5 Try.f5 rfl rfl rfl rfl rfl rfl rfl ⟨rfl, rfl, rfl, rfl, rfl⟩ rfl rfl rfl rfl rfl (by kernel_rfl) Try.func5 (by kernel_rfl)
    (of_decide_eq_true (by kernel_rfl)) (by unfold Func.isWrapper; first | (rw [if_pos (by decide +kernel)]; kernel_rfl) | (rw [if_neg (by decide +kernel)]; exact ⟨rfl, rfl⟩))
    (fun os started H enc _ => lifted os started H enc)

theorem proved : Rows.FrameToldSaid :=
  over
#print axioms proved
end Go.Proofs.Ytdaedmbdoniaiaa.frameTold

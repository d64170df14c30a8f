/- Joined: WdJoin. -/
import Derived.Test.YtgabgkgokmeaeaaJ7
/- Who joins. The program's (WdW). -/
namespace Go.Proofs.Ytgabgkgokmeaeaa
open Go.RowKit
set_option linter.unusedVariables false
set_option linter.unusedSimpArgs false

namespace Wd
theorem has_find {l : List En.E} {id : Int} (h : has l id = true) : 0 ≤ En.find l id := by
  obtain ⟨e, he, hi⟩ := has_iff.1 h
  have hex : ∃ k : Nat, ∃ d, l[k]? = some d ∧ d.id = id := by
    obtain ⟨k, hk⟩ := List.getElem?_of_mem he
    exact ⟨k, e, hk, hi⟩
  obtain ⟨k, ⟨d, hd, hdi⟩, hmin⟩ : ∃ k : Nat, (∃ d, l[k]? = some d ∧ d.id = id) ∧ ∀ j, j < k → ¬ ∃ d, l[j]? = some d ∧ d.id = id := by
    obtain ⟨k, hk⟩ := hex
    induction k using Nat.strongRecOn with
    | ind k ih =>
      by_cases h : ∃ j, j < k ∧ ∃ d, l[j]? = some d ∧ d.id = id
      · obtain ⟨j, hj, hd⟩ := h
        exact ih j hj hd
      · exact ⟨k, hk, fun j hj hd => h ⟨j, hj, hd⟩⟩
  rw [En.find_at hd hdi fun j c hj hc hci => hmin j hj ⟨c, hc, hci⟩]
  omega
theorem has_none {l : List En.E} {id : Int} (h : has l id = false) : En.find l id = -1 :=
  En.find_no fun j d hd hdi => by
    have : has l id = true := has_iff.2 ⟨d, List.mem_of_getElem? hd, hdi⟩
    rw [h] at this
    cases this
end Wd
namespace WdW
set_option maxRecDepth 20000 in
set_option maxHeartbeats 60000000 in
theorem join_any (W : Wd.W) (V : WV) (id : Int) (hG : Wd.Gd W) (hid : En.I64 id) (w : World) (hV : Tells W V w) :
    Calls Try.prog 14 #[wvVal V, .int .i64 id] w fun e w' => ∃ V', e = .returned (.tuple #[wvVal V', .int .i64 (Wd.joinE W id)]) ∧ Tells (Wd.join W id) V' w' ∧ (∀ k, V'.At k → V.At k ∨ w.heap.size ≤ k) ∧ Turned [] w w' := by
  obtain ⟨W0, hW0⟩ : ∃ W0, W0 = (w.alloc (.cells #[.int .i64 V.mw, .int .i64 V.mh, .slice V.oa V.nw V.ca, .slice V.ob V.ns V.cb, .int .u64 V.st, .int .i64 V.tk, .slice V.ol V.nl V.cl] 34)).alloc (.cells #[.int .i64 0, .int .i64 0, .slice none 0 0, .slice none 0 0, .int .u64 0, .int .i64 0, .slice none 0 0] 34) := ⟨_, rfl⟩
  obtain ⟨B, hB⟩ : ∃ b, b = w.heap.size := ⟨_, rfl⟩
  obtain ⟨D, hD⟩ : ∃ b, b = w.heap.size + 1 := ⟨_, rfl⟩
  have hT : Turned [] w W0 := by rw [hW0]; exact (((Turned.refl [] w).alloc _).alloc _)
  have hS : Struct B [.int .i64 V.mw, .int .i64 V.mh, .slice V.oa V.nw V.ca, .slice V.ob V.ns V.cb, .int .u64 V.st, .int .i64 V.tk, .slice V.ol V.nl V.cl] W0 := by
    have h0 := Struct.new w [.int .i64 V.mw, .int .i64 V.mh, .slice V.oa V.nw V.ca, .slice V.ob V.ns V.cb, .int .u64 V.st, .int .i64 V.tk, .slice V.ol V.nl V.cl] 34
    rw [← hB] at h0
    rw [hW0]; exact h0.keep ((Turned.refl [] _).alloc _) (by simp)
  have hR : Struct D [.int .i64 0, .int .i64 0, .slice none 0 0, .slice none 0 0, .int .u64 0, .int .i64 0, .slice none 0 0] W0 := by
    have h0 := Struct.new (w.alloc (.cells #[.int .i64 V.mw, .int .i64 V.mh, .slice V.oa V.nw V.ca, .slice V.ob V.ns V.cb, .int .u64 V.st, .int .i64 V.tk, .slice V.ol V.nl V.cl] 34)) [.int .i64 0, .int .i64 0, .slice none 0 0, .slice none 0 0, .int .u64 0, .int .i64 0, .slice none 0 0] 34
    rw [show (w.alloc (.cells #[.int .i64 V.mw, .int .i64 V.mh, .slice V.oa V.nw V.ca, .slice V.ob V.ns V.cb, .int .u64 V.st, .int .i64 V.tk, .slice V.ol V.nl V.cl] 34)).heap.size = w.heap.size + 1 by simp, ← hD] at h0
    rw [hW0]; exact h0
  have hBw : w.heap.size ≤ B := by omega
  have hDw : w.heap.size ≤ D := by omega
  have nBD : B ≠ D := by omega
  have nDB : D ≠ B := by omega
  have hbB : B < W0.heap.size := hS.1
  have hbD : D < W0.heap.size := hR.1
  have kc := copied_any W V (by have := hG.short; omega) W0 (hV.calm hT)
  obtain ⟨b0, hb0⟩ : ∃ b, b = W0.heap.size := ⟨_, rfl⟩
  rw [← hb0] at kc hbB hbD
  have hb0w : w.heap.size ≤ b0 := by rw [hb0]; exact hT.size
  have c0 := (hS.2 0 _ rfl).1
  have f0 := (hS.2 0 _ rfl).2
  have c1 := (hS.2 1 _ rfl).1
  have f1 := (hS.2 1 _ rfl).2
  have c2 := (hS.2 2 _ rfl).1
  have f2 := (hS.2 2 _ rfl).2
  have c3 := (hS.2 3 _ rfl).1
  have f3 := (hS.2 3 _ rfl).2
  have c4 := (hS.2 4 _ rfl).1
  have f4 := (hS.2 4 _ rfl).2
  have c5 := (hS.2 5 _ rfl).1
  have f5 := (hS.2 5 _ rfl).2
  have c6 := (hS.2 6 _ rfl).1
  have f6 := (hS.2 6 _ rfl).2
  have z0 := (hR.2 0 _ rfl).1
  have y0 := (hR.2 0 _ rfl).2
  have z1 := (hR.2 1 _ rfl).1
  have y1 := (hR.2 1 _ rfl).2
  have z2 := (hR.2 2 _ rfl).1
  have y2 := (hR.2 2 _ rfl).2
  have z3 := (hR.2 3 _ rfl).1
  have y3 := (hR.2 3 _ rfl).2
  have z4 := (hR.2 4 _ rfl).1
  have y4 := (hR.2 4 _ rfl).2
  have z5 := (hR.2 5 _ rfl).1
  have y5 := (hR.2 5 _ rfl).2
  have z6 := (hR.2 6 _ rfl).1
  have y6 := (hR.2 6 _ rfl).2
  have HGd : Hid (Wd.Gd W) := hG
  have HV : Hid (Tells W V w) := hV
  clear hG hV
  by_cases hr : id < 1 ∨ 8 < id
  · have HL : Hid (Wd.join W id = W ∧ Wd.joinE W id = 1) := by
      show _ ∧ _
      have : Wd.joinE W id = 1 := by unfold Wd.joinE; rw [if_pos hr]
      refine ⟨?_, this⟩
      unfold Wd.join
      rw [this]; rfl
    have hcase : (id < 1 ∧ ¬ 8 < id) ∨ (¬ id < 1 ∧ 8 < id) := by omega
    clear hr hid
    rcases hcase with ⟨h1, h2⟩ | ⟨h1, h2⟩
    all_goals
      go_enter Try.func14, Try.ntmps14
      go_wp2_with fail
      rw [← hW0, ← hD, ← hB]
      clear hW0 hB hD
      go_wp2_with (go_at_call 12; (with_reducible refine kc.mono ?_); rintro r u1 ⟨V1, rfl, hF1, HT1⟩; have hS1 := hS.keep HT1 (by simp); have hR1 := hR.keep HT1 (by simp); have c0 := (hS1.2 0 _ rfl).1; have f0 := (hS1.2 0 _ rfl).2; have c1 := (hS1.2 1 _ rfl).1; have f1 := (hS1.2 1 _ rfl).2; have c2 := (hS1.2 2 _ rfl).1; have f2 := (hS1.2 2 _ rfl).2; have c3 := (hS1.2 3 _ rfl).1; have f3 := (hS1.2 3 _ rfl).2; have c4 := (hS1.2 4 _ rfl).1; have f4 := (hS1.2 4 _ rfl).2; have c5 := (hS1.2 5 _ rfl).1; have f5 := (hS1.2 5 _ rfl).2; have c6 := (hS1.2 6 _ rfl).1; have f6 := (hS1.2 6 _ rfl).2; have z0 := (hR1.2 0 _ rfl).1; have y0 := (hR1.2 0 _ rfl).2; have z1 := (hR1.2 1 _ rfl).1; have y1 := (hR1.2 1 _ rfl).2; have z2 := (hR1.2 2 _ rfl).1; have y2 := (hR1.2 2 _ rfl).2; have z3 := (hR1.2 3 _ rfl).1; have y3 := (hR1.2 3 _ rfl).2; have z4 := (hR1.2 4 _ rfl).1; have y4 := (hR1.2 4 _ rfl).2; have z5 := (hR1.2 5 _ rfl).1; have y5 := (hR1.2 5 _ rfl).2; have z6 := (hR1.2 6 _ rfl).1; have y6 := (hR1.2 6 _ rfl).2)
      have hb1 : b0 ≤ u1.heap.size := by rw [hb0]; exact HT1.size
      obtain ⟨X1, hX1⟩ : ∃ X, X = put7 u1 B V1 := ⟨_, rfl⟩
      have hBX : Struct B (wvEnc V1) X1 := by rw [hX1]; exact set7 hS1 rfl V1
      have hTX : Turned [B] u1 X1 := by rw [hX1]; exact turned7 (Turned.refl _ _) (.inl (by simp)) V1
      have hDX : Struct D [.int .i64 0, .int .i64 0, .slice none 0 0, .slice none 0 0, .int .u64 0, .int .i64 0, .slice none 0 0] X1 := hR1.keep hTX (by simpa using nDB)
      have hF : Fresh W V1 b0 X1 := hF1.keep hTX (by intro k hk; simp at hk; omega)
      have hbX : b0 ≤ X1.heap.size := Nat.le_trans hb1 hTX.size
      have HTX : Turned [] w X1 := ((hT.trans HT1 (by simp)).trans (S' := [B]) hTX (by intro k hk hl; simp at hk; omega))
      skip
      simp only [put7] at hX1
      rw [← hX1]
      clear hX1 c0 c1 c2 c3 c4 c5 c6 f0 f1 f2 f3 f4 f5 f6 z0 z1 z2 z3 z4 z5 z6 y0 y1 y2 y3 y4 y5 y6 hb0
      have c0 := (hBX.2 0 _ rfl).1
      have f0 := (hBX.2 0 _ rfl).2
      have c1 := (hBX.2 1 _ rfl).1
      have f1 := (hBX.2 1 _ rfl).2
      have c2 := (hBX.2 2 _ rfl).1
      have f2 := (hBX.2 2 _ rfl).2
      have c3 := (hBX.2 3 _ rfl).1
      have f3 := (hBX.2 3 _ rfl).2
      have c4 := (hBX.2 4 _ rfl).1
      have f4 := (hBX.2 4 _ rfl).2
      have c5 := (hBX.2 5 _ rfl).1
      have f5 := (hBX.2 5 _ rfl).2
      have c6 := (hBX.2 6 _ rfl).1
      have f6 := (hBX.2 6 _ rfl).2
      have z0 := (hDX.2 0 _ rfl).1
      have y0 := (hDX.2 0 _ rfl).2
      have z1 := (hDX.2 1 _ rfl).1
      have y1 := (hDX.2 1 _ rfl).2
      have z2 := (hDX.2 2 _ rfl).1
      have y2 := (hDX.2 2 _ rfl).2
      have z3 := (hDX.2 3 _ rfl).1
      have y3 := (hDX.2 3 _ rfl).2
      have z4 := (hDX.2 4 _ rfl).1
      have y4 := (hDX.2 4 _ rfl).2
      have z5 := (hDX.2 5 _ rfl).1
      have y5 := (hDX.2 5 _ rfl).2
      have z6 := (hDX.2 6 _ rfl).1
      have y6 := (hDX.2 6 _ rfl).2

      obtain ⟨X9, hX9⟩ : ∃ X, X = put7 X1 D V1 := ⟨_, rfl⟩
      have hS9 : Struct D (wvEnc V1) X9 := by rw [hX9]; exact set7 hDX rfl _
      have hT9 : Turned [D] X1 X9 := by rw [hX9]; exact turned7 (Turned.refl _ _) (.inl (by simp)) _
      simp only [put7] at hX9
      rw [← hX9]
      clear hX9
      have e0 := (hS9.2 0 _ rfl).1
      have e1 := (hS9.2 1 _ rfl).1
      have e2 := (hS9.2 2 _ rfl).1
      have e3 := (hS9.2 3 _ rfl).1
      have e4 := (hS9.2 4 _ rfl).1
      have e5 := (hS9.2 5 _ rfl).1
      have e6 := (hS9.2 6 _ rfl).1
      go_wp2_with fail
      refine bodyPost_ret (v := .tuple #[wvVal V1, .int .i64 1]) (by simp [results, Try.results14, go_sem, e0, e1, e2, e3, e4, e5, e6]) rfl ⟨_, ?_, ?_, fun k hk => .inr (Nat.le_trans hb0w (hF.at_ge hk)), HTX.trans (S' := [D]) hT9 (by intro k hk hl; simp at hk; omega)⟩
      · rw [HL.out.2]
      · rw [HL.out.1]; exact (hF.keep hT9 (by intro k hk; simp at hk; omega)).tells
  · have h1 : ¬ id < 1 := by omega
    have h2 : ¬ 8 < id := by omega
    clear hr
    go_enter Try.func14, Try.ntmps14
    go_wp2_with fail
    rw [← hW0, ← hD, ← hB]
    clear hW0 hB hD
    go_wp2_with (go_at_call 12; (with_reducible refine kc.mono ?_); rintro r u1 ⟨V1, rfl, hF1, HT1⟩; have hS1 := hS.keep HT1 (by simp); have hR1 := hR.keep HT1 (by simp); have c0 := (hS1.2 0 _ rfl).1; have f0 := (hS1.2 0 _ rfl).2; have c1 := (hS1.2 1 _ rfl).1; have f1 := (hS1.2 1 _ rfl).2; have c2 := (hS1.2 2 _ rfl).1; have f2 := (hS1.2 2 _ rfl).2; have c3 := (hS1.2 3 _ rfl).1; have f3 := (hS1.2 3 _ rfl).2; have c4 := (hS1.2 4 _ rfl).1; have f4 := (hS1.2 4 _ rfl).2; have c5 := (hS1.2 5 _ rfl).1; have f5 := (hS1.2 5 _ rfl).2; have c6 := (hS1.2 6 _ rfl).1; have f6 := (hS1.2 6 _ rfl).2; have z0 := (hR1.2 0 _ rfl).1; have y0 := (hR1.2 0 _ rfl).2; have z1 := (hR1.2 1 _ rfl).1; have y1 := (hR1.2 1 _ rfl).2; have z2 := (hR1.2 2 _ rfl).1; have y2 := (hR1.2 2 _ rfl).2; have z3 := (hR1.2 3 _ rfl).1; have y3 := (hR1.2 3 _ rfl).2; have z4 := (hR1.2 4 _ rfl).1; have y4 := (hR1.2 4 _ rfl).2; have z5 := (hR1.2 5 _ rfl).1; have y5 := (hR1.2 5 _ rfl).2; have z6 := (hR1.2 6 _ rfl).1; have y6 := (hR1.2 6 _ rfl).2)
    have hb1 : b0 ≤ u1.heap.size := by rw [hb0]; exact HT1.size
    obtain ⟨X1, hX1⟩ : ∃ X, X = put7 u1 B V1 := ⟨_, rfl⟩
    have hBX : Struct B (wvEnc V1) X1 := by rw [hX1]; exact set7 hS1 rfl V1
    have hTX : Turned [B] u1 X1 := by rw [hX1]; exact turned7 (Turned.refl _ _) (.inl (by simp)) V1
    have hDX : Struct D [.int .i64 0, .int .i64 0, .slice none 0 0, .slice none 0 0, .int .u64 0, .int .i64 0, .slice none 0 0] X1 := hR1.keep hTX (by simpa using nDB)
    have hF : Fresh W V1 b0 X1 := hF1.keep hTX (by intro k hk; simp at hk; omega)
    have hbX : b0 ≤ X1.heap.size := Nat.le_trans hb1 hTX.size
    have HTX : Turned [] w X1 := ((hT.trans HT1 (by simp)).trans (S' := [B]) hTX (by intro k hk hl; simp at hk; omega))
    have hnl := hF.tells.nl
    simp only [put7] at hX1
    rw [← hX1]
    clear hX1 c0 c1 c2 c3 c4 c5 c6 f0 f1 f2 f3 f4 f5 f6 z0 z1 z2 z3 z4 z5 z6 y0 y1 y2 y3 y4 y5 y6 hb0
    have c0 := (hBX.2 0 _ rfl).1
    have f0 := (hBX.2 0 _ rfl).2
    have c1 := (hBX.2 1 _ rfl).1
    have f1 := (hBX.2 1 _ rfl).2
    have c2 := (hBX.2 2 _ rfl).1
    have f2 := (hBX.2 2 _ rfl).2
    have c3 := (hBX.2 3 _ rfl).1
    have f3 := (hBX.2 3 _ rfl).2
    have c4 := (hBX.2 4 _ rfl).1
    have f4 := (hBX.2 4 _ rfl).2
    have c5 := (hBX.2 5 _ rfl).1
    have f5 := (hBX.2 5 _ rfl).2
    have c6 := (hBX.2 6 _ rfl).1
    have f6 := (hBX.2 6 _ rfl).2
    have z0 := (hDX.2 0 _ rfl).1
    have y0 := (hDX.2 0 _ rfl).2
    have z1 := (hDX.2 1 _ rfl).1
    have y1 := (hDX.2 1 _ rfl).2
    have z2 := (hDX.2 2 _ rfl).1
    have y2 := (hDX.2 2 _ rfl).2
    have z3 := (hDX.2 3 _ rfl).1
    have y3 := (hDX.2 3 _ rfl).2
    have z4 := (hDX.2 4 _ rfl).1
    have y4 := (hDX.2 4 _ rfl).2
    have z5 := (hDX.2 5 _ rfl).1
    have y5 := (hDX.2 5 _ rfl).2
    have z6 := (hDX.2 6 _ rfl).1
    have y6 := (hDX.2 6 _ rfl).2
    have hlen : W.l.length ≤ 1000 := by have := HGd.out.short; omega
    have kf := EnW.find_any V1.ol V1.cl W.l id X1 hF.tells.row (by omega)
    rw [← hnl] at kf
    by_cases hh : Wd.has W.l id = true
    · have HL : Hid (Wd.join W id = W ∧ Wd.joinE W id = 10) := by
        show _ ∧ _
        have : Wd.joinE W id = 10 := by unfold Wd.joinE; rw [if_neg (by omega), if_pos hh]
        refine ⟨?_, this⟩
        unfold Wd.join
        rw [this]; rfl
      obtain ⟨z, hz⟩ : ∃ z, z = En.find W.l id := ⟨_, rfl⟩
      have hz0 := Wd.has_find hh
      rw [← hz] at kf hz0
      have hne : ¬ z = -1 := by omega
      clear hz hz0 hh hnl hid
      go_wp2_with (go_at_call 30; (with_reducible refine kf.mono ?_); rintro r u2 ⟨rfl, HT2⟩; have hB2 := hBX.keep HT2 (by simp); have hD2 := hDX.keep HT2 (by simp); have c0 := (hB2.2 0 _ rfl).1; have f0 := (hB2.2 0 _ rfl).2; have c1 := (hB2.2 1 _ rfl).1; have f1 := (hB2.2 1 _ rfl).2; have c2 := (hB2.2 2 _ rfl).1; have f2 := (hB2.2 2 _ rfl).2; have c3 := (hB2.2 3 _ rfl).1; have f3 := (hB2.2 3 _ rfl).2; have c4 := (hB2.2 4 _ rfl).1; have f4 := (hB2.2 4 _ rfl).2; have c5 := (hB2.2 5 _ rfl).1; have f5 := (hB2.2 5 _ rfl).2; have c6 := (hB2.2 6 _ rfl).1; have f6 := (hB2.2 6 _ rfl).2; have z0 := (hD2.2 0 _ rfl).1; have y0 := (hD2.2 0 _ rfl).2; have z1 := (hD2.2 1 _ rfl).1; have y1 := (hD2.2 1 _ rfl).2; have z2 := (hD2.2 2 _ rfl).1; have y2 := (hD2.2 2 _ rfl).2; have z3 := (hD2.2 3 _ rfl).1; have y3 := (hD2.2 3 _ rfl).2; have z4 := (hD2.2 4 _ rfl).1; have y4 := (hD2.2 4 _ rfl).2; have z5 := (hD2.2 5 _ rfl).1; have y5 := (hD2.2 5 _ rfl).2; have z6 := (hD2.2 6 _ rfl).1; have y6 := (hD2.2 6 _ rfl).2)
      have hF2 := hF.calm HT2
      have HT3 := HTX.trans HT2 (by simp)
      obtain ⟨X9, hX9⟩ : ∃ X, X = put7 u2 D V1 := ⟨_, rfl⟩
      have hS9 : Struct D (wvEnc V1) X9 := by rw [hX9]; exact set7 hD2 rfl _
      have hT9 : Turned [D] u2 X9 := by rw [hX9]; exact turned7 (Turned.refl _ _) (.inl (by simp)) _
      simp only [put7] at hX9
      rw [← hX9]
      clear hX9
      have e0 := (hS9.2 0 _ rfl).1
      have e1 := (hS9.2 1 _ rfl).1
      have e2 := (hS9.2 2 _ rfl).1
      have e3 := (hS9.2 3 _ rfl).1
      have e4 := (hS9.2 4 _ rfl).1
      have e5 := (hS9.2 5 _ rfl).1
      have e6 := (hS9.2 6 _ rfl).1
      go_wp2_with fail
      refine bodyPost_ret (v := .tuple #[wvVal V1, .int .i64 10]) (by simp [results, Try.results14, go_sem, e0, e1, e2, e3, e4, e5, e6]) rfl ⟨_, ?_, ?_, fun k hk => .inr (Nat.le_trans hb0w (hF2.at_ge hk)), HT3.trans (S' := [D]) hT9 (by intro k hk hl; simp at hk; omega)⟩
      · rw [HL.out.2]
      · rw [HL.out.1]; exact (hF2.keep hT9 (by intro k hk; simp at hk; omega)).tells

    · have hh : Wd.has W.l id = false := by cases hq : Wd.has W.l id with | false => rfl | true => exact absurd hq hh
      rw [Wd.has_none hh] at kf
      have hJ : Wd.joinE W id = 0 := by unfold Wd.joinE; rw [if_neg (by omega), hh]; rfl
      have HL : Hid (Wd.join W id = ⟨W.m, Ra.nxt W.st, W.tick, Wd.ins (Wd.came W.m W.st id) W.l⟩ ∧ Wd.joinE W id = 0) := ⟨by unfold Wd.join; rw [if_pos hJ], hJ⟩
      have hsp0 : 0 < W.m.sp.length := List.length_pos_iff.2 HGd.out.m.2.1
      have kc2 := fun u (h : Turned [] X1 u) => comeIn_any W.m W.st V1.ob V1.cb ⟨id, 1, 0, 0, 0, 0, 0, 0⟩ hsp0 HGd.out.len.2 u ((hF.calm h).tells.map.sp)
      obtain ⟨x, hx⟩ : ∃ x, x = Wd.comes W.m W.st ⟨id, 1, 0, 0, 0, 0, 0, 0⟩ := ⟨_, rfl⟩
      have hxc : x = Wd.came W.m W.st id := hx
      have hxid : x.id = id := by rw [hxc]; rfl
      rw [← hx, ← hF.tells.ns, ← hF.tells.st] at kc2
      obtain ⟨s1, hs1⟩ : ∃ s, s = Ra.nxt W.st := ⟨_, rfl⟩
      rw [← hs1] at kc2
      have HX : Hid (x = Wd.came W.m W.st id ∧ x.id = id ∧ s1 = Ra.nxt W.st) := ⟨hxc, hxid, hs1⟩
      clear hx hxc hxid hs1 hJ hh hid hsp0 hnl
      go_wp2_with (first | (go_at_call 30; (with_reducible refine kf.mono ?_); rintro r u2 ⟨rfl, HT2⟩; have hB2 := hBX.keep HT2 (by simp); have hD2 := hDX.keep HT2 (by simp); have c0 := (hB2.2 0 _ rfl).1; have f0 := (hB2.2 0 _ rfl).2; have c1 := (hB2.2 1 _ rfl).1; have f1 := (hB2.2 1 _ rfl).2; have c2 := (hB2.2 2 _ rfl).1; have f2 := (hB2.2 2 _ rfl).2; have c3 := (hB2.2 3 _ rfl).1; have f3 := (hB2.2 3 _ rfl).2; have c4 := (hB2.2 4 _ rfl).1; have f4 := (hB2.2 4 _ rfl).2; have c5 := (hB2.2 5 _ rfl).1; have f5 := (hB2.2 5 _ rfl).2; have c6 := (hB2.2 6 _ rfl).1; have f6 := (hB2.2 6 _ rfl).2; have z0 := (hD2.2 0 _ rfl).1; have y0 := (hD2.2 0 _ rfl).2; have z1 := (hD2.2 1 _ rfl).1; have y1 := (hD2.2 1 _ rfl).2; have z2 := (hD2.2 2 _ rfl).1; have y2 := (hD2.2 2 _ rfl).2; have z3 := (hD2.2 3 _ rfl).1; have y3 := (hD2.2 3 _ rfl).2; have z4 := (hD2.2 4 _ rfl).1; have y4 := (hD2.2 4 _ rfl).2; have z5 := (hD2.2 5 _ rfl).1; have y5 := (hD2.2 5 _ rfl).2; have z6 := (hD2.2 6 _ rfl).1; have y6 := (hD2.2 6 _ rfl).2; have hBl2 : B < u2.heap.size := hB2.1; have hDl2 : D < u2.heap.size := hD2.1) | (go_at_call 28; (with_reducible refine (kc2 _ (HT2.alloc _)).mono ?_); rintro r u3 ⟨rfl, HT3⟩; have HT23 : Turned [] u2 u3 := ((Turned.refl [] u2).alloc (.cells #[.int .i64 0, .int .i64 0, .int .i64 0, .int .i64 0, .int .i64 0, .int .i64 0, .int .i64 0, .int .i64 0] 49)).trans HT3 (by simp); have hB3 := hB2.keep HT23 (by simp); have hD3 := hD2.keep HT23 (by simp); have hE3 := (Struct.new u2 [.int .i64 0, .int .i64 0, .int .i64 0, .int .i64 0, .int .i64 0, .int .i64 0, .int .i64 0, .int .i64 0] 49).keep HT3 (by simp); have c0 := (hB3.2 0 _ rfl).1; have f0 := (hB3.2 0 _ rfl).2; have c1 := (hB3.2 1 _ rfl).1; have f1 := (hB3.2 1 _ rfl).2; have c2 := (hB3.2 2 _ rfl).1; have f2 := (hB3.2 2 _ rfl).2; have c3 := (hB3.2 3 _ rfl).1; have f3 := (hB3.2 3 _ rfl).2; have c4 := (hB3.2 4 _ rfl).1; have f4 := (hB3.2 4 _ rfl).2; have c5 := (hB3.2 5 _ rfl).1; have f5 := (hB3.2 5 _ rfl).2; have c6 := (hB3.2 6 _ rfl).1; have f6 := (hB3.2 6 _ rfl).2; have z0 := (hD3.2 0 _ rfl).1; have y0 := (hD3.2 0 _ rfl).2; have z1 := (hD3.2 1 _ rfl).1; have y1 := (hD3.2 1 _ rfl).2; have z2 := (hD3.2 2 _ rfl).1; have y2 := (hD3.2 2 _ rfl).2; have z3 := (hD3.2 3 _ rfl).1; have y3 := (hD3.2 3 _ rfl).2; have z4 := (hD3.2 4 _ rfl).1; have y4 := (hD3.2 4 _ rfl).2; have z5 := (hD3.2 5 _ rfl).1; have y5 := (hD3.2 5 _ rfl).2; have z6 := (hD3.2 6 _ rfl).1; have y6 := (hD3.2 6 _ rfl).2; have d0 := (hE3.2 0 _ rfl).1; have j0 := (hE3.2 0 _ rfl).2; have d1 := (hE3.2 1 _ rfl).1; have j1 := (hE3.2 1 _ rfl).2; have d2 := (hE3.2 2 _ rfl).1; have j2 := (hE3.2 2 _ rfl).2; have d3 := (hE3.2 3 _ rfl).1; have j3 := (hE3.2 3 _ rfl).2; have d4 := (hE3.2 4 _ rfl).1; have j4 := (hE3.2 4 _ rfl).2; have d5 := (hE3.2 5 _ rfl).1; have j5 := (hE3.2 5 _ rfl).2; have d6 := (hE3.2 6 _ rfl).1; have j6 := (hE3.2 6 _ rfl).2; have d7 := (hE3.2 7 _ rfl).1; have j7 := (hE3.2 7 _ rfl).2))
      obtain ⟨E, hE⟩ : ∃ b, b = u2.heap.size := ⟨_, rfl⟩
      obtain ⟨X3, hX3⟩ : ∃ X, X = MvR.put8 (u3.setCell ⟨B, 4, none⟩ (.int .u64 (s1 : Int))) E x := ⟨_, rfl⟩
      rw [← hE] at hE3
      have hEb : b0 ≤ E := by rw [hE]; exact Nat.le_trans hbX HT2.size
      have nEB : E ≠ B := by omega
      have nED : E ≠ D := by omega
      have hEl : E < u3.heap.size := hE3.1
      have tB4 : Turned [B] u3 (u3.setCell ⟨B, 4, none⟩ (.int .u64 (s1 : Int))) := (Turned.refl [B] u3).setCell (p := ⟨B, 4, none⟩) (.inl (by simp)) _
      have tX : Turned [B, E] u3 X3 := by rw [hX3]; exact MvR.turned8 (tB4.mono (by simp)) (.inl (by simp)) x
      have tE : Turned [E] (u3.setCell ⟨B, 4, none⟩ (.int .u64 (s1 : Int))) X3 := by rw [hX3]; exact MvR.turned8 (Turned.refl _ _) (.inl (by simp)) x
      have hE3' : Struct E (enEnc x) X3 := by rw [hX3]; exact MvR.set8 (e := ⟨0, 0, 0, 0, 0, 0, 0, 0⟩) (hE3.keep tB4 (by simpa using nEB)) x
      have hB3' : Struct B [.int .i64 V1.mw, .int .i64 V1.mh, .slice V1.oa V1.nw V1.ca, .slice V1.ob V1.ns V1.cb, .int .u64 (s1 : Int), .int .i64 V1.tk, .slice V1.ol V1.nl V1.cl] X3 := (hB3.set (i := 4) (by simp [wvEnc]) (.int .u64 (s1 : Int))).keep tE (by simpa using nEB.symm)
      have hD3' := hD3.keep tX (by simp; exact ⟨nDB, nED.symm⟩)
      have hF3 := (hF.calm (HT2.trans HT23 (by simp))).keep tB4 (by intro k hk; simp at hk; omega)
      have hE_l : E ∉ blk (.slice V1.ol V1.nl V1.cl) := fun h => by have := hF.own.lt _ h; have := HT2.size; omega
      have hOX : OwnL 49 8 enEnc (.slice V1.ol V1.nl V1.cl) W.l X3 := hF3.own.keep tE (fun k hk hm => by simp at hm; subst hm; exact hE_l hk)
      simp only [MvR.put8] at hX3
      rw [← hE, ← hX3]
      have HE2 : Hid (E = u2.heap.size) := hE
      clear hX3 hE c0 c1 c2 c3 c4 c5 c6 f0 f1 f2 f3 f4 f5 f6 z0 z1 z2 z3 z4 z5 z6 y0 y1 y2 y3 y4 y5 y6
      have c0 := (hB3'.2 0 _ rfl).1
      have f0 := (hB3'.2 0 _ rfl).2
      have c1 := (hB3'.2 1 _ rfl).1
      have f1 := (hB3'.2 1 _ rfl).2
      have c2 := (hB3'.2 2 _ rfl).1
      have f2 := (hB3'.2 2 _ rfl).2
      have c3 := (hB3'.2 3 _ rfl).1
      have f3 := (hB3'.2 3 _ rfl).2
      have c4 := (hB3'.2 4 _ rfl).1
      have f4 := (hB3'.2 4 _ rfl).2
      have c5 := (hB3'.2 5 _ rfl).1
      have f5 := (hB3'.2 5 _ rfl).2
      have c6 := (hB3'.2 6 _ rfl).1
      have f6 := (hB3'.2 6 _ rfl).2
      have hFX : Fresh W V1 b0 X3 := hF3.away tE (fun a ha hm => by have := hF.la a ha; have := HT2.size; have := HE2.out; simp at hm; omega) (fun a ha hm => by have := hF.lb a ha; have := HT2.size; have := HE2.out; simp at hm; omega) (fun k hk hm => by simp at hm; subst hm; exact hE_l hk)
      have HTX3 : Turned [] w X3 := ((HTX.trans (HT2.trans HT23 (by simp)) (by simp)).trans (S' := [B, E]) tX (by intro j hj hl; simp at hj; omega))
      have hbX3 : b0 ≤ X3.heap.size := Nat.le_trans hbX (Nat.le_trans HT2.size (Nat.le_trans HT23.size tX.size))
      have hB3 := hB3'
      have hD3 := hD3'
      have hE3 := hE3'
      have hnX : V1.nl = W.l.length := hF.tells.nl
      have kp := fun u (h : Turned [] X3 u) => placeFor_any V1.ol V1.cl W.l id u (by obtain ⟨o1, d1, e1, _, _, r1, _⟩ := (hOX.keep h (by simp)).rowOf enEnc_len; simp at e1; rw [e1.1]; exact r1) (by omega)
      rw [← hnX] at kp
      obtain ⟨k, hk⟩ : ∃ k, k = Wd.above W.l id := ⟨_, rfl⟩
      rw [← hk] at kp
      have hkl : k ≤ W.l.length := by rw [hk]; exact Wd.above_le _ _
      have HK : Hid (k = Wd.above W.l id ∧ k ≤ W.l.length ∧ V1.nl = W.l.length) := ⟨hk, hkl, hnX⟩
      have HW : Hid ((⟨W.m, s1, W.tick, W.l.take k ++ x :: W.l.drop k⟩ : Wd.W) = ⟨W.m, Ra.nxt W.st, W.tick, Wd.ins (Wd.came W.m W.st id) W.l⟩) := by
        show _ = _
        rw [Wd.ins_parts, ← HX.out.1, HX.out.2.1, HX.out.2.2, hk]
      clear hk hkl hnX hB3' hD3' hE3'
      obtain ⟨SB, hSB⟩ : ∃ S, S = B :: blk (.slice V1.ol V1.nl V1.cl) := ⟨_, rfl⟩
      have nES : E ∉ SB := by rw [hSB]; intro h; rcases List.mem_cons.1 h with h | h; exact nEB h; exact hE_l h
      have HSB : Hid (SB = B :: blk (.slice V1.ol V1.nl V1.cl)) := hSB
      clear hSB
      have hSof : ∀ u, Turned SB X3 u → (fun u => (u.cell? ⟨E, 0, none⟩ = some (.int .i64 x.id) ∧ u.cell? ⟨E, 1, none⟩ = some (.int .i64 x.kind) ∧ u.cell? ⟨E, 2, none⟩ = some (.int .i64 x.ax) ∧ u.cell? ⟨E, 3, none⟩ = some (.int .i64 x.ay) ∧ u.cell? ⟨E, 4, none⟩ = some (.int .i64 x.vx) ∧ u.cell? ⟨E, 5, none⟩ = some (.int .i64 x.vy) ∧ u.cell? ⟨E, 6, none⟩ = some (.int .i64 x.h) ∧ u.cell? ⟨E, 7, none⟩ = some (.int .i64 x.t)) ∧ Turned SB X3 u) u := fun u h => ⟨⟨((hE3.keep h nES).2 0 _ rfl).1, ((hE3.keep h nES).2 1 _ rfl).1, ((hE3.keep h nES).2 2 _ rfl).1, ((hE3.keep h nES).2 3 _ rfl).1, ((hE3.keep h nES).2 4 _ rfl).1, ((hE3.keep h nES).2 5 _ rfl).1, ((hE3.keep h nES).2 6 _ rfl).1, ((hE3.keep h nES).2 7 _ rfl).1⟩, h⟩
      refine wp_region_held_drew (S := (fun u => (u.cell? ⟨E, 0, none⟩ = some (.int .i64 x.id) ∧ u.cell? ⟨E, 1, none⟩ = some (.int .i64 x.kind) ∧ u.cell? ⟨E, 2, none⟩ = some (.int .i64 x.ax) ∧ u.cell? ⟨E, 3, none⟩ = some (.int .i64 x.ay) ∧ u.cell? ⟨E, 4, none⟩ = some (.int .i64 x.vx) ∧ u.cell? ⟨E, 5, none⟩ = some (.int .i64 x.vy) ∧ u.cell? ⟨E, 6, none⟩ = some (.int .i64 x.h) ∧ u.cell? ⟨E, 7, none⟩ = some (.int .i64 x.t)) ∧ Turned SB X3 u)) (by kernel_rfl) (hSof _ ((Turned.refl SB X3).drew)) (fun hHeld => ?_)
      refine BtL.take_d (some 34) (i := 0) (v := ?_) rfl rfl (by kernel_rfl) (by kernel_rfl) (by kernel_rfl) (fun _ _ _ h => h) (Or.inl ⟨by rfl, ?_⟩) (by assumption) ?_
      rotate_left
      · (intro w hSw; (try dsimp only at hSw); go_simp; try with_reducible rfl)
      simp only [Act.put, List.setIfInBounds_toArray, List.set_cons_zero, List.set_cons_succ]
      refine BtL.take_d (some 36) (i := 2) (v := ?_) rfl rfl (by kernel_rfl) (by kernel_rfl) (by kernel_rfl) (fun _ _ _ h => h) (Or.inl ⟨by rfl, ?_⟩) (by assumption) ?_
      rotate_left
      · (intro w hSw; (try dsimp only at hSw); go_simp; try with_reducible rfl)
      simp only [Act.put, List.setIfInBounds_toArray, List.set_cons_zero, List.set_cons_succ]
      refine BtL.take_d (some 38) (i := 4) (v := ?_) rfl rfl (by kernel_rfl) (by kernel_rfl) (by kernel_rfl) (fun _ _ _ h => h) (Or.inl ⟨by rfl, ?_⟩) (by assumption) ?_
      rotate_left
      · (intro w hSw; (try dsimp only at hSw); go_simp; try with_reducible rfl)
      simp only [Act.put, List.setIfInBounds_toArray, List.set_cons_zero, List.set_cons_succ]
      refine BtL.take_d (some 40) (i := 6) (v := ?_) rfl rfl (by kernel_rfl) (by kernel_rfl) (by kernel_rfl) (fun _ _ _ h => h) (Or.inl ⟨by rfl, ?_⟩) (by assumption) ?_
      rotate_left
      · (intro w hSw; (try dsimp only at hSw); go_simp; try with_reducible rfl)
      simp only [Act.put, List.setIfInBounds_toArray, List.set_cons_zero, List.set_cons_succ]
      refine wpAnyH_ready (rs := [1, 3, 7]) (by kernel_rfl) (by simp) ?_
      refine AllReadyH.cons rfl (fun K hK => ?_) (AllReadyH.cons rfl (fun K hK => ?_) (AllReadyH.cons rfl (fun K hK => ?_) AllReadyH.nil))
      · go_simp
        refine hK.out _ _ ?_ (fun hHeld => ?_)
        · exact hSof _ (Turned.drew (Turned.refl SB X3))
        clear hK K
        try simp only [Act.put, List.setIfInBounds_toArray, List.set_cons_zero, List.set_cons_succ]
        refine wpAnyH_ready (rs := [3, 7]) (by kernel_rfl) (by simp) ?_
        refine AllReadyH.cons rfl (fun K hK => ?_) (AllReadyH.cons rfl (fun K hK => ?_) AllReadyH.nil)
        · go_simp
          refine hK.out _ _ ?_ (fun hHeld => ?_)
          · exact hSof _ (Turned.drew (Turned.refl SB X3))
          clear hK K
          try simp only [Act.put, List.setIfInBounds_toArray, List.set_cons_zero, List.set_cons_succ]
          refine wpAnyH_ready (rs := [5, 7]) (by kernel_rfl) (by simp) ?_
          refine AllReadyH.cons rfl (fun K hK => ?_) (AllReadyH.cons rfl (fun K hK => ?_) AllReadyH.nil)
          · go_simp
            go_at_call 32
            with_reducible refine (kp _ ((Turned.refl [] X3).drew)).mono ?_
            rintro r u5 ⟨rfl, HT5⟩
            have HTu5 : Turned [] X3 u5 := Turned.trans (S' := []) ((Turned.refl [] X3).drew) HT5 (by simp)
            have y6 := ((hB3.keep HTu5 (by simp)).2 6 _ rfl).1
            have g6 := ((hB3.keep HTu5 (by simp)).2 6 _ rfl).2
            try go_wp2_with fail
            refine hK.out _ _ ?_ (fun hHeld => ?_)
            · exact hSof _ (HTu5.mono (by simp))
            clear hK K
            try simp only [Act.put, List.setIfInBounds_toArray, List.set_cons_zero, List.set_cons_succ]
            refine wpAnyH_ready (rs := [7]) (by kernel_rfl) (by simp) ?_
            refine AllReadyH.cons rfl (fun K hK => ?_) AllReadyH.nil
            · go_simp
              obtain ⟨P, hP0⟩ : ∃ P, P = u5.heap.size := ⟨_, rfl⟩
              obtain ⟨Y7, hY7⟩ : ∃ Y, Y = (u5.alloc (.cells #[.int .i64 x.id, .int .i64 x.kind, .int .i64 x.ax, .int .i64 x.ay, .int .i64 x.vx, .int .i64 x.vy, .int .i64 x.h, .int .i64 x.t] 49)) := ⟨_, rfl⟩
              have HTa : Turned [] u5 Y7 := by rw [hY7]; exact ((Turned.refl [] u5).alloc _)
              have HTY7 : Turned [] X3 Y7 := HTu5.trans HTa (by simp)
              have hP : Y7.heap[P]? = some (.cells (enEnc x).toArray 49 (0, 0)) := by rw [hY7, hP0]; exact heap_alloc_new u5 _
              have hPl : P < Y7.heap.size := (Array.getElem?_eq_some_iff.1 hP).1
              have hPb : P ∉ blk (.slice V1.ol V1.nl V1.cl) := fun h => by have := hOX.lt _ h; have := HTu5.size; omega
              have nPB : P ≠ B := by have := hB3.1; have := HTu5.size; omega
              rw [← hY7, ← hP0]
              clear hY7 hP0
              have y6 := ((hB3.keep HTY7 (by simp)).2 6 _ rfl).1
              have g6 := ((hB3.keep HTY7 (by simp)).2 6 _ rfl).2
              refine hK.out _ _ ?_ (fun hHeld => ?_)
              · exact hSof _ (HTY7.mono (by simp))
              clear hK K
              try simp only [Act.put, List.setIfInBounds_toArray, List.set_cons_zero, List.set_cons_succ]
              refine wpAnyH_ready (rs := [8]) (by kernel_rfl) (by simp) ?_
              refine AllReadyH.cons rfl (fun K hK => ?_) AllReadyH.nil
              go_simp
              go_at_call 31
              with_reducible refine (insert_any (.slice V1.ol V1.nl V1.cl) W.l k P x _ (hOX.keep HTY7 (by simp)) HK.out.2.1 hlen hP hPb).mono ?_
              rintro r u8 ⟨v8, rfl, ho8, ht8, hb8⟩
              obtain ⟨o8, c8, hv8, _, _⟩ := ho8.form
              obtain ⟨n8, hn8⟩ : ∃ n, n = (W.l.take k ++ x :: W.l.drop k).length := ⟨_, rfl⟩
              rw [← hn8] at hv8
              subst hv8
              clear hn8
              have HT8 : Turned (blk (.slice V1.ol V1.nl V1.cl)) X3 u8 := (HTY7.mono (by simp)).trans ht8 (fun k hk _ => hk)
              have nBl : B ∉ blk (.slice V1.ol V1.nl V1.cl) := fun h => by have := hF3.gl B h; omega
              have nDl : D ∉ blk (.slice V1.ol V1.nl V1.cl) := fun h => by have := hF3.gl D h; omega
              have hB8 := hB3.keep HT8 nBl
              have hD8 := hD3.keep HT8 nDl
              have x6 := (hB8.2 6 _ rfl).1
              have w6 := (hB8.2 6 _ rfl).2
              try go_wp2_with fail
              refine hK.out _ _ ?_ (fun hHeld => ?_)
              · exact hSof _ (HT8.mono (by rw [HSB.out]; intro j hj _; exact List.mem_cons_of_mem _ hj))
              clear hK K
              try simp only [Act.put, List.setIfInBounds_toArray, List.set_cons_zero, List.set_cons_succ]
              refine BtL.take_d (some 43) (i := 9) (v := ?_) rfl rfl (by kernel_rfl) (by kernel_rfl) (by kernel_rfl) (fun _ _ _ h => h) (Or.inl ⟨by rfl, ?_⟩) (by assumption) ?_
              rotate_left
              · (intro w hSw; (try dsimp only at hSw); go_simp; try with_reducible rfl)
              simp only [Act.put, List.setIfInBounds_toArray, List.set_cons_zero, List.set_cons_succ]
              refine wpAnyH_ready (rs := [10]) (by kernel_rfl) (by simp) ?_
              refine AllReadyH.cons rfl (fun K hK => ?_) AllReadyH.nil
              go_simp
              refine hK.out _ _ ?_ (fun hHeld => ?_)
              · exact hSof _ ((HT8.mono (by rw [HSB.out]; intro j hj _; exact List.mem_cons_of_mem _ hj)).setCell (p := ⟨B, 6, none⟩) (.inl (by rw [HSB.out]; exact List.mem_cons_self ..)) _)
              clear hK K
              try simp only [Act.put, List.setIfInBounds_toArray, List.set_cons_zero, List.set_cons_succ]
              refine wpAnyH_done (by kernel_rfl) ?_ _
              obtain ⟨X2, hX2⟩ : ∃ X, X = u8.setCell ⟨B, 6, none⟩ (.slice o8 n8 c8) := ⟨_, rfl⟩
              have tB : Turned [B] u8 X2 := by rw [hX2]; exact (Turned.refl [B] u8).setCell (p := ⟨B, 6, none⟩) (.inl (by simp)) _
              have hB9 := hB8.set (i := 6) (by simp [wvEnc]) (.slice o8 n8 c8)
              rw [← hX2] at hB9
              have hD9 := hD8.keep tB (by simpa using nDB)
              have hF8 := hFX.turn ho8 HT8 hbX3 (hb8.imp_right (fun h j hj => Nat.le_trans (HTY7.size) (h j hj))) (st := s1) (tk := W.tick) (sv := ((s1 : Nat) : Int)) (tv := V1.tk) rfl hF.tells.tk
              have hF9 := hF8.keep tB (by intro j hj; simp at hj; omega)
              have HT9 : Turned [] w X2 := (HTX3.trans (S' := blk (.slice V1.ol V1.nl V1.cl)) HT8 (fun j hj hl => by have := hF3.gl j hj; omega)).trans (S' := [B]) tB (by intro j hj hl; simp at hj; omega)
              rw [← hX2]
              clear hX2 c0 c1 c2 c3 c4 c5 c6 f0 f1 f2 f3 f4 f5 f6
              have c0 := (hB9.2 0 _ rfl).1
              have f0 := (hB9.2 0 _ rfl).2
              have c1 := (hB9.2 1 _ rfl).1
              have f1 := (hB9.2 1 _ rfl).2
              have c2 := (hB9.2 2 _ rfl).1
              have f2 := (hB9.2 2 _ rfl).2
              have c3 := (hB9.2 3 _ rfl).1
              have f3 := (hB9.2 3 _ rfl).2
              have c4 := (hB9.2 4 _ rfl).1
              have f4 := (hB9.2 4 _ rfl).2
              have c5 := (hB9.2 5 _ rfl).1
              have f5 := (hB9.2 5 _ rfl).2
              have c6 := (hB9.2 6 _ rfl).1
              have f6 := (hB9.2 6 _ rfl).2
              have z0 := (hD9.2 0 _ rfl).1
              have y0 := (hD9.2 0 _ rfl).2
              have z1 := (hD9.2 1 _ rfl).1
              have y1 := (hD9.2 1 _ rfl).2
              have z2 := (hD9.2 2 _ rfl).1
              have y2 := (hD9.2 2 _ rfl).2
              have z3 := (hD9.2 3 _ rfl).1
              have y3 := (hD9.2 3 _ rfl).2
              have z4 := (hD9.2 4 _ rfl).1
              have y4 := (hD9.2 4 _ rfl).2
              have z5 := (hD9.2 5 _ rfl).1
              have y5 := (hD9.2 5 _ rfl).2
              have z6 := (hD9.2 6 _ rfl).1
              have y6 := (hD9.2 6 _ rfl).2
              go_wp2_with fail
              obtain ⟨X9, hX9⟩ : ∃ X, X = put7 X2 D ⟨V1.mw, V1.mh, V1.oa, V1.nw, V1.ca, V1.ob, V1.ns, V1.cb, ((s1 : Nat) : Int), V1.tk, o8, n8, c8⟩ := ⟨_, rfl⟩
              have hS9 : Struct D (wvEnc ⟨V1.mw, V1.mh, V1.oa, V1.nw, V1.ca, V1.ob, V1.ns, V1.cb, ((s1 : Nat) : Int), V1.tk, o8, n8, c8⟩) X9 := by rw [hX9]; exact set7 hD9 rfl _
              have hT9 : Turned [D] X2 X9 := by rw [hX9]; exact turned7 (Turned.refl _ _) (.inl (by simp)) _
              simp only [put7] at hX9
              rw [← hX9]
              clear hX9
              have e0 := (hS9.2 0 _ rfl).1
              have e1 := (hS9.2 1 _ rfl).1
              have e2 := (hS9.2 2 _ rfl).1
              have e3 := (hS9.2 3 _ rfl).1
              have e4 := (hS9.2 4 _ rfl).1
              have e5 := (hS9.2 5 _ rfl).1
              have e6 := (hS9.2 6 _ rfl).1
              go_wp2_with fail
              refine bodyPost_ret (v := .tuple #[wvVal ⟨V1.mw, V1.mh, V1.oa, V1.nw, V1.ca, V1.ob, V1.ns, V1.cb, ((s1 : Nat) : Int), V1.tk, o8, n8, c8⟩, .int .i64 0]) (by simp [results, Try.results14, go_sem, e0, e1, e2, e3, e4, e5, e6]) rfl ⟨_, ?_, ?_, fun k hk => .inr (Nat.le_trans hb0w (hF9.at_ge hk)), HT9.trans (S' := [D]) hT9 (by intro k hk hl; simp at hk; omega)⟩
              · rw [HL.out.2]
              · rw [HL.out.1, ← HW.out]; exact (hF9.keep hT9 (by intro k hk; simp at hk; omega)).tells
          · go_simp
            obtain ⟨P, hP0⟩ : ∃ P, P = X3.heap.size := ⟨_, rfl⟩
            obtain ⟨Y7, hY7⟩ : ∃ Y, Y = (X3.alloc (.cells #[.int .i64 x.id, .int .i64 x.kind, .int .i64 x.ax, .int .i64 x.ay, .int .i64 x.vx, .int .i64 x.vy, .int .i64 x.h, .int .i64 x.t] 49)).drew := ⟨_, rfl⟩
            have HTa : Turned [] X3 Y7 := by rw [hY7]; exact (((Turned.refl [] X3).alloc _).drew)
            have HTY7 : Turned [] X3 Y7 := HTa
            have hP : Y7.heap[P]? = some (.cells (enEnc x).toArray 49 (0, 0)) := by rw [hY7, hP0]; exact heap_alloc_new X3 _
            have hPl : P < Y7.heap.size := (Array.getElem?_eq_some_iff.1 hP).1
            have hPb : P ∉ blk (.slice V1.ol V1.nl V1.cl) := fun h => by have := hOX.lt _ h; have := Nat.le_refl 0; omega
            have nPB : P ≠ B := by have := hB3.1; have := Nat.le_refl 0; omega
            rw [← hY7, ← hP0]
            clear hY7 hP0
            have y6 := ((hB3.keep HTY7 (by simp)).2 6 _ rfl).1
            have g6 := ((hB3.keep HTY7 (by simp)).2 6 _ rfl).2
            refine hK.out _ _ ?_ (fun hHeld => ?_)
            · exact hSof _ (HTY7.mono (by simp))
            clear hK K
            try simp only [Act.put, List.setIfInBounds_toArray, List.set_cons_zero, List.set_cons_succ]
            refine wpAnyH_ready (rs := [5]) (by kernel_rfl) (by simp) ?_
            refine AllReadyH.cons rfl (fun K hK => ?_) AllReadyH.nil
            · go_simp
              go_at_call 32
              with_reducible refine (kp _ (HTY7)).mono ?_
              rintro r u5 ⟨rfl, HT5⟩
              have HTu5 : Turned [] X3 u5 := Turned.trans (S' := []) (HTY7) HT5 (by simp)
              have y6 := ((hB3.keep HTu5 (by simp)).2 6 _ rfl).1
              have g6 := ((hB3.keep HTu5 (by simp)).2 6 _ rfl).2
              have hP := (HT5.block P hPl (by simp)).trans hP; have hPl := Nat.lt_of_lt_of_le hPl HT5.size
              try go_wp2_with fail
              refine hK.out _ _ ?_ (fun hHeld => ?_)
              · exact hSof _ (HTu5.mono (by simp))
              clear hK K
              try simp only [Act.put, List.setIfInBounds_toArray, List.set_cons_zero, List.set_cons_succ]
              refine wpAnyH_ready (rs := [8]) (by kernel_rfl) (by simp) ?_
              refine AllReadyH.cons rfl (fun K hK => ?_) AllReadyH.nil
              go_simp
              go_at_call 31
              with_reducible refine (insert_any (.slice V1.ol V1.nl V1.cl) W.l k P x _ (hOX.keep HTu5 (by simp)) HK.out.2.1 hlen hP hPb).mono ?_
              rintro r u8 ⟨v8, rfl, ho8, ht8, hb8⟩
              obtain ⟨o8, c8, hv8, _, _⟩ := ho8.form
              obtain ⟨n8, hn8⟩ : ∃ n, n = (W.l.take k ++ x :: W.l.drop k).length := ⟨_, rfl⟩
              rw [← hn8] at hv8
              subst hv8
              clear hn8
              have HT8 : Turned (blk (.slice V1.ol V1.nl V1.cl)) X3 u8 := (HTu5.mono (by simp)).trans ht8 (fun k hk _ => hk)
              have nBl : B ∉ blk (.slice V1.ol V1.nl V1.cl) := fun h => by have := hF3.gl B h; omega
              have nDl : D ∉ blk (.slice V1.ol V1.nl V1.cl) := fun h => by have := hF3.gl D h; omega
              have hB8 := hB3.keep HT8 nBl
              have hD8 := hD3.keep HT8 nDl
              have x6 := (hB8.2 6 _ rfl).1
              have w6 := (hB8.2 6 _ rfl).2
              try go_wp2_with fail
              refine hK.out _ _ ?_ (fun hHeld => ?_)
              · exact hSof _ (HT8.mono (by rw [HSB.out]; intro j hj _; exact List.mem_cons_of_mem _ hj))
              clear hK K
              try simp only [Act.put, List.setIfInBounds_toArray, List.set_cons_zero, List.set_cons_succ]
              refine BtL.take_d (some 43) (i := 9) (v := ?_) rfl rfl (by kernel_rfl) (by kernel_rfl) (by kernel_rfl) (fun _ _ _ h => h) (Or.inl ⟨by rfl, ?_⟩) (by assumption) ?_
              rotate_left
              · (intro w hSw; (try dsimp only at hSw); go_simp; try with_reducible rfl)
              simp only [Act.put, List.setIfInBounds_toArray, List.set_cons_zero, List.set_cons_succ]
              refine wpAnyH_ready (rs := [10]) (by kernel_rfl) (by simp) ?_
              refine AllReadyH.cons rfl (fun K hK => ?_) AllReadyH.nil
              go_simp
              refine hK.out _ _ ?_ (fun hHeld => ?_)
              · exact hSof _ ((HT8.mono (by rw [HSB.out]; intro j hj _; exact List.mem_cons_of_mem _ hj)).setCell (p := ⟨B, 6, none⟩) (.inl (by rw [HSB.out]; exact List.mem_cons_self ..)) _)
              clear hK K
              try simp only [Act.put, List.setIfInBounds_toArray, List.set_cons_zero, List.set_cons_succ]
              refine wpAnyH_done (by kernel_rfl) ?_ _
              obtain ⟨X2, hX2⟩ : ∃ X, X = u8.setCell ⟨B, 6, none⟩ (.slice o8 n8 c8) := ⟨_, rfl⟩
              have tB : Turned [B] u8 X2 := by rw [hX2]; exact (Turned.refl [B] u8).setCell (p := ⟨B, 6, none⟩) (.inl (by simp)) _
              have hB9 := hB8.set (i := 6) (by simp [wvEnc]) (.slice o8 n8 c8)
              rw [← hX2] at hB9
              have hD9 := hD8.keep tB (by simpa using nDB)
              have hF8 := hFX.turn ho8 HT8 hbX3 (hb8.imp_right (fun h j hj => Nat.le_trans (HTu5.size) (h j hj))) (st := s1) (tk := W.tick) (sv := ((s1 : Nat) : Int)) (tv := V1.tk) rfl hF.tells.tk
              have hF9 := hF8.keep tB (by intro j hj; simp at hj; omega)
              have HT9 : Turned [] w X2 := (HTX3.trans (S' := blk (.slice V1.ol V1.nl V1.cl)) HT8 (fun j hj hl => by have := hF3.gl j hj; omega)).trans (S' := [B]) tB (by intro j hj hl; simp at hj; omega)
              rw [← hX2]
              clear hX2 c0 c1 c2 c3 c4 c5 c6 f0 f1 f2 f3 f4 f5 f6
              have c0 := (hB9.2 0 _ rfl).1
              have f0 := (hB9.2 0 _ rfl).2
              have c1 := (hB9.2 1 _ rfl).1
              have f1 := (hB9.2 1 _ rfl).2
              have c2 := (hB9.2 2 _ rfl).1
              have f2 := (hB9.2 2 _ rfl).2
              have c3 := (hB9.2 3 _ rfl).1
              have f3 := (hB9.2 3 _ rfl).2
              have c4 := (hB9.2 4 _ rfl).1
              have f4 := (hB9.2 4 _ rfl).2
              have c5 := (hB9.2 5 _ rfl).1
              have f5 := (hB9.2 5 _ rfl).2
              have c6 := (hB9.2 6 _ rfl).1
              have f6 := (hB9.2 6 _ rfl).2
              have z0 := (hD9.2 0 _ rfl).1
              have y0 := (hD9.2 0 _ rfl).2
              have z1 := (hD9.2 1 _ rfl).1
              have y1 := (hD9.2 1 _ rfl).2
              have z2 := (hD9.2 2 _ rfl).1
              have y2 := (hD9.2 2 _ rfl).2
              have z3 := (hD9.2 3 _ rfl).1
              have y3 := (hD9.2 3 _ rfl).2
              have z4 := (hD9.2 4 _ rfl).1
              have y4 := (hD9.2 4 _ rfl).2
              have z5 := (hD9.2 5 _ rfl).1
              have y5 := (hD9.2 5 _ rfl).2
              have z6 := (hD9.2 6 _ rfl).1
              have y6 := (hD9.2 6 _ rfl).2
              go_wp2_with fail
              obtain ⟨X9, hX9⟩ : ∃ X, X = put7 X2 D ⟨V1.mw, V1.mh, V1.oa, V1.nw, V1.ca, V1.ob, V1.ns, V1.cb, ((s1 : Nat) : Int), V1.tk, o8, n8, c8⟩ := ⟨_, rfl⟩
              have hS9 : Struct D (wvEnc ⟨V1.mw, V1.mh, V1.oa, V1.nw, V1.ca, V1.ob, V1.ns, V1.cb, ((s1 : Nat) : Int), V1.tk, o8, n8, c8⟩) X9 := by rw [hX9]; exact set7 hD9 rfl _
              have hT9 : Turned [D] X2 X9 := by rw [hX9]; exact turned7 (Turned.refl _ _) (.inl (by simp)) _
              simp only [put7] at hX9
              rw [← hX9]
              clear hX9
              have e0 := (hS9.2 0 _ rfl).1
              have e1 := (hS9.2 1 _ rfl).1
              have e2 := (hS9.2 2 _ rfl).1
              have e3 := (hS9.2 3 _ rfl).1
              have e4 := (hS9.2 4 _ rfl).1
              have e5 := (hS9.2 5 _ rfl).1
              have e6 := (hS9.2 6 _ rfl).1
              go_wp2_with fail
              refine bodyPost_ret (v := .tuple #[wvVal ⟨V1.mw, V1.mh, V1.oa, V1.nw, V1.ca, V1.ob, V1.ns, V1.cb, ((s1 : Nat) : Int), V1.tk, o8, n8, c8⟩, .int .i64 0]) (by simp [results, Try.results14, go_sem, e0, e1, e2, e3, e4, e5, e6]) rfl ⟨_, ?_, ?_, fun k hk => .inr (Nat.le_trans hb0w (hF9.at_ge hk)), HT9.trans (S' := [D]) hT9 (by intro k hk hl; simp at hk; omega)⟩
              · rw [HL.out.2]
              · rw [HL.out.1, ← HW.out]; exact (hF9.keep hT9 (by intro k hk; simp at hk; omega)).tells
        · go_simp
          obtain ⟨P, hP0⟩ : ∃ P, P = X3.heap.size := ⟨_, rfl⟩
          obtain ⟨Y7, hY7⟩ : ∃ Y, Y = (X3.alloc (.cells #[.int .i64 x.id, .int .i64 x.kind, .int .i64 x.ax, .int .i64 x.ay, .int .i64 x.vx, .int .i64 x.vy, .int .i64 x.h, .int .i64 x.t] 49)).drew := ⟨_, rfl⟩
          have HTa : Turned [] X3 Y7 := by rw [hY7]; exact (((Turned.refl [] X3).alloc _).drew)
          have HTY7 : Turned [] X3 Y7 := HTa
          have hP : Y7.heap[P]? = some (.cells (enEnc x).toArray 49 (0, 0)) := by rw [hY7, hP0]; exact heap_alloc_new X3 _
          have hPl : P < Y7.heap.size := (Array.getElem?_eq_some_iff.1 hP).1
          have hPb : P ∉ blk (.slice V1.ol V1.nl V1.cl) := fun h => by have := hOX.lt _ h; have := Nat.le_refl 0; omega
          have nPB : P ≠ B := by have := hB3.1; have := Nat.le_refl 0; omega
          rw [← hY7, ← hP0]
          clear hY7 hP0
          have y6 := ((hB3.keep HTY7 (by simp)).2 6 _ rfl).1
          have g6 := ((hB3.keep HTY7 (by simp)).2 6 _ rfl).2
          refine hK.out _ _ ?_ (fun hHeld => ?_)
          · exact hSof _ (HTY7.mono (by simp))
          clear hK K
          try simp only [Act.put, List.setIfInBounds_toArray, List.set_cons_zero, List.set_cons_succ]
          refine wpAnyH_ready (rs := [3]) (by kernel_rfl) (by simp) ?_
          refine AllReadyH.cons rfl (fun K hK => ?_) AllReadyH.nil
          · go_simp
            refine hK.out _ _ ?_ (fun hHeld => ?_)
            · exact hSof _ (HTY7.mono (by simp))
            clear hK K
            try simp only [Act.put, List.setIfInBounds_toArray, List.set_cons_zero, List.set_cons_succ]
            refine wpAnyH_ready (rs := [5]) (by kernel_rfl) (by simp) ?_
            refine AllReadyH.cons rfl (fun K hK => ?_) AllReadyH.nil
            · go_simp
              go_at_call 32
              with_reducible refine (kp _ (HTY7)).mono ?_
              rintro r u5 ⟨rfl, HT5⟩
              have HTu5 : Turned [] X3 u5 := Turned.trans (S' := []) (HTY7) HT5 (by simp)
              have y6 := ((hB3.keep HTu5 (by simp)).2 6 _ rfl).1
              have g6 := ((hB3.keep HTu5 (by simp)).2 6 _ rfl).2
              have hP := (HT5.block P hPl (by simp)).trans hP; have hPl := Nat.lt_of_lt_of_le hPl HT5.size
              try go_wp2_with fail
              refine hK.out _ _ ?_ (fun hHeld => ?_)
              · exact hSof _ (HTu5.mono (by simp))
              clear hK K
              try simp only [Act.put, List.setIfInBounds_toArray, List.set_cons_zero, List.set_cons_succ]
              refine wpAnyH_ready (rs := [8]) (by kernel_rfl) (by simp) ?_
              refine AllReadyH.cons rfl (fun K hK => ?_) AllReadyH.nil
              go_simp
              go_at_call 31
              with_reducible refine (insert_any (.slice V1.ol V1.nl V1.cl) W.l k P x _ (hOX.keep HTu5 (by simp)) HK.out.2.1 hlen hP hPb).mono ?_
              rintro r u8 ⟨v8, rfl, ho8, ht8, hb8⟩
              obtain ⟨o8, c8, hv8, _, _⟩ := ho8.form
              obtain ⟨n8, hn8⟩ : ∃ n, n = (W.l.take k ++ x :: W.l.drop k).length := ⟨_, rfl⟩
              rw [← hn8] at hv8
              subst hv8
              clear hn8
              have HT8 : Turned (blk (.slice V1.ol V1.nl V1.cl)) X3 u8 := (HTu5.mono (by simp)).trans ht8 (fun k hk _ => hk)
              have nBl : B ∉ blk (.slice V1.ol V1.nl V1.cl) := fun h => by have := hF3.gl B h; omega
              have nDl : D ∉ blk (.slice V1.ol V1.nl V1.cl) := fun h => by have := hF3.gl D h; omega
              have hB8 := hB3.keep HT8 nBl
              have hD8 := hD3.keep HT8 nDl
              have x6 := (hB8.2 6 _ rfl).1
              have w6 := (hB8.2 6 _ rfl).2
              try go_wp2_with fail
              refine hK.out _ _ ?_ (fun hHeld => ?_)
              · exact hSof _ (HT8.mono (by rw [HSB.out]; intro j hj _; exact List.mem_cons_of_mem _ hj))
              clear hK K
              try simp only [Act.put, List.setIfInBounds_toArray, List.set_cons_zero, List.set_cons_succ]
              refine BtL.take_d (some 43) (i := 9) (v := ?_) rfl rfl (by kernel_rfl) (by kernel_rfl) (by kernel_rfl) (fun _ _ _ h => h) (Or.inl ⟨by rfl, ?_⟩) (by assumption) ?_
              rotate_left
              · (intro w hSw; (try dsimp only at hSw); go_simp; try with_reducible rfl)
              simp only [Act.put, List.setIfInBounds_toArray, List.set_cons_zero, List.set_cons_succ]
              refine wpAnyH_ready (rs := [10]) (by kernel_rfl) (by simp) ?_
              refine AllReadyH.cons rfl (fun K hK => ?_) AllReadyH.nil
              go_simp
              refine hK.out _ _ ?_ (fun hHeld => ?_)
              · exact hSof _ ((HT8.mono (by rw [HSB.out]; intro j hj _; exact List.mem_cons_of_mem _ hj)).setCell (p := ⟨B, 6, none⟩) (.inl (by rw [HSB.out]; exact List.mem_cons_self ..)) _)
              clear hK K
              try simp only [Act.put, List.setIfInBounds_toArray, List.set_cons_zero, List.set_cons_succ]
              refine wpAnyH_done (by kernel_rfl) ?_ _
              obtain ⟨X2, hX2⟩ : ∃ X, X = u8.setCell ⟨B, 6, none⟩ (.slice o8 n8 c8) := ⟨_, rfl⟩
              have tB : Turned [B] u8 X2 := by rw [hX2]; exact (Turned.refl [B] u8).setCell (p := ⟨B, 6, none⟩) (.inl (by simp)) _
              have hB9 := hB8.set (i := 6) (by simp [wvEnc]) (.slice o8 n8 c8)
              rw [← hX2] at hB9
              have hD9 := hD8.keep tB (by simpa using nDB)
              have hF8 := hFX.turn ho8 HT8 hbX3 (hb8.imp_right (fun h j hj => Nat.le_trans (HTu5.size) (h j hj))) (st := s1) (tk := W.tick) (sv := ((s1 : Nat) : Int)) (tv := V1.tk) rfl hF.tells.tk
              have hF9 := hF8.keep tB (by intro j hj; simp at hj; omega)
              have HT9 : Turned [] w X2 := (HTX3.trans (S' := blk (.slice V1.ol V1.nl V1.cl)) HT8 (fun j hj hl => by have := hF3.gl j hj; omega)).trans (S' := [B]) tB (by intro j hj hl; simp at hj; omega)
              rw [← hX2]
              clear hX2 c0 c1 c2 c3 c4 c5 c6 f0 f1 f2 f3 f4 f5 f6
              have c0 := (hB9.2 0 _ rfl).1
              have f0 := (hB9.2 0 _ rfl).2
              have c1 := (hB9.2 1 _ rfl).1
              have f1 := (hB9.2 1 _ rfl).2
              have c2 := (hB9.2 2 _ rfl).1
              have f2 := (hB9.2 2 _ rfl).2
              have c3 := (hB9.2 3 _ rfl).1
              have f3 := (hB9.2 3 _ rfl).2
              have c4 := (hB9.2 4 _ rfl).1
              have f4 := (hB9.2 4 _ rfl).2
              have c5 := (hB9.2 5 _ rfl).1
              have f5 := (hB9.2 5 _ rfl).2
              have c6 := (hB9.2 6 _ rfl).1
              have f6 := (hB9.2 6 _ rfl).2
              have z0 := (hD9.2 0 _ rfl).1
              have y0 := (hD9.2 0 _ rfl).2
              have z1 := (hD9.2 1 _ rfl).1
              have y1 := (hD9.2 1 _ rfl).2
              have z2 := (hD9.2 2 _ rfl).1
              have y2 := (hD9.2 2 _ rfl).2
              have z3 := (hD9.2 3 _ rfl).1
              have y3 := (hD9.2 3 _ rfl).2
              have z4 := (hD9.2 4 _ rfl).1
              have y4 := (hD9.2 4 _ rfl).2
              have z5 := (hD9.2 5 _ rfl).1
              have y5 := (hD9.2 5 _ rfl).2
              have z6 := (hD9.2 6 _ rfl).1
              have y6 := (hD9.2 6 _ rfl).2
              go_wp2_with fail
              obtain ⟨X9, hX9⟩ : ∃ X, X = put7 X2 D ⟨V1.mw, V1.mh, V1.oa, V1.nw, V1.ca, V1.ob, V1.ns, V1.cb, ((s1 : Nat) : Int), V1.tk, o8, n8, c8⟩ := ⟨_, rfl⟩
              have hS9 : Struct D (wvEnc ⟨V1.mw, V1.mh, V1.oa, V1.nw, V1.ca, V1.ob, V1.ns, V1.cb, ((s1 : Nat) : Int), V1.tk, o8, n8, c8⟩) X9 := by rw [hX9]; exact set7 hD9 rfl _
              have hT9 : Turned [D] X2 X9 := by rw [hX9]; exact turned7 (Turned.refl _ _) (.inl (by simp)) _
              simp only [put7] at hX9
              rw [← hX9]
              clear hX9
              have e0 := (hS9.2 0 _ rfl).1
              have e1 := (hS9.2 1 _ rfl).1
              have e2 := (hS9.2 2 _ rfl).1
              have e3 := (hS9.2 3 _ rfl).1
              have e4 := (hS9.2 4 _ rfl).1
              have e5 := (hS9.2 5 _ rfl).1
              have e6 := (hS9.2 6 _ rfl).1
              go_wp2_with fail
              refine bodyPost_ret (v := .tuple #[wvVal ⟨V1.mw, V1.mh, V1.oa, V1.nw, V1.ca, V1.ob, V1.ns, V1.cb, ((s1 : Nat) : Int), V1.tk, o8, n8, c8⟩, .int .i64 0]) (by simp [results, Try.results14, go_sem, e0, e1, e2, e3, e4, e5, e6]) rfl ⟨_, ?_, ?_, fun k hk => .inr (Nat.le_trans hb0w (hF9.at_ge hk)), HT9.trans (S' := [D]) hT9 (by intro k hk hl; simp at hk; omega)⟩
              · rw [HL.out.2]
              · rw [HL.out.1, ← HW.out]; exact (hF9.keep hT9 (by intro k hk; simp at hk; omega)).tells
      · go_simp
        refine hK.out _ _ ?_ (fun hHeld => ?_)
        · exact hSof _ (Turned.drew (Turned.refl SB X3))
        clear hK K
        try simp only [Act.put, List.setIfInBounds_toArray, List.set_cons_zero, List.set_cons_succ]
        refine wpAnyH_ready (rs := [1, 5, 7]) (by kernel_rfl) (by simp) ?_
        refine AllReadyH.cons rfl (fun K hK => ?_) (AllReadyH.cons rfl (fun K hK => ?_) (AllReadyH.cons rfl (fun K hK => ?_) AllReadyH.nil))
        · go_simp
          refine hK.out _ _ ?_ (fun hHeld => ?_)
          · exact hSof _ (Turned.drew (Turned.refl SB X3))
          clear hK K
          try simp only [Act.put, List.setIfInBounds_toArray, List.set_cons_zero, List.set_cons_succ]
          refine wpAnyH_ready (rs := [5, 7]) (by kernel_rfl) (by simp) ?_
          refine AllReadyH.cons rfl (fun K hK => ?_) (AllReadyH.cons rfl (fun K hK => ?_) AllReadyH.nil)
          · go_simp
            go_at_call 32
            with_reducible refine (kp _ ((Turned.refl [] X3).drew)).mono ?_
            rintro r u5 ⟨rfl, HT5⟩
            have HTu5 : Turned [] X3 u5 := Turned.trans (S' := []) ((Turned.refl [] X3).drew) HT5 (by simp)
            have y6 := ((hB3.keep HTu5 (by simp)).2 6 _ rfl).1
            have g6 := ((hB3.keep HTu5 (by simp)).2 6 _ rfl).2
            try go_wp2_with fail
            refine hK.out _ _ ?_ (fun hHeld => ?_)
            · exact hSof _ (HTu5.mono (by simp))
            clear hK K
            try simp only [Act.put, List.setIfInBounds_toArray, List.set_cons_zero, List.set_cons_succ]
            refine wpAnyH_ready (rs := [7]) (by kernel_rfl) (by simp) ?_
            refine AllReadyH.cons rfl (fun K hK => ?_) AllReadyH.nil
            · go_simp
              obtain ⟨P, hP0⟩ : ∃ P, P = u5.heap.size := ⟨_, rfl⟩
              obtain ⟨Y7, hY7⟩ : ∃ Y, Y = (u5.alloc (.cells #[.int .i64 x.id, .int .i64 x.kind, .int .i64 x.ax, .int .i64 x.ay, .int .i64 x.vx, .int .i64 x.vy, .int .i64 x.h, .int .i64 x.t] 49)) := ⟨_, rfl⟩
              have HTa : Turned [] u5 Y7 := by rw [hY7]; exact ((Turned.refl [] u5).alloc _)
              have HTY7 : Turned [] X3 Y7 := HTu5.trans HTa (by simp)
              have hP : Y7.heap[P]? = some (.cells (enEnc x).toArray 49 (0, 0)) := by rw [hY7, hP0]; exact heap_alloc_new u5 _
              have hPl : P < Y7.heap.size := (Array.getElem?_eq_some_iff.1 hP).1
              have hPb : P ∉ blk (.slice V1.ol V1.nl V1.cl) := fun h => by have := hOX.lt _ h; have := HTu5.size; omega
              have nPB : P ≠ B := by have := hB3.1; have := HTu5.size; omega
              rw [← hY7, ← hP0]
              clear hY7 hP0
              have y6 := ((hB3.keep HTY7 (by simp)).2 6 _ rfl).1
              have g6 := ((hB3.keep HTY7 (by simp)).2 6 _ rfl).2
              refine hK.out _ _ ?_ (fun hHeld => ?_)
              · exact hSof _ (HTY7.mono (by simp))
              clear hK K
              try simp only [Act.put, List.setIfInBounds_toArray, List.set_cons_zero, List.set_cons_succ]
              refine wpAnyH_ready (rs := [8]) (by kernel_rfl) (by simp) ?_
              refine AllReadyH.cons rfl (fun K hK => ?_) AllReadyH.nil
              go_simp
              go_at_call 31
              with_reducible refine (insert_any (.slice V1.ol V1.nl V1.cl) W.l k P x _ (hOX.keep HTY7 (by simp)) HK.out.2.1 hlen hP hPb).mono ?_
              rintro r u8 ⟨v8, rfl, ho8, ht8, hb8⟩
              obtain ⟨o8, c8, hv8, _, _⟩ := ho8.form
              obtain ⟨n8, hn8⟩ : ∃ n, n = (W.l.take k ++ x :: W.l.drop k).length := ⟨_, rfl⟩
              rw [← hn8] at hv8
              subst hv8
              clear hn8
              have HT8 : Turned (blk (.slice V1.ol V1.nl V1.cl)) X3 u8 := (HTY7.mono (by simp)).trans ht8 (fun k hk _ => hk)
              have nBl : B ∉ blk (.slice V1.ol V1.nl V1.cl) := fun h => by have := hF3.gl B h; omega
              have nDl : D ∉ blk (.slice V1.ol V1.nl V1.cl) := fun h => by have := hF3.gl D h; omega
              have hB8 := hB3.keep HT8 nBl
              have hD8 := hD3.keep HT8 nDl
              have x6 := (hB8.2 6 _ rfl).1
              have w6 := (hB8.2 6 _ rfl).2
              try go_wp2_with fail
              refine hK.out _ _ ?_ (fun hHeld => ?_)
              · exact hSof _ (HT8.mono (by rw [HSB.out]; intro j hj _; exact List.mem_cons_of_mem _ hj))
              clear hK K
              try simp only [Act.put, List.setIfInBounds_toArray, List.set_cons_zero, List.set_cons_succ]
              refine BtL.take_d (some 43) (i := 9) (v := ?_) rfl rfl (by kernel_rfl) (by kernel_rfl) (by kernel_rfl) (fun _ _ _ h => h) (Or.inl ⟨by rfl, ?_⟩) (by assumption) ?_
              rotate_left
              · (intro w hSw; (try dsimp only at hSw); go_simp; try with_reducible rfl)
              simp only [Act.put, List.setIfInBounds_toArray, List.set_cons_zero, List.set_cons_succ]
              refine wpAnyH_ready (rs := [10]) (by kernel_rfl) (by simp) ?_
              refine AllReadyH.cons rfl (fun K hK => ?_) AllReadyH.nil
              go_simp
              refine hK.out _ _ ?_ (fun hHeld => ?_)
              · exact hSof _ ((HT8.mono (by rw [HSB.out]; intro j hj _; exact List.mem_cons_of_mem _ hj)).setCell (p := ⟨B, 6, none⟩) (.inl (by rw [HSB.out]; exact List.mem_cons_self ..)) _)
              clear hK K
              try simp only [Act.put, List.setIfInBounds_toArray, List.set_cons_zero, List.set_cons_succ]
              refine wpAnyH_done (by kernel_rfl) ?_ _
              obtain ⟨X2, hX2⟩ : ∃ X, X = u8.setCell ⟨B, 6, none⟩ (.slice o8 n8 c8) := ⟨_, rfl⟩
              have tB : Turned [B] u8 X2 := by rw [hX2]; exact (Turned.refl [B] u8).setCell (p := ⟨B, 6, none⟩) (.inl (by simp)) _
              have hB9 := hB8.set (i := 6) (by simp [wvEnc]) (.slice o8 n8 c8)
              rw [← hX2] at hB9
              have hD9 := hD8.keep tB (by simpa using nDB)
              have hF8 := hFX.turn ho8 HT8 hbX3 (hb8.imp_right (fun h j hj => Nat.le_trans (HTY7.size) (h j hj))) (st := s1) (tk := W.tick) (sv := ((s1 : Nat) : Int)) (tv := V1.tk) rfl hF.tells.tk
              have hF9 := hF8.keep tB (by intro j hj; simp at hj; omega)
              have HT9 : Turned [] w X2 := (HTX3.trans (S' := blk (.slice V1.ol V1.nl V1.cl)) HT8 (fun j hj hl => by have := hF3.gl j hj; omega)).trans (S' := [B]) tB (by intro j hj hl; simp at hj; omega)
              rw [← hX2]
              clear hX2 c0 c1 c2 c3 c4 c5 c6 f0 f1 f2 f3 f4 f5 f6
              have c0 := (hB9.2 0 _ rfl).1
              have f0 := (hB9.2 0 _ rfl).2
              have c1 := (hB9.2 1 _ rfl).1
              have f1 := (hB9.2 1 _ rfl).2
              have c2 := (hB9.2 2 _ rfl).1
              have f2 := (hB9.2 2 _ rfl).2
              have c3 := (hB9.2 3 _ rfl).1
              have f3 := (hB9.2 3 _ rfl).2
              have c4 := (hB9.2 4 _ rfl).1
              have f4 := (hB9.2 4 _ rfl).2
              have c5 := (hB9.2 5 _ rfl).1
              have f5 := (hB9.2 5 _ rfl).2
              have c6 := (hB9.2 6 _ rfl).1
              have f6 := (hB9.2 6 _ rfl).2
              have z0 := (hD9.2 0 _ rfl).1
              have y0 := (hD9.2 0 _ rfl).2
              have z1 := (hD9.2 1 _ rfl).1
              have y1 := (hD9.2 1 _ rfl).2
              have z2 := (hD9.2 2 _ rfl).1
              have y2 := (hD9.2 2 _ rfl).2
              have z3 := (hD9.2 3 _ rfl).1
              have y3 := (hD9.2 3 _ rfl).2
              have z4 := (hD9.2 4 _ rfl).1
              have y4 := (hD9.2 4 _ rfl).2
              have z5 := (hD9.2 5 _ rfl).1
              have y5 := (hD9.2 5 _ rfl).2
              have z6 := (hD9.2 6 _ rfl).1
              have y6 := (hD9.2 6 _ rfl).2
              go_wp2_with fail
              obtain ⟨X9, hX9⟩ : ∃ X, X = put7 X2 D ⟨V1.mw, V1.mh, V1.oa, V1.nw, V1.ca, V1.ob, V1.ns, V1.cb, ((s1 : Nat) : Int), V1.tk, o8, n8, c8⟩ := ⟨_, rfl⟩
              have hS9 : Struct D (wvEnc ⟨V1.mw, V1.mh, V1.oa, V1.nw, V1.ca, V1.ob, V1.ns, V1.cb, ((s1 : Nat) : Int), V1.tk, o8, n8, c8⟩) X9 := by rw [hX9]; exact set7 hD9 rfl _
              have hT9 : Turned [D] X2 X9 := by rw [hX9]; exact turned7 (Turned.refl _ _) (.inl (by simp)) _
              simp only [put7] at hX9
              rw [← hX9]
              clear hX9
              have e0 := (hS9.2 0 _ rfl).1
              have e1 := (hS9.2 1 _ rfl).1
              have e2 := (hS9.2 2 _ rfl).1
              have e3 := (hS9.2 3 _ rfl).1
              have e4 := (hS9.2 4 _ rfl).1
              have e5 := (hS9.2 5 _ rfl).1
              have e6 := (hS9.2 6 _ rfl).1
              go_wp2_with fail
              refine bodyPost_ret (v := .tuple #[wvVal ⟨V1.mw, V1.mh, V1.oa, V1.nw, V1.ca, V1.ob, V1.ns, V1.cb, ((s1 : Nat) : Int), V1.tk, o8, n8, c8⟩, .int .i64 0]) (by simp [results, Try.results14, go_sem, e0, e1, e2, e3, e4, e5, e6]) rfl ⟨_, ?_, ?_, fun k hk => .inr (Nat.le_trans hb0w (hF9.at_ge hk)), HT9.trans (S' := [D]) hT9 (by intro k hk hl; simp at hk; omega)⟩
              · rw [HL.out.2]
              · rw [HL.out.1, ← HW.out]; exact (hF9.keep hT9 (by intro k hk; simp at hk; omega)).tells
          · go_simp
            obtain ⟨P, hP0⟩ : ∃ P, P = X3.heap.size := ⟨_, rfl⟩
            obtain ⟨Y7, hY7⟩ : ∃ Y, Y = (X3.alloc (.cells #[.int .i64 x.id, .int .i64 x.kind, .int .i64 x.ax, .int .i64 x.ay, .int .i64 x.vx, .int .i64 x.vy, .int .i64 x.h, .int .i64 x.t] 49)).drew := ⟨_, rfl⟩
            have HTa : Turned [] X3 Y7 := by rw [hY7]; exact (((Turned.refl [] X3).alloc _).drew)
            have HTY7 : Turned [] X3 Y7 := HTa
            have hP : Y7.heap[P]? = some (.cells (enEnc x).toArray 49 (0, 0)) := by rw [hY7, hP0]; exact heap_alloc_new X3 _
            have hPl : P < Y7.heap.size := (Array.getElem?_eq_some_iff.1 hP).1
            have hPb : P ∉ blk (.slice V1.ol V1.nl V1.cl) := fun h => by have := hOX.lt _ h; have := Nat.le_refl 0; omega
            have nPB : P ≠ B := by have := hB3.1; have := Nat.le_refl 0; omega
            rw [← hY7, ← hP0]
            clear hY7 hP0
            have y6 := ((hB3.keep HTY7 (by simp)).2 6 _ rfl).1
            have g6 := ((hB3.keep HTY7 (by simp)).2 6 _ rfl).2
            refine hK.out _ _ ?_ (fun hHeld => ?_)
            · exact hSof _ (HTY7.mono (by simp))
            clear hK K
            try simp only [Act.put, List.setIfInBounds_toArray, List.set_cons_zero, List.set_cons_succ]
            refine wpAnyH_ready (rs := [5]) (by kernel_rfl) (by simp) ?_
            refine AllReadyH.cons rfl (fun K hK => ?_) AllReadyH.nil
            · go_simp
              go_at_call 32
              with_reducible refine (kp _ (HTY7)).mono ?_
              rintro r u5 ⟨rfl, HT5⟩
              have HTu5 : Turned [] X3 u5 := Turned.trans (S' := []) (HTY7) HT5 (by simp)
              have y6 := ((hB3.keep HTu5 (by simp)).2 6 _ rfl).1
              have g6 := ((hB3.keep HTu5 (by simp)).2 6 _ rfl).2
              have hP := (HT5.block P hPl (by simp)).trans hP; have hPl := Nat.lt_of_lt_of_le hPl HT5.size
              try go_wp2_with fail
              refine hK.out _ _ ?_ (fun hHeld => ?_)
              · exact hSof _ (HTu5.mono (by simp))
              clear hK K
              try simp only [Act.put, List.setIfInBounds_toArray, List.set_cons_zero, List.set_cons_succ]
              refine wpAnyH_ready (rs := [8]) (by kernel_rfl) (by simp) ?_
              refine AllReadyH.cons rfl (fun K hK => ?_) AllReadyH.nil
              go_simp
              go_at_call 31
              with_reducible refine (insert_any (.slice V1.ol V1.nl V1.cl) W.l k P x _ (hOX.keep HTu5 (by simp)) HK.out.2.1 hlen hP hPb).mono ?_
              rintro r u8 ⟨v8, rfl, ho8, ht8, hb8⟩
              obtain ⟨o8, c8, hv8, _, _⟩ := ho8.form
              obtain ⟨n8, hn8⟩ : ∃ n, n = (W.l.take k ++ x :: W.l.drop k).length := ⟨_, rfl⟩
              rw [← hn8] at hv8
              subst hv8
              clear hn8
              have HT8 : Turned (blk (.slice V1.ol V1.nl V1.cl)) X3 u8 := (HTu5.mono (by simp)).trans ht8 (fun k hk _ => hk)
              have nBl : B ∉ blk (.slice V1.ol V1.nl V1.cl) := fun h => by have := hF3.gl B h; omega
              have nDl : D ∉ blk (.slice V1.ol V1.nl V1.cl) := fun h => by have := hF3.gl D h; omega
              have hB8 := hB3.keep HT8 nBl
              have hD8 := hD3.keep HT8 nDl
              have x6 := (hB8.2 6 _ rfl).1
              have w6 := (hB8.2 6 _ rfl).2
              try go_wp2_with fail
              refine hK.out _ _ ?_ (fun hHeld => ?_)
              · exact hSof _ (HT8.mono (by rw [HSB.out]; intro j hj _; exact List.mem_cons_of_mem _ hj))
              clear hK K
              try simp only [Act.put, List.setIfInBounds_toArray, List.set_cons_zero, List.set_cons_succ]
              refine BtL.take_d (some 43) (i := 9) (v := ?_) rfl rfl (by kernel_rfl) (by kernel_rfl) (by kernel_rfl) (fun _ _ _ h => h) (Or.inl ⟨by rfl, ?_⟩) (by assumption) ?_
              rotate_left
              · (intro w hSw; (try dsimp only at hSw); go_simp; try with_reducible rfl)
              simp only [Act.put, List.setIfInBounds_toArray, List.set_cons_zero, List.set_cons_succ]
              refine wpAnyH_ready (rs := [10]) (by kernel_rfl) (by simp) ?_
              refine AllReadyH.cons rfl (fun K hK => ?_) AllReadyH.nil
              go_simp
              refine hK.out _ _ ?_ (fun hHeld => ?_)
              · exact hSof _ ((HT8.mono (by rw [HSB.out]; intro j hj _; exact List.mem_cons_of_mem _ hj)).setCell (p := ⟨B, 6, none⟩) (.inl (by rw [HSB.out]; exact List.mem_cons_self ..)) _)
              clear hK K
              try simp only [Act.put, List.setIfInBounds_toArray, List.set_cons_zero, List.set_cons_succ]
              refine wpAnyH_done (by kernel_rfl) ?_ _
              obtain ⟨X2, hX2⟩ : ∃ X, X = u8.setCell ⟨B, 6, none⟩ (.slice o8 n8 c8) := ⟨_, rfl⟩
              have tB : Turned [B] u8 X2 := by rw [hX2]; exact (Turned.refl [B] u8).setCell (p := ⟨B, 6, none⟩) (.inl (by simp)) _
              have hB9 := hB8.set (i := 6) (by simp [wvEnc]) (.slice o8 n8 c8)
              rw [← hX2] at hB9
              have hD9 := hD8.keep tB (by simpa using nDB)
              have hF8 := hFX.turn ho8 HT8 hbX3 (hb8.imp_right (fun h j hj => Nat.le_trans (HTu5.size) (h j hj))) (st := s1) (tk := W.tick) (sv := ((s1 : Nat) : Int)) (tv := V1.tk) rfl hF.tells.tk
              have hF9 := hF8.keep tB (by intro j hj; simp at hj; omega)
              have HT9 : Turned [] w X2 := (HTX3.trans (S' := blk (.slice V1.ol V1.nl V1.cl)) HT8 (fun j hj hl => by have := hF3.gl j hj; omega)).trans (S' := [B]) tB (by intro j hj hl; simp at hj; omega)
              rw [← hX2]
              clear hX2 c0 c1 c2 c3 c4 c5 c6 f0 f1 f2 f3 f4 f5 f6
              have c0 := (hB9.2 0 _ rfl).1
              have f0 := (hB9.2 0 _ rfl).2
              have c1 := (hB9.2 1 _ rfl).1
              have f1 := (hB9.2 1 _ rfl).2
              have c2 := (hB9.2 2 _ rfl).1
              have f2 := (hB9.2 2 _ rfl).2
              have c3 := (hB9.2 3 _ rfl).1
              have f3 := (hB9.2 3 _ rfl).2
              have c4 := (hB9.2 4 _ rfl).1
              have f4 := (hB9.2 4 _ rfl).2
              have c5 := (hB9.2 5 _ rfl).1
              have f5 := (hB9.2 5 _ rfl).2
              have c6 := (hB9.2 6 _ rfl).1
              have f6 := (hB9.2 6 _ rfl).2
              have z0 := (hD9.2 0 _ rfl).1
              have y0 := (hD9.2 0 _ rfl).2
              have z1 := (hD9.2 1 _ rfl).1
              have y1 := (hD9.2 1 _ rfl).2
              have z2 := (hD9.2 2 _ rfl).1
              have y2 := (hD9.2 2 _ rfl).2
              have z3 := (hD9.2 3 _ rfl).1
              have y3 := (hD9.2 3 _ rfl).2
              have z4 := (hD9.2 4 _ rfl).1
              have y4 := (hD9.2 4 _ rfl).2
              have z5 := (hD9.2 5 _ rfl).1
              have y5 := (hD9.2 5 _ rfl).2
              have z6 := (hD9.2 6 _ rfl).1
              have y6 := (hD9.2 6 _ rfl).2
              go_wp2_with fail
              obtain ⟨X9, hX9⟩ : ∃ X, X = put7 X2 D ⟨V1.mw, V1.mh, V1.oa, V1.nw, V1.ca, V1.ob, V1.ns, V1.cb, ((s1 : Nat) : Int), V1.tk, o8, n8, c8⟩ := ⟨_, rfl⟩
              have hS9 : Struct D (wvEnc ⟨V1.mw, V1.mh, V1.oa, V1.nw, V1.ca, V1.ob, V1.ns, V1.cb, ((s1 : Nat) : Int), V1.tk, o8, n8, c8⟩) X9 := by rw [hX9]; exact set7 hD9 rfl _
              have hT9 : Turned [D] X2 X9 := by rw [hX9]; exact turned7 (Turned.refl _ _) (.inl (by simp)) _
              simp only [put7] at hX9
              rw [← hX9]
              clear hX9
              have e0 := (hS9.2 0 _ rfl).1
              have e1 := (hS9.2 1 _ rfl).1
              have e2 := (hS9.2 2 _ rfl).1
              have e3 := (hS9.2 3 _ rfl).1
              have e4 := (hS9.2 4 _ rfl).1
              have e5 := (hS9.2 5 _ rfl).1
              have e6 := (hS9.2 6 _ rfl).1
              go_wp2_with fail
              refine bodyPost_ret (v := .tuple #[wvVal ⟨V1.mw, V1.mh, V1.oa, V1.nw, V1.ca, V1.ob, V1.ns, V1.cb, ((s1 : Nat) : Int), V1.tk, o8, n8, c8⟩, .int .i64 0]) (by simp [results, Try.results14, go_sem, e0, e1, e2, e3, e4, e5, e6]) rfl ⟨_, ?_, ?_, fun k hk => .inr (Nat.le_trans hb0w (hF9.at_ge hk)), HT9.trans (S' := [D]) hT9 (by intro k hk hl; simp at hk; omega)⟩
              · rw [HL.out.2]
              · rw [HL.out.1, ← HW.out]; exact (hF9.keep hT9 (by intro k hk; simp at hk; omega)).tells
        · go_simp
          go_at_call 32
          with_reducible refine (kp _ ((Turned.refl [] X3).drew)).mono ?_
          rintro r u5 ⟨rfl, HT5⟩
          have HTu5 : Turned [] X3 u5 := Turned.trans (S' := []) ((Turned.refl [] X3).drew) HT5 (by simp)
          have y6 := ((hB3.keep HTu5 (by simp)).2 6 _ rfl).1
          have g6 := ((hB3.keep HTu5 (by simp)).2 6 _ rfl).2
          try go_wp2_with fail
          refine hK.out _ _ ?_ (fun hHeld => ?_)
          · exact hSof _ (HTu5.mono (by simp))
          clear hK K
          try simp only [Act.put, List.setIfInBounds_toArray, List.set_cons_zero, List.set_cons_succ]
          refine wpAnyH_ready (rs := [1, 7]) (by kernel_rfl) (by simp) ?_
          refine AllReadyH.cons rfl (fun K hK => ?_) (AllReadyH.cons rfl (fun K hK => ?_) AllReadyH.nil)
          · go_simp
            refine hK.out _ _ ?_ (fun hHeld => ?_)
            · exact hSof _ (HTu5.mono (by simp))
            clear hK K
            try simp only [Act.put, List.setIfInBounds_toArray, List.set_cons_zero, List.set_cons_succ]
            refine wpAnyH_ready (rs := [7]) (by kernel_rfl) (by simp) ?_
            refine AllReadyH.cons rfl (fun K hK => ?_) AllReadyH.nil
            · go_simp
              obtain ⟨P, hP0⟩ : ∃ P, P = u5.heap.size := ⟨_, rfl⟩
              obtain ⟨Y7, hY7⟩ : ∃ Y, Y = (u5.alloc (.cells #[.int .i64 x.id, .int .i64 x.kind, .int .i64 x.ax, .int .i64 x.ay, .int .i64 x.vx, .int .i64 x.vy, .int .i64 x.h, .int .i64 x.t] 49)) := ⟨_, rfl⟩
              have HTa : Turned [] u5 Y7 := by rw [hY7]; exact ((Turned.refl [] u5).alloc _)
              have HTY7 : Turned [] X3 Y7 := HTu5.trans HTa (by simp)
              have hP : Y7.heap[P]? = some (.cells (enEnc x).toArray 49 (0, 0)) := by rw [hY7, hP0]; exact heap_alloc_new u5 _
              have hPl : P < Y7.heap.size := (Array.getElem?_eq_some_iff.1 hP).1
              have hPb : P ∉ blk (.slice V1.ol V1.nl V1.cl) := fun h => by have := hOX.lt _ h; have := HTu5.size; omega
              have nPB : P ≠ B := by have := hB3.1; have := HTu5.size; omega
              rw [← hY7, ← hP0]
              clear hY7 hP0
              have y6 := ((hB3.keep HTY7 (by simp)).2 6 _ rfl).1
              have g6 := ((hB3.keep HTY7 (by simp)).2 6 _ rfl).2
              refine hK.out _ _ ?_ (fun hHeld => ?_)
              · exact hSof _ (HTY7.mono (by simp))
              clear hK K
              try simp only [Act.put, List.setIfInBounds_toArray, List.set_cons_zero, List.set_cons_succ]
              refine wpAnyH_ready (rs := [8]) (by kernel_rfl) (by simp) ?_
              refine AllReadyH.cons rfl (fun K hK => ?_) AllReadyH.nil
              go_simp
              go_at_call 31
              with_reducible refine (insert_any (.slice V1.ol V1.nl V1.cl) W.l k P x _ (hOX.keep HTY7 (by simp)) HK.out.2.1 hlen hP hPb).mono ?_
              rintro r u8 ⟨v8, rfl, ho8, ht8, hb8⟩
              obtain ⟨o8, c8, hv8, _, _⟩ := ho8.form
              obtain ⟨n8, hn8⟩ : ∃ n, n = (W.l.take k ++ x :: W.l.drop k).length := ⟨_, rfl⟩
              rw [← hn8] at hv8
              subst hv8
              clear hn8
              have HT8 : Turned (blk (.slice V1.ol V1.nl V1.cl)) X3 u8 := (HTY7.mono (by simp)).trans ht8 (fun k hk _ => hk)
              have nBl : B ∉ blk (.slice V1.ol V1.nl V1.cl) := fun h => by have := hF3.gl B h; omega
              have nDl : D ∉ blk (.slice V1.ol V1.nl V1.cl) := fun h => by have := hF3.gl D h; omega
              have hB8 := hB3.keep HT8 nBl
              have hD8 := hD3.keep HT8 nDl
              have x6 := (hB8.2 6 _ rfl).1
              have w6 := (hB8.2 6 _ rfl).2
              try go_wp2_with fail
              refine hK.out _ _ ?_ (fun hHeld => ?_)
              · exact hSof _ (HT8.mono (by rw [HSB.out]; intro j hj _; exact List.mem_cons_of_mem _ hj))
              clear hK K
              try simp only [Act.put, List.setIfInBounds_toArray, List.set_cons_zero, List.set_cons_succ]
              refine BtL.take_d (some 43) (i := 9) (v := ?_) rfl rfl (by kernel_rfl) (by kernel_rfl) (by kernel_rfl) (fun _ _ _ h => h) (Or.inl ⟨by rfl, ?_⟩) (by assumption) ?_
              rotate_left
              · (intro w hSw; (try dsimp only at hSw); go_simp; try with_reducible rfl)
              simp only [Act.put, List.setIfInBounds_toArray, List.set_cons_zero, List.set_cons_succ]
              refine wpAnyH_ready (rs := [10]) (by kernel_rfl) (by simp) ?_
              refine AllReadyH.cons rfl (fun K hK => ?_) AllReadyH.nil
              go_simp
              refine hK.out _ _ ?_ (fun hHeld => ?_)
              · exact hSof _ ((HT8.mono (by rw [HSB.out]; intro j hj _; exact List.mem_cons_of_mem _ hj)).setCell (p := ⟨B, 6, none⟩) (.inl (by rw [HSB.out]; exact List.mem_cons_self ..)) _)
              clear hK K
              try simp only [Act.put, List.setIfInBounds_toArray, List.set_cons_zero, List.set_cons_succ]
              refine wpAnyH_done (by kernel_rfl) ?_ _
              obtain ⟨X2, hX2⟩ : ∃ X, X = u8.setCell ⟨B, 6, none⟩ (.slice o8 n8 c8) := ⟨_, rfl⟩
              have tB : Turned [B] u8 X2 := by rw [hX2]; exact (Turned.refl [B] u8).setCell (p := ⟨B, 6, none⟩) (.inl (by simp)) _
              have hB9 := hB8.set (i := 6) (by simp [wvEnc]) (.slice o8 n8 c8)
              rw [← hX2] at hB9
              have hD9 := hD8.keep tB (by simpa using nDB)
              have hF8 := hFX.turn ho8 HT8 hbX3 (hb8.imp_right (fun h j hj => Nat.le_trans (HTY7.size) (h j hj))) (st := s1) (tk := W.tick) (sv := ((s1 : Nat) : Int)) (tv := V1.tk) rfl hF.tells.tk
              have hF9 := hF8.keep tB (by intro j hj; simp at hj; omega)
              have HT9 : Turned [] w X2 := (HTX3.trans (S' := blk (.slice V1.ol V1.nl V1.cl)) HT8 (fun j hj hl => by have := hF3.gl j hj; omega)).trans (S' := [B]) tB (by intro j hj hl; simp at hj; omega)
              rw [← hX2]
              clear hX2 c0 c1 c2 c3 c4 c5 c6 f0 f1 f2 f3 f4 f5 f6
              have c0 := (hB9.2 0 _ rfl).1
              have f0 := (hB9.2 0 _ rfl).2
              have c1 := (hB9.2 1 _ rfl).1
              have f1 := (hB9.2 1 _ rfl).2
              have c2 := (hB9.2 2 _ rfl).1
              have f2 := (hB9.2 2 _ rfl).2
              have c3 := (hB9.2 3 _ rfl).1
              have f3 := (hB9.2 3 _ rfl).2
              have c4 := (hB9.2 4 _ rfl).1
              have f4 := (hB9.2 4 _ rfl).2
              have c5 := (hB9.2 5 _ rfl).1
              have f5 := (hB9.2 5 _ rfl).2
              have c6 := (hB9.2 6 _ rfl).1
              have f6 := (hB9.2 6 _ rfl).2
              have z0 := (hD9.2 0 _ rfl).1
              have y0 := (hD9.2 0 _ rfl).2
              have z1 := (hD9.2 1 _ rfl).1
              have y1 := (hD9.2 1 _ rfl).2
              have z2 := (hD9.2 2 _ rfl).1
              have y2 := (hD9.2 2 _ rfl).2
              have z3 := (hD9.2 3 _ rfl).1
              have y3 := (hD9.2 3 _ rfl).2
              have z4 := (hD9.2 4 _ rfl).1
              have y4 := (hD9.2 4 _ rfl).2
              have z5 := (hD9.2 5 _ rfl).1
              have y5 := (hD9.2 5 _ rfl).2
              have z6 := (hD9.2 6 _ rfl).1
              have y6 := (hD9.2 6 _ rfl).2
              go_wp2_with fail
              obtain ⟨X9, hX9⟩ : ∃ X, X = put7 X2 D ⟨V1.mw, V1.mh, V1.oa, V1.nw, V1.ca, V1.ob, V1.ns, V1.cb, ((s1 : Nat) : Int), V1.tk, o8, n8, c8⟩ := ⟨_, rfl⟩
              have hS9 : Struct D (wvEnc ⟨V1.mw, V1.mh, V1.oa, V1.nw, V1.ca, V1.ob, V1.ns, V1.cb, ((s1 : Nat) : Int), V1.tk, o8, n8, c8⟩) X9 := by rw [hX9]; exact set7 hD9 rfl _
              have hT9 : Turned [D] X2 X9 := by rw [hX9]; exact turned7 (Turned.refl _ _) (.inl (by simp)) _
              simp only [put7] at hX9
              rw [← hX9]
              clear hX9
              have e0 := (hS9.2 0 _ rfl).1
              have e1 := (hS9.2 1 _ rfl).1
              have e2 := (hS9.2 2 _ rfl).1
              have e3 := (hS9.2 3 _ rfl).1
              have e4 := (hS9.2 4 _ rfl).1
              have e5 := (hS9.2 5 _ rfl).1
              have e6 := (hS9.2 6 _ rfl).1
              go_wp2_with fail
              refine bodyPost_ret (v := .tuple #[wvVal ⟨V1.mw, V1.mh, V1.oa, V1.nw, V1.ca, V1.ob, V1.ns, V1.cb, ((s1 : Nat) : Int), V1.tk, o8, n8, c8⟩, .int .i64 0]) (by simp [results, Try.results14, go_sem, e0, e1, e2, e3, e4, e5, e6]) rfl ⟨_, ?_, ?_, fun k hk => .inr (Nat.le_trans hb0w (hF9.at_ge hk)), HT9.trans (S' := [D]) hT9 (by intro k hk hl; simp at hk; omega)⟩
              · rw [HL.out.2]
              · rw [HL.out.1, ← HW.out]; exact (hF9.keep hT9 (by intro k hk; simp at hk; omega)).tells
          · go_simp
            obtain ⟨P, hP0⟩ : ∃ P, P = u5.heap.size := ⟨_, rfl⟩
            obtain ⟨Y7, hY7⟩ : ∃ Y, Y = (u5.alloc (.cells #[.int .i64 x.id, .int .i64 x.kind, .int .i64 x.ax, .int .i64 x.ay, .int .i64 x.vx, .int .i64 x.vy, .int .i64 x.h, .int .i64 x.t] 49)) := ⟨_, rfl⟩
            have HTa : Turned [] u5 Y7 := by rw [hY7]; exact ((Turned.refl [] u5).alloc _)
            have HTY7 : Turned [] X3 Y7 := HTu5.trans HTa (by simp)
            have hP : Y7.heap[P]? = some (.cells (enEnc x).toArray 49 (0, 0)) := by rw [hY7, hP0]; exact heap_alloc_new u5 _
            have hPl : P < Y7.heap.size := (Array.getElem?_eq_some_iff.1 hP).1
            have hPb : P ∉ blk (.slice V1.ol V1.nl V1.cl) := fun h => by have := hOX.lt _ h; have := HTu5.size; omega
            have nPB : P ≠ B := by have := hB3.1; have := HTu5.size; omega
            rw [← hY7, ← hP0]
            clear hY7 hP0
            have y6 := ((hB3.keep HTY7 (by simp)).2 6 _ rfl).1
            have g6 := ((hB3.keep HTY7 (by simp)).2 6 _ rfl).2
            refine hK.out _ _ ?_ (fun hHeld => ?_)
            · exact hSof _ (HTY7.mono (by simp))
            clear hK K
            try simp only [Act.put, List.setIfInBounds_toArray, List.set_cons_zero, List.set_cons_succ]
            refine wpAnyH_ready (rs := [1]) (by kernel_rfl) (by simp) ?_
            refine AllReadyH.cons rfl (fun K hK => ?_) AllReadyH.nil
            · go_simp
              refine hK.out _ _ ?_ (fun hHeld => ?_)
              · exact hSof _ (HTY7.mono (by simp))
              clear hK K
              try simp only [Act.put, List.setIfInBounds_toArray, List.set_cons_zero, List.set_cons_succ]
              refine wpAnyH_ready (rs := [8]) (by kernel_rfl) (by simp) ?_
              refine AllReadyH.cons rfl (fun K hK => ?_) AllReadyH.nil
              go_simp
              go_at_call 31
              with_reducible refine (insert_any (.slice V1.ol V1.nl V1.cl) W.l k P x _ (hOX.keep HTY7 (by simp)) HK.out.2.1 hlen hP hPb).mono ?_
              rintro r u8 ⟨v8, rfl, ho8, ht8, hb8⟩
              obtain ⟨o8, c8, hv8, _, _⟩ := ho8.form
              obtain ⟨n8, hn8⟩ : ∃ n, n = (W.l.take k ++ x :: W.l.drop k).length := ⟨_, rfl⟩
              rw [← hn8] at hv8
              subst hv8
              clear hn8
              have HT8 : Turned (blk (.slice V1.ol V1.nl V1.cl)) X3 u8 := (HTY7.mono (by simp)).trans ht8 (fun k hk _ => hk)
              have nBl : B ∉ blk (.slice V1.ol V1.nl V1.cl) := fun h => by have := hF3.gl B h; omega
              have nDl : D ∉ blk (.slice V1.ol V1.nl V1.cl) := fun h => by have := hF3.gl D h; omega
              have hB8 := hB3.keep HT8 nBl
              have hD8 := hD3.keep HT8 nDl
              have x6 := (hB8.2 6 _ rfl).1
              have w6 := (hB8.2 6 _ rfl).2
              try go_wp2_with fail
              refine hK.out _ _ ?_ (fun hHeld => ?_)
              · exact hSof _ (HT8.mono (by rw [HSB.out]; intro j hj _; exact List.mem_cons_of_mem _ hj))
              clear hK K
              try simp only [Act.put, List.setIfInBounds_toArray, List.set_cons_zero, List.set_cons_succ]
              refine BtL.take_d (some 43) (i := 9) (v := ?_) rfl rfl (by kernel_rfl) (by kernel_rfl) (by kernel_rfl) (fun _ _ _ h => h) (Or.inl ⟨by rfl, ?_⟩) (by assumption) ?_
              rotate_left
              · (intro w hSw; (try dsimp only at hSw); go_simp; try with_reducible rfl)
              simp only [Act.put, List.setIfInBounds_toArray, List.set_cons_zero, List.set_cons_succ]
              refine wpAnyH_ready (rs := [10]) (by kernel_rfl) (by simp) ?_
              refine AllReadyH.cons rfl (fun K hK => ?_) AllReadyH.nil
              go_simp
              refine hK.out _ _ ?_ (fun hHeld => ?_)
              · exact hSof _ ((HT8.mono (by rw [HSB.out]; intro j hj _; exact List.mem_cons_of_mem _ hj)).setCell (p := ⟨B, 6, none⟩) (.inl (by rw [HSB.out]; exact List.mem_cons_self ..)) _)
              clear hK K
              try simp only [Act.put, List.setIfInBounds_toArray, List.set_cons_zero, List.set_cons_succ]
              refine wpAnyH_done (by kernel_rfl) ?_ _
              obtain ⟨X2, hX2⟩ : ∃ X, X = u8.setCell ⟨B, 6, none⟩ (.slice o8 n8 c8) := ⟨_, rfl⟩
              have tB : Turned [B] u8 X2 := by rw [hX2]; exact (Turned.refl [B] u8).setCell (p := ⟨B, 6, none⟩) (.inl (by simp)) _
              have hB9 := hB8.set (i := 6) (by simp [wvEnc]) (.slice o8 n8 c8)
              rw [← hX2] at hB9
              have hD9 := hD8.keep tB (by simpa using nDB)
              have hF8 := hFX.turn ho8 HT8 hbX3 (hb8.imp_right (fun h j hj => Nat.le_trans (HTY7.size) (h j hj))) (st := s1) (tk := W.tick) (sv := ((s1 : Nat) : Int)) (tv := V1.tk) rfl hF.tells.tk
              have hF9 := hF8.keep tB (by intro j hj; simp at hj; omega)
              have HT9 : Turned [] w X2 := (HTX3.trans (S' := blk (.slice V1.ol V1.nl V1.cl)) HT8 (fun j hj hl => by have := hF3.gl j hj; omega)).trans (S' := [B]) tB (by intro j hj hl; simp at hj; omega)
              rw [← hX2]
              clear hX2 c0 c1 c2 c3 c4 c5 c6 f0 f1 f2 f3 f4 f5 f6
              have c0 := (hB9.2 0 _ rfl).1
              have f0 := (hB9.2 0 _ rfl).2
              have c1 := (hB9.2 1 _ rfl).1
              have f1 := (hB9.2 1 _ rfl).2
              have c2 := (hB9.2 2 _ rfl).1
              have f2 := (hB9.2 2 _ rfl).2
              have c3 := (hB9.2 3 _ rfl).1
              have f3 := (hB9.2 3 _ rfl).2
              have c4 := (hB9.2 4 _ rfl).1
              have f4 := (hB9.2 4 _ rfl).2
              have c5 := (hB9.2 5 _ rfl).1
              have f5 := (hB9.2 5 _ rfl).2
              have c6 := (hB9.2 6 _ rfl).1
              have f6 := (hB9.2 6 _ rfl).2
              have z0 := (hD9.2 0 _ rfl).1
              have y0 := (hD9.2 0 _ rfl).2
              have z1 := (hD9.2 1 _ rfl).1
              have y1 := (hD9.2 1 _ rfl).2
              have z2 := (hD9.2 2 _ rfl).1
              have y2 := (hD9.2 2 _ rfl).2
              have z3 := (hD9.2 3 _ rfl).1
              have y3 := (hD9.2 3 _ rfl).2
              have z4 := (hD9.2 4 _ rfl).1
              have y4 := (hD9.2 4 _ rfl).2
              have z5 := (hD9.2 5 _ rfl).1
              have y5 := (hD9.2 5 _ rfl).2
              have z6 := (hD9.2 6 _ rfl).1
              have y6 := (hD9.2 6 _ rfl).2
              go_wp2_with fail
              obtain ⟨X9, hX9⟩ : ∃ X, X = put7 X2 D ⟨V1.mw, V1.mh, V1.oa, V1.nw, V1.ca, V1.ob, V1.ns, V1.cb, ((s1 : Nat) : Int), V1.tk, o8, n8, c8⟩ := ⟨_, rfl⟩
              have hS9 : Struct D (wvEnc ⟨V1.mw, V1.mh, V1.oa, V1.nw, V1.ca, V1.ob, V1.ns, V1.cb, ((s1 : Nat) : Int), V1.tk, o8, n8, c8⟩) X9 := by rw [hX9]; exact set7 hD9 rfl _
              have hT9 : Turned [D] X2 X9 := by rw [hX9]; exact turned7 (Turned.refl _ _) (.inl (by simp)) _
              simp only [put7] at hX9
              rw [← hX9]
              clear hX9
              have e0 := (hS9.2 0 _ rfl).1
              have e1 := (hS9.2 1 _ rfl).1
              have e2 := (hS9.2 2 _ rfl).1
              have e3 := (hS9.2 3 _ rfl).1
              have e4 := (hS9.2 4 _ rfl).1
              have e5 := (hS9.2 5 _ rfl).1
              have e6 := (hS9.2 6 _ rfl).1
              go_wp2_with fail
              refine bodyPost_ret (v := .tuple #[wvVal ⟨V1.mw, V1.mh, V1.oa, V1.nw, V1.ca, V1.ob, V1.ns, V1.cb, ((s1 : Nat) : Int), V1.tk, o8, n8, c8⟩, .int .i64 0]) (by simp [results, Try.results14, go_sem, e0, e1, e2, e3, e4, e5, e6]) rfl ⟨_, ?_, ?_, fun k hk => .inr (Nat.le_trans hb0w (hF9.at_ge hk)), HT9.trans (S' := [D]) hT9 (by intro k hk hl; simp at hk; omega)⟩
              · rw [HL.out.2]
              · rw [HL.out.1, ← HW.out]; exact (hF9.keep hT9 (by intro k hk; simp at hk; omega)).tells
        · go_simp
          obtain ⟨P, hP0⟩ : ∃ P, P = X3.heap.size := ⟨_, rfl⟩
          obtain ⟨Y7, hY7⟩ : ∃ Y, Y = (X3.alloc (.cells #[.int .i64 x.id, .int .i64 x.kind, .int .i64 x.ax, .int .i64 x.ay, .int .i64 x.vx, .int .i64 x.vy, .int .i64 x.h, .int .i64 x.t] 49)).drew := ⟨_, rfl⟩
          have HTa : Turned [] X3 Y7 := by rw [hY7]; exact (((Turned.refl [] X3).alloc _).drew)
          have HTY7 : Turned [] X3 Y7 := HTa
          have hP : Y7.heap[P]? = some (.cells (enEnc x).toArray 49 (0, 0)) := by rw [hY7, hP0]; exact heap_alloc_new X3 _
          have hPl : P < Y7.heap.size := (Array.getElem?_eq_some_iff.1 hP).1
          have hPb : P ∉ blk (.slice V1.ol V1.nl V1.cl) := fun h => by have := hOX.lt _ h; have := Nat.le_refl 0; omega
          have nPB : P ≠ B := by have := hB3.1; have := Nat.le_refl 0; omega
          rw [← hY7, ← hP0]
          clear hY7 hP0
          have y6 := ((hB3.keep HTY7 (by simp)).2 6 _ rfl).1
          have g6 := ((hB3.keep HTY7 (by simp)).2 6 _ rfl).2
          refine hK.out _ _ ?_ (fun hHeld => ?_)
          · exact hSof _ (HTY7.mono (by simp))
          clear hK K
          try simp only [Act.put, List.setIfInBounds_toArray, List.set_cons_zero, List.set_cons_succ]
          refine wpAnyH_ready (rs := [1, 5]) (by kernel_rfl) (by simp) ?_
          refine AllReadyH.cons rfl (fun K hK => ?_) (AllReadyH.cons rfl (fun K hK => ?_) AllReadyH.nil)
          · go_simp
            refine hK.out _ _ ?_ (fun hHeld => ?_)
            · exact hSof _ (HTY7.mono (by simp))
            clear hK K
            try simp only [Act.put, List.setIfInBounds_toArray, List.set_cons_zero, List.set_cons_succ]
            refine wpAnyH_ready (rs := [5]) (by kernel_rfl) (by simp) ?_
            refine AllReadyH.cons rfl (fun K hK => ?_) AllReadyH.nil
            · go_simp
              go_at_call 32
              with_reducible refine (kp _ (HTY7)).mono ?_
              rintro r u5 ⟨rfl, HT5⟩
              have HTu5 : Turned [] X3 u5 := Turned.trans (S' := []) (HTY7) HT5 (by simp)
              have y6 := ((hB3.keep HTu5 (by simp)).2 6 _ rfl).1
              have g6 := ((hB3.keep HTu5 (by simp)).2 6 _ rfl).2
              have hP := (HT5.block P hPl (by simp)).trans hP; have hPl := Nat.lt_of_lt_of_le hPl HT5.size
              try go_wp2_with fail
              refine hK.out _ _ ?_ (fun hHeld => ?_)
              · exact hSof _ (HTu5.mono (by simp))
              clear hK K
              try simp only [Act.put, List.setIfInBounds_toArray, List.set_cons_zero, List.set_cons_succ]
              refine wpAnyH_ready (rs := [8]) (by kernel_rfl) (by simp) ?_
              refine AllReadyH.cons rfl (fun K hK => ?_) AllReadyH.nil
              go_simp
              go_at_call 31
              with_reducible refine (insert_any (.slice V1.ol V1.nl V1.cl) W.l k P x _ (hOX.keep HTu5 (by simp)) HK.out.2.1 hlen hP hPb).mono ?_
              rintro r u8 ⟨v8, rfl, ho8, ht8, hb8⟩
              obtain ⟨o8, c8, hv8, _, _⟩ := ho8.form
              obtain ⟨n8, hn8⟩ : ∃ n, n = (W.l.take k ++ x :: W.l.drop k).length := ⟨_, rfl⟩
              rw [← hn8] at hv8
              subst hv8
              clear hn8
              have HT8 : Turned (blk (.slice V1.ol V1.nl V1.cl)) X3 u8 := (HTu5.mono (by simp)).trans ht8 (fun k hk _ => hk)
              have nBl : B ∉ blk (.slice V1.ol V1.nl V1.cl) := fun h => by have := hF3.gl B h; omega
              have nDl : D ∉ blk (.slice V1.ol V1.nl V1.cl) := fun h => by have := hF3.gl D h; omega
              have hB8 := hB3.keep HT8 nBl
              have hD8 := hD3.keep HT8 nDl
              have x6 := (hB8.2 6 _ rfl).1
              have w6 := (hB8.2 6 _ rfl).2
              try go_wp2_with fail
              refine hK.out _ _ ?_ (fun hHeld => ?_)
              · exact hSof _ (HT8.mono (by rw [HSB.out]; intro j hj _; exact List.mem_cons_of_mem _ hj))
              clear hK K
              try simp only [Act.put, List.setIfInBounds_toArray, List.set_cons_zero, List.set_cons_succ]
              refine BtL.take_d (some 43) (i := 9) (v := ?_) rfl rfl (by kernel_rfl) (by kernel_rfl) (by kernel_rfl) (fun _ _ _ h => h) (Or.inl ⟨by rfl, ?_⟩) (by assumption) ?_
              rotate_left
              · (intro w hSw; (try dsimp only at hSw); go_simp; try with_reducible rfl)
              simp only [Act.put, List.setIfInBounds_toArray, List.set_cons_zero, List.set_cons_succ]
              refine wpAnyH_ready (rs := [10]) (by kernel_rfl) (by simp) ?_
              refine AllReadyH.cons rfl (fun K hK => ?_) AllReadyH.nil
              go_simp
              refine hK.out _ _ ?_ (fun hHeld => ?_)
              · exact hSof _ ((HT8.mono (by rw [HSB.out]; intro j hj _; exact List.mem_cons_of_mem _ hj)).setCell (p := ⟨B, 6, none⟩) (.inl (by rw [HSB.out]; exact List.mem_cons_self ..)) _)
              clear hK K
              try simp only [Act.put, List.setIfInBounds_toArray, List.set_cons_zero, List.set_cons_succ]
              refine wpAnyH_done (by kernel_rfl) ?_ _
              obtain ⟨X2, hX2⟩ : ∃ X, X = u8.setCell ⟨B, 6, none⟩ (.slice o8 n8 c8) := ⟨_, rfl⟩
              have tB : Turned [B] u8 X2 := by rw [hX2]; exact (Turned.refl [B] u8).setCell (p := ⟨B, 6, none⟩) (.inl (by simp)) _
              have hB9 := hB8.set (i := 6) (by simp [wvEnc]) (.slice o8 n8 c8)
              rw [← hX2] at hB9
              have hD9 := hD8.keep tB (by simpa using nDB)
              have hF8 := hFX.turn ho8 HT8 hbX3 (hb8.imp_right (fun h j hj => Nat.le_trans (HTu5.size) (h j hj))) (st := s1) (tk := W.tick) (sv := ((s1 : Nat) : Int)) (tv := V1.tk) rfl hF.tells.tk
              have hF9 := hF8.keep tB (by intro j hj; simp at hj; omega)
              have HT9 : Turned [] w X2 := (HTX3.trans (S' := blk (.slice V1.ol V1.nl V1.cl)) HT8 (fun j hj hl => by have := hF3.gl j hj; omega)).trans (S' := [B]) tB (by intro j hj hl; simp at hj; omega)
              rw [← hX2]
              clear hX2 c0 c1 c2 c3 c4 c5 c6 f0 f1 f2 f3 f4 f5 f6
              have c0 := (hB9.2 0 _ rfl).1
              have f0 := (hB9.2 0 _ rfl).2
              have c1 := (hB9.2 1 _ rfl).1
              have f1 := (hB9.2 1 _ rfl).2
              have c2 := (hB9.2 2 _ rfl).1
              have f2 := (hB9.2 2 _ rfl).2
              have c3 := (hB9.2 3 _ rfl).1
              have f3 := (hB9.2 3 _ rfl).2
              have c4 := (hB9.2 4 _ rfl).1
              have f4 := (hB9.2 4 _ rfl).2
              have c5 := (hB9.2 5 _ rfl).1
              have f5 := (hB9.2 5 _ rfl).2
              have c6 := (hB9.2 6 _ rfl).1
              have f6 := (hB9.2 6 _ rfl).2
              have z0 := (hD9.2 0 _ rfl).1
              have y0 := (hD9.2 0 _ rfl).2
              have z1 := (hD9.2 1 _ rfl).1
              have y1 := (hD9.2 1 _ rfl).2
              have z2 := (hD9.2 2 _ rfl).1
              have y2 := (hD9.2 2 _ rfl).2
              have z3 := (hD9.2 3 _ rfl).1
              have y3 := (hD9.2 3 _ rfl).2
              have z4 := (hD9.2 4 _ rfl).1
              have y4 := (hD9.2 4 _ rfl).2
              have z5 := (hD9.2 5 _ rfl).1
              have y5 := (hD9.2 5 _ rfl).2
              have z6 := (hD9.2 6 _ rfl).1
              have y6 := (hD9.2 6 _ rfl).2
              go_wp2_with fail
              obtain ⟨X9, hX9⟩ : ∃ X, X = put7 X2 D ⟨V1.mw, V1.mh, V1.oa, V1.nw, V1.ca, V1.ob, V1.ns, V1.cb, ((s1 : Nat) : Int), V1.tk, o8, n8, c8⟩ := ⟨_, rfl⟩
              have hS9 : Struct D (wvEnc ⟨V1.mw, V1.mh, V1.oa, V1.nw, V1.ca, V1.ob, V1.ns, V1.cb, ((s1 : Nat) : Int), V1.tk, o8, n8, c8⟩) X9 := by rw [hX9]; exact set7 hD9 rfl _
              have hT9 : Turned [D] X2 X9 := by rw [hX9]; exact turned7 (Turned.refl _ _) (.inl (by simp)) _
              simp only [put7] at hX9
              rw [← hX9]
              clear hX9
              have e0 := (hS9.2 0 _ rfl).1
              have e1 := (hS9.2 1 _ rfl).1
              have e2 := (hS9.2 2 _ rfl).1
              have e3 := (hS9.2 3 _ rfl).1
              have e4 := (hS9.2 4 _ rfl).1
              have e5 := (hS9.2 5 _ rfl).1
              have e6 := (hS9.2 6 _ rfl).1
              go_wp2_with fail
              refine bodyPost_ret (v := .tuple #[wvVal ⟨V1.mw, V1.mh, V1.oa, V1.nw, V1.ca, V1.ob, V1.ns, V1.cb, ((s1 : Nat) : Int), V1.tk, o8, n8, c8⟩, .int .i64 0]) (by simp [results, Try.results14, go_sem, e0, e1, e2, e3, e4, e5, e6]) rfl ⟨_, ?_, ?_, fun k hk => .inr (Nat.le_trans hb0w (hF9.at_ge hk)), HT9.trans (S' := [D]) hT9 (by intro k hk hl; simp at hk; omega)⟩
              · rw [HL.out.2]
              · rw [HL.out.1, ← HW.out]; exact (hF9.keep hT9 (by intro k hk; simp at hk; omega)).tells
          · go_simp
            go_at_call 32
            with_reducible refine (kp _ (HTY7)).mono ?_
            rintro r u5 ⟨rfl, HT5⟩
            have HTu5 : Turned [] X3 u5 := Turned.trans (S' := []) (HTY7) HT5 (by simp)
            have y6 := ((hB3.keep HTu5 (by simp)).2 6 _ rfl).1
            have g6 := ((hB3.keep HTu5 (by simp)).2 6 _ rfl).2
            have hP := (HT5.block P hPl (by simp)).trans hP; have hPl := Nat.lt_of_lt_of_le hPl HT5.size
            try go_wp2_with fail
            refine hK.out _ _ ?_ (fun hHeld => ?_)
            · exact hSof _ (HTu5.mono (by simp))
            clear hK K
            try simp only [Act.put, List.setIfInBounds_toArray, List.set_cons_zero, List.set_cons_succ]
            refine wpAnyH_ready (rs := [1]) (by kernel_rfl) (by simp) ?_
            refine AllReadyH.cons rfl (fun K hK => ?_) AllReadyH.nil
            · go_simp
              refine hK.out _ _ ?_ (fun hHeld => ?_)
              · exact hSof _ (HTu5.mono (by simp))
              clear hK K
              try simp only [Act.put, List.setIfInBounds_toArray, List.set_cons_zero, List.set_cons_succ]
              refine wpAnyH_ready (rs := [8]) (by kernel_rfl) (by simp) ?_
              refine AllReadyH.cons rfl (fun K hK => ?_) AllReadyH.nil
              go_simp
              go_at_call 31
              with_reducible refine (insert_any (.slice V1.ol V1.nl V1.cl) W.l k P x _ (hOX.keep HTu5 (by simp)) HK.out.2.1 hlen hP hPb).mono ?_
              rintro r u8 ⟨v8, rfl, ho8, ht8, hb8⟩
              obtain ⟨o8, c8, hv8, _, _⟩ := ho8.form
              obtain ⟨n8, hn8⟩ : ∃ n, n = (W.l.take k ++ x :: W.l.drop k).length := ⟨_, rfl⟩
              rw [← hn8] at hv8
              subst hv8
              clear hn8
              have HT8 : Turned (blk (.slice V1.ol V1.nl V1.cl)) X3 u8 := (HTu5.mono (by simp)).trans ht8 (fun k hk _ => hk)
              have nBl : B ∉ blk (.slice V1.ol V1.nl V1.cl) := fun h => by have := hF3.gl B h; omega
              have nDl : D ∉ blk (.slice V1.ol V1.nl V1.cl) := fun h => by have := hF3.gl D h; omega
              have hB8 := hB3.keep HT8 nBl
              have hD8 := hD3.keep HT8 nDl
              have x6 := (hB8.2 6 _ rfl).1
              have w6 := (hB8.2 6 _ rfl).2
              try go_wp2_with fail
              refine hK.out _ _ ?_ (fun hHeld => ?_)
              · exact hSof _ (HT8.mono (by rw [HSB.out]; intro j hj _; exact List.mem_cons_of_mem _ hj))
              clear hK K
              try simp only [Act.put, List.setIfInBounds_toArray, List.set_cons_zero, List.set_cons_succ]
              refine BtL.take_d (some 43) (i := 9) (v := ?_) rfl rfl (by kernel_rfl) (by kernel_rfl) (by kernel_rfl) (fun _ _ _ h => h) (Or.inl ⟨by rfl, ?_⟩) (by assumption) ?_
              rotate_left
              · (intro w hSw; (try dsimp only at hSw); go_simp; try with_reducible rfl)
              simp only [Act.put, List.setIfInBounds_toArray, List.set_cons_zero, List.set_cons_succ]
              refine wpAnyH_ready (rs := [10]) (by kernel_rfl) (by simp) ?_
              refine AllReadyH.cons rfl (fun K hK => ?_) AllReadyH.nil
              go_simp
              refine hK.out _ _ ?_ (fun hHeld => ?_)
              · exact hSof _ ((HT8.mono (by rw [HSB.out]; intro j hj _; exact List.mem_cons_of_mem _ hj)).setCell (p := ⟨B, 6, none⟩) (.inl (by rw [HSB.out]; exact List.mem_cons_self ..)) _)
              clear hK K
              try simp only [Act.put, List.setIfInBounds_toArray, List.set_cons_zero, List.set_cons_succ]
              refine wpAnyH_done (by kernel_rfl) ?_ _
              obtain ⟨X2, hX2⟩ : ∃ X, X = u8.setCell ⟨B, 6, none⟩ (.slice o8 n8 c8) := ⟨_, rfl⟩
              have tB : Turned [B] u8 X2 := by rw [hX2]; exact (Turned.refl [B] u8).setCell (p := ⟨B, 6, none⟩) (.inl (by simp)) _
              have hB9 := hB8.set (i := 6) (by simp [wvEnc]) (.slice o8 n8 c8)
              rw [← hX2] at hB9
              have hD9 := hD8.keep tB (by simpa using nDB)
              have hF8 := hFX.turn ho8 HT8 hbX3 (hb8.imp_right (fun h j hj => Nat.le_trans (HTu5.size) (h j hj))) (st := s1) (tk := W.tick) (sv := ((s1 : Nat) : Int)) (tv := V1.tk) rfl hF.tells.tk
              have hF9 := hF8.keep tB (by intro j hj; simp at hj; omega)
              have HT9 : Turned [] w X2 := (HTX3.trans (S' := blk (.slice V1.ol V1.nl V1.cl)) HT8 (fun j hj hl => by have := hF3.gl j hj; omega)).trans (S' := [B]) tB (by intro j hj hl; simp at hj; omega)
              rw [← hX2]
              clear hX2 c0 c1 c2 c3 c4 c5 c6 f0 f1 f2 f3 f4 f5 f6
              have c0 := (hB9.2 0 _ rfl).1
              have f0 := (hB9.2 0 _ rfl).2
              have c1 := (hB9.2 1 _ rfl).1
              have f1 := (hB9.2 1 _ rfl).2
              have c2 := (hB9.2 2 _ rfl).1
              have f2 := (hB9.2 2 _ rfl).2
              have c3 := (hB9.2 3 _ rfl).1
              have f3 := (hB9.2 3 _ rfl).2
              have c4 := (hB9.2 4 _ rfl).1
              have f4 := (hB9.2 4 _ rfl).2
              have c5 := (hB9.2 5 _ rfl).1
              have f5 := (hB9.2 5 _ rfl).2
              have c6 := (hB9.2 6 _ rfl).1
              have f6 := (hB9.2 6 _ rfl).2
              have z0 := (hD9.2 0 _ rfl).1
              have y0 := (hD9.2 0 _ rfl).2
              have z1 := (hD9.2 1 _ rfl).1
              have y1 := (hD9.2 1 _ rfl).2
              have z2 := (hD9.2 2 _ rfl).1
              have y2 := (hD9.2 2 _ rfl).2
              have z3 := (hD9.2 3 _ rfl).1
              have y3 := (hD9.2 3 _ rfl).2
              have z4 := (hD9.2 4 _ rfl).1
              have y4 := (hD9.2 4 _ rfl).2
              have z5 := (hD9.2 5 _ rfl).1
              have y5 := (hD9.2 5 _ rfl).2
              have z6 := (hD9.2 6 _ rfl).1
              have y6 := (hD9.2 6 _ rfl).2
              go_wp2_with fail
              obtain ⟨X9, hX9⟩ : ∃ X, X = put7 X2 D ⟨V1.mw, V1.mh, V1.oa, V1.nw, V1.ca, V1.ob, V1.ns, V1.cb, ((s1 : Nat) : Int), V1.tk, o8, n8, c8⟩ := ⟨_, rfl⟩
              have hS9 : Struct D (wvEnc ⟨V1.mw, V1.mh, V1.oa, V1.nw, V1.ca, V1.ob, V1.ns, V1.cb, ((s1 : Nat) : Int), V1.tk, o8, n8, c8⟩) X9 := by rw [hX9]; exact set7 hD9 rfl _
              have hT9 : Turned [D] X2 X9 := by rw [hX9]; exact turned7 (Turned.refl _ _) (.inl (by simp)) _
              simp only [put7] at hX9
              rw [← hX9]
              clear hX9
              have e0 := (hS9.2 0 _ rfl).1
              have e1 := (hS9.2 1 _ rfl).1
              have e2 := (hS9.2 2 _ rfl).1
              have e3 := (hS9.2 3 _ rfl).1
              have e4 := (hS9.2 4 _ rfl).1
              have e5 := (hS9.2 5 _ rfl).1
              have e6 := (hS9.2 6 _ rfl).1
              go_wp2_with fail
              refine bodyPost_ret (v := .tuple #[wvVal ⟨V1.mw, V1.mh, V1.oa, V1.nw, V1.ca, V1.ob, V1.ns, V1.cb, ((s1 : Nat) : Int), V1.tk, o8, n8, c8⟩, .int .i64 0]) (by simp [results, Try.results14, go_sem, e0, e1, e2, e3, e4, e5, e6]) rfl ⟨_, ?_, ?_, fun k hk => .inr (Nat.le_trans hb0w (hF9.at_ge hk)), HT9.trans (S' := [D]) hT9 (by intro k hk hl; simp at hk; omega)⟩
              · rw [HL.out.2]
              · rw [HL.out.1, ← HW.out]; exact (hF9.keep hT9 (by intro k hk; simp at hk; omega)).tells
      · go_simp
        obtain ⟨P, hP0⟩ : ∃ P, P = X3.heap.size := ⟨_, rfl⟩
        obtain ⟨Y7, hY7⟩ : ∃ Y, Y = (X3.alloc (.cells #[.int .i64 x.id, .int .i64 x.kind, .int .i64 x.ax, .int .i64 x.ay, .int .i64 x.vx, .int .i64 x.vy, .int .i64 x.h, .int .i64 x.t] 49)).drew := ⟨_, rfl⟩
        have HTa : Turned [] X3 Y7 := by rw [hY7]; exact (((Turned.refl [] X3).alloc _).drew)
        have HTY7 : Turned [] X3 Y7 := HTa
        have hP : Y7.heap[P]? = some (.cells (enEnc x).toArray 49 (0, 0)) := by rw [hY7, hP0]; exact heap_alloc_new X3 _
        have hPl : P < Y7.heap.size := (Array.getElem?_eq_some_iff.1 hP).1
        have hPb : P ∉ blk (.slice V1.ol V1.nl V1.cl) := fun h => by have := hOX.lt _ h; have := Nat.le_refl 0; omega
        have nPB : P ≠ B := by have := hB3.1; have := Nat.le_refl 0; omega
        rw [← hY7, ← hP0]
        clear hY7 hP0
        have y6 := ((hB3.keep HTY7 (by simp)).2 6 _ rfl).1
        have g6 := ((hB3.keep HTY7 (by simp)).2 6 _ rfl).2
        refine hK.out _ _ ?_ (fun hHeld => ?_)
        · exact hSof _ (HTY7.mono (by simp))
        clear hK K
        try simp only [Act.put, List.setIfInBounds_toArray, List.set_cons_zero, List.set_cons_succ]
        refine wpAnyH_ready (rs := [1, 3]) (by kernel_rfl) (by simp) ?_
        refine AllReadyH.cons rfl (fun K hK => ?_) (AllReadyH.cons rfl (fun K hK => ?_) AllReadyH.nil)
        · go_simp
          refine hK.out _ _ ?_ (fun hHeld => ?_)
          · exact hSof _ (HTY7.mono (by simp))
          clear hK K
          try simp only [Act.put, List.setIfInBounds_toArray, List.set_cons_zero, List.set_cons_succ]
          refine wpAnyH_ready (rs := [3]) (by kernel_rfl) (by simp) ?_
          refine AllReadyH.cons rfl (fun K hK => ?_) AllReadyH.nil
          · go_simp
            refine hK.out _ _ ?_ (fun hHeld => ?_)
            · exact hSof _ (HTY7.mono (by simp))
            clear hK K
            try simp only [Act.put, List.setIfInBounds_toArray, List.set_cons_zero, List.set_cons_succ]
            refine wpAnyH_ready (rs := [5]) (by kernel_rfl) (by simp) ?_
            refine AllReadyH.cons rfl (fun K hK => ?_) AllReadyH.nil
            · go_simp
              go_at_call 32
              with_reducible refine (kp _ (HTY7)).mono ?_
              rintro r u5 ⟨rfl, HT5⟩
              have HTu5 : Turned [] X3 u5 := Turned.trans (S' := []) (HTY7) HT5 (by simp)
              have y6 := ((hB3.keep HTu5 (by simp)).2 6 _ rfl).1
              have g6 := ((hB3.keep HTu5 (by simp)).2 6 _ rfl).2
              have hP := (HT5.block P hPl (by simp)).trans hP; have hPl := Nat.lt_of_lt_of_le hPl HT5.size
              try go_wp2_with fail
              refine hK.out _ _ ?_ (fun hHeld => ?_)
              · exact hSof _ (HTu5.mono (by simp))
              clear hK K
              try simp only [Act.put, List.setIfInBounds_toArray, List.set_cons_zero, List.set_cons_succ]
              refine wpAnyH_ready (rs := [8]) (by kernel_rfl) (by simp) ?_
              refine AllReadyH.cons rfl (fun K hK => ?_) AllReadyH.nil
              go_simp
              go_at_call 31
              with_reducible refine (insert_any (.slice V1.ol V1.nl V1.cl) W.l k P x _ (hOX.keep HTu5 (by simp)) HK.out.2.1 hlen hP hPb).mono ?_
              rintro r u8 ⟨v8, rfl, ho8, ht8, hb8⟩
              obtain ⟨o8, c8, hv8, _, _⟩ := ho8.form
              obtain ⟨n8, hn8⟩ : ∃ n, n = (W.l.take k ++ x :: W.l.drop k).length := ⟨_, rfl⟩
              rw [← hn8] at hv8
              subst hv8
              clear hn8
              have HT8 : Turned (blk (.slice V1.ol V1.nl V1.cl)) X3 u8 := (HTu5.mono (by simp)).trans ht8 (fun k hk _ => hk)
              have nBl : B ∉ blk (.slice V1.ol V1.nl V1.cl) := fun h => by have := hF3.gl B h; omega
              have nDl : D ∉ blk (.slice V1.ol V1.nl V1.cl) := fun h => by have := hF3.gl D h; omega
              have hB8 := hB3.keep HT8 nBl
              have hD8 := hD3.keep HT8 nDl
              have x6 := (hB8.2 6 _ rfl).1
              have w6 := (hB8.2 6 _ rfl).2
              try go_wp2_with fail
              refine hK.out _ _ ?_ (fun hHeld => ?_)
              · exact hSof _ (HT8.mono (by rw [HSB.out]; intro j hj _; exact List.mem_cons_of_mem _ hj))
              clear hK K
              try simp only [Act.put, List.setIfInBounds_toArray, List.set_cons_zero, List.set_cons_succ]
              refine BtL.take_d (some 43) (i := 9) (v := ?_) rfl rfl (by kernel_rfl) (by kernel_rfl) (by kernel_rfl) (fun _ _ _ h => h) (Or.inl ⟨by rfl, ?_⟩) (by assumption) ?_
              rotate_left
              · (intro w hSw; (try dsimp only at hSw); go_simp; try with_reducible rfl)
              simp only [Act.put, List.setIfInBounds_toArray, List.set_cons_zero, List.set_cons_succ]
              refine wpAnyH_ready (rs := [10]) (by kernel_rfl) (by simp) ?_
              refine AllReadyH.cons rfl (fun K hK => ?_) AllReadyH.nil
              go_simp
              refine hK.out _ _ ?_ (fun hHeld => ?_)
              · exact hSof _ ((HT8.mono (by rw [HSB.out]; intro j hj _; exact List.mem_cons_of_mem _ hj)).setCell (p := ⟨B, 6, none⟩) (.inl (by rw [HSB.out]; exact List.mem_cons_self ..)) _)
              clear hK K
              try simp only [Act.put, List.setIfInBounds_toArray, List.set_cons_zero, List.set_cons_succ]
              refine wpAnyH_done (by kernel_rfl) ?_ _
              obtain ⟨X2, hX2⟩ : ∃ X, X = u8.setCell ⟨B, 6, none⟩ (.slice o8 n8 c8) := ⟨_, rfl⟩
              have tB : Turned [B] u8 X2 := by rw [hX2]; exact (Turned.refl [B] u8).setCell (p := ⟨B, 6, none⟩) (.inl (by simp)) _
              have hB9 := hB8.set (i := 6) (by simp [wvEnc]) (.slice o8 n8 c8)
              rw [← hX2] at hB9
              have hD9 := hD8.keep tB (by simpa using nDB)
              have hF8 := hFX.turn ho8 HT8 hbX3 (hb8.imp_right (fun h j hj => Nat.le_trans (HTu5.size) (h j hj))) (st := s1) (tk := W.tick) (sv := ((s1 : Nat) : Int)) (tv := V1.tk) rfl hF.tells.tk
              have hF9 := hF8.keep tB (by intro j hj; simp at hj; omega)
              have HT9 : Turned [] w X2 := (HTX3.trans (S' := blk (.slice V1.ol V1.nl V1.cl)) HT8 (fun j hj hl => by have := hF3.gl j hj; omega)).trans (S' := [B]) tB (by intro j hj hl; simp at hj; omega)
              rw [← hX2]
              clear hX2 c0 c1 c2 c3 c4 c5 c6 f0 f1 f2 f3 f4 f5 f6
              have c0 := (hB9.2 0 _ rfl).1
              have f0 := (hB9.2 0 _ rfl).2
              have c1 := (hB9.2 1 _ rfl).1
              have f1 := (hB9.2 1 _ rfl).2
              have c2 := (hB9.2 2 _ rfl).1
              have f2 := (hB9.2 2 _ rfl).2
              have c3 := (hB9.2 3 _ rfl).1
              have f3 := (hB9.2 3 _ rfl).2
              have c4 := (hB9.2 4 _ rfl).1
              have f4 := (hB9.2 4 _ rfl).2
              have c5 := (hB9.2 5 _ rfl).1
              have f5 := (hB9.2 5 _ rfl).2
              have c6 := (hB9.2 6 _ rfl).1
              have f6 := (hB9.2 6 _ rfl).2
              have z0 := (hD9.2 0 _ rfl).1
              have y0 := (hD9.2 0 _ rfl).2
              have z1 := (hD9.2 1 _ rfl).1
              have y1 := (hD9.2 1 _ rfl).2
              have z2 := (hD9.2 2 _ rfl).1
              have y2 := (hD9.2 2 _ rfl).2
              have z3 := (hD9.2 3 _ rfl).1
              have y3 := (hD9.2 3 _ rfl).2
              have z4 := (hD9.2 4 _ rfl).1
              have y4 := (hD9.2 4 _ rfl).2
              have z5 := (hD9.2 5 _ rfl).1
              have y5 := (hD9.2 5 _ rfl).2
              have z6 := (hD9.2 6 _ rfl).1
              have y6 := (hD9.2 6 _ rfl).2
              go_wp2_with fail
              obtain ⟨X9, hX9⟩ : ∃ X, X = put7 X2 D ⟨V1.mw, V1.mh, V1.oa, V1.nw, V1.ca, V1.ob, V1.ns, V1.cb, ((s1 : Nat) : Int), V1.tk, o8, n8, c8⟩ := ⟨_, rfl⟩
              have hS9 : Struct D (wvEnc ⟨V1.mw, V1.mh, V1.oa, V1.nw, V1.ca, V1.ob, V1.ns, V1.cb, ((s1 : Nat) : Int), V1.tk, o8, n8, c8⟩) X9 := by rw [hX9]; exact set7 hD9 rfl _
              have hT9 : Turned [D] X2 X9 := by rw [hX9]; exact turned7 (Turned.refl _ _) (.inl (by simp)) _
              simp only [put7] at hX9
              rw [← hX9]
              clear hX9
              have e0 := (hS9.2 0 _ rfl).1
              have e1 := (hS9.2 1 _ rfl).1
              have e2 := (hS9.2 2 _ rfl).1
              have e3 := (hS9.2 3 _ rfl).1
              have e4 := (hS9.2 4 _ rfl).1
              have e5 := (hS9.2 5 _ rfl).1
              have e6 := (hS9.2 6 _ rfl).1
              go_wp2_with fail
              refine bodyPost_ret (v := .tuple #[wvVal ⟨V1.mw, V1.mh, V1.oa, V1.nw, V1.ca, V1.ob, V1.ns, V1.cb, ((s1 : Nat) : Int), V1.tk, o8, n8, c8⟩, .int .i64 0]) (by simp [results, Try.results14, go_sem, e0, e1, e2, e3, e4, e5, e6]) rfl ⟨_, ?_, ?_, fun k hk => .inr (Nat.le_trans hb0w (hF9.at_ge hk)), HT9.trans (S' := [D]) hT9 (by intro k hk hl; simp at hk; omega)⟩
              · rw [HL.out.2]
              · rw [HL.out.1, ← HW.out]; exact (hF9.keep hT9 (by intro k hk; simp at hk; omega)).tells
        · go_simp
          refine hK.out _ _ ?_ (fun hHeld => ?_)
          · exact hSof _ (HTY7.mono (by simp))
          clear hK K
          try simp only [Act.put, List.setIfInBounds_toArray, List.set_cons_zero, List.set_cons_succ]
          refine wpAnyH_ready (rs := [1, 5]) (by kernel_rfl) (by simp) ?_
          refine AllReadyH.cons rfl (fun K hK => ?_) (AllReadyH.cons rfl (fun K hK => ?_) AllReadyH.nil)
          · go_simp
            refine hK.out _ _ ?_ (fun hHeld => ?_)
            · exact hSof _ (HTY7.mono (by simp))
            clear hK K
            try simp only [Act.put, List.setIfInBounds_toArray, List.set_cons_zero, List.set_cons_succ]
            refine wpAnyH_ready (rs := [5]) (by kernel_rfl) (by simp) ?_
            refine AllReadyH.cons rfl (fun K hK => ?_) AllReadyH.nil
            · go_simp
              go_at_call 32
              with_reducible refine (kp _ (HTY7)).mono ?_
              rintro r u5 ⟨rfl, HT5⟩
              have HTu5 : Turned [] X3 u5 := Turned.trans (S' := []) (HTY7) HT5 (by simp)
              have y6 := ((hB3.keep HTu5 (by simp)).2 6 _ rfl).1
              have g6 := ((hB3.keep HTu5 (by simp)).2 6 _ rfl).2
              have hP := (HT5.block P hPl (by simp)).trans hP; have hPl := Nat.lt_of_lt_of_le hPl HT5.size
              try go_wp2_with fail
              refine hK.out _ _ ?_ (fun hHeld => ?_)
              · exact hSof _ (HTu5.mono (by simp))
              clear hK K
              try simp only [Act.put, List.setIfInBounds_toArray, List.set_cons_zero, List.set_cons_succ]
              refine wpAnyH_ready (rs := [8]) (by kernel_rfl) (by simp) ?_
              refine AllReadyH.cons rfl (fun K hK => ?_) AllReadyH.nil
              go_simp
              go_at_call 31
              with_reducible refine (insert_any (.slice V1.ol V1.nl V1.cl) W.l k P x _ (hOX.keep HTu5 (by simp)) HK.out.2.1 hlen hP hPb).mono ?_
              rintro r u8 ⟨v8, rfl, ho8, ht8, hb8⟩
              obtain ⟨o8, c8, hv8, _, _⟩ := ho8.form
              obtain ⟨n8, hn8⟩ : ∃ n, n = (W.l.take k ++ x :: W.l.drop k).length := ⟨_, rfl⟩
              rw [← hn8] at hv8
              subst hv8
              clear hn8
              have HT8 : Turned (blk (.slice V1.ol V1.nl V1.cl)) X3 u8 := (HTu5.mono (by simp)).trans ht8 (fun k hk _ => hk)
              have nBl : B ∉ blk (.slice V1.ol V1.nl V1.cl) := fun h => by have := hF3.gl B h; omega
              have nDl : D ∉ blk (.slice V1.ol V1.nl V1.cl) := fun h => by have := hF3.gl D h; omega
              have hB8 := hB3.keep HT8 nBl
              have hD8 := hD3.keep HT8 nDl
              have x6 := (hB8.2 6 _ rfl).1
              have w6 := (hB8.2 6 _ rfl).2
              try go_wp2_with fail
              refine hK.out _ _ ?_ (fun hHeld => ?_)
              · exact hSof _ (HT8.mono (by rw [HSB.out]; intro j hj _; exact List.mem_cons_of_mem _ hj))
              clear hK K
              try simp only [Act.put, List.setIfInBounds_toArray, List.set_cons_zero, List.set_cons_succ]
              refine BtL.take_d (some 43) (i := 9) (v := ?_) rfl rfl (by kernel_rfl) (by kernel_rfl) (by kernel_rfl) (fun _ _ _ h => h) (Or.inl ⟨by rfl, ?_⟩) (by assumption) ?_
              rotate_left
              · (intro w hSw; (try dsimp only at hSw); go_simp; try with_reducible rfl)
              simp only [Act.put, List.setIfInBounds_toArray, List.set_cons_zero, List.set_cons_succ]
              refine wpAnyH_ready (rs := [10]) (by kernel_rfl) (by simp) ?_
              refine AllReadyH.cons rfl (fun K hK => ?_) AllReadyH.nil
              go_simp
              refine hK.out _ _ ?_ (fun hHeld => ?_)
              · exact hSof _ ((HT8.mono (by rw [HSB.out]; intro j hj _; exact List.mem_cons_of_mem _ hj)).setCell (p := ⟨B, 6, none⟩) (.inl (by rw [HSB.out]; exact List.mem_cons_self ..)) _)
              clear hK K
              try simp only [Act.put, List.setIfInBounds_toArray, List.set_cons_zero, List.set_cons_succ]
              refine wpAnyH_done (by kernel_rfl) ?_ _
              obtain ⟨X2, hX2⟩ : ∃ X, X = u8.setCell ⟨B, 6, none⟩ (.slice o8 n8 c8) := ⟨_, rfl⟩
              have tB : Turned [B] u8 X2 := by rw [hX2]; exact (Turned.refl [B] u8).setCell (p := ⟨B, 6, none⟩) (.inl (by simp)) _
              have hB9 := hB8.set (i := 6) (by simp [wvEnc]) (.slice o8 n8 c8)
              rw [← hX2] at hB9
              have hD9 := hD8.keep tB (by simpa using nDB)
              have hF8 := hFX.turn ho8 HT8 hbX3 (hb8.imp_right (fun h j hj => Nat.le_trans (HTu5.size) (h j hj))) (st := s1) (tk := W.tick) (sv := ((s1 : Nat) : Int)) (tv := V1.tk) rfl hF.tells.tk
              have hF9 := hF8.keep tB (by intro j hj; simp at hj; omega)
              have HT9 : Turned [] w X2 := (HTX3.trans (S' := blk (.slice V1.ol V1.nl V1.cl)) HT8 (fun j hj hl => by have := hF3.gl j hj; omega)).trans (S' := [B]) tB (by intro j hj hl; simp at hj; omega)
              rw [← hX2]
              clear hX2 c0 c1 c2 c3 c4 c5 c6 f0 f1 f2 f3 f4 f5 f6
              have c0 := (hB9.2 0 _ rfl).1
              have f0 := (hB9.2 0 _ rfl).2
              have c1 := (hB9.2 1 _ rfl).1
              have f1 := (hB9.2 1 _ rfl).2
              have c2 := (hB9.2 2 _ rfl).1
              have f2 := (hB9.2 2 _ rfl).2
              have c3 := (hB9.2 3 _ rfl).1
              have f3 := (hB9.2 3 _ rfl).2
              have c4 := (hB9.2 4 _ rfl).1
              have f4 := (hB9.2 4 _ rfl).2
              have c5 := (hB9.2 5 _ rfl).1
              have f5 := (hB9.2 5 _ rfl).2
              have c6 := (hB9.2 6 _ rfl).1
              have f6 := (hB9.2 6 _ rfl).2
              have z0 := (hD9.2 0 _ rfl).1
              have y0 := (hD9.2 0 _ rfl).2
              have z1 := (hD9.2 1 _ rfl).1
              have y1 := (hD9.2 1 _ rfl).2
              have z2 := (hD9.2 2 _ rfl).1
              have y2 := (hD9.2 2 _ rfl).2
              have z3 := (hD9.2 3 _ rfl).1
              have y3 := (hD9.2 3 _ rfl).2
              have z4 := (hD9.2 4 _ rfl).1
              have y4 := (hD9.2 4 _ rfl).2
              have z5 := (hD9.2 5 _ rfl).1
              have y5 := (hD9.2 5 _ rfl).2
              have z6 := (hD9.2 6 _ rfl).1
              have y6 := (hD9.2 6 _ rfl).2
              go_wp2_with fail
              obtain ⟨X9, hX9⟩ : ∃ X, X = put7 X2 D ⟨V1.mw, V1.mh, V1.oa, V1.nw, V1.ca, V1.ob, V1.ns, V1.cb, ((s1 : Nat) : Int), V1.tk, o8, n8, c8⟩ := ⟨_, rfl⟩
              have hS9 : Struct D (wvEnc ⟨V1.mw, V1.mh, V1.oa, V1.nw, V1.ca, V1.ob, V1.ns, V1.cb, ((s1 : Nat) : Int), V1.tk, o8, n8, c8⟩) X9 := by rw [hX9]; exact set7 hD9 rfl _
              have hT9 : Turned [D] X2 X9 := by rw [hX9]; exact turned7 (Turned.refl _ _) (.inl (by simp)) _
              simp only [put7] at hX9
              rw [← hX9]
              clear hX9
              have e0 := (hS9.2 0 _ rfl).1
              have e1 := (hS9.2 1 _ rfl).1
              have e2 := (hS9.2 2 _ rfl).1
              have e3 := (hS9.2 3 _ rfl).1
              have e4 := (hS9.2 4 _ rfl).1
              have e5 := (hS9.2 5 _ rfl).1
              have e6 := (hS9.2 6 _ rfl).1
              go_wp2_with fail
              refine bodyPost_ret (v := .tuple #[wvVal ⟨V1.mw, V1.mh, V1.oa, V1.nw, V1.ca, V1.ob, V1.ns, V1.cb, ((s1 : Nat) : Int), V1.tk, o8, n8, c8⟩, .int .i64 0]) (by simp [results, Try.results14, go_sem, e0, e1, e2, e3, e4, e5, e6]) rfl ⟨_, ?_, ?_, fun k hk => .inr (Nat.le_trans hb0w (hF9.at_ge hk)), HT9.trans (S' := [D]) hT9 (by intro k hk hl; simp at hk; omega)⟩
              · rw [HL.out.2]
              · rw [HL.out.1, ← HW.out]; exact (hF9.keep hT9 (by intro k hk; simp at hk; omega)).tells
          · go_simp
            go_at_call 32
            with_reducible refine (kp _ (HTY7)).mono ?_
            rintro r u5 ⟨rfl, HT5⟩
            have HTu5 : Turned [] X3 u5 := Turned.trans (S' := []) (HTY7) HT5 (by simp)
            have y6 := ((hB3.keep HTu5 (by simp)).2 6 _ rfl).1
            have g6 := ((hB3.keep HTu5 (by simp)).2 6 _ rfl).2
            have hP := (HT5.block P hPl (by simp)).trans hP; have hPl := Nat.lt_of_lt_of_le hPl HT5.size
            try go_wp2_with fail
            refine hK.out _ _ ?_ (fun hHeld => ?_)
            · exact hSof _ (HTu5.mono (by simp))
            clear hK K
            try simp only [Act.put, List.setIfInBounds_toArray, List.set_cons_zero, List.set_cons_succ]
            refine wpAnyH_ready (rs := [1]) (by kernel_rfl) (by simp) ?_
            refine AllReadyH.cons rfl (fun K hK => ?_) AllReadyH.nil
            · go_simp
              refine hK.out _ _ ?_ (fun hHeld => ?_)
              · exact hSof _ (HTu5.mono (by simp))
              clear hK K
              try simp only [Act.put, List.setIfInBounds_toArray, List.set_cons_zero, List.set_cons_succ]
              refine wpAnyH_ready (rs := [8]) (by kernel_rfl) (by simp) ?_
              refine AllReadyH.cons rfl (fun K hK => ?_) AllReadyH.nil
              go_simp
              go_at_call 31
              with_reducible refine (insert_any (.slice V1.ol V1.nl V1.cl) W.l k P x _ (hOX.keep HTu5 (by simp)) HK.out.2.1 hlen hP hPb).mono ?_
              rintro r u8 ⟨v8, rfl, ho8, ht8, hb8⟩
              obtain ⟨o8, c8, hv8, _, _⟩ := ho8.form
              obtain ⟨n8, hn8⟩ : ∃ n, n = (W.l.take k ++ x :: W.l.drop k).length := ⟨_, rfl⟩
              rw [← hn8] at hv8
              subst hv8
              clear hn8
              have HT8 : Turned (blk (.slice V1.ol V1.nl V1.cl)) X3 u8 := (HTu5.mono (by simp)).trans ht8 (fun k hk _ => hk)
              have nBl : B ∉ blk (.slice V1.ol V1.nl V1.cl) := fun h => by have := hF3.gl B h; omega
              have nDl : D ∉ blk (.slice V1.ol V1.nl V1.cl) := fun h => by have := hF3.gl D h; omega
              have hB8 := hB3.keep HT8 nBl
              have hD8 := hD3.keep HT8 nDl
              have x6 := (hB8.2 6 _ rfl).1
              have w6 := (hB8.2 6 _ rfl).2
              try go_wp2_with fail
              refine hK.out _ _ ?_ (fun hHeld => ?_)
              · exact hSof _ (HT8.mono (by rw [HSB.out]; intro j hj _; exact List.mem_cons_of_mem _ hj))
              clear hK K
              try simp only [Act.put, List.setIfInBounds_toArray, List.set_cons_zero, List.set_cons_succ]
              refine BtL.take_d (some 43) (i := 9) (v := ?_) rfl rfl (by kernel_rfl) (by kernel_rfl) (by kernel_rfl) (fun _ _ _ h => h) (Or.inl ⟨by rfl, ?_⟩) (by assumption) ?_
              rotate_left
              · (intro w hSw; (try dsimp only at hSw); go_simp; try with_reducible rfl)
              simp only [Act.put, List.setIfInBounds_toArray, List.set_cons_zero, List.set_cons_succ]
              refine wpAnyH_ready (rs := [10]) (by kernel_rfl) (by simp) ?_
              refine AllReadyH.cons rfl (fun K hK => ?_) AllReadyH.nil
              go_simp
              refine hK.out _ _ ?_ (fun hHeld => ?_)
              · exact hSof _ ((HT8.mono (by rw [HSB.out]; intro j hj _; exact List.mem_cons_of_mem _ hj)).setCell (p := ⟨B, 6, none⟩) (.inl (by rw [HSB.out]; exact List.mem_cons_self ..)) _)
              clear hK K
              try simp only [Act.put, List.setIfInBounds_toArray, List.set_cons_zero, List.set_cons_succ]
              refine wpAnyH_done (by kernel_rfl) ?_ _
              obtain ⟨X2, hX2⟩ : ∃ X, X = u8.setCell ⟨B, 6, none⟩ (.slice o8 n8 c8) := ⟨_, rfl⟩
              have tB : Turned [B] u8 X2 := by rw [hX2]; exact (Turned.refl [B] u8).setCell (p := ⟨B, 6, none⟩) (.inl (by simp)) _
              have hB9 := hB8.set (i := 6) (by simp [wvEnc]) (.slice o8 n8 c8)
              rw [← hX2] at hB9
              have hD9 := hD8.keep tB (by simpa using nDB)
              have hF8 := hFX.turn ho8 HT8 hbX3 (hb8.imp_right (fun h j hj => Nat.le_trans (HTu5.size) (h j hj))) (st := s1) (tk := W.tick) (sv := ((s1 : Nat) : Int)) (tv := V1.tk) rfl hF.tells.tk
              have hF9 := hF8.keep tB (by intro j hj; simp at hj; omega)
              have HT9 : Turned [] w X2 := (HTX3.trans (S' := blk (.slice V1.ol V1.nl V1.cl)) HT8 (fun j hj hl => by have := hF3.gl j hj; omega)).trans (S' := [B]) tB (by intro j hj hl; simp at hj; omega)
              rw [← hX2]
              clear hX2 c0 c1 c2 c3 c4 c5 c6 f0 f1 f2 f3 f4 f5 f6
              have c0 := (hB9.2 0 _ rfl).1
              have f0 := (hB9.2 0 _ rfl).2
              have c1 := (hB9.2 1 _ rfl).1
              have f1 := (hB9.2 1 _ rfl).2
              have c2 := (hB9.2 2 _ rfl).1
              have f2 := (hB9.2 2 _ rfl).2
              have c3 := (hB9.2 3 _ rfl).1
              have f3 := (hB9.2 3 _ rfl).2
              have c4 := (hB9.2 4 _ rfl).1
              have f4 := (hB9.2 4 _ rfl).2
              have c5 := (hB9.2 5 _ rfl).1
              have f5 := (hB9.2 5 _ rfl).2
              have c6 := (hB9.2 6 _ rfl).1
              have f6 := (hB9.2 6 _ rfl).2
              have z0 := (hD9.2 0 _ rfl).1
              have y0 := (hD9.2 0 _ rfl).2
              have z1 := (hD9.2 1 _ rfl).1
              have y1 := (hD9.2 1 _ rfl).2
              have z2 := (hD9.2 2 _ rfl).1
              have y2 := (hD9.2 2 _ rfl).2
              have z3 := (hD9.2 3 _ rfl).1
              have y3 := (hD9.2 3 _ rfl).2
              have z4 := (hD9.2 4 _ rfl).1
              have y4 := (hD9.2 4 _ rfl).2
              have z5 := (hD9.2 5 _ rfl).1
              have y5 := (hD9.2 5 _ rfl).2
              have z6 := (hD9.2 6 _ rfl).1
              have y6 := (hD9.2 6 _ rfl).2
              go_wp2_with fail
              obtain ⟨X9, hX9⟩ : ∃ X, X = put7 X2 D ⟨V1.mw, V1.mh, V1.oa, V1.nw, V1.ca, V1.ob, V1.ns, V1.cb, ((s1 : Nat) : Int), V1.tk, o8, n8, c8⟩ := ⟨_, rfl⟩
              have hS9 : Struct D (wvEnc ⟨V1.mw, V1.mh, V1.oa, V1.nw, V1.ca, V1.ob, V1.ns, V1.cb, ((s1 : Nat) : Int), V1.tk, o8, n8, c8⟩) X9 := by rw [hX9]; exact set7 hD9 rfl _
              have hT9 : Turned [D] X2 X9 := by rw [hX9]; exact turned7 (Turned.refl _ _) (.inl (by simp)) _
              simp only [put7] at hX9
              rw [← hX9]
              clear hX9
              have e0 := (hS9.2 0 _ rfl).1
              have e1 := (hS9.2 1 _ rfl).1
              have e2 := (hS9.2 2 _ rfl).1
              have e3 := (hS9.2 3 _ rfl).1
              have e4 := (hS9.2 4 _ rfl).1
              have e5 := (hS9.2 5 _ rfl).1
              have e6 := (hS9.2 6 _ rfl).1
              go_wp2_with fail
              refine bodyPost_ret (v := .tuple #[wvVal ⟨V1.mw, V1.mh, V1.oa, V1.nw, V1.ca, V1.ob, V1.ns, V1.cb, ((s1 : Nat) : Int), V1.tk, o8, n8, c8⟩, .int .i64 0]) (by simp [results, Try.results14, go_sem, e0, e1, e2, e3, e4, e5, e6]) rfl ⟨_, ?_, ?_, fun k hk => .inr (Nat.le_trans hb0w (hF9.at_ge hk)), HT9.trans (S' := [D]) hT9 (by intro k hk hl; simp at hk; omega)⟩
              · rw [HL.out.2]
              · rw [HL.out.1, ← HW.out]; exact (hF9.keep hT9 (by intro k hk; simp at hk; omega)).tells
end WdW

end Go.Proofs.Ytgabgkgokmeaeaa

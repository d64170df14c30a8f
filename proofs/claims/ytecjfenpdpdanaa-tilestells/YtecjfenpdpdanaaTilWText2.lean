/- A map's text: the program's Text (TiW). -/
import Derived.Test.YtecjfenpdpdanaaTilWText
namespace Go.Proofs.Ytecjfenpdpdanaa
open Go.RowKit
set_option linter.unusedVariables false
set_option linter.unusedSimpArgs false

namespace TiW
def lenV : Value → Nat
  | .slice _ n _ => n
  | _ => 0
theorem run_line {m : Ti.M} (hF : Ti.Formed m) {g n c : Nat} {w : World} (hO : OwnL 21 1 rnEnc (.slice (some ⟨g, 0, none⟩) n c) (Ti.marks m m.sp) w) {y wn : Nat} (hw : m.W.toNat = wn) (hy : y < m.H.toNat) (cc : Nat) :
    (convert 62 9 (.slice (some ⟨g, y * wn, none⟩) wn cc)).run Try.prog w = .ok (.string (Ti.str (Ti.flat (Ti.lineOf m y)))) w := by
  have hD := hF.1
  have hml := Ti.marks_lines hF
  have hlen : (Ti.linesOf m).flatten.length = m.H.toNat * m.W.toNat := by rw [Ti.flatten_len (Ti.lines_lines m).len, Ti.lines_len]
  have hle : (y + 1) * wn ≤ m.H.toNat * wn := Nat.mul_le_mul_right _ (by omega)
  rw [Nat.add_mul, Nat.one_mul] at hle
  have key := run_convert_runes (P := Try.prog) w 62 9 21 ⟨g, y * wn, none⟩ wn cc (((Ti.linesOf m).flatten.map Ti.rn).drop (y * wn)) (by rw [List.length_drop, List.length_map, hlen, hw]; omega) (by kernel_rfl) (by kernel_rfl) (by kernel_rfl) ?_
  · rw [key, ← List.map_drop, ← List.map_take, ← hw, Ti.take_lines (Ti.lines_lines m).len (Ti.lines_at hy), Ti.runes_line fun k hk => (Ti.lines_lines m).tile _ (List.mem_of_getElem? (Ti.lines_at hy)) k hk]
  · intro j hj
    rw [List.length_drop] at hj
    have h1 : (Ti.marks m m.sp)[y * wn + j]? = some ((((Ti.linesOf m).flatten.map Ti.rn).drop (y * wn)).getD j 0) := by
      rw [hml, List.getD_eq_getElem?_getD, List.getElem?_drop, List.getElem?_eq_getElem (by omega)]
      rfl
    have := (fresh_cell hO h1).1
    rw [Addr.add_lit]
    exact this

set_option maxRecDepth 20000 in
set_option maxHeartbeats 8000000 in
theorem text_any (m : Ti.M) (oa : Option Addr) (ca : Nat) (ob : Option Addr) (cb : Nat) (w : World) (h : MapAt m oa ob w) :
    Calls Try.prog 15 #[mapVal m oa ca ob cb] w fun e w' => e = .returned (.tuple #[.string (Ti.str (Ti.ansT m)), .int .i64 (Ti.ansF m)]) ∧ Turned [] w w' := by
  obtain ⟨nw, hnw⟩ : ∃ n, n = m.ws.length := ⟨_, rfl⟩
  obtain ⟨ns, hns⟩ : ∃ n, n = m.sp.length := ⟨_, rfl⟩
  have HNW : Hid (nw = m.ws.length) := hnw
  have HNS : Hid (ns = m.sp.length) := hns
  have kf := fun (u : World) (hu : MapAt m oa ob u) => formed_any m oa ca ob cb u hu
  obtain ⟨W0, hW0⟩ : ∃ W0, W0 = w.alloc (.cells #[.int .i64 m.W, .int .i64 m.H, .slice oa nw ca, .slice ob ns cb] 26) := ⟨_, rfl⟩
  obtain ⟨B, hB⟩ : ∃ B, B = w.heap.size := ⟨_, rfl⟩
  have hT : Turned [] w W0 := by rw [hW0]; exact (Turned.refl [] w).alloc _
  have hS : Struct B [.int .i64 m.W, .int .i64 m.H, .slice oa nw ca, .slice ob ns cb] W0 := by rw [hW0, hB]; exact Struct.new w [.int .i64 m.W, .int .i64 m.H, .slice oa nw ca, .slice ob ns cb] _
  have hM := h.calm hT
  have s0 := (hS.2 0 _ rfl).1
  have s1 := (hS.2 1 _ rfl).1
  have s2 := (hS.2 2 _ rfl).1
  have s3 := (hS.2 3 _ rfl).1
  have kf := kf W0 hM
  unfold mapVal at kf ⊢
  rw [← hnw, ← hns] at kf ⊢
  by_cases hF : Ti.Formed m
  · have HA : Hid (Ti.ansT m = Ti.textOf m ∧ Ti.ansF m = 0) := ⟨Ti.ansT_pos hF, Ti.ansF_pos hF⟩
    have HF : Hid (Ti.Formed m) := hF
    rw [show Ti.formedB m = true from Ti.formedB_iff.2 hF] at kf
    obtain ⟨h1, h2, h3, h4, h5⟩ := hF.1
    obtain ⟨wn, hwn⟩ : ∃ n : Nat, m.W = (n : Int) := ⟨m.W.toNat, by omega⟩
    obtain ⟨hn, hhn⟩ : ∃ n : Nat, m.H = (n : Int) := ⟨m.H.toNat, by omega⟩
    have HWN : Hid (m.W.toNat = wn ∧ m.H.toNat = hn) := ⟨by omega, by omega⟩
    have hprod : hn * wn = nw := by
      have e : ((hn * wn : Nat) : Int) = (nw : Int) := by rw [Int.natCast_mul, ← hwn, ← hhn, hnw, h5, Int.mul_comm]
      omega
    have HPR : Hid (hn * wn = nw) := hprod
    have ks := fun (u : World) (hu : MapAt m oa ob u) => signs_any m oa ca ob cb u hu hF
    unfold mapVal at ks
    rw [← hnw, ← hns] at ks
    have hw1 : 1 ≤ wn ∧ wn ≤ 32 := by omega
    have hh1 : 1 ≤ hn ∧ hn ≤ 32 := by omega
    have hnwl : nw ≤ 1024 := by
      have : hn * wn ≤ 32 * 32 := Nat.mul_le_mul hh1.2 hw1.2
      omega
    rw [hwn, hhn] at kf ks hS hW0 ⊢
    rw [hwn] at s0
    rw [hhn] at s1
    clear h1 h2 h3 h4 h5 hwn hhn hnw hns hprod hF
    go_enter Try.func15, Try.ntmps15
    go_wp2_with fail
    rw [← hW0, ← hB]
    clear hW0 hB
    go_wp2_with (first | (go_at_call 17; (with_reducible refine kf.mono ?_); rintro e u1 ⟨rfl, hT1⟩; have hS1 := hS.keep hT1 (by simp); have d0 := (hS1.2 0 _ rfl).1; have d1 := (hS1.2 1 _ rfl).1; have d2 := (hS1.2 2 _ rfl).1; have d3 := (hS1.2 3 _ rfl).1) | (go_at_call 27; (with_reducible refine (ks _ (hM.calm hT1)).mono ?_); rintro e u2 ⟨v, rfl, hO, hT2, hN⟩))
    obtain ⟨g, cap, hv, _⟩ := hO.cell rnEnc_len (i := 0) (a := (Ti.marks m m.sp)[0]'(by rw [Ti.marks_len, ← HNW.out]; have := HPR.out; have : 1 * 1 ≤ hn * wn := Nat.mul_le_mul hh1.1 hw1.1; omega)) (List.getElem?_eq_getElem _)
    rw [show (Ti.marks m m.sp).length = nw by rw [Ti.marks_len, HNW.out]] at hv
    subst hv
    have hcap : nw ≤ cap ∧ cap ≤ maxLen := by
      obtain ⟨_, c', e1, e2, e3⟩ := hO.form
      have e4 := Value.slice.inj e1
      rw [Ti.marks_len, ← HNW.out] at e2
      omega
    have hS2 := (hS.keep hT1 (by simp)).keep hT2 (by simp)
    have hTT := hT.trans (hT1.trans hT2 (by simp)) (by simp)
    clear hS1 d0 d1 d2 d3 s0 s1 s2 s3 hT1 hT2 hT kf ks hM hN hS
    go_loopw [4, 5] (fun sv tv wr => ∃ y off p r c : Nat, y ≤ hn ∧ off = y * wn ∧ off + r = nw ∧ r ≤ c ∧ c ≤ maxLen ∧ (r ≠ 0 → p = off) ∧ sv = .string (Ti.str (Ti.tx m y 0)) ∧ tv = .slice (some ⟨g, p, none⟩) r c ∧ Turned [] u2 wr) (fun _ tv _ => lenV tv)
    case atStart => exact ⟨0, 0, 0, nw, cap, by omega, by omega, by omega, hcap.1, hcap.2, fun _ => rfl, by rw [Ti.tx_start]; rfl, rfl, Turned.refl _ _⟩
    case round =>
      obtain ⟨y, off, p, r, c, hy, hoff, hr, hrc, hcm, hp, rfl, rfl, hT3⟩ := hrel
      have d0 := ((hS2.keep hT3 (by simp)).2 0 _ rfl).1
      unfold maxLen at hcm
      by_cases hlt : y < hn
      · have hle : (y + 1) * wn ≤ hn * wn := Nat.mul_le_mul_right _ (by omega)
        rw [Nat.add_mul, Nat.one_mul, ← hoff, HPR.out] at hle
        have hwr : (wn : Int) ≤ (r : Int) := by omega
        obtain rfl : p = off := hp (by omega)
        have hr0 : decide (0 < r) = true := by simp; omega
        have kc := run_line HF.out (hO.keep hT3 (by simp)) HWN.out.1 (by rw [HWN.out.2]; exact hlt) c
        rw [← hoff] at kc
        have HC : Hid (Ti.str (Ti.tx m y 0) ++ (Ti.str (Ti.flat (Ti.lineOf m y)) ++ (⟨#[10]⟩ : ByteArray)) = Ti.str (Ti.tx m (y + 1) 0)) := by
          show _ = _
          rw [← Ti.tx_full (m := m) (y := y) (by rw [HWN.out.2]; exact hlt), ← Ti.str_add, ← Ti.str_add]
          rfl
        have hz1 : ((Ti.str (Ti.tx m y 0)).size : Int) ≤ 3264 := by rw [Ti.str_size]; have := Ti.tx_le (y := y) (x := 0) HF.out.1; omega
        have hz2 : ((Ti.str (Ti.flat (Ti.lineOf m y))).size : Int) ≤ 96 := by
          rw [Ti.str_size]
          have := Ti.flat_le (Ti.lineOf m y)
          rw [Ti.line_len, HWN.out.1] at this
          omega
        have HOFF : Hid (p + wn = (y + 1) * wn) := by show p + wn = (y + 1) * wn; rw [Nat.add_mul, Nat.one_mul, hoff]
        have HRR : Hid (p + r = nw ∧ r ≤ c ∧ c ≤ maxLen) := ⟨hr, hrc, by unfold maxLen; omega⟩
        clear hoff hle hp
        go_wp2_with fail
        have hrr := HRR.out
        refine ⟨?_, by show r - wn < r; omega⟩
        by_cases hcw : c = wn
        · rw [if_pos hcw]
          exact ⟨y + 1, p + wn, p, r - wn, c - wn, by omega, HOFF.out, by omega, by omega, by omega, fun h => by omega, by rw [HC.out], rfl, hT3⟩
        · rw [if_neg hcw]
          exact ⟨y + 1, p + wn, p + wn, r - wn, c - wn, by omega, HOFF.out, by omega, by omega, by omega, fun h => rfl, by rw [HC.out], rfl, hT3⟩
      · have hyh : y = hn := by omega
        have hr0 : r = 0 := by
          have := HPR.out
          rw [hyh] at hoff
          omega
        subst hr0
        rw [show Ti.tx m y 0 = Ti.textOf m from Ti.tx_end (by rw [HWN.out.2]; exact hyh)]
        clear hoff hp hr hyh
        go_wp2_with fail
        go_ret2
        rw [HA.out.1, HA.out.2]
        exact ⟨rfl, hTT.trans hT3 (by simp)⟩
  · have HA : Hid (Ti.ansT m = [] ∧ Ti.ansF m = 1) := ⟨Ti.ansT_neg hF, Ti.ansF_neg hF⟩
    rw [show Ti.formedB m = false from Ti.formedB_not hF] at kf
    clear hF hnw hns
    go_enter Try.func15, Try.ntmps15
    go_wp2_with fail
    rw [← hW0, ← hB]
    clear hW0 hB
    go_wp2_with (go_at_call 17; (with_reducible refine kf.mono ?_); rintro e u1 ⟨rfl, hT1⟩)
    go_ret2
    rw [HA.out.1, HA.out.2]
    exact ⟨rfl, hT.trans hT1 (by simp)⟩
end TiW
end Go.Proofs.Ytecjfenpdpdanaa

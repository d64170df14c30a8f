/- A map's text, and whether it can be read: the reference's (TiR). -/
import Derived.Test.YtbfffgnalopfbaaTilRead2
import Derived.Test.YtbfffgnalopfbaaTilPlain4
namespace Go.Proofs.Ytbfffgnalopfbaa
open Go.RowKit
set_option linter.unusedVariables false
set_option linter.unusedSimpArgs false

namespace TiR
theorem add_str (l : List UInt8) (k : List UInt8) : Ti.str l ++ (⟨k.toArray⟩ : ByteArray) = Ti.str (l ++ k) := Ti.str_add l k

set_option maxRecDepth 20000 in
set_option maxHeartbeats 8000000 in
theorem text_any (m : Ti.M) (oa : Option Addr) (ca : Nat) (ob : Option Addr) (cb : Nat) (w : World) (h : MapAt m oa ob w) :
    Calls Try.prog 73 #[mapVal m oa ca ob cb] w fun e w' => e = .returned (.tuple #[.string (Ti.str (Ti.ansT m)), .int .i64 (Ti.ansF m)]) ∧ Turned [] w w' := by
  have HT : ∀ o, Turned [] w (w.alloc o) := fun o => (Turned.refl [] w).alloc o
  have hlw := h.lw
  obtain ⟨nw, hnw⟩ : ∃ n, n = m.ws.length := ⟨_, rfl⟩
  obtain ⟨ns, hns⟩ : ∃ n, n = m.sp.length := ⟨_, rfl⟩
  have HNW : Hid (nw = m.ws.length) := hnw
  have HNS : Hid (ns = m.sp.length) := hns
  unfold mapVal
  rw [← hnw] at hlw ⊢
  rw [← hns]
  by_cases hD : Ti.Dims m
  · have hD' := hD
    obtain ⟨h1, h2, h3, h4, h5⟩ := hD
    obtain ⟨wn, hwn⟩ : ∃ n : Nat, m.W = (n : Int) := ⟨m.W.toNat, by omega⟩
    obtain ⟨hn, hhn⟩ : ∃ n : Nat, m.H = (n : Int) := ⟨m.H.toNat, by omega⟩
    have HWN : Hid (m.W.toNat = wn ∧ m.H.toNat = hn) := ⟨by omega, by omega⟩
    have HD : Hid (Ti.Dims m) := hD'
    have hp : (wn : Int) * (hn : Int) = (nw : Int) := by rw [← hwn, ← hhn, hnw]; exact h5.symm
    have hpp : ((nw : Int) != (nw : Int)) = false := by simp
    have i1 : ¬ (wn : Int) < 1 := by omega
    have i2 : ¬ 32 < (wn : Int) := by omega
    have i3 : ¬ (hn : Int) < 1 := by omega
    have i4 : ¬ 32 < (hn : Int) := by omega
    have i5 : (nw : Int) ≤ 1100 := by omega
    rw [hwn, hhn]
    have HW : Hid (m.W = (wn : Int) ∧ m.H = (hn : Int)) := ⟨hwn, hhn⟩
    clear hD' h1 h2 h3 h4 h5 hwn hhn hnw hns hlw
    go_enter Try.func73, Try.ntmps73
    go_wp2_with fail
    obtain ⟨W0, hW0⟩ : ∃ W0, W0 = w.alloc (.cells #[.int .i64 (wn : Int), .int .i64 (hn : Int), .slice oa nw ca, .slice ob ns cb] 35) := ⟨_, rfl⟩
    obtain ⟨B, hB⟩ : ∃ B, B = w.heap.size := ⟨_, rfl⟩
    have hS : Struct B [.int .i64 (wn : Int), .int .i64 (hn : Int), .slice oa nw ca, .slice ob ns cb] W0 := by rw [hW0, hB]; exact Struct.new w _ _
    have hT : Turned [] w W0 := by rw [hW0]; exact HT _
    rw [← hW0, ← hB]
    have hM := h.calm hT
    clear hW0 hB HT
    go_loopw [4, 5] (fun sv i wr => ∃ y : Nat, y ≤ hn ∧ i = .int .i64 (y : Int) ∧ sv = .string (Ti.str (Ti.tx m y 0)) ∧ Turned [] W0 wr) (fun _ i _ => hn - (intOf i).toNat)
    case atStart => exact ⟨0, by omega, rfl, by rw [Ti.tx_start]; rfl, Turned.refl _ _⟩
    case round =>
      obtain ⟨y, hy, rfl, rfl, hT1⟩ := hrel
      have hS1 := hS.keep hT1 (by simp)
      have d0 := (hS1.2 0 _ rfl).1
      have d1 := (hS1.2 1 _ rfl).1
      have d2 := (hS1.2 2 _ rfl).1
      have d3 := (hS1.2 3 _ rfl).1
      by_cases hlt : (y : Int) < (hn : Int)
      · go_wp2_with fail
        go_loopw [4, 6] (fun sv i wq => ∃ x : Nat, x ≤ wn ∧ i = .int .i64 (x : Int) ∧ sv = .string (Ti.str (Ti.tx m y x)) ∧ Turned [] W0 wq) (fun _ i _ => wn - (intOf i).toNat)
        case atStart => exact ⟨0, by omega, rfl, rfl, hT1⟩
        case round =>
          clear hT1 hS1 d0 d1 d2 d3
          obtain ⟨x, hx, rfl, rfl, hT2⟩ := hrel
          have hS2 := hS.keep hT2 (by simp)
          have d0 := (hS2.2 0 _ rfl).1
          have d1 := (hS2.2 1 _ rfl).1
          have d2 := (hS2.2 2 _ rfl).1
          have d3 := (hS2.2 3 _ rfl).1
          have hsz : ((Ti.str (Ti.tx m y x)).size : Int) ≤ 3264 := by rw [Ti.str_size]; have := Ti.tx_le (y := y) (x := x) HD.out; omega
          by_cases hlx : (x : Int) < (wn : Int)
          · obtain ⟨py, hpy⟩ : ∃ p, p = y * wn := ⟨_, rfl⟩
            have hp1 : (y : Int) * (wn : Int) = (py : Int) := by rw [hpy, Int.natCast_mul]
            have hwat := Ti.dims_ws HD.out (x := x) (y := y) (by have := HWN.out; omega) (by have := HWN.out; omega)
            rw [HWN.out.1, ← hpy] at hwat
            have hpx : (py : Int) + (x : Int) < (nw : Int) := by have := hwat.1; have := HNW.out; omega
            obtain ⟨g, off, rfl, hg, q0⟩ := wall_at (hM.ws.turned hT2 (by simp)) hwat.2
            clear hpy hwat
            cases hw : Ti.wall m x y with
            | true =>
              rw [hw] at q0
              have HC : Hid (Ti.str (Ti.tx m y x) ++ (⟨#[226, 150, 136]⟩ : ByteArray) = Ti.str (Ti.tx m y (x + 1))) := by
                show _ = _
                rw [Ti.tx_sign (by have := HWN.out; omega), Ti.code_wall hw]; exact add_str _ [226, 150, 136]
              clear hw
              go_wp2_with fail
              go_roundw
              case rel => exact ⟨x + 1, by omega, by go_num, by rw [HC.out], hT2⟩
              case measure => simp [intOf]; omega
            | false =>
              rw [hw] at q0
              have ne : Nonempty (KeptW wr) := KeptW.one wr
              have km := fun (z : KeptW wr) => kept_call ((middle_any x y (by omega) (by omega) z.u).mono fun e w' ⟨he, ht⟩ => ⟨he, ht.none⟩)
              have ks := fun (z : KeptW wr) => spawns_any m (some ⟨g, off, none⟩) ca ob cb (Ti.mid x y) z.u ((hM.calm hT2).calm (Turned.ofBelow z.h))
              unfold mapVal at ks
              rw [HW.out.1, HW.out.2, ← HNW.out, ← HNS.out] at ks
              have k0 := KeptW.at hS2.1 d0
              have k1 := KeptW.at hS2.1 d1
              have k2 := KeptW.at hS2.1 d2
              have k3 := KeptW.at hS2.1 d3
              by_cases hin : Ti.mid x y ∈ m.sp
              · have HC : Hid (Ti.str (Ti.tx m y x) ++ (⟨#[226, 151, 142]⟩ : ByteArray) = Ti.str (Ti.tx m y (x + 1))) := by
                  show _ = _
                  rw [Ti.tx_sign (by have := HWN.out; omega), Ti.code_in hw hin]; exact add_str _ [226, 151, 142]
                have ks' := fun (z : KeptW wr) => kept_call ((ks z).mono fun e w' ⟨he, ht⟩ => ⟨he, ht.none⟩)
                rw [show decide (Ti.mid x y ∈ m.sp) = true by simpa using hin] at ks'
                clear hw hin ks
                go_wp2_with fail
                refine wp_region_kept (by kernel_rfl) (by kernel_rfl) ?_
                repeat (go_big_quiet_step (first | (go_at_call 81; with_reducible exact km _) | (go_at_call 80; with_reducible exact ks' _)))
                refine wpQuiet_nil ?_
                rintro _ ⟨z, rfl⟩
                go_wp2_with fail
                go_roundw
                case rel => exact ⟨x + 1, by omega, by go_num, by rw [HC.out], hT2.trans (Turned.ofBelow z.h) (by simp)⟩
                case measure => simp [intOf]; omega
              · have HC : Hid (Ti.str (Ti.tx m y x) ++ (⟨#[194, 183]⟩ : ByteArray) = Ti.str (Ti.tx m y (x + 1))) := by
                  show _ = _
                  rw [Ti.tx_sign (by have := HWN.out; omega), Ti.code_floor hw hin]; exact add_str _ [194, 183]
                have ks' := fun (z : KeptW wr) => kept_call ((ks z).mono fun e w' ⟨he, ht⟩ => ⟨he, ht.none⟩)
                rw [show decide (Ti.mid x y ∈ m.sp) = false by simpa using hin] at ks'
                clear hw hin ks
                go_wp2_with fail
                refine wp_region_kept (by kernel_rfl) (by kernel_rfl) ?_
                repeat (go_big_quiet_step (first | (go_at_call 81; with_reducible exact km _) | (go_at_call 80; with_reducible exact ks' _)))
                refine wpQuiet_nil ?_
                rintro _ ⟨z, rfl⟩
                go_wp2_with fail
                go_roundw
                case rel => exact ⟨x + 1, by omega, by go_num, by rw [HC.out], hT2.trans (Turned.ofBelow z.h) (by simp)⟩
                case measure => simp [intOf]; omega
          · have hxw : x = wn := by omega
            have HC : Hid (Ti.str (Ti.tx m y x) ++ (⟨#[10]⟩ : ByteArray) = Ti.str (Ti.tx m (y + 1) 0)) := by
              show _ = _
              rw [Ti.tx_line (x := x) (by have := HWN.out; omega) (by have := HWN.out; omega)]; exact add_str _ [10]
            clear hxw
            go_wp2_with fail
            go_roundw
            case rel => exact ⟨y + 1, by omega, by go_num, by rw [HC.out], hT2⟩
            case measure => simp [intOf]; omega
      · have hyh : y = hn := by omega
        have htx : Ti.tx m y 0 = Ti.textOf m := Ti.tx_end (by have := HWN.out; omega)
        have hlen : ((Ti.str (Ti.textOf m)).size : Int) ≤ 1000000 := by rw [Ti.str_size, ← htx]; have := Ti.tx_le (y := y) (x := 0) HD.out; omega
        rw [htx]
        have kr := read_any (Ti.str (Ti.textOf m)) hlen wr
        unfold Answers at kr
        rw [Ti.str_list] at kr
        clear htx hlen hyh
        have hM1 := hM.calm hT1
        rcases Ti.dims_read HD.out with ⟨hsp, st, hrd, hmo⟩ | ⟨hsp, hrd⟩
        · have hans : Ti.ansM (Ti.read (Ti.textOf m)) = ⟨m.W, m.H, m.ws, Ti.spA 0 (Ti.linesOf m)⟩ ∧ Ti.ansN (Ti.read (Ti.textOf m)) = 0 ∧ Ti.ansE (Ti.read (Ti.textOf m)) = 0 := by
            rw [hrd]; exact ⟨hmo, rfl, rfl⟩
          rw [hans.1, hans.2.1, hans.2.2] at kr
          unfold mapVal at kr
          obtain ⟨nq, hnq⟩ : ∃ n, n = (Ti.spA 0 (Ti.linesOf m)).length := ⟨_, rfl⟩
          have HNQ : Hid (nq = (Ti.spA 0 (Ti.linesOf m)).length) := hnq
          simp only at kr
          rw [← hnq, ← HNW.out, HW.out.1, HW.out.2, show ((0 : Nat) : Int) = 0 from rfl] at kr
          clear hnq hans hrd hmo
          have hsame : ∀ (pa pb : Option Addr) (da db : Nat) (u : World), MapAt ⟨m.W, m.H, m.ws, Ti.spA 0 (Ti.linesOf m)⟩ pa pb u → MapAt m oa ob u → Calls Try.prog 83 #[.agg #[.int .i64 (wn : Int), .int .i64 (hn : Int), .slice pa nw da, .slice pb nq db], .agg #[.int .i64 (wn : Int), .int .i64 (hn : Int), .slice oa nw ca, .slice ob ns cb]] u fun e w' => e = .returned (.bool (sameB ⟨m.W, m.H, m.ws, Ti.spA 0 (Ti.linesOf m)⟩ m)) ∧ Turned [] u w' := by
            intro pa pb da db u k1 k2
            have := same_any ⟨m.W, m.H, m.ws, Ti.spA 0 (Ti.linesOf m)⟩ m pa pb oa ob da db ca cb u k1 k2
            unfold mapVal at this
            simp only at this
            rw [← HNQ.out, ← HNW.out, ← HNS.out, HW.out.1, HW.out.2] at this
            rw [HW.out.1, HW.out.2]
            exact this
          rw [show (⟨(wn : Int), (hn : Int), m.ws, Ti.spA 0 (Ti.linesOf m)⟩ : Ti.M) = ⟨m.W, m.H, m.ws, Ti.spA 0 (Ti.linesOf m)⟩ by rw [HW.out.1, HW.out.2]] at kr
          by_cases hq : Ti.spA 0 (Ti.linesOf m) = m.sp
          · have hF : Ti.Formed m := ⟨HD.out, by rw [← hq]; exact hsp, hq⟩
            have HA : Hid (Ti.ansT m = Ti.textOf m ∧ Ti.ansF m = 0) := ⟨Ti.ansT_pos hF, Ti.ansF_pos hF⟩
            rw [show sameB ⟨m.W, m.H, m.ws, Ti.spA 0 (Ti.linesOf m)⟩ m = true from sameB_iff.2 (by rw [hq])] at hsame
            clear hq hF hsp
            go_wp2_with (first | (go_at_call 82; (with_reducible refine kr.mono ?_); rintro e u3 ⟨pa, da, pb, db, rfl, hMA, _, _, hT3⟩; have hT3' := hT1.trans hT3 (by simp); have hS3 := hS.keep hT3' (by simp); have d0 := fun o => ((hS3.keep ((Turned.refl [] u3).alloc o) (by simp)).2 0 _ rfl).1; have d1 := fun o => ((hS3.keep ((Turned.refl [] u3).alloc o) (by simp)).2 1 _ rfl).1; have d2 := fun o => ((hS3.keep ((Turned.refl [] u3).alloc o) (by simp)).2 2 _ rfl).1; have d3 := fun o => ((hS3.keep ((Turned.refl [] u3).alloc o) (by simp)).2 3 _ rfl).1; have hMB := hM1.calm hT3) | (go_at_call 83; (with_reducible refine (hsame pa pb da db _ (hMA.calm ((Turned.refl [] u3).alloc _)) (hMB.calm ((Turned.refl [] u3).alloc _))).mono ?_); rintro e u4 ⟨rfl, hT4⟩))
            go_ret2
            rw [HA.out.1, HA.out.2]
            exact ⟨rfl, ((hT.trans hT3' (by simp)).alloc _).trans hT4 (by simp)⟩
          · have hF : ¬ Ti.Formed m := fun hf => hq hf.2.2
            have HA : Hid (Ti.ansT m = [] ∧ Ti.ansF m = 1) := ⟨Ti.ansT_neg hF, Ti.ansF_neg hF⟩
            rw [show sameB ⟨m.W, m.H, m.ws, Ti.spA 0 (Ti.linesOf m)⟩ m = false from sameB_not (fun e => hq (congrArg Ti.M.sp e))] at hsame
            clear hq hF hsp
            go_wp2_with (first | (go_at_call 82; (with_reducible refine kr.mono ?_); rintro e u3 ⟨pa, da, pb, db, rfl, hMA, _, _, hT3⟩; have hT3' := hT1.trans hT3 (by simp); have hS3 := hS.keep hT3' (by simp); have d0 := fun o => ((hS3.keep ((Turned.refl [] u3).alloc o) (by simp)).2 0 _ rfl).1; have d1 := fun o => ((hS3.keep ((Turned.refl [] u3).alloc o) (by simp)).2 1 _ rfl).1; have d2 := fun o => ((hS3.keep ((Turned.refl [] u3).alloc o) (by simp)).2 2 _ rfl).1; have d3 := fun o => ((hS3.keep ((Turned.refl [] u3).alloc o) (by simp)).2 3 _ rfl).1; have hMB := hM1.calm hT3) | (go_at_call 83; (with_reducible refine (hsame pa pb da db _ (hMA.calm ((Turned.refl [] u3).alloc _)) (hMB.calm ((Turned.refl [] u3).alloc _))).mono ?_); rintro e u4 ⟨rfl, hT4⟩))
            go_ret2
            rw [HA.out.1, HA.out.2]
            exact ⟨rfl, ((hT.trans hT3' (by simp)).alloc _).trans hT4 (by simp)⟩
        · have hF : ¬ Ti.Formed m := fun hf => hf.2.1 (by rw [← hf.2.2]; exact hsp)
          have HA : Hid (Ti.ansT m = [] ∧ Ti.ansF m = 1) := ⟨Ti.ansT_neg hF, Ti.ansF_neg hF⟩
          have hans : Ti.ansM (Ti.read (Ti.textOf m)) = Ti.zeroM ∧ Ti.ansE (Ti.read (Ti.textOf m)) = 2 := by unfold Ti.ansM Ti.ansE; rw [hrd]; exact ⟨rfl, rfl⟩
          rw [hans.1, hans.2] at kr
          unfold mapVal Ti.zeroM at kr
          simp only [List.length_nil] at kr
          clear hF hans hrd hsp
          go_wp2_with (go_at_call 82; (with_reducible refine kr.mono ?_); rintro e u3 ⟨pa, da, pb, db, rfl, _, _, _, hT3⟩; have hT3' := hT1.trans hT3 (by simp))
          go_ret2
          rw [HA.out.1, HA.out.2]
          exact ⟨rfl, (hT.trans hT3' (by simp)).alloc _⟩
  · have HA : Hid (Ti.ansT m = [] ∧ Ti.ansF m = 1) := by
      have : ¬ Ti.Formed m := fun hf => hD hf.1
      exact ⟨Ti.ansT_neg this, Ti.ansF_neg this⟩
    have hcase : m.W < 1 ∨ (¬ m.W < 1 ∧ 32 < m.W) ∨ (¬ m.W < 1 ∧ ¬ 32 < m.W ∧ m.H < 1) ∨ (¬ m.W < 1 ∧ ¬ 32 < m.W ∧ ¬ m.H < 1 ∧ 32 < m.H) ∨ (¬ m.W < 1 ∧ ¬ 32 < m.W ∧ ¬ m.H < 1 ∧ ¬ 32 < m.H ∧ ¬ (nw : Int) = m.W * m.H) := by
      by_cases a1 : m.W < 1
      · exact .inl a1
      · by_cases a2 : 32 < m.W
        · exact .inr (.inl ⟨a1, a2⟩)
        · by_cases a3 : m.H < 1
          · exact .inr (.inr (.inl ⟨a1, a2, a3⟩))
          · by_cases a4 : 32 < m.H
            · exact .inr (.inr (.inr (.inl ⟨a1, a2, a3, a4⟩)))
            · refine .inr (.inr (.inr (.inr ⟨a1, a2, a3, a4, fun e => hD ⟨by omega, by omega, by omega, by omega, ?_⟩⟩)))
              rw [← hnw]; exact e
    clear hD hnw hns
    have fin : ∀ u, Turned [] w u → (Ending.returned (.tuple #[.string ⟨#[]⟩, .int .i64 1]) = .returned (.tuple #[.string (Ti.str (Ti.ansT m)), .int .i64 (Ti.ansF m)]) ∧ Turned [] w u) := by
      intro u hu
      rw [HA.out.1, HA.out.2]
      exact ⟨rfl, hu⟩
    rcases hcase with a1 | ⟨a1, a2⟩ | ⟨a1, a2, a3⟩ | ⟨a1, a2, a3, a4⟩ | ⟨a1, a2, a3, a4, a5⟩
    · go_enter Try.func73, Try.ntmps73
      go_wp2_with fail
      go_ret2
      exact fin _ (HT _)
    · go_enter Try.func73, Try.ntmps73
      go_wp2_with fail
      go_ret2
      exact fin _ (HT _)
    · go_enter Try.func73, Try.ntmps73
      go_wp2_with fail
      go_ret2
      exact fin _ (HT _)
    · go_enter Try.func73, Try.ntmps73
      go_wp2_with fail
      go_ret2
      exact fin _ (HT _)
    · have p1 : 1 ≤ m.W * m.H := by
        have := Int.mul_le_mul (show (1 : Int) ≤ m.W by omega) (show (1 : Int) ≤ m.H by omega) (by omega) (by omega)
        simpa using this
      have p2 : m.W * m.H ≤ 1024 := by
        have := Int.mul_le_mul (show m.W ≤ 32 by omega) (show m.H ≤ 32 by omega) (by omega) (by omega)
        simpa using this
      have a6 : ((nw : Int) != m.W * m.H) = true := by rw [bne_iff_ne]; exact a5
      go_enter Try.func73, Try.ntmps73
      go_wp2_with fail
      go_ret2
      exact fin _ (HT _)
end TiR
end Go.Proofs.Ytbfffgnalopfbaa

/- What is read from a text of up to 5000 bytes is that text's map, and what is read from the text of a map of up to 1100 tiles is that map. -/
import Derived.Test.YtecjfenpdpdanaaRows
import Derived.Test.YtecjfenpdpdanaaTilLaw2
import Derived.Test.YtecjfenpdpdanaaFlat
import Derived.WalkKit
import Derived.ProofKit
import Derived.OpenShut
import Derived.ChangeOld
import Derived.Below
import Derived.WalkSmall
import Derived.Lib.SmallJoins
import Derived.Laws.IdiomArrays
namespace Go.Proofs.Ytecjfenpdpdanaa.tilesBack
open Go.ChangeShapes Go.WideShapes Go.ChangeAt Go.RowKit
set_option linter.unusedVariables false

theorem own : ownKnob Try.prog.godebug = none := by kernel_rfl
theorem laidOut : laidOutB Try.prog = true := by kernel_rfl

set_option maxRecDepth 20000 in
set_option maxHeartbeats 8000000 in
theorem walk (a0 : ByteArray) (a1_m : Ti.M) (a1_oa : Option Addr) (a1_ca : Nat) (a1_ob : Option Addr) (a1_cb : Nat) (w0 : a0.size ≤ maxLen) (w : World) (w1 : MapIn a1_m a1_oa a1_ca a1_ob a1_cb w) :
    Calls Try.prog 6 #[.string a0, mapVal a1_m a1_oa a1_ca a1_ob a1_cb] w fun e w' => e = .returned (.bool true) ∧ Below w.heap.size w w' := by
  have kA := TiL.awake_any
  obtain ⟨nw, hnw⟩ : ∃ n, n = a1_m.ws.length := ⟨_, rfl⟩
  obtain ⟨ns, hns⟩ : ∃ n, n = a1_m.sp.length := ⟨_, rfl⟩
  have kf := fun u => TiL.few_any a1_m a1_oa a1_ca a1_ob a1_cb u
  unfold mapVal at kf ⊢
  rw [← hnw, ← hns] at kf ⊢
  unfold maxLen at w0
  obtain ⟨W0, hW0⟩ : ∃ W0, W0 = w.alloc (.cells #[.int .i64 a1_m.W, .int .i64 a1_m.H, .slice a1_oa nw a1_ca, .slice a1_ob ns a1_cb] 26) := ⟨_, rfl⟩
  obtain ⟨B, hB⟩ : ∃ b, b = w.heap.size := ⟨_, rfl⟩
  have hT : Turned [] w W0 := by rw [hW0]; exact (Turned.refl [] w).alloc _
  have hS : Struct B [.int .i64 a1_m.W, .int .i64 a1_m.H, .slice a1_oa nw a1_ca, .slice a1_ob ns a1_cb] W0 := by
    have h0 := Struct.new w [.int .i64 a1_m.W, .int .i64 a1_m.H, .slice a1_oa nw a1_ca, .slice a1_ob ns a1_cb] 26
    rw [← hB] at h0
    rw [hW0]; exact h0
  have HT0 : Turned [] W0 W0 := Turned.refl _ _
  by_cases hsz : (a0.size : Int) ≤ 5000
  · by_cases hfew : nw ≤ 1100 ∧ ns ≤ 1100
    · have hM := (w1.at (by rw [← hnw]; exact hfew.1) (by rw [← hns]; exact hfew.2)).calm hT
      have hq : (decide (nw ≤ 1100) && decide (ns ≤ 1100)) = true := by simpa using hfew
      rw [hq] at kf
      have kr1 := fun u => TiW.read_any a0 (by omega) u
      unfold TiR.Answers at kr1
      have km := fun (u : World) (h : MapAt a1_m a1_oa a1_ob u) => TiW.text_any a1_m a1_oa a1_ca a1_ob a1_cb u h
      have kfm := fun (u : World) (h : MapAt a1_m a1_oa a1_ob u) => TiW.formed_any a1_m a1_oa a1_ca a1_ob a1_cb u h
      unfold mapVal at km kfm
      rw [← hnw, ← hns] at km kfm
      cases hrd : (Ti.read a0.data.toList).1 with
      | none =>
        obtain ⟨x, hx⟩ : ∃ m, m = Ti.ansM (Ti.read a0.data.toList) := ⟨_, rfl⟩
        obtain ⟨n, hn⟩ : ∃ n, n = Ti.ansN (Ti.read a0.data.toList) := ⟨_, rfl⟩
        have hE : Ti.ansE (Ti.read a0.data.toList) = 2 := by unfold Ti.ansE; rw [hrd]
        rw [← hx, ← hn, hE] at kr1
        obtain ⟨xw, hxw⟩ : ∃ n, n = x.ws.length := ⟨_, rfl⟩
        obtain ⟨xs, hxs⟩ : ∃ n, n = x.sp.length := ⟨_, rfl⟩
        unfold mapVal at kr1
        rw [← hxw, ← hxs] at kr1
        clear hx hn hE hxw hxs hrd
        by_cases hF : Ti.Formed a1_m
        · obtain ⟨st2, hr2, hm2⟩ := Ti.formed_read hF
          have hA : Ti.ansT a1_m = Ti.textOf a1_m ∧ Ti.ansF a1_m = 0 := ⟨Ti.ansT_pos hF, Ti.ansF_pos hF⟩
          rw [hA.1, hA.2] at km
          obtain ⟨S, hS0⟩ : ∃ S, S = Ti.str (Ti.textOf a1_m) := ⟨_, rfl⟩
          have hSl : S.data.toList = Ti.textOf a1_m := by rw [hS0]; exact Ti.str_list _
          have hSz : (S.size : Int) ≤ 3264 := by
            rw [hS0, Ti.str_size, ← Ti.tx_end (m := a1_m) (y := a1_m.H.toNat) rfl]
            have := Ti.tx_le (y := a1_m.H.toNat) (x := 0) hF.1
            omega
          have krt := fun u => TiW.read_any S (by omega) u
          unfold TiR.Answers at krt
          rw [hSl, hr2] at krt
          rw [show Ti.ansM (some st2, 0) = a1_m from hm2, show Ti.ansN (some st2, 0) = 0 from rfl, show Ti.ansE (some st2, 0) = 0 from rfl] at krt
          have ks := fun (pa pb : Option Addr) (da db : Nat) (u : World) (h1 : MapAt a1_m pa pb u) (h2 : MapAt a1_m a1_oa a1_ob u) => TiR.same_any a1_m a1_m pa pb a1_oa a1_ob da db a1_ca a1_cb u h1 h2
          rw [show TiR.sameB a1_m a1_m = true from TiR.sameB_iff.2 rfl] at ks
          unfold mapVal at krt ks
          rw [← hnw, ← hns] at krt ks
          rw [← hS0] at km
          clear hfew hq hnw hns hA hr2 hm2 hSl hF hS0 kfm
          go_enter Try.func6, Try.ntmps6
          go_wp2_with fail
          rw [← hW0, ← hB]
          clear hW0 hB
          go_wp2_with (first | (go_at_call 10; (with_reducible refine (kA _).mono ?_); rintro e u0 ⟨rfl, HT1⟩; have HT0 := HT0.trans HT1 (by simp); have hSn := hS.keep HT0 (by simp); have d0 := (hSn.2 0 _ rfl).1; have d1 := (hSn.2 1 _ rfl).1; have d2 := (hSn.2 2 _ rfl).1; have d3 := (hSn.2 3 _ rfl).1) | (go_at_call 14; (with_reducible refine (kf _).mono ?_); rintro e u0 ⟨rfl, HT1⟩; have HT0 := HT0.trans HT1 (by simp); have hSn := hS.keep HT0 (by simp); have d0 := (hSn.2 0 _ rfl).1; have d1 := (hSn.2 1 _ rfl).1; have d2 := (hSn.2 2 _ rfl).1; have d3 := (hSn.2 3 _ rfl).1) | (go_at_call_of 11 (Value.string a0); (with_reducible refine (kr1 _).mono ?_); rintro e u1 ⟨oa, ca, ob, cb, rfl, hX1, _, _, HT2⟩; have HT0 := (HT0.trans HT2 (by simp)).alloc (.cells #[.int .i64 x.W, .int .i64 x.H, .slice oa xw ca, .slice ob xs cb] 26); have hSn := hS.keep HT0 (by simp); have d0 := (hSn.2 0 _ rfl).1; have d1 := (hSn.2 1 _ rfl).1; have d2 := (hSn.2 2 _ rfl).1; have d3 := (hSn.2 3 _ rfl).1; have hX := Struct.new u1 [.int .i64 x.W, .int .i64 x.H, .slice oa xw ca, .slice ob xs cb] 26; have HX0 := Turned.refl [] (u1.alloc (.cells #[.int .i64 x.W, .int .i64 x.H, .slice oa xw ca, .slice ob xs cb] 26)); have hMX := hX1.calm ((Turned.refl [] u1).alloc (.cells #[.int .i64 x.W, .int .i64 x.H, .slice oa xw ca, .slice ob xs cb] 26))) | (go_at_call 15; (with_reducible refine (km _ (hM.calm HT0)).mono ?_); rintro e u4 ⟨rfl, HT5⟩; have HT0 := HT0.trans HT5 (by simp); have hSn := hS.keep HT0 (by simp); have d0 := (hSn.2 0 _ rfl).1; have d1 := (hSn.2 1 _ rfl).1; have d2 := (hSn.2 2 _ rfl).1; have d3 := (hSn.2 3 _ rfl).1) | (go_at_call 11; (with_reducible refine (krt _).mono ?_); rintro e u5 ⟨pa, da, pb, db, rfl, hY, _, _, HT6⟩; have HT0 := (HT0.trans HT6 (by simp)).alloc (.cells #[.int .i64 a1_m.W, .int .i64 a1_m.H, .slice pa nw da, .slice pb ns db] 26); have hSn := hS.keep HT0 (by simp); have d0 := (hSn.2 0 _ rfl).1; have d1 := (hSn.2 1 _ rfl).1; have d2 := (hSn.2 2 _ rfl).1; have d3 := (hSn.2 3 _ rfl).1; have hY2 := hY.calm ((Turned.refl [] u5).alloc (.cells #[.int .i64 a1_m.W, .int .i64 a1_m.H, .slice pa nw da, .slice pb ns db] 26))) | (go_at_call 13; (with_reducible refine (ks pa pb da db _ hY2 (hM.calm HT0)).mono ?_); rintro e u6 ⟨rfl, HT7⟩; have HT0 := HT0.trans HT7 (by simp)))
          go_ret
          exact ⟨rfl, (hT.trans HT0 (by simp)).none⟩
        · have hA : Ti.ansT a1_m = [] ∧ Ti.ansF a1_m = 1 := ⟨Ti.ansT_neg hF, Ti.ansF_neg hF⟩
          rw [hA.1, hA.2, show Ti.str [] = ⟨#[]⟩ from rfl] at km
          rw [show Ti.formedB a1_m = false from Ti.formedB_not hF] at kfm
          clear hfew hq hnw hns hA hF
          go_enter Try.func6, Try.ntmps6
          go_wp2_with fail
          rw [← hW0, ← hB]
          clear hW0 hB
          go_wp2_with (first | (go_at_call 10; (with_reducible refine (kA _).mono ?_); rintro e u0 ⟨rfl, HT1⟩; have HT0 := HT0.trans HT1 (by simp); have hSn := hS.keep HT0 (by simp); have d0 := (hSn.2 0 _ rfl).1; have d1 := (hSn.2 1 _ rfl).1; have d2 := (hSn.2 2 _ rfl).1; have d3 := (hSn.2 3 _ rfl).1) | (go_at_call 14; (with_reducible refine (kf _).mono ?_); rintro e u0 ⟨rfl, HT1⟩; have HT0 := HT0.trans HT1 (by simp); have hSn := hS.keep HT0 (by simp); have d0 := (hSn.2 0 _ rfl).1; have d1 := (hSn.2 1 _ rfl).1; have d2 := (hSn.2 2 _ rfl).1; have d3 := (hSn.2 3 _ rfl).1) | (go_at_call_of 11 (Value.string a0); (with_reducible refine (kr1 _).mono ?_); rintro e u1 ⟨oa, ca, ob, cb, rfl, hX1, _, _, HT2⟩; have HT0 := (HT0.trans HT2 (by simp)).alloc (.cells #[.int .i64 x.W, .int .i64 x.H, .slice oa xw ca, .slice ob xs cb] 26); have hSn := hS.keep HT0 (by simp); have d0 := (hSn.2 0 _ rfl).1; have d1 := (hSn.2 1 _ rfl).1; have d2 := (hSn.2 2 _ rfl).1; have d3 := (hSn.2 3 _ rfl).1; have hX := Struct.new u1 [.int .i64 x.W, .int .i64 x.H, .slice oa xw ca, .slice ob xs cb] 26; have HX0 := Turned.refl [] (u1.alloc (.cells #[.int .i64 x.W, .int .i64 x.H, .slice oa xw ca, .slice ob xs cb] 26)); have hMX := hX1.calm ((Turned.refl [] u1).alloc (.cells #[.int .i64 x.W, .int .i64 x.H, .slice oa xw ca, .slice ob xs cb] 26))) | (go_at_call 15; (with_reducible refine (km _ (hM.calm HT0)).mono ?_); rintro e u4 ⟨rfl, HT5⟩; have HT0 := HT0.trans HT5 (by simp); have hSn := hS.keep HT0 (by simp); have d0 := (hSn.2 0 _ rfl).1; have d1 := (hSn.2 1 _ rfl).1; have d2 := (hSn.2 2 _ rfl).1; have d3 := (hSn.2 3 _ rfl).1) | (go_at_call 17; (with_reducible refine (kfm _ (hM.calm HT0)).mono ?_); rintro e u3 ⟨rfl, HT4⟩; have HT0 := HT0.trans HT4 (by simp); have hSn := hS.keep HT0 (by simp); have d0 := (hSn.2 0 _ rfl).1; have d1 := (hSn.2 1 _ rfl).1; have d2 := (hSn.2 2 _ rfl).1; have d3 := (hSn.2 3 _ rfl).1))
          go_ret
          exact ⟨rfl, (hT.trans HT0 (by simp)).none⟩
      | some st =>
        have hread : Ti.read a0.data.toList = (some st, (Ti.read a0.data.toList).2) := by rw [← hrd]
        obtain ⟨hXF, hXt, _⟩ := Ti.read_formed hread
        obtain ⟨x, hx⟩ : ∃ m, m = Ti.ansM (Ti.read a0.data.toList) := ⟨_, rfl⟩
        have hxm : x = Ti.mOf st := by rw [hx]; unfold Ti.ansM; rw [hrd]
        obtain ⟨n, hn⟩ : ∃ n, n = Ti.ansN (Ti.read a0.data.toList) := ⟨_, rfl⟩
        have hE : Ti.ansE (Ti.read a0.data.toList) = 0 := by unfold Ti.ansE; rw [hrd]
        rw [← hx, ← hn, hE] at kr1
        rw [← hxm] at hXF hXt
        have hX1 : Ti.str (Ti.ansT x) = a0 ∧ Ti.ansF x = 0 := by
          refine ⟨?_, Ti.ansF_pos hXF⟩
          rw [Ti.ansT_pos hXF, ← hXt]
          rfl
        have kx := fun (oa : Option Addr) (ca : Nat) (ob : Option Addr) (cb : Nat) (u : World) (h : MapAt x oa ob u) => TiW.text_any x oa ca ob cb u h
        have kfx := fun (oa : Option Addr) (ca : Nat) (ob : Option Addr) (cb : Nat) (u : World) (h : MapAt x oa ob u) => TiW.formed_any x oa ca ob cb u h
        rw [hX1.1, hX1.2] at kx
        rw [show Ti.formedB x = true from Ti.formedB_iff.2 hXF] at kfx
        obtain ⟨xw, hxw⟩ : ∃ n, n = x.ws.length := ⟨_, rfl⟩
        obtain ⟨xs, hxs⟩ : ∃ n, n = x.sp.length := ⟨_, rfl⟩
        unfold mapVal at kr1 kx kfx
        rw [← hxw, ← hxs] at kr1 kx kfx
        clear hx hn hE hxw hxs hrd hread hXF hXt hxm hX1
        by_cases hF : Ti.Formed a1_m
        · obtain ⟨st2, hr2, hm2⟩ := Ti.formed_read hF
          have hA : Ti.ansT a1_m = Ti.textOf a1_m ∧ Ti.ansF a1_m = 0 := ⟨Ti.ansT_pos hF, Ti.ansF_pos hF⟩
          rw [hA.1, hA.2] at km
          obtain ⟨S, hS0⟩ : ∃ S, S = Ti.str (Ti.textOf a1_m) := ⟨_, rfl⟩
          have hSl : S.data.toList = Ti.textOf a1_m := by rw [hS0]; exact Ti.str_list _
          have hSz : (S.size : Int) ≤ 3264 := by
            rw [hS0, Ti.str_size, ← Ti.tx_end (m := a1_m) (y := a1_m.H.toNat) rfl]
            have := Ti.tx_le (y := a1_m.H.toNat) (x := 0) hF.1
            omega
          have krt := fun u => TiW.read_any S (by omega) u
          unfold TiR.Answers at krt
          rw [hSl, hr2] at krt
          rw [show Ti.ansM (some st2, 0) = a1_m from hm2, show Ti.ansN (some st2, 0) = 0 from rfl, show Ti.ansE (some st2, 0) = 0 from rfl] at krt
          have ks := fun (pa pb : Option Addr) (da db : Nat) (u : World) (h1 : MapAt a1_m pa pb u) (h2 : MapAt a1_m a1_oa a1_ob u) => TiR.same_any a1_m a1_m pa pb a1_oa a1_ob da db a1_ca a1_cb u h1 h2
          rw [show TiR.sameB a1_m a1_m = true from TiR.sameB_iff.2 rfl] at ks
          unfold mapVal at krt ks
          rw [← hnw, ← hns] at krt ks
          rw [← hS0] at km
          clear hfew hq hnw hns hA hr2 hm2 hSl hF hS0 kfm
          go_enter Try.func6, Try.ntmps6
          go_wp2_with fail
          rw [← hW0, ← hB]
          clear hW0 hB
          go_wp2_with (first | (go_at_call 10; (with_reducible refine (kA _).mono ?_); rintro e u0 ⟨rfl, HT1⟩; have HT0 := HT0.trans HT1 (by simp); have hSn := hS.keep HT0 (by simp); have d0 := (hSn.2 0 _ rfl).1; have d1 := (hSn.2 1 _ rfl).1; have d2 := (hSn.2 2 _ rfl).1; have d3 := (hSn.2 3 _ rfl).1) | (go_at_call 14; (with_reducible refine (kf _).mono ?_); rintro e u0 ⟨rfl, HT1⟩; have HT0 := HT0.trans HT1 (by simp); have hSn := hS.keep HT0 (by simp); have d0 := (hSn.2 0 _ rfl).1; have d1 := (hSn.2 1 _ rfl).1; have d2 := (hSn.2 2 _ rfl).1; have d3 := (hSn.2 3 _ rfl).1) | (go_at_call_of 11 (Value.string a0); (with_reducible refine (kr1 _).mono ?_); rintro e u1 ⟨oa, ca, ob, cb, rfl, hX1, _, _, HT2⟩; have HT0 := (HT0.trans HT2 (by simp)).alloc (.cells #[.int .i64 x.W, .int .i64 x.H, .slice oa xw ca, .slice ob xs cb] 26); have hSn := hS.keep HT0 (by simp); have d0 := (hSn.2 0 _ rfl).1; have d1 := (hSn.2 1 _ rfl).1; have d2 := (hSn.2 2 _ rfl).1; have d3 := (hSn.2 3 _ rfl).1; have hX := Struct.new u1 [.int .i64 x.W, .int .i64 x.H, .slice oa xw ca, .slice ob xs cb] 26; have HX0 := Turned.refl [] (u1.alloc (.cells #[.int .i64 x.W, .int .i64 x.H, .slice oa xw ca, .slice ob xs cb] 26)); have hMX := hX1.calm ((Turned.refl [] u1).alloc (.cells #[.int .i64 x.W, .int .i64 x.H, .slice oa xw ca, .slice ob xs cb] 26))) | (go_at_call 15; (with_reducible refine (kx oa ca ob cb _ (hMX.calm HX0)).mono ?_); rintro e u2 ⟨rfl, HT3⟩; have HT0 := HT0.trans HT3 (by simp); have hSn := hS.keep HT0 (by simp); have d0 := (hSn.2 0 _ rfl).1; have d1 := (hSn.2 1 _ rfl).1; have d2 := (hSn.2 2 _ rfl).1; have d3 := (hSn.2 3 _ rfl).1; have HX0 := HX0.trans HT3 (by simp); have hXn := hX.keep HX0 (by simp); have c0 := (hXn.2 0 _ rfl).1; have c1 := (hXn.2 1 _ rfl).1; have c2 := (hXn.2 2 _ rfl).1; have c3 := (hXn.2 3 _ rfl).1) | (go_at_call 17; (with_reducible refine (kfx oa ca ob cb _ (hMX.calm HX0)).mono ?_); rintro e u3 ⟨rfl, HT4⟩; have HT0 := HT0.trans HT4 (by simp); have hSn := hS.keep HT0 (by simp); have d0 := (hSn.2 0 _ rfl).1; have d1 := (hSn.2 1 _ rfl).1; have d2 := (hSn.2 2 _ rfl).1; have d3 := (hSn.2 3 _ rfl).1) | (go_at_call 15; (with_reducible refine (km _ (hM.calm HT0)).mono ?_); rintro e u4 ⟨rfl, HT5⟩; have HT0 := HT0.trans HT5 (by simp); have hSn := hS.keep HT0 (by simp); have d0 := (hSn.2 0 _ rfl).1; have d1 := (hSn.2 1 _ rfl).1; have d2 := (hSn.2 2 _ rfl).1; have d3 := (hSn.2 3 _ rfl).1) | (go_at_call 11; (with_reducible refine (krt _).mono ?_); rintro e u5 ⟨pa, da, pb, db, rfl, hY, _, _, HT6⟩; have HT0 := (HT0.trans HT6 (by simp)).alloc (.cells #[.int .i64 a1_m.W, .int .i64 a1_m.H, .slice pa nw da, .slice pb ns db] 26); have hSn := hS.keep HT0 (by simp); have d0 := (hSn.2 0 _ rfl).1; have d1 := (hSn.2 1 _ rfl).1; have d2 := (hSn.2 2 _ rfl).1; have d3 := (hSn.2 3 _ rfl).1; have hY2 := hY.calm ((Turned.refl [] u5).alloc (.cells #[.int .i64 a1_m.W, .int .i64 a1_m.H, .slice pa nw da, .slice pb ns db] 26))) | (go_at_call 13; (with_reducible refine (ks pa pb da db _ hY2 (hM.calm HT0)).mono ?_); rintro e u6 ⟨rfl, HT7⟩; have HT0 := HT0.trans HT7 (by simp)))
          go_ret
          exact ⟨rfl, (hT.trans HT0 (by simp)).none⟩
        · have hA : Ti.ansT a1_m = [] ∧ Ti.ansF a1_m = 1 := ⟨Ti.ansT_neg hF, Ti.ansF_neg hF⟩
          rw [hA.1, hA.2, show Ti.str [] = ⟨#[]⟩ from rfl] at km
          rw [show Ti.formedB a1_m = false from Ti.formedB_not hF] at kfm
          clear hfew hq hnw hns hA hF
          go_enter Try.func6, Try.ntmps6
          go_wp2_with fail
          rw [← hW0, ← hB]
          clear hW0 hB
          go_wp2_with (first | (go_at_call 10; (with_reducible refine (kA _).mono ?_); rintro e u0 ⟨rfl, HT1⟩; have HT0 := HT0.trans HT1 (by simp); have hSn := hS.keep HT0 (by simp); have d0 := (hSn.2 0 _ rfl).1; have d1 := (hSn.2 1 _ rfl).1; have d2 := (hSn.2 2 _ rfl).1; have d3 := (hSn.2 3 _ rfl).1) | (go_at_call 14; (with_reducible refine (kf _).mono ?_); rintro e u0 ⟨rfl, HT1⟩; have HT0 := HT0.trans HT1 (by simp); have hSn := hS.keep HT0 (by simp); have d0 := (hSn.2 0 _ rfl).1; have d1 := (hSn.2 1 _ rfl).1; have d2 := (hSn.2 2 _ rfl).1; have d3 := (hSn.2 3 _ rfl).1) | (go_at_call_of 11 (Value.string a0); (with_reducible refine (kr1 _).mono ?_); rintro e u1 ⟨oa, ca, ob, cb, rfl, hX1, _, _, HT2⟩; have HT0 := (HT0.trans HT2 (by simp)).alloc (.cells #[.int .i64 x.W, .int .i64 x.H, .slice oa xw ca, .slice ob xs cb] 26); have hSn := hS.keep HT0 (by simp); have d0 := (hSn.2 0 _ rfl).1; have d1 := (hSn.2 1 _ rfl).1; have d2 := (hSn.2 2 _ rfl).1; have d3 := (hSn.2 3 _ rfl).1; have hX := Struct.new u1 [.int .i64 x.W, .int .i64 x.H, .slice oa xw ca, .slice ob xs cb] 26; have HX0 := Turned.refl [] (u1.alloc (.cells #[.int .i64 x.W, .int .i64 x.H, .slice oa xw ca, .slice ob xs cb] 26)); have hMX := hX1.calm ((Turned.refl [] u1).alloc (.cells #[.int .i64 x.W, .int .i64 x.H, .slice oa xw ca, .slice ob xs cb] 26))) | (go_at_call 15; (with_reducible refine (kx oa ca ob cb _ (hMX.calm HX0)).mono ?_); rintro e u2 ⟨rfl, HT3⟩; have HT0 := HT0.trans HT3 (by simp); have hSn := hS.keep HT0 (by simp); have d0 := (hSn.2 0 _ rfl).1; have d1 := (hSn.2 1 _ rfl).1; have d2 := (hSn.2 2 _ rfl).1; have d3 := (hSn.2 3 _ rfl).1; have HX0 := HX0.trans HT3 (by simp); have hXn := hX.keep HX0 (by simp); have c0 := (hXn.2 0 _ rfl).1; have c1 := (hXn.2 1 _ rfl).1; have c2 := (hXn.2 2 _ rfl).1; have c3 := (hXn.2 3 _ rfl).1) | (go_at_call 17; (with_reducible refine (kfx oa ca ob cb _ (hMX.calm HX0)).mono ?_); rintro e u3 ⟨rfl, HT4⟩; have HT0 := HT0.trans HT4 (by simp); have hSn := hS.keep HT0 (by simp); have d0 := (hSn.2 0 _ rfl).1; have d1 := (hSn.2 1 _ rfl).1; have d2 := (hSn.2 2 _ rfl).1; have d3 := (hSn.2 3 _ rfl).1) | (go_at_call 15; (with_reducible refine (km _ (hM.calm HT0)).mono ?_); rintro e u4 ⟨rfl, HT5⟩; have HT0 := HT0.trans HT5 (by simp); have hSn := hS.keep HT0 (by simp); have d0 := (hSn.2 0 _ rfl).1; have d1 := (hSn.2 1 _ rfl).1; have d2 := (hSn.2 2 _ rfl).1; have d3 := (hSn.2 3 _ rfl).1) | (go_at_call 17; (with_reducible refine (kfm _ (hM.calm HT0)).mono ?_); rintro e u3 ⟨rfl, HT4⟩; have HT0 := HT0.trans HT4 (by simp); have hSn := hS.keep HT0 (by simp); have d0 := (hSn.2 0 _ rfl).1; have d1 := (hSn.2 1 _ rfl).1; have d2 := (hSn.2 2 _ rfl).1; have d3 := (hSn.2 3 _ rfl).1))
          go_ret
          exact ⟨rfl, (hT.trans HT0 (by simp)).none⟩
    · have hq : (decide (nw ≤ 1100) && decide (ns ≤ 1100)) = false := by simpa using hfew
      rw [hq] at kf
      clear hfew hq hnw hns
      go_enter Try.func6, Try.ntmps6
      go_wp2_with fail
      rw [← hW0, ← hB]
      clear hW0 hB
      go_wp2_with (first | (go_at_call 10; (with_reducible refine (kA _).mono ?_); rintro e u0 ⟨rfl, HT1⟩; have HT0 := HT0.trans HT1 (by simp); have hSn := hS.keep HT0 (by simp); have d0 := (hSn.2 0 _ rfl).1; have d1 := (hSn.2 1 _ rfl).1; have d2 := (hSn.2 2 _ rfl).1; have d3 := (hSn.2 3 _ rfl).1) | (go_at_call 14; (with_reducible refine (kf _).mono ?_); rintro e u0 ⟨rfl, HT1⟩; have HT0 := HT0.trans HT1 (by simp); have hSn := hS.keep HT0 (by simp); have d0 := (hSn.2 0 _ rfl).1; have d1 := (hSn.2 1 _ rfl).1; have d2 := (hSn.2 2 _ rfl).1; have d3 := (hSn.2 3 _ rfl).1))
      go_ret
      exact ⟨rfl, (hT.trans HT0 (by simp)).none⟩
  · clear hnw hns
    go_enter Try.func6, Try.ntmps6
    go_wp2_with fail
    rw [← hW0, ← hB]
    clear hW0 hB
    go_wp2_with (first | (go_at_call 10; (with_reducible refine (kA _).mono ?_); rintro e u0 ⟨rfl, HT1⟩; have HT0 := HT0.trans HT1 (by simp); have hSn := hS.keep HT0 (by simp); have d0 := (hSn.2 0 _ rfl).1; have d1 := (hSn.2 1 _ rfl).1; have d2 := (hSn.2 2 _ rfl).1; have d3 := (hSn.2 3 _ rfl).1))
    go_ret
    exact ⟨rfl, (hT.trans HT0 (by simp)).none⟩

set_option maxRecDepth 100000 in
theorem lifted (os : Os) (started : os.Started) (H : Type) (enc : TypeId × Value → H) :
    ReturnsInHanded {} Try.checked os 6 .any (Rows.tilesBackSpec.pre6 enc Try.prog Try.f6 Rows.tilesBackRow.domain false) (Rows.tilesBackSpec.post enc Try.prog Try.f6 false true false false) := by
  refine returnsInHanded_of_change (C := Try.checked) own started (by kernel_rfl) Try.func6
    (ChangeSpec.witness6 (enc := enc) (C := Try.checked) false ⟨#[], #[.string ⟨#[]⟩, .agg #[.int .i64 0, .int .i64 0, .slice none 0 0, .slice none 0 0]], []⟩ 8 (by kernel_rfl) (by kernel_rfl) (by kernel_rfl) (by kernel_rfl)) ?_
  intro W base args ds gs before hval0 hW hcnd _
  have hval : ∀ (j : Nat) t v, Try.f6.params[j]? = some t → args[j]? = some v → Value.okWide Try.prog W .any base t v := hval0
  have hW' := hW
  obtain ⟨p, q, hA0, hV, rfl, hfz, hnd⟩ := hW
  have hA : DataW.TrodAll enc Try.prog W 0 (fun _ => true) true Try.f6.params.toList args.toList ds p := hA0
  rw [Try.params6] at hA hval
  obtain ⟨v0, vs0, d0, ds0, p0, q0, hargs, rfl, rfl, h0, r0⟩ := trodAll_cons hA
  obtain ⟨v1, vs1, d1, ds1, p1, q1, rfl, rfl, rfl, h1, r1⟩ := trodAll_cons r0
  obtain ⟨rfl, rfl, rfl⟩ := trodAll_nil r1
  obtain rfl : args = #[v0, v1] := by cases args; simp_all
  obtain ⟨rfl, rfl⟩ := trodVars_none hV
  have k0 := h0
  have lt0 : ∀ x ∈ p0, x.block < W.heap.size := by obtain ⟨m, hm⟩ := k0; exact DataW.trod_lt m _ _ _ hm
  have k1 := h1
  have lt1 : ∀ x ∈ p1, x.block < W.heap.size := by obtain ⟨m, hm⟩ := k1; exact DataW.trod_lt m _ _ _ hm
  obtain ⟨a0, rfl, _, _, w0⟩ := Go.ChangeMaps.open_string Try.underlying9 (hval 0 9 v0 rfl rfl) h0
  obtain ⟨a1_m, a1_oa, a1_ca, a1_ob, a1_cb, rfl, w1⟩ := open_map (hval 1 26 v1 rfl rfl) h1
  clear hA0 hval0
  refine (walk a0 a1_m a1_oa a1_ca a1_ob a1_cb w0 W w1).mono fun e W' ⟨he, bel⟩ => ?_
  subst he
  exact ⟨_, rfl, _, _, _, [], _, [], hW', trodAll_mk1 (shut_bool Try.underlying4 _), (trodAll_cons_mk (Below.trod laidOut (by kernel_rfl) (of_decide_eq_true (by kernel_rfl)) k0 bel lt0) (trodAll_cons_mk (Below.trod laidOut (by kernel_rfl) (of_decide_eq_true (by kernel_rfl)) k1 bel lt1) trodAll_mk0)), rfl, bel.frame _, fun h => by cases h⟩

theorem over : Rows.tilesBackRow.holds Try.pinned (OpenSpec.ofChange Rows.tilesBackSpec) :=
  OpenClaim.holds_of_wide 6 Try.f6 rfl rfl rfl rfl rfl rfl rfl ⟨rfl, rfl, rfl, rfl, rfl⟩ rfl rfl rfl rfl rfl (by kernel_rfl) Try.func6 (by kernel_rfl)
    (of_decide_eq_true (by kernel_rfl)) (by unfold Func.isWrapper; first | (rw [if_pos (by decide +kernel)]; kernel_rfl) | (rw [if_neg (by decide +kernel)]; exact ⟨rfl, rfl⟩))
    (fun os started H enc _ => lifted os started H enc)

theorem proved : Rows.TilesBackSaid :=
  over
#print axioms proved
end Go.Proofs.Ytecjfenpdpdanaa.tilesBack

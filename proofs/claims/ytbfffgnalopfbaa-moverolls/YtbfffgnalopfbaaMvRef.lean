/- How one moves: the reference's (MvR). -/
import Derived.Test.YtbfffgnalopfbaaMvPlain2
import Derived.Test.YtbfffgnalopfbaaEntMem
import Derived.Test.YtbfffgnalopfbaaBoxAround
namespace Go.Proofs.Ytbfffgnalopfbaa
open Go.RowKit
set_option linter.unusedVariables false
set_option linter.unusedSimpArgs false

namespace MvR
abbrev zeroE : En.E := ⟨0, 0, 0, 0, 0, 0, 0, 0⟩
/-- an entity's cells are stored whole -/
abbrev put8 (w : World) (p : Nat) (x : En.E) : World := ((((((((w.setCell ⟨p, 0, none⟩ (.int .i64 x.id)).setCell ⟨p, 1, none⟩ (.int .i64 x.kind)).setCell ⟨p, 2, none⟩ (.int .i64 x.ax)).setCell ⟨p, 3, none⟩ (.int .i64 x.ay)).setCell ⟨p, 4, none⟩ (.int .i64 x.vx)).setCell ⟨p, 5, none⟩ (.int .i64 x.vy)).setCell ⟨p, 6, none⟩ (.int .i64 x.h)).setCell ⟨p, 7, none⟩ (.int .i64 x.t))
theorem set8 {p : Nat} {e : En.E} {w : World} (h : Struct p (enEnc e) w) (x : En.E) : Struct p (enEnc x) (put8 w p x) :=
  (((((((h.set (i := 0) (by simp [enEnc]) _).set (i := 1) (by simp [enEnc]) _).set (i := 2) (by simp [enEnc]) _).set (i := 3) (by simp [enEnc]) _).set (i := 4) (by simp [enEnc]) _).set (i := 5) (by simp [enEnc]) _).set (i := 6) (by simp [enEnc]) _).set (i := 7) (by simp [enEnc]) _
theorem turned8 {S : List Nat} {w w' : World} {p : Nat} (h : Turned S w w') (hp : p ∈ S ∨ w.heap.size ≤ p) (x : En.E) : Turned S w (put8 w' p x) :=
  (((((((h.setCell (p := ⟨p, 0, none⟩) hp _).setCell (p := ⟨p, 1, none⟩) hp _).setCell (p := ⟨p, 2, none⟩) hp _).setCell (p := ⟨p, 3, none⟩) hp _).setCell (p := ⟨p, 4, none⟩) hp _).setCell (p := ⟨p, 5, none⟩) hp _).setCell (p := ⟨p, 6, none⟩) hp _).setCell (p := ⟨p, 7, none⟩) hp _

set_option maxHeartbeats 1000000 in
theorem stands_any (m : Ti.M) (oa : Option Addr) (ca : Nat) (ob : Option Addr) (cb : Nat) (x y : Int) (w : World) (h : MapAt m oa ob w) :
    Calls Try.prog 15 #[mapVal m oa ca ob cb, .agg #[.int .i64 x, .int .i64 y]] w fun e w' => e = .returned (.bool (Mv.stands m x y)) ∧ Turned [] w w' := by
  have ka := fun u => BxR.around_any x y 24576 u
  have kf : ∀ u, MapAt m oa ob u → Calls Try.prog 25 #[mapVal m oa ca ob cb, .agg #[.int .i64 (Fx.sub x 24576), .int .i64 (Fx.sub y 24576), .int .i64 (Fx.add x 24576), .int .i64 (Fx.add y 24576)]] u fun e w' => e = .returned (.bool (Mv.stands m x y)) ∧ Turned [] u w' :=
    fun u hu => TiR.free_any m oa ca ob cb (Mv.boxAt x y) u hu
  obtain ⟨nw, hnw⟩ : ∃ n, n = m.ws.length := ⟨_, rfl⟩
  obtain ⟨ns, hns⟩ : ∃ n, n = m.sp.length := ⟨_, rfl⟩
  unfold mapVal at kf ⊢
  rw [← hnw, ← hns] at kf ⊢
  obtain ⟨W0, hW0⟩ : ∃ W0, W0 = (w.alloc (.cells #[.int .i64 m.W, .int .i64 m.H, .slice oa nw ca, .slice ob ns cb] 35)).alloc (.cells #[.int .i64 x, .int .i64 y] 28) := ⟨_, rfl⟩
  obtain ⟨B, hB⟩ : ∃ B, B = w.heap.size := ⟨_, rfl⟩
  obtain ⟨C, hC⟩ : ∃ C, C = w.heap.size + 1 := ⟨_, rfl⟩
  have hT : Turned [] w W0 := by rw [hW0]; exact ((Turned.refl [] w).alloc _).alloc _
  have hS : Struct B [.int .i64 m.W, .int .i64 m.H, .slice oa nw ca, .slice ob ns cb] W0 := by rw [hW0, hB]; exact (Struct.new w [.int .i64 m.W, .int .i64 m.H, .slice oa nw ca, .slice ob ns cb] _).keep ((Turned.refl [] _).alloc _) (by simp)
  have hP : Struct C [.int .i64 x, .int .i64 y] W0 := by
    have h0 := Struct.new (w.alloc (.cells #[.int .i64 m.W, .int .i64 m.H, .slice oa nw ca, .slice ob ns cb] 35)) [.int .i64 x, .int .i64 y] 28
    rw [show (w.alloc (.cells #[.int .i64 m.W, .int .i64 m.H, .slice oa nw ca, .slice ob ns cb] 35)).heap.size = w.heap.size + 1 by simp, ← hC] at h0
    rw [hW0]; exact h0
  have d0 := KeptW.at hS.1 (hS.2 0 _ rfl).1
  have d1 := KeptW.at hS.1 (hS.2 1 _ rfl).1
  have d2 := KeptW.at hS.1 (hS.2 2 _ rfl).1
  have d3 := KeptW.at hS.1 (hS.2 3 _ rfl).1
  have c0 := KeptW.at hP.1 (hP.2 0 _ rfl).1
  have c1 := KeptW.at hP.1 (hP.2 1 _ rfl).1
  have ne : Nonempty (KeptW W0) := KeptW.one W0
  have hM := h.calm hT
  have g1 := fun (v : KeptW W0) => kept_call (ka v.u)
  have g2 := fun (v : KeptW W0) => kept_call ((kf v.u (hM.calm (Turned.ofBelow v.h))).mono fun r w' h => ⟨h.1, h.2.none⟩)
  clear hnw hns ka kf
  go_enter Try.func15, Try.ntmps15
  go_wp2_with fail
  rw [← hW0, ← hC, ← hB]
  clear hW0 hC hB
  refine wp_region_kept (by kernel_rfl) (by kernel_rfl) ?_
  repeat (go_big_quiet_step (first | (go_at_call 26; with_reducible exact g1 _) | (go_at_call 25; with_reducible exact g2 _)))
  refine wpQuiet_nil ?_
  rintro _ ⟨v, rfl⟩
  go_wp2_with fail
  go_ret
  exact ⟨rfl, hT.trans (Turned.ofBelow v.h) (by simp)⟩

set_option maxHeartbeats 1000000 in
theorem down_any (n : Int) (h1 : -2147483648 ≤ n) (h2 : n ≤ 2147483647) (w : World) :
    Calls Try.prog 22 #[.int .i64 n] w fun e w' => e = .returned (.int .i64 (Mv.down n)) ∧ w' = w := by
  obtain ⟨q, hq⟩ : ∃ q, q = n.tdiv 127 := ⟨_, rfl⟩
  have hqq : (0 ≤ n ∧ q = n / 127) ∨ (n < 0 ∧ q = -((-n) / 127)) := by
    by_cases h0 : 0 ≤ n
    · exact .inl ⟨h0, by rw [hq]; exact Int.tdiv_eq_ediv_of_nonneg h0⟩
    · refine .inr ⟨by omega, ?_⟩
      have e1 : (-n).tdiv 127 = (-n) / 127 := Int.tdiv_eq_ediv_of_nonneg (by omega)
      have e2 : (-n).tdiv 127 = -(n.tdiv 127) := Int.neg_tdiv n 127
      rw [hq]
      omega
  have hb : -17000000 ≤ q ∧ q ≤ 17000000 := by omega
  have hq' : n.tdiv 127 = q := hq.symm
  by_cases hc : n < q * 127
  · have HA : Hid (Mv.down n = q - 1) := by show _ = _; unfold Mv.down; omega
    clear hq hqq
    go_enter Try.func22, Try.ntmps22
    go_wp2_with fail
    go_ret
    rw [HA.out]
    exact ⟨rfl, rfl⟩
  · have HA : Hid (Mv.down n = q) := by show _ = _; unfold Mv.down; omega
    clear hq hqq
    go_enter Try.func22, Try.ntmps22
    go_wp2_with fail
    go_ret
    rw [HA.out]
    exact ⟨rfl, rfl⟩

set_option maxRecDepth 20000 in
set_option maxHeartbeats 16000000 in
theorem walk_any (m : Ti.M) (oa : Option Addr) (ca : Nat) (ob : Option Addr) (cb : Nat) (e : En.E) (mx my : Int) (hx : -128 ≤ mx ∧ mx ≤ 127) (hy : -128 ≤ my ∧ my ≤ 127) (w : World) (h : MapAt m oa ob w) :
    Calls Try.prog 11 #[mapVal m oa ca ob cb, enVal e, .int .i8 mx, .int .i8 my] w fun r w' => r = .returned (enVal (Mv.walk m e mx my)) ∧ Turned [] w w' := by
  obtain ⟨id, kind, ax, ay, vx, vy, hh, t⟩ := e
  have kfm := fun u => EnR.formed_any ⟨id, kind, ax, ay, vx, vy, hh, t⟩ u
  have kst := fun (x y : Int) (u : World) (hu : MapAt m oa ob u) => stands_any m oa ca ob cb x y u hu
  obtain ⟨fb, hfb⟩ : ∃ b, b = decide (En.Formed ⟨id, kind, ax, ay, vx, vy, hh, t⟩) := ⟨_, rfl⟩
  rw [← hfb] at kfm
  obtain ⟨nw, hnw⟩ : ∃ n, n = m.ws.length := ⟨_, rfl⟩
  obtain ⟨ns, hns⟩ : ∃ n, n = m.sp.length := ⟨_, rfl⟩
  unfold mapVal at kst ⊢
  rw [← hnw, ← hns] at kst ⊢
  unfold enVal at kfm
  simp only at kfm
  show Calls _ _ #[_, .agg #[.int .i64 id, .int .i64 kind, .int .i64 ax, .int .i64 ay, .int .i64 vx, .int .i64 vy, .int .i64 hh, .int .i64 t], .int .i8 mx, .int .i8 my] _ _
  obtain ⟨W0, hW0⟩ : ∃ W0, W0 = ((w.alloc (.cells #[.int .i64 m.W, .int .i64 m.H, .slice oa nw ca, .slice ob ns cb] 35)).alloc (.cells #[.int .i64 id, .int .i64 kind, .int .i64 ax, .int .i64 ay, .int .i64 vx, .int .i64 vy, .int .i64 hh, .int .i64 t] 30)).alloc (.cells #[.int .i64 0, .int .i64 0, .int .i64 0, .int .i64 0, .int .i64 0, .int .i64 0, .int .i64 0, .int .i64 0] 30) := ⟨_, rfl⟩
  obtain ⟨B, hB⟩ : ∃ B, B = w.heap.size := ⟨_, rfl⟩
  obtain ⟨C, hC⟩ : ∃ C, C = w.heap.size + 1 := ⟨_, rfl⟩
  obtain ⟨D, hD⟩ : ∃ D, D = w.heap.size + 1 + 1 := ⟨_, rfl⟩
  have hsz : W0.heap.size = w.heap.size + 3 := by rw [hW0]; simp
  have hT : Turned [] w W0 := by rw [hW0]; exact (((Turned.refl [] w).alloc _).alloc _).alloc _
  have hS : Struct B [.int .i64 m.W, .int .i64 m.H, .slice oa nw ca, .slice ob ns cb] W0 := by rw [hW0, hB]; exact ((Struct.new w [.int .i64 m.W, .int .i64 m.H, .slice oa nw ca, .slice ob ns cb] _).keep ((Turned.refl [] _).alloc _) (by simp)).keep ((Turned.refl [] _).alloc _) (by simp)
  have hE : Struct C [.int .i64 id, .int .i64 kind, .int .i64 ax, .int .i64 ay, .int .i64 vx, .int .i64 vy, .int .i64 hh, .int .i64 t] W0 := by
    have h0 := Struct.new (w.alloc (.cells #[.int .i64 m.W, .int .i64 m.H, .slice oa nw ca, .slice ob ns cb] 35)) [.int .i64 id, .int .i64 kind, .int .i64 ax, .int .i64 ay, .int .i64 vx, .int .i64 vy, .int .i64 hh, .int .i64 t] 30
    rw [show (w.alloc (.cells #[.int .i64 m.W, .int .i64 m.H, .slice oa nw ca, .slice ob ns cb] 35)).heap.size = w.heap.size + 1 by simp, ← hC] at h0
    rw [hW0]; exact h0.keep ((Turned.refl [] _).alloc _) (by simp)
  have hR : Struct D [.int .i64 0, .int .i64 0, .int .i64 0, .int .i64 0, .int .i64 0, .int .i64 0, .int .i64 0, .int .i64 0] W0 := by
    have h0 := Struct.new ((w.alloc (.cells #[.int .i64 m.W, .int .i64 m.H, .slice oa nw ca, .slice ob ns cb] 35)).alloc (.cells #[.int .i64 id, .int .i64 kind, .int .i64 ax, .int .i64 ay, .int .i64 vx, .int .i64 vy, .int .i64 hh, .int .i64 t] 30)) [.int .i64 0, .int .i64 0, .int .i64 0, .int .i64 0, .int .i64 0, .int .i64 0, .int .i64 0, .int .i64 0] 30
    rw [show ((w.alloc (.cells #[.int .i64 m.W, .int .i64 m.H, .slice oa nw ca, .slice ob ns cb] 35)).alloc (.cells #[.int .i64 id, .int .i64 kind, .int .i64 ax, .int .i64 ay, .int .i64 vx, .int .i64 vy, .int .i64 hh, .int .i64 t] 30)).heap.size = w.heap.size + 1 + 1 by simp, ← hD] at h0
    rw [hW0]; exact h0
  have hM := h.calm hT
  have hCw : w.heap.size ≤ C := by omega
  have hDw : w.heap.size ≤ D := by omega
  have nBC : B ≠ C := by omega
  have nBD : B ≠ D := by omega
  have nCD : C ≠ D := by omega
  clear hnw hns hsz
  by_cases hF : En.Formed ⟨id, kind, ax, ay, vx, vy, hh, t⟩
  · rw [show fb = true by rw [hfb]; exact decide_eq_true hF] at kfm
    by_cases h1 : kind = 1
    · by_cases h2 : hh = 0
      · have HA : Hid (Mv.walk m ⟨id, kind, ax, ay, vx, vy, hh, t⟩ mx my = ⟨id, kind, ax, ay, vx, vy, hh, t⟩) := by
          show _ = _
          unfold Mv.walk
          rw [if_neg]
          rw [Mv.walks_iff]
          rintro ⟨_, _, hn, _⟩
          exact hn h2
        have i1 : (kind != 1) = false := by rw [bne_eq_false_iff_eq]; exact h1
        have i2 : (hh == 0) = true := by rw [beq_iff_eq]; exact h2
        clear h1 h2 hF
        clear hfb
        go_enter Try.func11, Try.ntmps11
        go_wp2_with fail
        rw [← hW0, ← hD, ← hC, ← hB]
        clear hW0 hD hC hB
        go_wp2_with (go_at_call 21; (with_reducible refine (kfm _).mono ?_); rintro r u0 ⟨rfl, HT0⟩; have hS0 := hS.keep HT0 (by simp); have hE0 := hE.keep HT0 (by simp); have hR0 := hR.keep HT0 (by simp); have d0 := (hS0.2 0 _ rfl).1; have d1 := (hS0.2 1 _ rfl).1; have d2 := (hS0.2 2 _ rfl).1; have d3 := (hS0.2 3 _ rfl).1; have c0 := (hE0.2 0 _ rfl).1; have f0 := (hE0.2 0 _ rfl).2; have c1 := (hE0.2 1 _ rfl).1; have f1 := (hE0.2 1 _ rfl).2; have c2 := (hE0.2 2 _ rfl).1; have f2 := (hE0.2 2 _ rfl).2; have c3 := (hE0.2 3 _ rfl).1; have f3 := (hE0.2 3 _ rfl).2; have c4 := (hE0.2 4 _ rfl).1; have f4 := (hE0.2 4 _ rfl).2; have c5 := (hE0.2 5 _ rfl).1; have f5 := (hE0.2 5 _ rfl).2; have c6 := (hE0.2 6 _ rfl).1; have f6 := (hE0.2 6 _ rfl).2; have c7 := (hE0.2 7 _ rfl).1; have f7 := (hE0.2 7 _ rfl).2; have z0 := (hR0.2 0 _ rfl).1; have y0 := (hR0.2 0 _ rfl).2; have z1 := (hR0.2 1 _ rfl).1; have y1 := (hR0.2 1 _ rfl).2; have z2 := (hR0.2 2 _ rfl).1; have y2 := (hR0.2 2 _ rfl).2; have z3 := (hR0.2 3 _ rfl).1; have y3 := (hR0.2 3 _ rfl).2; have z4 := (hR0.2 4 _ rfl).1; have y4 := (hR0.2 4 _ rfl).2; have z5 := (hR0.2 5 _ rfl).1; have y5 := (hR0.2 5 _ rfl).2; have z6 := (hR0.2 6 _ rfl).1; have y6 := (hR0.2 6 _ rfl).2; have z7 := (hR0.2 7 _ rfl).1; have y7 := (hR0.2 7 _ rfl).2)
        obtain ⟨W9, hW9⟩ : ∃ W9, W9 = put8 u0 D ⟨id, kind, ax, ay, vx, vy, hh, t⟩ := ⟨_, rfl⟩
        have hS9 : Struct D (enEnc ⟨id, kind, ax, ay, vx, vy, hh, t⟩) W9 := by rw [hW9]; exact set8 (e := zeroE) hR0 _
        have hT9 : Turned [] w W9 := by rw [hW9]; exact turned8 (hT.trans HT0 (by simp)) (.inr hDw) _
        simp only [put8] at hW9
        rw [← hW9]
        have e0 := (hS9.2 0 _ rfl).1
        have e1 := (hS9.2 1 _ rfl).1
        have e2 := (hS9.2 2 _ rfl).1
        have e3 := (hS9.2 3 _ rfl).1
        have e4 := (hS9.2 4 _ rfl).1
        have e5 := (hS9.2 5 _ rfl).1
        have e6 := (hS9.2 6 _ rfl).1
        have e7 := (hS9.2 7 _ rfl).1
        simp only [enEnc] at e0 e1 e2 e3 e4 e5 e6 e7
        exact bodyPost_ret (v := enVal ⟨id, kind, ax, ay, vx, vy, hh, t⟩) (by simp [results, Try.results11, go_sem, e0, e1, e2, e3, e4, e5, e6, e7]) rfl ⟨by rw [HA.out], hT9⟩
      · by_cases h3 : mx = -128
        · have HA : Hid (Mv.walk m ⟨id, kind, ax, ay, vx, vy, hh, t⟩ mx my = ⟨id, kind, ax, ay, vx, vy, hh, t⟩) := by
            show _ = _
            unfold Mv.walk
            rw [if_neg]
            rw [Mv.walks_iff]
            rintro ⟨_, _, _, hn, _⟩
            exact hn h3
          have i1 : (kind != 1) = false := by rw [bne_eq_false_iff_eq]; exact h1
          have i2 : (hh == 0) = false := by rw [beq_eq_false_iff_ne]; exact h2
          have i3 : (mx == -128) = true := by rw [beq_iff_eq]; exact h3
          clear h1 h2 h3 hF
          clear hfb
          go_enter Try.func11, Try.ntmps11
          go_wp2_with fail
          rw [← hW0, ← hD, ← hC, ← hB]
          clear hW0 hD hC hB
          go_wp2_with (go_at_call 21; (with_reducible refine (kfm _).mono ?_); rintro r u0 ⟨rfl, HT0⟩; have hS0 := hS.keep HT0 (by simp); have hE0 := hE.keep HT0 (by simp); have hR0 := hR.keep HT0 (by simp); have d0 := (hS0.2 0 _ rfl).1; have d1 := (hS0.2 1 _ rfl).1; have d2 := (hS0.2 2 _ rfl).1; have d3 := (hS0.2 3 _ rfl).1; have c0 := (hE0.2 0 _ rfl).1; have f0 := (hE0.2 0 _ rfl).2; have c1 := (hE0.2 1 _ rfl).1; have f1 := (hE0.2 1 _ rfl).2; have c2 := (hE0.2 2 _ rfl).1; have f2 := (hE0.2 2 _ rfl).2; have c3 := (hE0.2 3 _ rfl).1; have f3 := (hE0.2 3 _ rfl).2; have c4 := (hE0.2 4 _ rfl).1; have f4 := (hE0.2 4 _ rfl).2; have c5 := (hE0.2 5 _ rfl).1; have f5 := (hE0.2 5 _ rfl).2; have c6 := (hE0.2 6 _ rfl).1; have f6 := (hE0.2 6 _ rfl).2; have c7 := (hE0.2 7 _ rfl).1; have f7 := (hE0.2 7 _ rfl).2; have z0 := (hR0.2 0 _ rfl).1; have y0 := (hR0.2 0 _ rfl).2; have z1 := (hR0.2 1 _ rfl).1; have y1 := (hR0.2 1 _ rfl).2; have z2 := (hR0.2 2 _ rfl).1; have y2 := (hR0.2 2 _ rfl).2; have z3 := (hR0.2 3 _ rfl).1; have y3 := (hR0.2 3 _ rfl).2; have z4 := (hR0.2 4 _ rfl).1; have y4 := (hR0.2 4 _ rfl).2; have z5 := (hR0.2 5 _ rfl).1; have y5 := (hR0.2 5 _ rfl).2; have z6 := (hR0.2 6 _ rfl).1; have y6 := (hR0.2 6 _ rfl).2; have z7 := (hR0.2 7 _ rfl).1; have y7 := (hR0.2 7 _ rfl).2)
          obtain ⟨W9, hW9⟩ : ∃ W9, W9 = put8 u0 D ⟨id, kind, ax, ay, vx, vy, hh, t⟩ := ⟨_, rfl⟩
          have hS9 : Struct D (enEnc ⟨id, kind, ax, ay, vx, vy, hh, t⟩) W9 := by rw [hW9]; exact set8 (e := zeroE) hR0 _
          have hT9 : Turned [] w W9 := by rw [hW9]; exact turned8 (hT.trans HT0 (by simp)) (.inr hDw) _
          simp only [put8] at hW9
          rw [← hW9]
          have e0 := (hS9.2 0 _ rfl).1
          have e1 := (hS9.2 1 _ rfl).1
          have e2 := (hS9.2 2 _ rfl).1
          have e3 := (hS9.2 3 _ rfl).1
          have e4 := (hS9.2 4 _ rfl).1
          have e5 := (hS9.2 5 _ rfl).1
          have e6 := (hS9.2 6 _ rfl).1
          have e7 := (hS9.2 7 _ rfl).1
          simp only [enEnc] at e0 e1 e2 e3 e4 e5 e6 e7
          exact bodyPost_ret (v := enVal ⟨id, kind, ax, ay, vx, vy, hh, t⟩) (by simp [results, Try.results11, go_sem, e0, e1, e2, e3, e4, e5, e6, e7]) rfl ⟨by rw [HA.out], hT9⟩
        · by_cases h4 : my = -128
          · have HA : Hid (Mv.walk m ⟨id, kind, ax, ay, vx, vy, hh, t⟩ mx my = ⟨id, kind, ax, ay, vx, vy, hh, t⟩) := by
              show _ = _
              unfold Mv.walk
              rw [if_neg]
              rw [Mv.walks_iff]
              rintro ⟨_, _, _, _, hn⟩
              exact hn h4
            have i1 : (kind != 1) = false := by rw [bne_eq_false_iff_eq]; exact h1
            have i2 : (hh == 0) = false := by rw [beq_eq_false_iff_ne]; exact h2
            have i3 : (mx == -128) = false := by rw [beq_eq_false_iff_ne]; exact h3
            have i4 : (my == -128) = true := by rw [beq_iff_eq]; exact h4
            clear h1 h2 h3 h4 hF
            clear hfb
            go_enter Try.func11, Try.ntmps11
            go_wp2_with fail
            rw [← hW0, ← hD, ← hC, ← hB]
            clear hW0 hD hC hB
            go_wp2_with (go_at_call 21; (with_reducible refine (kfm _).mono ?_); rintro r u0 ⟨rfl, HT0⟩; have hS0 := hS.keep HT0 (by simp); have hE0 := hE.keep HT0 (by simp); have hR0 := hR.keep HT0 (by simp); have d0 := (hS0.2 0 _ rfl).1; have d1 := (hS0.2 1 _ rfl).1; have d2 := (hS0.2 2 _ rfl).1; have d3 := (hS0.2 3 _ rfl).1; have c0 := (hE0.2 0 _ rfl).1; have f0 := (hE0.2 0 _ rfl).2; have c1 := (hE0.2 1 _ rfl).1; have f1 := (hE0.2 1 _ rfl).2; have c2 := (hE0.2 2 _ rfl).1; have f2 := (hE0.2 2 _ rfl).2; have c3 := (hE0.2 3 _ rfl).1; have f3 := (hE0.2 3 _ rfl).2; have c4 := (hE0.2 4 _ rfl).1; have f4 := (hE0.2 4 _ rfl).2; have c5 := (hE0.2 5 _ rfl).1; have f5 := (hE0.2 5 _ rfl).2; have c6 := (hE0.2 6 _ rfl).1; have f6 := (hE0.2 6 _ rfl).2; have c7 := (hE0.2 7 _ rfl).1; have f7 := (hE0.2 7 _ rfl).2; have z0 := (hR0.2 0 _ rfl).1; have y0 := (hR0.2 0 _ rfl).2; have z1 := (hR0.2 1 _ rfl).1; have y1 := (hR0.2 1 _ rfl).2; have z2 := (hR0.2 2 _ rfl).1; have y2 := (hR0.2 2 _ rfl).2; have z3 := (hR0.2 3 _ rfl).1; have y3 := (hR0.2 3 _ rfl).2; have z4 := (hR0.2 4 _ rfl).1; have y4 := (hR0.2 4 _ rfl).2; have z5 := (hR0.2 5 _ rfl).1; have y5 := (hR0.2 5 _ rfl).2; have z6 := (hR0.2 6 _ rfl).1; have y6 := (hR0.2 6 _ rfl).2; have z7 := (hR0.2 7 _ rfl).1; have y7 := (hR0.2 7 _ rfl).2)
            obtain ⟨W9, hW9⟩ : ∃ W9, W9 = put8 u0 D ⟨id, kind, ax, ay, vx, vy, hh, t⟩ := ⟨_, rfl⟩
            have hS9 : Struct D (enEnc ⟨id, kind, ax, ay, vx, vy, hh, t⟩) W9 := by rw [hW9]; exact set8 (e := zeroE) hR0 _
            have hT9 : Turned [] w W9 := by rw [hW9]; exact turned8 (hT.trans HT0 (by simp)) (.inr hDw) _
            simp only [put8] at hW9
            rw [← hW9]
            have e0 := (hS9.2 0 _ rfl).1
            have e1 := (hS9.2 1 _ rfl).1
            have e2 := (hS9.2 2 _ rfl).1
            have e3 := (hS9.2 3 _ rfl).1
            have e4 := (hS9.2 4 _ rfl).1
            have e5 := (hS9.2 5 _ rfl).1
            have e6 := (hS9.2 6 _ rfl).1
            have e7 := (hS9.2 7 _ rfl).1
            simp only [enEnc] at e0 e1 e2 e3 e4 e5 e6 e7
            exact bodyPost_ret (v := enVal ⟨id, kind, ax, ay, vx, vy, hh, t⟩) (by simp [results, Try.results11, go_sem, e0, e1, e2, e3, e4, e5, e6, e7]) rfl ⟨by rw [HA.out], hT9⟩
          · have hwk : Mv.walks ⟨id, kind, ax, ay, vx, vy, hh, t⟩ mx my = true := Mv.walks_iff.2 ⟨hF, h1, h2, h3, h4⟩
            have i1 : (kind != 1) = false := by rw [bne_eq_false_iff_eq]; exact h1
            have i2 : (hh == 0) = false := by rw [beq_eq_false_iff_ne]; exact h2
            have i3 : (mx == -128) = false := by rw [beq_eq_false_iff_ne]; exact h3
            have i4 : (my == -128) = false := by rw [beq_eq_false_iff_ne]; exact h4
            obtain ⟨_, ⟨b1, b2, b3, b4⟩, ⟨b5, b6, b7, b8⟩, _⟩ := hF
            have b1 : -134217728 ≤ ax := b1
            have b2 : ax ≤ 134217728 := b2
            have b3 : -134217728 ≤ ay := b3
            have b4 : ay ≤ 134217728 := b4
            have b5 : -65536 ≤ vx := b5
            have b6 : vx ≤ 65536 := b6
            have b7 : -65536 ≤ vy := b7
            have b8 : vy ≤ 65536 := b8
            have kd1 := fun u => down_any (mx * 16384) (by omega) (by omega) u
            have kd2 := fun u => down_any (my * 16384) (by omega) (by omega) u
            have q1 := Mv.down_in (n := mx) (by omega) (by omega)
            have q2 := Mv.down_in (n := my) (by omega) (by omega)
            obtain ⟨dx, hdx⟩ : ∃ d, d = Mv.down (mx * 16384) := ⟨_, rfl⟩
            obtain ⟨dy, hdy⟩ : ∃ d, d = Mv.down (my * 16384) := ⟨_, rfl⟩
            rw [← hdx] at kd1 q1
            rw [← hdy] at kd2 q2
            clear h1 h2 h3 h4
            cases hs1 : Mv.stands m (ax + dx) ay with
            | false =>
              cases hs2 : Mv.stands m ax (ay + dy) with
              | false =>
                have ks1 := kst (ax + dx) ay
                rw [hs1] at ks1
                have ks2 := kst ax (ay + dy)
                rw [hs2] at ks2
                have HA : Hid (Mv.walk m ⟨id, kind, ax, ay, vx, vy, hh, t⟩ mx my = ⟨id, kind, ax, ay, dx, dy, hh, t⟩) := by
                  show _ = _
                  simp only [Mv.walk, hwk, if_true, Mv.stepped, ← hdx, ← hdy, Mv.goX, Mv.goY, hs1, hs2, Bool.false_eq_true, if_false]
                clear hs1 hs2 hfb kst hdx hdy
                go_enter Try.func11, Try.ntmps11
                go_wp2_with fail
                rw [← hW0, ← hD, ← hC, ← hB]
                clear hW0 hD hC hB
                go_wp2_with (first | (go_at_call 21; (with_reducible refine (kfm _).mono ?_); rintro r u0 ⟨rfl, HT0⟩; have hS0 := hS.keep HT0 (by simp); have hE0 := hE.keep HT0 (by simp); have hR0 := hR.keep HT0 (by simp); have d0 := (hS0.2 0 _ rfl).1; have d1 := (hS0.2 1 _ rfl).1; have d2 := (hS0.2 2 _ rfl).1; have d3 := (hS0.2 3 _ rfl).1; have c0 := (hE0.2 0 _ rfl).1; have f0 := (hE0.2 0 _ rfl).2; have c1 := (hE0.2 1 _ rfl).1; have f1 := (hE0.2 1 _ rfl).2; have c2 := (hE0.2 2 _ rfl).1; have f2 := (hE0.2 2 _ rfl).2; have c3 := (hE0.2 3 _ rfl).1; have f3 := (hE0.2 3 _ rfl).2; have c4 := (hE0.2 4 _ rfl).1; have f4 := (hE0.2 4 _ rfl).2; have c5 := (hE0.2 5 _ rfl).1; have f5 := (hE0.2 5 _ rfl).2; have c6 := (hE0.2 6 _ rfl).1; have f6 := (hE0.2 6 _ rfl).2; have c7 := (hE0.2 7 _ rfl).1; have f7 := (hE0.2 7 _ rfl).2; have z0 := (hR0.2 0 _ rfl).1; have y0 := (hR0.2 0 _ rfl).2; have z1 := (hR0.2 1 _ rfl).1; have y1 := (hR0.2 1 _ rfl).2; have z2 := (hR0.2 2 _ rfl).1; have y2 := (hR0.2 2 _ rfl).2; have z3 := (hR0.2 3 _ rfl).1; have y3 := (hR0.2 3 _ rfl).2; have z4 := (hR0.2 4 _ rfl).1; have y4 := (hR0.2 4 _ rfl).2; have z5 := (hR0.2 5 _ rfl).1; have y5 := (hR0.2 5 _ rfl).2; have z6 := (hR0.2 6 _ rfl).1; have y6 := (hR0.2 6 _ rfl).2; have z7 := (hR0.2 7 _ rfl).1; have y7 := (hR0.2 7 _ rfl).2; have dd0 := fun o => (((((((hS0).keep ((Turned.refl [C] _).setCell (p := ⟨C, 4, none⟩) (.inl (by simp)) _) (by simpa using nBC))).keep ((Turned.refl [C] _).setCell (p := ⟨C, 5, none⟩) (.inl (by simp)) _) (by simpa using nBC))).keep ((Turned.refl [] ((u0.setCell ⟨C, 4, none⟩ (.int .i64 dx)).setCell ⟨C, 5, none⟩ (.int .i64 dy))).alloc o) (by simp)).2 0 _ rfl).1; have dd1 := fun o => (((((((hS0).keep ((Turned.refl [C] _).setCell (p := ⟨C, 4, none⟩) (.inl (by simp)) _) (by simpa using nBC))).keep ((Turned.refl [C] _).setCell (p := ⟨C, 5, none⟩) (.inl (by simp)) _) (by simpa using nBC))).keep ((Turned.refl [] ((u0.setCell ⟨C, 4, none⟩ (.int .i64 dx)).setCell ⟨C, 5, none⟩ (.int .i64 dy))).alloc o) (by simp)).2 1 _ rfl).1; have dd2 := fun o => (((((((hS0).keep ((Turned.refl [C] _).setCell (p := ⟨C, 4, none⟩) (.inl (by simp)) _) (by simpa using nBC))).keep ((Turned.refl [C] _).setCell (p := ⟨C, 5, none⟩) (.inl (by simp)) _) (by simpa using nBC))).keep ((Turned.refl [] ((u0.setCell ⟨C, 4, none⟩ (.int .i64 dx)).setCell ⟨C, 5, none⟩ (.int .i64 dy))).alloc o) (by simp)).2 2 _ rfl).1; have dd3 := fun o => (((((((hS0).keep ((Turned.refl [C] _).setCell (p := ⟨C, 4, none⟩) (.inl (by simp)) _) (by simpa using nBC))).keep ((Turned.refl [C] _).setCell (p := ⟨C, 5, none⟩) (.inl (by simp)) _) (by simpa using nBC))).keep ((Turned.refl [] ((u0.setCell ⟨C, 4, none⟩ (.int .i64 dx)).setCell ⟨C, 5, none⟩ (.int .i64 dy))).alloc o) (by simp)).2 3 _ rfl).1) | (go_at_call 22; (with_reducible refine (kd1 _).mono ?_); rintro r w9 ⟨rfl, hw9⟩; rw [hw9]; clear hw9 w9) | (go_at_call 22; (with_reducible refine (kd2 _).mono ?_); rintro r w9 ⟨rfl, hw9⟩; rw [hw9]; clear hw9 w9))
                have hTu0 := hT.trans HT0 (by simp)
                obtain ⟨V1, hV1⟩ : ∃ V, V = ((u0.setCell ⟨C, 4, none⟩ (.int .i64 dx)).setCell ⟨C, 5, none⟩ (.int .i64 dy)).alloc (.cells #[.int .i64 (ax + dx), .int .i64 ay] 28) := ⟨_, rfl⟩
                obtain ⟨O1, hO1⟩ : ∃ b, b = u0.heap.size := ⟨_, rfl⟩
                have hP1 : Struct O1 [.int .i64 (ax + dx), .int .i64 ay] V1 := by
                  have h0 := Struct.new ((u0.setCell ⟨C, 4, none⟩ (.int .i64 dx)).setCell ⟨C, 5, none⟩ (.int .i64 dy)) [.int .i64 (ax + dx), .int .i64 ay] 28
                  rw [show ((u0.setCell ⟨C, 4, none⟩ (.int .i64 dx)).setCell ⟨C, 5, none⟩ (.int .i64 dy)).heap.size = u0.heap.size by simp, ← hO1] at h0
                  rw [hV1]; exact h0
                have aV := (Turned.refl [] ((u0.setCell ⟨C, 4, none⟩ (.int .i64 dx)).setCell ⟨C, 5, none⟩ (.int .i64 dy))).alloc (.cells #[.int .i64 (ax + dx), .int .i64 ay] 28)
                rw [← hV1] at aV
                have hEv := (((((hE0).set (i := 4) (by simp) _)).set (i := 5) (by simp) _)).keep aV (by simp)
                have hRv := (((((hR0).keep ((Turned.refl [C] _).setCell (p := ⟨C, 4, none⟩) (.inl (by simp)) _) (by simpa using nCD.symm))).keep ((Turned.refl [C] _).setCell (p := ⟨C, 5, none⟩) (.inl (by simp)) _) (by simpa using nCD.symm))).keep aV (by simp)
                have hSv := (((((hS0).keep ((Turned.refl [C] _).setCell (p := ⟨C, 4, none⟩) (.inl (by simp)) _) (by simpa using nBC))).keep ((Turned.refl [C] _).setCell (p := ⟨C, 5, none⟩) (.inl (by simp)) _) (by simpa using nBC))).keep aV (by simp)
                have hTv := (((((hTu0).setCell (p := ⟨C, 4, none⟩) (.inr hCw) _)).setCell (p := ⟨C, 5, none⟩) (.inr hCw) _)).trans aV (by simp)
                have hMv := h.calm hTv
                rw [← hV1, ← hO1]
                clear hV1 hO1 aV d0 d1 d2 d3 dd0 dd1 dd2 dd3 c0 c1 c2 c3 c4 c5 c6 c7 f0 f1 f2 f3 f4 f5 f6 f7 z0 z1 z2 z3 z4 z5 z6 z7 y0 y1 y2 y3 y4 y5 y6 y7
                refine (ks1 _ hMv).mono ?_
                rintro r u1 ⟨rfl, HS1⟩
                have hS1 := hSv.keep HS1 (by simp)
                have hE1 := hEv.keep HS1 (by simp)
                have hR1 := hRv.keep HS1 (by simp)
                have hQ1 := hP1.keep HS1 (by simp)
                have hTu1 := hTv.trans HS1 (by simp)
                have d0 := (hS1.2 0 _ rfl).1
                have d1 := (hS1.2 1 _ rfl).1
                have d2 := (hS1.2 2 _ rfl).1
                have d3 := (hS1.2 3 _ rfl).1
                have c0 := (hE1.2 0 _ rfl).1
                have f0 := (hE1.2 0 _ rfl).2
                have c1 := (hE1.2 1 _ rfl).1
                have f1 := (hE1.2 1 _ rfl).2
                have c2 := (hE1.2 2 _ rfl).1
                have f2 := (hE1.2 2 _ rfl).2
                have c3 := (hE1.2 3 _ rfl).1
                have f3 := (hE1.2 3 _ rfl).2
                have c4 := (hE1.2 4 _ rfl).1
                have f4 := (hE1.2 4 _ rfl).2
                have c5 := (hE1.2 5 _ rfl).1
                have f5 := (hE1.2 5 _ rfl).2
                have c6 := (hE1.2 6 _ rfl).1
                have f6 := (hE1.2 6 _ rfl).2
                have c7 := (hE1.2 7 _ rfl).1
                have f7 := (hE1.2 7 _ rfl).2
                have z0 := (hR1.2 0 _ rfl).1
                have y0 := (hR1.2 0 _ rfl).2
                have z1 := (hR1.2 1 _ rfl).1
                have y1 := (hR1.2 1 _ rfl).2
                have z2 := (hR1.2 2 _ rfl).1
                have y2 := (hR1.2 2 _ rfl).2
                have z3 := (hR1.2 3 _ rfl).1
                have y3 := (hR1.2 3 _ rfl).2
                have z4 := (hR1.2 4 _ rfl).1
                have y4 := (hR1.2 4 _ rfl).2
                have z5 := (hR1.2 5 _ rfl).1
                have y5 := (hR1.2 5 _ rfl).2
                have z6 := (hR1.2 6 _ rfl).1
                have y6 := (hR1.2 6 _ rfl).2
                have z7 := (hR1.2 7 _ rfl).1
                have y7 := (hR1.2 7 _ rfl).2
                have o0 := (hQ1.2 0 _ rfl).1
                have o1 := (hQ1.2 1 _ rfl).1
                clear hSv hEv hRv hTv hMv
                have dd0 := fun o => (((hS1).keep ((Turned.refl [] u1).alloc o) (by simp)).2 0 _ rfl).1
                have dd1 := fun o => (((hS1).keep ((Turned.refl [] u1).alloc o) (by simp)).2 1 _ rfl).1
                have dd2 := fun o => (((hS1).keep ((Turned.refl [] u1).alloc o) (by simp)).2 2 _ rfl).1
                have dd3 := fun o => (((hS1).keep ((Turned.refl [] u1).alloc o) (by simp)).2 3 _ rfl).1
                go_wp2_with fail
                obtain ⟨V2, hV2⟩ : ∃ V, V = u1.alloc (.cells #[.int .i64 ax, .int .i64 (ay + dy)] 28) := ⟨_, rfl⟩
                obtain ⟨O2, hO2⟩ : ∃ b, b = u1.heap.size := ⟨_, rfl⟩
                have hP2 : Struct O2 [.int .i64 ax, .int .i64 (ay + dy)] V2 := by
                  have h0 := Struct.new u1 [.int .i64 ax, .int .i64 (ay + dy)] 28
                  rw [← hO2] at h0
                  rw [hV2]; exact h0
                have aV := (Turned.refl [] u1).alloc (.cells #[.int .i64 ax, .int .i64 (ay + dy)] 28)
                rw [← hV2] at aV
                have hEv := (hE1).keep aV (by simp)
                have hRv := (hR1).keep aV (by simp)
                have hSv := (hS1).keep aV (by simp)
                have hTv := (hTu1).trans aV (by simp)
                have hMv := h.calm hTv
                rw [← hV2, ← hO2]
                clear hV2 hO2 aV d0 d1 d2 d3 dd0 dd1 dd2 dd3 c0 c1 c2 c3 c4 c5 c6 c7 f0 f1 f2 f3 f4 f5 f6 f7 z0 z1 z2 z3 z4 z5 z6 z7 y0 y1 y2 y3 y4 y5 y6 y7 o0 o1
                refine (ks2 _ hMv).mono ?_
                rintro r u2 ⟨rfl, HS2⟩
                have hS2 := hSv.keep HS2 (by simp)
                have hE2 := hEv.keep HS2 (by simp)
                have hR2 := hRv.keep HS2 (by simp)
                have hQ2 := hP2.keep HS2 (by simp)
                have hTu2 := hTv.trans HS2 (by simp)
                have d0 := (hS2.2 0 _ rfl).1
                have d1 := (hS2.2 1 _ rfl).1
                have d2 := (hS2.2 2 _ rfl).1
                have d3 := (hS2.2 3 _ rfl).1
                have c0 := (hE2.2 0 _ rfl).1
                have f0 := (hE2.2 0 _ rfl).2
                have c1 := (hE2.2 1 _ rfl).1
                have f1 := (hE2.2 1 _ rfl).2
                have c2 := (hE2.2 2 _ rfl).1
                have f2 := (hE2.2 2 _ rfl).2
                have c3 := (hE2.2 3 _ rfl).1
                have f3 := (hE2.2 3 _ rfl).2
                have c4 := (hE2.2 4 _ rfl).1
                have f4 := (hE2.2 4 _ rfl).2
                have c5 := (hE2.2 5 _ rfl).1
                have f5 := (hE2.2 5 _ rfl).2
                have c6 := (hE2.2 6 _ rfl).1
                have f6 := (hE2.2 6 _ rfl).2
                have c7 := (hE2.2 7 _ rfl).1
                have f7 := (hE2.2 7 _ rfl).2
                have z0 := (hR2.2 0 _ rfl).1
                have y0 := (hR2.2 0 _ rfl).2
                have z1 := (hR2.2 1 _ rfl).1
                have y1 := (hR2.2 1 _ rfl).2
                have z2 := (hR2.2 2 _ rfl).1
                have y2 := (hR2.2 2 _ rfl).2
                have z3 := (hR2.2 3 _ rfl).1
                have y3 := (hR2.2 3 _ rfl).2
                have z4 := (hR2.2 4 _ rfl).1
                have y4 := (hR2.2 4 _ rfl).2
                have z5 := (hR2.2 5 _ rfl).1
                have y5 := (hR2.2 5 _ rfl).2
                have z6 := (hR2.2 6 _ rfl).1
                have y6 := (hR2.2 6 _ rfl).2
                have z7 := (hR2.2 7 _ rfl).1
                have y7 := (hR2.2 7 _ rfl).2
                have o0 := (hQ2.2 0 _ rfl).1
                have o1 := (hQ2.2 1 _ rfl).1
                clear hSv hEv hRv hTv hMv
                go_wp2_with fail
                obtain ⟨W9, hW9⟩ : ∃ W9, W9 = put8 u2 D ⟨id, kind, ax, ay, dx, dy, hh, t⟩ := ⟨_, rfl⟩
                have hS9 : Struct D (enEnc ⟨id, kind, ax, ay, dx, dy, hh, t⟩) W9 := by rw [hW9]; exact set8 (e := zeroE) hR2 _
                have hT9 : Turned [] w W9 := by rw [hW9]; exact turned8 hTu2 (.inr hDw) _
                simp only [put8] at hW9
                rw [← hW9]
                have e0 := (hS9.2 0 _ rfl).1
                have e1 := (hS9.2 1 _ rfl).1
                have e2 := (hS9.2 2 _ rfl).1
                have e3 := (hS9.2 3 _ rfl).1
                have e4 := (hS9.2 4 _ rfl).1
                have e5 := (hS9.2 5 _ rfl).1
                have e6 := (hS9.2 6 _ rfl).1
                have e7 := (hS9.2 7 _ rfl).1
                simp only [enEnc] at e0 e1 e2 e3 e4 e5 e6 e7
                exact bodyPost_ret (v := enVal ⟨id, kind, ax, ay, dx, dy, hh, t⟩) (by simp [results, Try.results11, go_sem, e0, e1, e2, e3, e4, e5, e6, e7]) rfl ⟨by rw [HA.out], hT9⟩
              | true =>
                have ks1 := kst (ax + dx) ay
                rw [hs1] at ks1
                have ks2 := kst ax (ay + dy)
                rw [hs2] at ks2
                have HA : Hid (Mv.walk m ⟨id, kind, ax, ay, vx, vy, hh, t⟩ mx my = ⟨id, kind, ax, ay + dy, dx, dy, hh, t⟩) := by
                  show _ = _
                  simp only [Mv.walk, hwk, if_true, Mv.stepped, ← hdx, ← hdy, Mv.goX, Mv.goY, hs1, hs2, Bool.false_eq_true, if_false]
                clear hs1 hs2 hfb kst hdx hdy
                go_enter Try.func11, Try.ntmps11
                go_wp2_with fail
                rw [← hW0, ← hD, ← hC, ← hB]
                clear hW0 hD hC hB
                go_wp2_with (first | (go_at_call 21; (with_reducible refine (kfm _).mono ?_); rintro r u0 ⟨rfl, HT0⟩; have hS0 := hS.keep HT0 (by simp); have hE0 := hE.keep HT0 (by simp); have hR0 := hR.keep HT0 (by simp); have d0 := (hS0.2 0 _ rfl).1; have d1 := (hS0.2 1 _ rfl).1; have d2 := (hS0.2 2 _ rfl).1; have d3 := (hS0.2 3 _ rfl).1; have c0 := (hE0.2 0 _ rfl).1; have f0 := (hE0.2 0 _ rfl).2; have c1 := (hE0.2 1 _ rfl).1; have f1 := (hE0.2 1 _ rfl).2; have c2 := (hE0.2 2 _ rfl).1; have f2 := (hE0.2 2 _ rfl).2; have c3 := (hE0.2 3 _ rfl).1; have f3 := (hE0.2 3 _ rfl).2; have c4 := (hE0.2 4 _ rfl).1; have f4 := (hE0.2 4 _ rfl).2; have c5 := (hE0.2 5 _ rfl).1; have f5 := (hE0.2 5 _ rfl).2; have c6 := (hE0.2 6 _ rfl).1; have f6 := (hE0.2 6 _ rfl).2; have c7 := (hE0.2 7 _ rfl).1; have f7 := (hE0.2 7 _ rfl).2; have z0 := (hR0.2 0 _ rfl).1; have y0 := (hR0.2 0 _ rfl).2; have z1 := (hR0.2 1 _ rfl).1; have y1 := (hR0.2 1 _ rfl).2; have z2 := (hR0.2 2 _ rfl).1; have y2 := (hR0.2 2 _ rfl).2; have z3 := (hR0.2 3 _ rfl).1; have y3 := (hR0.2 3 _ rfl).2; have z4 := (hR0.2 4 _ rfl).1; have y4 := (hR0.2 4 _ rfl).2; have z5 := (hR0.2 5 _ rfl).1; have y5 := (hR0.2 5 _ rfl).2; have z6 := (hR0.2 6 _ rfl).1; have y6 := (hR0.2 6 _ rfl).2; have z7 := (hR0.2 7 _ rfl).1; have y7 := (hR0.2 7 _ rfl).2; have dd0 := fun o => (((((((hS0).keep ((Turned.refl [C] _).setCell (p := ⟨C, 4, none⟩) (.inl (by simp)) _) (by simpa using nBC))).keep ((Turned.refl [C] _).setCell (p := ⟨C, 5, none⟩) (.inl (by simp)) _) (by simpa using nBC))).keep ((Turned.refl [] ((u0.setCell ⟨C, 4, none⟩ (.int .i64 dx)).setCell ⟨C, 5, none⟩ (.int .i64 dy))).alloc o) (by simp)).2 0 _ rfl).1; have dd1 := fun o => (((((((hS0).keep ((Turned.refl [C] _).setCell (p := ⟨C, 4, none⟩) (.inl (by simp)) _) (by simpa using nBC))).keep ((Turned.refl [C] _).setCell (p := ⟨C, 5, none⟩) (.inl (by simp)) _) (by simpa using nBC))).keep ((Turned.refl [] ((u0.setCell ⟨C, 4, none⟩ (.int .i64 dx)).setCell ⟨C, 5, none⟩ (.int .i64 dy))).alloc o) (by simp)).2 1 _ rfl).1; have dd2 := fun o => (((((((hS0).keep ((Turned.refl [C] _).setCell (p := ⟨C, 4, none⟩) (.inl (by simp)) _) (by simpa using nBC))).keep ((Turned.refl [C] _).setCell (p := ⟨C, 5, none⟩) (.inl (by simp)) _) (by simpa using nBC))).keep ((Turned.refl [] ((u0.setCell ⟨C, 4, none⟩ (.int .i64 dx)).setCell ⟨C, 5, none⟩ (.int .i64 dy))).alloc o) (by simp)).2 2 _ rfl).1; have dd3 := fun o => (((((((hS0).keep ((Turned.refl [C] _).setCell (p := ⟨C, 4, none⟩) (.inl (by simp)) _) (by simpa using nBC))).keep ((Turned.refl [C] _).setCell (p := ⟨C, 5, none⟩) (.inl (by simp)) _) (by simpa using nBC))).keep ((Turned.refl [] ((u0.setCell ⟨C, 4, none⟩ (.int .i64 dx)).setCell ⟨C, 5, none⟩ (.int .i64 dy))).alloc o) (by simp)).2 3 _ rfl).1) | (go_at_call 22; (with_reducible refine (kd1 _).mono ?_); rintro r w9 ⟨rfl, hw9⟩; rw [hw9]; clear hw9 w9) | (go_at_call 22; (with_reducible refine (kd2 _).mono ?_); rintro r w9 ⟨rfl, hw9⟩; rw [hw9]; clear hw9 w9))
                have hTu0 := hT.trans HT0 (by simp)
                obtain ⟨V1, hV1⟩ : ∃ V, V = ((u0.setCell ⟨C, 4, none⟩ (.int .i64 dx)).setCell ⟨C, 5, none⟩ (.int .i64 dy)).alloc (.cells #[.int .i64 (ax + dx), .int .i64 ay] 28) := ⟨_, rfl⟩
                obtain ⟨O1, hO1⟩ : ∃ b, b = u0.heap.size := ⟨_, rfl⟩
                have hP1 : Struct O1 [.int .i64 (ax + dx), .int .i64 ay] V1 := by
                  have h0 := Struct.new ((u0.setCell ⟨C, 4, none⟩ (.int .i64 dx)).setCell ⟨C, 5, none⟩ (.int .i64 dy)) [.int .i64 (ax + dx), .int .i64 ay] 28
                  rw [show ((u0.setCell ⟨C, 4, none⟩ (.int .i64 dx)).setCell ⟨C, 5, none⟩ (.int .i64 dy)).heap.size = u0.heap.size by simp, ← hO1] at h0
                  rw [hV1]; exact h0
                have aV := (Turned.refl [] ((u0.setCell ⟨C, 4, none⟩ (.int .i64 dx)).setCell ⟨C, 5, none⟩ (.int .i64 dy))).alloc (.cells #[.int .i64 (ax + dx), .int .i64 ay] 28)
                rw [← hV1] at aV
                have hEv := (((((hE0).set (i := 4) (by simp) _)).set (i := 5) (by simp) _)).keep aV (by simp)
                have hRv := (((((hR0).keep ((Turned.refl [C] _).setCell (p := ⟨C, 4, none⟩) (.inl (by simp)) _) (by simpa using nCD.symm))).keep ((Turned.refl [C] _).setCell (p := ⟨C, 5, none⟩) (.inl (by simp)) _) (by simpa using nCD.symm))).keep aV (by simp)
                have hSv := (((((hS0).keep ((Turned.refl [C] _).setCell (p := ⟨C, 4, none⟩) (.inl (by simp)) _) (by simpa using nBC))).keep ((Turned.refl [C] _).setCell (p := ⟨C, 5, none⟩) (.inl (by simp)) _) (by simpa using nBC))).keep aV (by simp)
                have hTv := (((((hTu0).setCell (p := ⟨C, 4, none⟩) (.inr hCw) _)).setCell (p := ⟨C, 5, none⟩) (.inr hCw) _)).trans aV (by simp)
                have hMv := h.calm hTv
                rw [← hV1, ← hO1]
                clear hV1 hO1 aV d0 d1 d2 d3 dd0 dd1 dd2 dd3 c0 c1 c2 c3 c4 c5 c6 c7 f0 f1 f2 f3 f4 f5 f6 f7 z0 z1 z2 z3 z4 z5 z6 z7 y0 y1 y2 y3 y4 y5 y6 y7
                refine (ks1 _ hMv).mono ?_
                rintro r u1 ⟨rfl, HS1⟩
                have hS1 := hSv.keep HS1 (by simp)
                have hE1 := hEv.keep HS1 (by simp)
                have hR1 := hRv.keep HS1 (by simp)
                have hQ1 := hP1.keep HS1 (by simp)
                have hTu1 := hTv.trans HS1 (by simp)
                have d0 := (hS1.2 0 _ rfl).1
                have d1 := (hS1.2 1 _ rfl).1
                have d2 := (hS1.2 2 _ rfl).1
                have d3 := (hS1.2 3 _ rfl).1
                have c0 := (hE1.2 0 _ rfl).1
                have f0 := (hE1.2 0 _ rfl).2
                have c1 := (hE1.2 1 _ rfl).1
                have f1 := (hE1.2 1 _ rfl).2
                have c2 := (hE1.2 2 _ rfl).1
                have f2 := (hE1.2 2 _ rfl).2
                have c3 := (hE1.2 3 _ rfl).1
                have f3 := (hE1.2 3 _ rfl).2
                have c4 := (hE1.2 4 _ rfl).1
                have f4 := (hE1.2 4 _ rfl).2
                have c5 := (hE1.2 5 _ rfl).1
                have f5 := (hE1.2 5 _ rfl).2
                have c6 := (hE1.2 6 _ rfl).1
                have f6 := (hE1.2 6 _ rfl).2
                have c7 := (hE1.2 7 _ rfl).1
                have f7 := (hE1.2 7 _ rfl).2
                have z0 := (hR1.2 0 _ rfl).1
                have y0 := (hR1.2 0 _ rfl).2
                have z1 := (hR1.2 1 _ rfl).1
                have y1 := (hR1.2 1 _ rfl).2
                have z2 := (hR1.2 2 _ rfl).1
                have y2 := (hR1.2 2 _ rfl).2
                have z3 := (hR1.2 3 _ rfl).1
                have y3 := (hR1.2 3 _ rfl).2
                have z4 := (hR1.2 4 _ rfl).1
                have y4 := (hR1.2 4 _ rfl).2
                have z5 := (hR1.2 5 _ rfl).1
                have y5 := (hR1.2 5 _ rfl).2
                have z6 := (hR1.2 6 _ rfl).1
                have y6 := (hR1.2 6 _ rfl).2
                have z7 := (hR1.2 7 _ rfl).1
                have y7 := (hR1.2 7 _ rfl).2
                have o0 := (hQ1.2 0 _ rfl).1
                have o1 := (hQ1.2 1 _ rfl).1
                clear hSv hEv hRv hTv hMv
                have dd0 := fun o => (((hS1).keep ((Turned.refl [] u1).alloc o) (by simp)).2 0 _ rfl).1
                have dd1 := fun o => (((hS1).keep ((Turned.refl [] u1).alloc o) (by simp)).2 1 _ rfl).1
                have dd2 := fun o => (((hS1).keep ((Turned.refl [] u1).alloc o) (by simp)).2 2 _ rfl).1
                have dd3 := fun o => (((hS1).keep ((Turned.refl [] u1).alloc o) (by simp)).2 3 _ rfl).1
                go_wp2_with fail
                obtain ⟨V2, hV2⟩ : ∃ V, V = u1.alloc (.cells #[.int .i64 ax, .int .i64 (ay + dy)] 28) := ⟨_, rfl⟩
                obtain ⟨O2, hO2⟩ : ∃ b, b = u1.heap.size := ⟨_, rfl⟩
                have hP2 : Struct O2 [.int .i64 ax, .int .i64 (ay + dy)] V2 := by
                  have h0 := Struct.new u1 [.int .i64 ax, .int .i64 (ay + dy)] 28
                  rw [← hO2] at h0
                  rw [hV2]; exact h0
                have aV := (Turned.refl [] u1).alloc (.cells #[.int .i64 ax, .int .i64 (ay + dy)] 28)
                rw [← hV2] at aV
                have hEv := (hE1).keep aV (by simp)
                have hRv := (hR1).keep aV (by simp)
                have hSv := (hS1).keep aV (by simp)
                have hTv := (hTu1).trans aV (by simp)
                have hMv := h.calm hTv
                rw [← hV2, ← hO2]
                clear hV2 hO2 aV d0 d1 d2 d3 dd0 dd1 dd2 dd3 c0 c1 c2 c3 c4 c5 c6 c7 f0 f1 f2 f3 f4 f5 f6 f7 z0 z1 z2 z3 z4 z5 z6 z7 y0 y1 y2 y3 y4 y5 y6 y7 o0 o1
                refine (ks2 _ hMv).mono ?_
                rintro r u2 ⟨rfl, HS2⟩
                have hS2 := hSv.keep HS2 (by simp)
                have hE2 := hEv.keep HS2 (by simp)
                have hR2 := hRv.keep HS2 (by simp)
                have hQ2 := hP2.keep HS2 (by simp)
                have hTu2 := hTv.trans HS2 (by simp)
                have d0 := (hS2.2 0 _ rfl).1
                have d1 := (hS2.2 1 _ rfl).1
                have d2 := (hS2.2 2 _ rfl).1
                have d3 := (hS2.2 3 _ rfl).1
                have c0 := (hE2.2 0 _ rfl).1
                have f0 := (hE2.2 0 _ rfl).2
                have c1 := (hE2.2 1 _ rfl).1
                have f1 := (hE2.2 1 _ rfl).2
                have c2 := (hE2.2 2 _ rfl).1
                have f2 := (hE2.2 2 _ rfl).2
                have c3 := (hE2.2 3 _ rfl).1
                have f3 := (hE2.2 3 _ rfl).2
                have c4 := (hE2.2 4 _ rfl).1
                have f4 := (hE2.2 4 _ rfl).2
                have c5 := (hE2.2 5 _ rfl).1
                have f5 := (hE2.2 5 _ rfl).2
                have c6 := (hE2.2 6 _ rfl).1
                have f6 := (hE2.2 6 _ rfl).2
                have c7 := (hE2.2 7 _ rfl).1
                have f7 := (hE2.2 7 _ rfl).2
                have z0 := (hR2.2 0 _ rfl).1
                have y0 := (hR2.2 0 _ rfl).2
                have z1 := (hR2.2 1 _ rfl).1
                have y1 := (hR2.2 1 _ rfl).2
                have z2 := (hR2.2 2 _ rfl).1
                have y2 := (hR2.2 2 _ rfl).2
                have z3 := (hR2.2 3 _ rfl).1
                have y3 := (hR2.2 3 _ rfl).2
                have z4 := (hR2.2 4 _ rfl).1
                have y4 := (hR2.2 4 _ rfl).2
                have z5 := (hR2.2 5 _ rfl).1
                have y5 := (hR2.2 5 _ rfl).2
                have z6 := (hR2.2 6 _ rfl).1
                have y6 := (hR2.2 6 _ rfl).2
                have z7 := (hR2.2 7 _ rfl).1
                have y7 := (hR2.2 7 _ rfl).2
                have o0 := (hQ2.2 0 _ rfl).1
                have o1 := (hQ2.2 1 _ rfl).1
                clear hSv hEv hRv hTv hMv
                go_wp2_with fail
                obtain ⟨W9, hW9⟩ : ∃ W9, W9 = put8 ((u2.setCell ⟨C, 2, none⟩ (.int .i64 ax)).setCell ⟨C, 3, none⟩ (.int .i64 (ay + dy))) D ⟨id, kind, ax, ay + dy, dx, dy, hh, t⟩ := ⟨_, rfl⟩
                have hS9 : Struct D (enEnc ⟨id, kind, ax, ay + dy, dx, dy, hh, t⟩) W9 := by rw [hW9]; exact set8 (e := zeroE) ((((hR2).keep ((Turned.refl [C] _).setCell (p := ⟨C, 2, none⟩) (.inl (by simp)) _) (by simpa using nCD.symm))).keep ((Turned.refl [C] _).setCell (p := ⟨C, 3, none⟩) (.inl (by simp)) _) (by simpa using nCD.symm)) _
                have hT9 : Turned [] w W9 := by rw [hW9]; exact turned8 ((((hTu2).setCell (p := ⟨C, 2, none⟩) (.inr hCw) _)).setCell (p := ⟨C, 3, none⟩) (.inr hCw) _) (.inr hDw) _
                simp only [put8] at hW9
                rw [← hW9]
                have e0 := (hS9.2 0 _ rfl).1
                have e1 := (hS9.2 1 _ rfl).1
                have e2 := (hS9.2 2 _ rfl).1
                have e3 := (hS9.2 3 _ rfl).1
                have e4 := (hS9.2 4 _ rfl).1
                have e5 := (hS9.2 5 _ rfl).1
                have e6 := (hS9.2 6 _ rfl).1
                have e7 := (hS9.2 7 _ rfl).1
                simp only [enEnc] at e0 e1 e2 e3 e4 e5 e6 e7
                exact bodyPost_ret (v := enVal ⟨id, kind, ax, ay + dy, dx, dy, hh, t⟩) (by simp [results, Try.results11, go_sem, e0, e1, e2, e3, e4, e5, e6, e7]) rfl ⟨by rw [HA.out], hT9⟩
            | true =>
              cases hs2 : Mv.stands m (ax + dx) (ay + dy) with
              | false =>
                have ks1 := kst (ax + dx) ay
                rw [hs1] at ks1
                have ks2 := kst (ax + dx) (ay + dy)
                rw [hs2] at ks2
                have HA : Hid (Mv.walk m ⟨id, kind, ax, ay, vx, vy, hh, t⟩ mx my = ⟨id, kind, ax + dx, ay, dx, dy, hh, t⟩) := by
                  show _ = _
                  simp only [Mv.walk, hwk, if_true, Mv.stepped, ← hdx, ← hdy, Mv.goX, Mv.goY, hs1, hs2, Bool.false_eq_true, if_false]
                clear hs1 hs2 hfb kst hdx hdy
                go_enter Try.func11, Try.ntmps11
                go_wp2_with fail
                rw [← hW0, ← hD, ← hC, ← hB]
                clear hW0 hD hC hB
                go_wp2_with (first | (go_at_call 21; (with_reducible refine (kfm _).mono ?_); rintro r u0 ⟨rfl, HT0⟩; have hS0 := hS.keep HT0 (by simp); have hE0 := hE.keep HT0 (by simp); have hR0 := hR.keep HT0 (by simp); have d0 := (hS0.2 0 _ rfl).1; have d1 := (hS0.2 1 _ rfl).1; have d2 := (hS0.2 2 _ rfl).1; have d3 := (hS0.2 3 _ rfl).1; have c0 := (hE0.2 0 _ rfl).1; have f0 := (hE0.2 0 _ rfl).2; have c1 := (hE0.2 1 _ rfl).1; have f1 := (hE0.2 1 _ rfl).2; have c2 := (hE0.2 2 _ rfl).1; have f2 := (hE0.2 2 _ rfl).2; have c3 := (hE0.2 3 _ rfl).1; have f3 := (hE0.2 3 _ rfl).2; have c4 := (hE0.2 4 _ rfl).1; have f4 := (hE0.2 4 _ rfl).2; have c5 := (hE0.2 5 _ rfl).1; have f5 := (hE0.2 5 _ rfl).2; have c6 := (hE0.2 6 _ rfl).1; have f6 := (hE0.2 6 _ rfl).2; have c7 := (hE0.2 7 _ rfl).1; have f7 := (hE0.2 7 _ rfl).2; have z0 := (hR0.2 0 _ rfl).1; have y0 := (hR0.2 0 _ rfl).2; have z1 := (hR0.2 1 _ rfl).1; have y1 := (hR0.2 1 _ rfl).2; have z2 := (hR0.2 2 _ rfl).1; have y2 := (hR0.2 2 _ rfl).2; have z3 := (hR0.2 3 _ rfl).1; have y3 := (hR0.2 3 _ rfl).2; have z4 := (hR0.2 4 _ rfl).1; have y4 := (hR0.2 4 _ rfl).2; have z5 := (hR0.2 5 _ rfl).1; have y5 := (hR0.2 5 _ rfl).2; have z6 := (hR0.2 6 _ rfl).1; have y6 := (hR0.2 6 _ rfl).2; have z7 := (hR0.2 7 _ rfl).1; have y7 := (hR0.2 7 _ rfl).2; have dd0 := fun o => (((((((hS0).keep ((Turned.refl [C] _).setCell (p := ⟨C, 4, none⟩) (.inl (by simp)) _) (by simpa using nBC))).keep ((Turned.refl [C] _).setCell (p := ⟨C, 5, none⟩) (.inl (by simp)) _) (by simpa using nBC))).keep ((Turned.refl [] ((u0.setCell ⟨C, 4, none⟩ (.int .i64 dx)).setCell ⟨C, 5, none⟩ (.int .i64 dy))).alloc o) (by simp)).2 0 _ rfl).1; have dd1 := fun o => (((((((hS0).keep ((Turned.refl [C] _).setCell (p := ⟨C, 4, none⟩) (.inl (by simp)) _) (by simpa using nBC))).keep ((Turned.refl [C] _).setCell (p := ⟨C, 5, none⟩) (.inl (by simp)) _) (by simpa using nBC))).keep ((Turned.refl [] ((u0.setCell ⟨C, 4, none⟩ (.int .i64 dx)).setCell ⟨C, 5, none⟩ (.int .i64 dy))).alloc o) (by simp)).2 1 _ rfl).1; have dd2 := fun o => (((((((hS0).keep ((Turned.refl [C] _).setCell (p := ⟨C, 4, none⟩) (.inl (by simp)) _) (by simpa using nBC))).keep ((Turned.refl [C] _).setCell (p := ⟨C, 5, none⟩) (.inl (by simp)) _) (by simpa using nBC))).keep ((Turned.refl [] ((u0.setCell ⟨C, 4, none⟩ (.int .i64 dx)).setCell ⟨C, 5, none⟩ (.int .i64 dy))).alloc o) (by simp)).2 2 _ rfl).1; have dd3 := fun o => (((((((hS0).keep ((Turned.refl [C] _).setCell (p := ⟨C, 4, none⟩) (.inl (by simp)) _) (by simpa using nBC))).keep ((Turned.refl [C] _).setCell (p := ⟨C, 5, none⟩) (.inl (by simp)) _) (by simpa using nBC))).keep ((Turned.refl [] ((u0.setCell ⟨C, 4, none⟩ (.int .i64 dx)).setCell ⟨C, 5, none⟩ (.int .i64 dy))).alloc o) (by simp)).2 3 _ rfl).1) | (go_at_call 22; (with_reducible refine (kd1 _).mono ?_); rintro r w9 ⟨rfl, hw9⟩; rw [hw9]; clear hw9 w9) | (go_at_call 22; (with_reducible refine (kd2 _).mono ?_); rintro r w9 ⟨rfl, hw9⟩; rw [hw9]; clear hw9 w9))
                have hTu0 := hT.trans HT0 (by simp)
                obtain ⟨V1, hV1⟩ : ∃ V, V = ((u0.setCell ⟨C, 4, none⟩ (.int .i64 dx)).setCell ⟨C, 5, none⟩ (.int .i64 dy)).alloc (.cells #[.int .i64 (ax + dx), .int .i64 ay] 28) := ⟨_, rfl⟩
                obtain ⟨O1, hO1⟩ : ∃ b, b = u0.heap.size := ⟨_, rfl⟩
                have hP1 : Struct O1 [.int .i64 (ax + dx), .int .i64 ay] V1 := by
                  have h0 := Struct.new ((u0.setCell ⟨C, 4, none⟩ (.int .i64 dx)).setCell ⟨C, 5, none⟩ (.int .i64 dy)) [.int .i64 (ax + dx), .int .i64 ay] 28
                  rw [show ((u0.setCell ⟨C, 4, none⟩ (.int .i64 dx)).setCell ⟨C, 5, none⟩ (.int .i64 dy)).heap.size = u0.heap.size by simp, ← hO1] at h0
                  rw [hV1]; exact h0
                have aV := (Turned.refl [] ((u0.setCell ⟨C, 4, none⟩ (.int .i64 dx)).setCell ⟨C, 5, none⟩ (.int .i64 dy))).alloc (.cells #[.int .i64 (ax + dx), .int .i64 ay] 28)
                rw [← hV1] at aV
                have hEv := (((((hE0).set (i := 4) (by simp) _)).set (i := 5) (by simp) _)).keep aV (by simp)
                have hRv := (((((hR0).keep ((Turned.refl [C] _).setCell (p := ⟨C, 4, none⟩) (.inl (by simp)) _) (by simpa using nCD.symm))).keep ((Turned.refl [C] _).setCell (p := ⟨C, 5, none⟩) (.inl (by simp)) _) (by simpa using nCD.symm))).keep aV (by simp)
                have hSv := (((((hS0).keep ((Turned.refl [C] _).setCell (p := ⟨C, 4, none⟩) (.inl (by simp)) _) (by simpa using nBC))).keep ((Turned.refl [C] _).setCell (p := ⟨C, 5, none⟩) (.inl (by simp)) _) (by simpa using nBC))).keep aV (by simp)
                have hTv := (((((hTu0).setCell (p := ⟨C, 4, none⟩) (.inr hCw) _)).setCell (p := ⟨C, 5, none⟩) (.inr hCw) _)).trans aV (by simp)
                have hMv := h.calm hTv
                rw [← hV1, ← hO1]
                clear hV1 hO1 aV d0 d1 d2 d3 dd0 dd1 dd2 dd3 c0 c1 c2 c3 c4 c5 c6 c7 f0 f1 f2 f3 f4 f5 f6 f7 z0 z1 z2 z3 z4 z5 z6 z7 y0 y1 y2 y3 y4 y5 y6 y7
                refine (ks1 _ hMv).mono ?_
                rintro r u1 ⟨rfl, HS1⟩
                have hS1 := hSv.keep HS1 (by simp)
                have hE1 := hEv.keep HS1 (by simp)
                have hR1 := hRv.keep HS1 (by simp)
                have hQ1 := hP1.keep HS1 (by simp)
                have hTu1 := hTv.trans HS1 (by simp)
                have d0 := (hS1.2 0 _ rfl).1
                have d1 := (hS1.2 1 _ rfl).1
                have d2 := (hS1.2 2 _ rfl).1
                have d3 := (hS1.2 3 _ rfl).1
                have c0 := (hE1.2 0 _ rfl).1
                have f0 := (hE1.2 0 _ rfl).2
                have c1 := (hE1.2 1 _ rfl).1
                have f1 := (hE1.2 1 _ rfl).2
                have c2 := (hE1.2 2 _ rfl).1
                have f2 := (hE1.2 2 _ rfl).2
                have c3 := (hE1.2 3 _ rfl).1
                have f3 := (hE1.2 3 _ rfl).2
                have c4 := (hE1.2 4 _ rfl).1
                have f4 := (hE1.2 4 _ rfl).2
                have c5 := (hE1.2 5 _ rfl).1
                have f5 := (hE1.2 5 _ rfl).2
                have c6 := (hE1.2 6 _ rfl).1
                have f6 := (hE1.2 6 _ rfl).2
                have c7 := (hE1.2 7 _ rfl).1
                have f7 := (hE1.2 7 _ rfl).2
                have z0 := (hR1.2 0 _ rfl).1
                have y0 := (hR1.2 0 _ rfl).2
                have z1 := (hR1.2 1 _ rfl).1
                have y1 := (hR1.2 1 _ rfl).2
                have z2 := (hR1.2 2 _ rfl).1
                have y2 := (hR1.2 2 _ rfl).2
                have z3 := (hR1.2 3 _ rfl).1
                have y3 := (hR1.2 3 _ rfl).2
                have z4 := (hR1.2 4 _ rfl).1
                have y4 := (hR1.2 4 _ rfl).2
                have z5 := (hR1.2 5 _ rfl).1
                have y5 := (hR1.2 5 _ rfl).2
                have z6 := (hR1.2 6 _ rfl).1
                have y6 := (hR1.2 6 _ rfl).2
                have z7 := (hR1.2 7 _ rfl).1
                have y7 := (hR1.2 7 _ rfl).2
                have o0 := (hQ1.2 0 _ rfl).1
                have o1 := (hQ1.2 1 _ rfl).1
                clear hSv hEv hRv hTv hMv
                have dd0 := fun o => (((((((hS1).keep ((Turned.refl [C] _).setCell (p := ⟨C, 2, none⟩) (.inl (by simp)) _) (by simpa using nBC))).keep ((Turned.refl [C] _).setCell (p := ⟨C, 3, none⟩) (.inl (by simp)) _) (by simpa using nBC))).keep ((Turned.refl [] ((u1.setCell ⟨C, 2, none⟩ (.int .i64 (ax + dx))).setCell ⟨C, 3, none⟩ (.int .i64 ay))).alloc o) (by simp)).2 0 _ rfl).1
                have dd1 := fun o => (((((((hS1).keep ((Turned.refl [C] _).setCell (p := ⟨C, 2, none⟩) (.inl (by simp)) _) (by simpa using nBC))).keep ((Turned.refl [C] _).setCell (p := ⟨C, 3, none⟩) (.inl (by simp)) _) (by simpa using nBC))).keep ((Turned.refl [] ((u1.setCell ⟨C, 2, none⟩ (.int .i64 (ax + dx))).setCell ⟨C, 3, none⟩ (.int .i64 ay))).alloc o) (by simp)).2 1 _ rfl).1
                have dd2 := fun o => (((((((hS1).keep ((Turned.refl [C] _).setCell (p := ⟨C, 2, none⟩) (.inl (by simp)) _) (by simpa using nBC))).keep ((Turned.refl [C] _).setCell (p := ⟨C, 3, none⟩) (.inl (by simp)) _) (by simpa using nBC))).keep ((Turned.refl [] ((u1.setCell ⟨C, 2, none⟩ (.int .i64 (ax + dx))).setCell ⟨C, 3, none⟩ (.int .i64 ay))).alloc o) (by simp)).2 2 _ rfl).1
                have dd3 := fun o => (((((((hS1).keep ((Turned.refl [C] _).setCell (p := ⟨C, 2, none⟩) (.inl (by simp)) _) (by simpa using nBC))).keep ((Turned.refl [C] _).setCell (p := ⟨C, 3, none⟩) (.inl (by simp)) _) (by simpa using nBC))).keep ((Turned.refl [] ((u1.setCell ⟨C, 2, none⟩ (.int .i64 (ax + dx))).setCell ⟨C, 3, none⟩ (.int .i64 ay))).alloc o) (by simp)).2 3 _ rfl).1
                go_wp2_with fail
                obtain ⟨V2, hV2⟩ : ∃ V, V = ((u1.setCell ⟨C, 2, none⟩ (.int .i64 (ax + dx))).setCell ⟨C, 3, none⟩ (.int .i64 ay)).alloc (.cells #[.int .i64 (ax + dx), .int .i64 (ay + dy)] 28) := ⟨_, rfl⟩
                obtain ⟨O2, hO2⟩ : ∃ b, b = u1.heap.size := ⟨_, rfl⟩
                have hP2 : Struct O2 [.int .i64 (ax + dx), .int .i64 (ay + dy)] V2 := by
                  have h0 := Struct.new ((u1.setCell ⟨C, 2, none⟩ (.int .i64 (ax + dx))).setCell ⟨C, 3, none⟩ (.int .i64 ay)) [.int .i64 (ax + dx), .int .i64 (ay + dy)] 28
                  rw [show ((u1.setCell ⟨C, 2, none⟩ (.int .i64 (ax + dx))).setCell ⟨C, 3, none⟩ (.int .i64 ay)).heap.size = u1.heap.size by simp, ← hO2] at h0
                  rw [hV2]; exact h0
                have aV := (Turned.refl [] ((u1.setCell ⟨C, 2, none⟩ (.int .i64 (ax + dx))).setCell ⟨C, 3, none⟩ (.int .i64 ay))).alloc (.cells #[.int .i64 (ax + dx), .int .i64 (ay + dy)] 28)
                rw [← hV2] at aV
                have hEv := (((((hE1).set (i := 2) (by simp) _)).set (i := 3) (by simp) _)).keep aV (by simp)
                have hRv := (((((hR1).keep ((Turned.refl [C] _).setCell (p := ⟨C, 2, none⟩) (.inl (by simp)) _) (by simpa using nCD.symm))).keep ((Turned.refl [C] _).setCell (p := ⟨C, 3, none⟩) (.inl (by simp)) _) (by simpa using nCD.symm))).keep aV (by simp)
                have hSv := (((((hS1).keep ((Turned.refl [C] _).setCell (p := ⟨C, 2, none⟩) (.inl (by simp)) _) (by simpa using nBC))).keep ((Turned.refl [C] _).setCell (p := ⟨C, 3, none⟩) (.inl (by simp)) _) (by simpa using nBC))).keep aV (by simp)
                have hTv := (((((hTu1).setCell (p := ⟨C, 2, none⟩) (.inr hCw) _)).setCell (p := ⟨C, 3, none⟩) (.inr hCw) _)).trans aV (by simp)
                have hMv := h.calm hTv
                rw [← hV2, ← hO2]
                clear hV2 hO2 aV d0 d1 d2 d3 dd0 dd1 dd2 dd3 c0 c1 c2 c3 c4 c5 c6 c7 f0 f1 f2 f3 f4 f5 f6 f7 z0 z1 z2 z3 z4 z5 z6 z7 y0 y1 y2 y3 y4 y5 y6 y7 o0 o1
                refine (ks2 _ hMv).mono ?_
                rintro r u2 ⟨rfl, HS2⟩
                have hS2 := hSv.keep HS2 (by simp)
                have hE2 := hEv.keep HS2 (by simp)
                have hR2 := hRv.keep HS2 (by simp)
                have hQ2 := hP2.keep HS2 (by simp)
                have hTu2 := hTv.trans HS2 (by simp)
                have d0 := (hS2.2 0 _ rfl).1
                have d1 := (hS2.2 1 _ rfl).1
                have d2 := (hS2.2 2 _ rfl).1
                have d3 := (hS2.2 3 _ rfl).1
                have c0 := (hE2.2 0 _ rfl).1
                have f0 := (hE2.2 0 _ rfl).2
                have c1 := (hE2.2 1 _ rfl).1
                have f1 := (hE2.2 1 _ rfl).2
                have c2 := (hE2.2 2 _ rfl).1
                have f2 := (hE2.2 2 _ rfl).2
                have c3 := (hE2.2 3 _ rfl).1
                have f3 := (hE2.2 3 _ rfl).2
                have c4 := (hE2.2 4 _ rfl).1
                have f4 := (hE2.2 4 _ rfl).2
                have c5 := (hE2.2 5 _ rfl).1
                have f5 := (hE2.2 5 _ rfl).2
                have c6 := (hE2.2 6 _ rfl).1
                have f6 := (hE2.2 6 _ rfl).2
                have c7 := (hE2.2 7 _ rfl).1
                have f7 := (hE2.2 7 _ rfl).2
                have z0 := (hR2.2 0 _ rfl).1
                have y0 := (hR2.2 0 _ rfl).2
                have z1 := (hR2.2 1 _ rfl).1
                have y1 := (hR2.2 1 _ rfl).2
                have z2 := (hR2.2 2 _ rfl).1
                have y2 := (hR2.2 2 _ rfl).2
                have z3 := (hR2.2 3 _ rfl).1
                have y3 := (hR2.2 3 _ rfl).2
                have z4 := (hR2.2 4 _ rfl).1
                have y4 := (hR2.2 4 _ rfl).2
                have z5 := (hR2.2 5 _ rfl).1
                have y5 := (hR2.2 5 _ rfl).2
                have z6 := (hR2.2 6 _ rfl).1
                have y6 := (hR2.2 6 _ rfl).2
                have z7 := (hR2.2 7 _ rfl).1
                have y7 := (hR2.2 7 _ rfl).2
                have o0 := (hQ2.2 0 _ rfl).1
                have o1 := (hQ2.2 1 _ rfl).1
                clear hSv hEv hRv hTv hMv
                go_wp2_with fail
                obtain ⟨W9, hW9⟩ : ∃ W9, W9 = put8 u2 D ⟨id, kind, ax + dx, ay, dx, dy, hh, t⟩ := ⟨_, rfl⟩
                have hS9 : Struct D (enEnc ⟨id, kind, ax + dx, ay, dx, dy, hh, t⟩) W9 := by rw [hW9]; exact set8 (e := zeroE) hR2 _
                have hT9 : Turned [] w W9 := by rw [hW9]; exact turned8 hTu2 (.inr hDw) _
                simp only [put8] at hW9
                rw [← hW9]
                have e0 := (hS9.2 0 _ rfl).1
                have e1 := (hS9.2 1 _ rfl).1
                have e2 := (hS9.2 2 _ rfl).1
                have e3 := (hS9.2 3 _ rfl).1
                have e4 := (hS9.2 4 _ rfl).1
                have e5 := (hS9.2 5 _ rfl).1
                have e6 := (hS9.2 6 _ rfl).1
                have e7 := (hS9.2 7 _ rfl).1
                simp only [enEnc] at e0 e1 e2 e3 e4 e5 e6 e7
                exact bodyPost_ret (v := enVal ⟨id, kind, ax + dx, ay, dx, dy, hh, t⟩) (by simp [results, Try.results11, go_sem, e0, e1, e2, e3, e4, e5, e6, e7]) rfl ⟨by rw [HA.out], hT9⟩
              | true =>
                have ks1 := kst (ax + dx) ay
                rw [hs1] at ks1
                have ks2 := kst (ax + dx) (ay + dy)
                rw [hs2] at ks2
                have HA : Hid (Mv.walk m ⟨id, kind, ax, ay, vx, vy, hh, t⟩ mx my = ⟨id, kind, ax + dx, ay + dy, dx, dy, hh, t⟩) := by
                  show _ = _
                  simp only [Mv.walk, hwk, if_true, Mv.stepped, ← hdx, ← hdy, Mv.goX, Mv.goY, hs1, hs2, Bool.false_eq_true, if_false]
                clear hs1 hs2 hfb kst hdx hdy
                go_enter Try.func11, Try.ntmps11
                go_wp2_with fail
                rw [← hW0, ← hD, ← hC, ← hB]
                clear hW0 hD hC hB
                go_wp2_with (first | (go_at_call 21; (with_reducible refine (kfm _).mono ?_); rintro r u0 ⟨rfl, HT0⟩; have hS0 := hS.keep HT0 (by simp); have hE0 := hE.keep HT0 (by simp); have hR0 := hR.keep HT0 (by simp); have d0 := (hS0.2 0 _ rfl).1; have d1 := (hS0.2 1 _ rfl).1; have d2 := (hS0.2 2 _ rfl).1; have d3 := (hS0.2 3 _ rfl).1; have c0 := (hE0.2 0 _ rfl).1; have f0 := (hE0.2 0 _ rfl).2; have c1 := (hE0.2 1 _ rfl).1; have f1 := (hE0.2 1 _ rfl).2; have c2 := (hE0.2 2 _ rfl).1; have f2 := (hE0.2 2 _ rfl).2; have c3 := (hE0.2 3 _ rfl).1; have f3 := (hE0.2 3 _ rfl).2; have c4 := (hE0.2 4 _ rfl).1; have f4 := (hE0.2 4 _ rfl).2; have c5 := (hE0.2 5 _ rfl).1; have f5 := (hE0.2 5 _ rfl).2; have c6 := (hE0.2 6 _ rfl).1; have f6 := (hE0.2 6 _ rfl).2; have c7 := (hE0.2 7 _ rfl).1; have f7 := (hE0.2 7 _ rfl).2; have z0 := (hR0.2 0 _ rfl).1; have y0 := (hR0.2 0 _ rfl).2; have z1 := (hR0.2 1 _ rfl).1; have y1 := (hR0.2 1 _ rfl).2; have z2 := (hR0.2 2 _ rfl).1; have y2 := (hR0.2 2 _ rfl).2; have z3 := (hR0.2 3 _ rfl).1; have y3 := (hR0.2 3 _ rfl).2; have z4 := (hR0.2 4 _ rfl).1; have y4 := (hR0.2 4 _ rfl).2; have z5 := (hR0.2 5 _ rfl).1; have y5 := (hR0.2 5 _ rfl).2; have z6 := (hR0.2 6 _ rfl).1; have y6 := (hR0.2 6 _ rfl).2; have z7 := (hR0.2 7 _ rfl).1; have y7 := (hR0.2 7 _ rfl).2; have dd0 := fun o => (((((((hS0).keep ((Turned.refl [C] _).setCell (p := ⟨C, 4, none⟩) (.inl (by simp)) _) (by simpa using nBC))).keep ((Turned.refl [C] _).setCell (p := ⟨C, 5, none⟩) (.inl (by simp)) _) (by simpa using nBC))).keep ((Turned.refl [] ((u0.setCell ⟨C, 4, none⟩ (.int .i64 dx)).setCell ⟨C, 5, none⟩ (.int .i64 dy))).alloc o) (by simp)).2 0 _ rfl).1; have dd1 := fun o => (((((((hS0).keep ((Turned.refl [C] _).setCell (p := ⟨C, 4, none⟩) (.inl (by simp)) _) (by simpa using nBC))).keep ((Turned.refl [C] _).setCell (p := ⟨C, 5, none⟩) (.inl (by simp)) _) (by simpa using nBC))).keep ((Turned.refl [] ((u0.setCell ⟨C, 4, none⟩ (.int .i64 dx)).setCell ⟨C, 5, none⟩ (.int .i64 dy))).alloc o) (by simp)).2 1 _ rfl).1; have dd2 := fun o => (((((((hS0).keep ((Turned.refl [C] _).setCell (p := ⟨C, 4, none⟩) (.inl (by simp)) _) (by simpa using nBC))).keep ((Turned.refl [C] _).setCell (p := ⟨C, 5, none⟩) (.inl (by simp)) _) (by simpa using nBC))).keep ((Turned.refl [] ((u0.setCell ⟨C, 4, none⟩ (.int .i64 dx)).setCell ⟨C, 5, none⟩ (.int .i64 dy))).alloc o) (by simp)).2 2 _ rfl).1; have dd3 := fun o => (((((((hS0).keep ((Turned.refl [C] _).setCell (p := ⟨C, 4, none⟩) (.inl (by simp)) _) (by simpa using nBC))).keep ((Turned.refl [C] _).setCell (p := ⟨C, 5, none⟩) (.inl (by simp)) _) (by simpa using nBC))).keep ((Turned.refl [] ((u0.setCell ⟨C, 4, none⟩ (.int .i64 dx)).setCell ⟨C, 5, none⟩ (.int .i64 dy))).alloc o) (by simp)).2 3 _ rfl).1) | (go_at_call 22; (with_reducible refine (kd1 _).mono ?_); rintro r w9 ⟨rfl, hw9⟩; rw [hw9]; clear hw9 w9) | (go_at_call 22; (with_reducible refine (kd2 _).mono ?_); rintro r w9 ⟨rfl, hw9⟩; rw [hw9]; clear hw9 w9))
                have hTu0 := hT.trans HT0 (by simp)
                obtain ⟨V1, hV1⟩ : ∃ V, V = ((u0.setCell ⟨C, 4, none⟩ (.int .i64 dx)).setCell ⟨C, 5, none⟩ (.int .i64 dy)).alloc (.cells #[.int .i64 (ax + dx), .int .i64 ay] 28) := ⟨_, rfl⟩
                obtain ⟨O1, hO1⟩ : ∃ b, b = u0.heap.size := ⟨_, rfl⟩
                have hP1 : Struct O1 [.int .i64 (ax + dx), .int .i64 ay] V1 := by
                  have h0 := Struct.new ((u0.setCell ⟨C, 4, none⟩ (.int .i64 dx)).setCell ⟨C, 5, none⟩ (.int .i64 dy)) [.int .i64 (ax + dx), .int .i64 ay] 28
                  rw [show ((u0.setCell ⟨C, 4, none⟩ (.int .i64 dx)).setCell ⟨C, 5, none⟩ (.int .i64 dy)).heap.size = u0.heap.size by simp, ← hO1] at h0
                  rw [hV1]; exact h0
                have aV := (Turned.refl [] ((u0.setCell ⟨C, 4, none⟩ (.int .i64 dx)).setCell ⟨C, 5, none⟩ (.int .i64 dy))).alloc (.cells #[.int .i64 (ax + dx), .int .i64 ay] 28)
                rw [← hV1] at aV
                have hEv := (((((hE0).set (i := 4) (by simp) _)).set (i := 5) (by simp) _)).keep aV (by simp)
                have hRv := (((((hR0).keep ((Turned.refl [C] _).setCell (p := ⟨C, 4, none⟩) (.inl (by simp)) _) (by simpa using nCD.symm))).keep ((Turned.refl [C] _).setCell (p := ⟨C, 5, none⟩) (.inl (by simp)) _) (by simpa using nCD.symm))).keep aV (by simp)
                have hSv := (((((hS0).keep ((Turned.refl [C] _).setCell (p := ⟨C, 4, none⟩) (.inl (by simp)) _) (by simpa using nBC))).keep ((Turned.refl [C] _).setCell (p := ⟨C, 5, none⟩) (.inl (by simp)) _) (by simpa using nBC))).keep aV (by simp)
                have hTv := (((((hTu0).setCell (p := ⟨C, 4, none⟩) (.inr hCw) _)).setCell (p := ⟨C, 5, none⟩) (.inr hCw) _)).trans aV (by simp)
                have hMv := h.calm hTv
                rw [← hV1, ← hO1]
                clear hV1 hO1 aV d0 d1 d2 d3 dd0 dd1 dd2 dd3 c0 c1 c2 c3 c4 c5 c6 c7 f0 f1 f2 f3 f4 f5 f6 f7 z0 z1 z2 z3 z4 z5 z6 z7 y0 y1 y2 y3 y4 y5 y6 y7
                refine (ks1 _ hMv).mono ?_
                rintro r u1 ⟨rfl, HS1⟩
                have hS1 := hSv.keep HS1 (by simp)
                have hE1 := hEv.keep HS1 (by simp)
                have hR1 := hRv.keep HS1 (by simp)
                have hQ1 := hP1.keep HS1 (by simp)
                have hTu1 := hTv.trans HS1 (by simp)
                have d0 := (hS1.2 0 _ rfl).1
                have d1 := (hS1.2 1 _ rfl).1
                have d2 := (hS1.2 2 _ rfl).1
                have d3 := (hS1.2 3 _ rfl).1
                have c0 := (hE1.2 0 _ rfl).1
                have f0 := (hE1.2 0 _ rfl).2
                have c1 := (hE1.2 1 _ rfl).1
                have f1 := (hE1.2 1 _ rfl).2
                have c2 := (hE1.2 2 _ rfl).1
                have f2 := (hE1.2 2 _ rfl).2
                have c3 := (hE1.2 3 _ rfl).1
                have f3 := (hE1.2 3 _ rfl).2
                have c4 := (hE1.2 4 _ rfl).1
                have f4 := (hE1.2 4 _ rfl).2
                have c5 := (hE1.2 5 _ rfl).1
                have f5 := (hE1.2 5 _ rfl).2
                have c6 := (hE1.2 6 _ rfl).1
                have f6 := (hE1.2 6 _ rfl).2
                have c7 := (hE1.2 7 _ rfl).1
                have f7 := (hE1.2 7 _ rfl).2
                have z0 := (hR1.2 0 _ rfl).1
                have y0 := (hR1.2 0 _ rfl).2
                have z1 := (hR1.2 1 _ rfl).1
                have y1 := (hR1.2 1 _ rfl).2
                have z2 := (hR1.2 2 _ rfl).1
                have y2 := (hR1.2 2 _ rfl).2
                have z3 := (hR1.2 3 _ rfl).1
                have y3 := (hR1.2 3 _ rfl).2
                have z4 := (hR1.2 4 _ rfl).1
                have y4 := (hR1.2 4 _ rfl).2
                have z5 := (hR1.2 5 _ rfl).1
                have y5 := (hR1.2 5 _ rfl).2
                have z6 := (hR1.2 6 _ rfl).1
                have y6 := (hR1.2 6 _ rfl).2
                have z7 := (hR1.2 7 _ rfl).1
                have y7 := (hR1.2 7 _ rfl).2
                have o0 := (hQ1.2 0 _ rfl).1
                have o1 := (hQ1.2 1 _ rfl).1
                clear hSv hEv hRv hTv hMv
                have dd0 := fun o => (((((((hS1).keep ((Turned.refl [C] _).setCell (p := ⟨C, 2, none⟩) (.inl (by simp)) _) (by simpa using nBC))).keep ((Turned.refl [C] _).setCell (p := ⟨C, 3, none⟩) (.inl (by simp)) _) (by simpa using nBC))).keep ((Turned.refl [] ((u1.setCell ⟨C, 2, none⟩ (.int .i64 (ax + dx))).setCell ⟨C, 3, none⟩ (.int .i64 ay))).alloc o) (by simp)).2 0 _ rfl).1
                have dd1 := fun o => (((((((hS1).keep ((Turned.refl [C] _).setCell (p := ⟨C, 2, none⟩) (.inl (by simp)) _) (by simpa using nBC))).keep ((Turned.refl [C] _).setCell (p := ⟨C, 3, none⟩) (.inl (by simp)) _) (by simpa using nBC))).keep ((Turned.refl [] ((u1.setCell ⟨C, 2, none⟩ (.int .i64 (ax + dx))).setCell ⟨C, 3, none⟩ (.int .i64 ay))).alloc o) (by simp)).2 1 _ rfl).1
                have dd2 := fun o => (((((((hS1).keep ((Turned.refl [C] _).setCell (p := ⟨C, 2, none⟩) (.inl (by simp)) _) (by simpa using nBC))).keep ((Turned.refl [C] _).setCell (p := ⟨C, 3, none⟩) (.inl (by simp)) _) (by simpa using nBC))).keep ((Turned.refl [] ((u1.setCell ⟨C, 2, none⟩ (.int .i64 (ax + dx))).setCell ⟨C, 3, none⟩ (.int .i64 ay))).alloc o) (by simp)).2 2 _ rfl).1
                have dd3 := fun o => (((((((hS1).keep ((Turned.refl [C] _).setCell (p := ⟨C, 2, none⟩) (.inl (by simp)) _) (by simpa using nBC))).keep ((Turned.refl [C] _).setCell (p := ⟨C, 3, none⟩) (.inl (by simp)) _) (by simpa using nBC))).keep ((Turned.refl [] ((u1.setCell ⟨C, 2, none⟩ (.int .i64 (ax + dx))).setCell ⟨C, 3, none⟩ (.int .i64 ay))).alloc o) (by simp)).2 3 _ rfl).1
                go_wp2_with fail
                obtain ⟨V2, hV2⟩ : ∃ V, V = ((u1.setCell ⟨C, 2, none⟩ (.int .i64 (ax + dx))).setCell ⟨C, 3, none⟩ (.int .i64 ay)).alloc (.cells #[.int .i64 (ax + dx), .int .i64 (ay + dy)] 28) := ⟨_, rfl⟩
                obtain ⟨O2, hO2⟩ : ∃ b, b = u1.heap.size := ⟨_, rfl⟩
                have hP2 : Struct O2 [.int .i64 (ax + dx), .int .i64 (ay + dy)] V2 := by
                  have h0 := Struct.new ((u1.setCell ⟨C, 2, none⟩ (.int .i64 (ax + dx))).setCell ⟨C, 3, none⟩ (.int .i64 ay)) [.int .i64 (ax + dx), .int .i64 (ay + dy)] 28
                  rw [show ((u1.setCell ⟨C, 2, none⟩ (.int .i64 (ax + dx))).setCell ⟨C, 3, none⟩ (.int .i64 ay)).heap.size = u1.heap.size by simp, ← hO2] at h0
                  rw [hV2]; exact h0
                have aV := (Turned.refl [] ((u1.setCell ⟨C, 2, none⟩ (.int .i64 (ax + dx))).setCell ⟨C, 3, none⟩ (.int .i64 ay))).alloc (.cells #[.int .i64 (ax + dx), .int .i64 (ay + dy)] 28)
                rw [← hV2] at aV
                have hEv := (((((hE1).set (i := 2) (by simp) _)).set (i := 3) (by simp) _)).keep aV (by simp)
                have hRv := (((((hR1).keep ((Turned.refl [C] _).setCell (p := ⟨C, 2, none⟩) (.inl (by simp)) _) (by simpa using nCD.symm))).keep ((Turned.refl [C] _).setCell (p := ⟨C, 3, none⟩) (.inl (by simp)) _) (by simpa using nCD.symm))).keep aV (by simp)
                have hSv := (((((hS1).keep ((Turned.refl [C] _).setCell (p := ⟨C, 2, none⟩) (.inl (by simp)) _) (by simpa using nBC))).keep ((Turned.refl [C] _).setCell (p := ⟨C, 3, none⟩) (.inl (by simp)) _) (by simpa using nBC))).keep aV (by simp)
                have hTv := (((((hTu1).setCell (p := ⟨C, 2, none⟩) (.inr hCw) _)).setCell (p := ⟨C, 3, none⟩) (.inr hCw) _)).trans aV (by simp)
                have hMv := h.calm hTv
                rw [← hV2, ← hO2]
                clear hV2 hO2 aV d0 d1 d2 d3 dd0 dd1 dd2 dd3 c0 c1 c2 c3 c4 c5 c6 c7 f0 f1 f2 f3 f4 f5 f6 f7 z0 z1 z2 z3 z4 z5 z6 z7 y0 y1 y2 y3 y4 y5 y6 y7 o0 o1
                refine (ks2 _ hMv).mono ?_
                rintro r u2 ⟨rfl, HS2⟩
                have hS2 := hSv.keep HS2 (by simp)
                have hE2 := hEv.keep HS2 (by simp)
                have hR2 := hRv.keep HS2 (by simp)
                have hQ2 := hP2.keep HS2 (by simp)
                have hTu2 := hTv.trans HS2 (by simp)
                have d0 := (hS2.2 0 _ rfl).1
                have d1 := (hS2.2 1 _ rfl).1
                have d2 := (hS2.2 2 _ rfl).1
                have d3 := (hS2.2 3 _ rfl).1
                have c0 := (hE2.2 0 _ rfl).1
                have f0 := (hE2.2 0 _ rfl).2
                have c1 := (hE2.2 1 _ rfl).1
                have f1 := (hE2.2 1 _ rfl).2
                have c2 := (hE2.2 2 _ rfl).1
                have f2 := (hE2.2 2 _ rfl).2
                have c3 := (hE2.2 3 _ rfl).1
                have f3 := (hE2.2 3 _ rfl).2
                have c4 := (hE2.2 4 _ rfl).1
                have f4 := (hE2.2 4 _ rfl).2
                have c5 := (hE2.2 5 _ rfl).1
                have f5 := (hE2.2 5 _ rfl).2
                have c6 := (hE2.2 6 _ rfl).1
                have f6 := (hE2.2 6 _ rfl).2
                have c7 := (hE2.2 7 _ rfl).1
                have f7 := (hE2.2 7 _ rfl).2
                have z0 := (hR2.2 0 _ rfl).1
                have y0 := (hR2.2 0 _ rfl).2
                have z1 := (hR2.2 1 _ rfl).1
                have y1 := (hR2.2 1 _ rfl).2
                have z2 := (hR2.2 2 _ rfl).1
                have y2 := (hR2.2 2 _ rfl).2
                have z3 := (hR2.2 3 _ rfl).1
                have y3 := (hR2.2 3 _ rfl).2
                have z4 := (hR2.2 4 _ rfl).1
                have y4 := (hR2.2 4 _ rfl).2
                have z5 := (hR2.2 5 _ rfl).1
                have y5 := (hR2.2 5 _ rfl).2
                have z6 := (hR2.2 6 _ rfl).1
                have y6 := (hR2.2 6 _ rfl).2
                have z7 := (hR2.2 7 _ rfl).1
                have y7 := (hR2.2 7 _ rfl).2
                have o0 := (hQ2.2 0 _ rfl).1
                have o1 := (hQ2.2 1 _ rfl).1
                clear hSv hEv hRv hTv hMv
                go_wp2_with fail
                obtain ⟨W9, hW9⟩ : ∃ W9, W9 = put8 ((u2.setCell ⟨C, 2, none⟩ (.int .i64 (ax + dx))).setCell ⟨C, 3, none⟩ (.int .i64 (ay + dy))) D ⟨id, kind, ax + dx, ay + dy, dx, dy, hh, t⟩ := ⟨_, rfl⟩
                have hS9 : Struct D (enEnc ⟨id, kind, ax + dx, ay + dy, dx, dy, hh, t⟩) W9 := by rw [hW9]; exact set8 (e := zeroE) ((((hR2).keep ((Turned.refl [C] _).setCell (p := ⟨C, 2, none⟩) (.inl (by simp)) _) (by simpa using nCD.symm))).keep ((Turned.refl [C] _).setCell (p := ⟨C, 3, none⟩) (.inl (by simp)) _) (by simpa using nCD.symm)) _
                have hT9 : Turned [] w W9 := by rw [hW9]; exact turned8 ((((hTu2).setCell (p := ⟨C, 2, none⟩) (.inr hCw) _)).setCell (p := ⟨C, 3, none⟩) (.inr hCw) _) (.inr hDw) _
                simp only [put8] at hW9
                rw [← hW9]
                have e0 := (hS9.2 0 _ rfl).1
                have e1 := (hS9.2 1 _ rfl).1
                have e2 := (hS9.2 2 _ rfl).1
                have e3 := (hS9.2 3 _ rfl).1
                have e4 := (hS9.2 4 _ rfl).1
                have e5 := (hS9.2 5 _ rfl).1
                have e6 := (hS9.2 6 _ rfl).1
                have e7 := (hS9.2 7 _ rfl).1
                simp only [enEnc] at e0 e1 e2 e3 e4 e5 e6 e7
                exact bodyPost_ret (v := enVal ⟨id, kind, ax + dx, ay + dy, dx, dy, hh, t⟩) (by simp [results, Try.results11, go_sem, e0, e1, e2, e3, e4, e5, e6, e7]) rfl ⟨by rw [HA.out], hT9⟩
    · have HA : Hid (Mv.walk m ⟨id, kind, ax, ay, vx, vy, hh, t⟩ mx my = ⟨id, kind, ax, ay, vx, vy, hh, t⟩) := by
        show _ = _
        unfold Mv.walk
        rw [if_neg]
        rw [Mv.walks_iff]
        rintro ⟨_, hn, _⟩
        exact h1 hn
      have i1 : (kind != 1) = true := by rw [bne_iff_ne]; exact h1
      clear h1 hF
      clear hfb
      go_enter Try.func11, Try.ntmps11
      go_wp2_with fail
      rw [← hW0, ← hD, ← hC, ← hB]
      clear hW0 hD hC hB
      go_wp2_with (go_at_call 21; (with_reducible refine (kfm _).mono ?_); rintro r u0 ⟨rfl, HT0⟩; have hS0 := hS.keep HT0 (by simp); have hE0 := hE.keep HT0 (by simp); have hR0 := hR.keep HT0 (by simp); have d0 := (hS0.2 0 _ rfl).1; have d1 := (hS0.2 1 _ rfl).1; have d2 := (hS0.2 2 _ rfl).1; have d3 := (hS0.2 3 _ rfl).1; have c0 := (hE0.2 0 _ rfl).1; have f0 := (hE0.2 0 _ rfl).2; have c1 := (hE0.2 1 _ rfl).1; have f1 := (hE0.2 1 _ rfl).2; have c2 := (hE0.2 2 _ rfl).1; have f2 := (hE0.2 2 _ rfl).2; have c3 := (hE0.2 3 _ rfl).1; have f3 := (hE0.2 3 _ rfl).2; have c4 := (hE0.2 4 _ rfl).1; have f4 := (hE0.2 4 _ rfl).2; have c5 := (hE0.2 5 _ rfl).1; have f5 := (hE0.2 5 _ rfl).2; have c6 := (hE0.2 6 _ rfl).1; have f6 := (hE0.2 6 _ rfl).2; have c7 := (hE0.2 7 _ rfl).1; have f7 := (hE0.2 7 _ rfl).2; have z0 := (hR0.2 0 _ rfl).1; have y0 := (hR0.2 0 _ rfl).2; have z1 := (hR0.2 1 _ rfl).1; have y1 := (hR0.2 1 _ rfl).2; have z2 := (hR0.2 2 _ rfl).1; have y2 := (hR0.2 2 _ rfl).2; have z3 := (hR0.2 3 _ rfl).1; have y3 := (hR0.2 3 _ rfl).2; have z4 := (hR0.2 4 _ rfl).1; have y4 := (hR0.2 4 _ rfl).2; have z5 := (hR0.2 5 _ rfl).1; have y5 := (hR0.2 5 _ rfl).2; have z6 := (hR0.2 6 _ rfl).1; have y6 := (hR0.2 6 _ rfl).2; have z7 := (hR0.2 7 _ rfl).1; have y7 := (hR0.2 7 _ rfl).2)
      obtain ⟨W9, hW9⟩ : ∃ W9, W9 = put8 u0 D ⟨id, kind, ax, ay, vx, vy, hh, t⟩ := ⟨_, rfl⟩
      have hS9 : Struct D (enEnc ⟨id, kind, ax, ay, vx, vy, hh, t⟩) W9 := by rw [hW9]; exact set8 (e := zeroE) hR0 _
      have hT9 : Turned [] w W9 := by rw [hW9]; exact turned8 (hT.trans HT0 (by simp)) (.inr hDw) _
      simp only [put8] at hW9
      rw [← hW9]
      have e0 := (hS9.2 0 _ rfl).1
      have e1 := (hS9.2 1 _ rfl).1
      have e2 := (hS9.2 2 _ rfl).1
      have e3 := (hS9.2 3 _ rfl).1
      have e4 := (hS9.2 4 _ rfl).1
      have e5 := (hS9.2 5 _ rfl).1
      have e6 := (hS9.2 6 _ rfl).1
      have e7 := (hS9.2 7 _ rfl).1
      simp only [enEnc] at e0 e1 e2 e3 e4 e5 e6 e7
      exact bodyPost_ret (v := enVal ⟨id, kind, ax, ay, vx, vy, hh, t⟩) (by simp [results, Try.results11, go_sem, e0, e1, e2, e3, e4, e5, e6, e7]) rfl ⟨by rw [HA.out], hT9⟩
  · rw [show fb = false by rw [hfb]; exact decide_eq_false hF] at kfm
    have HA : Hid (Mv.walk m ⟨id, kind, ax, ay, vx, vy, hh, t⟩ mx my = ⟨id, kind, ax, ay, vx, vy, hh, t⟩) := by
      show _ = _
      unfold Mv.walk
      rw [if_neg]
      rw [Mv.walks_iff]
      rintro ⟨hn, _⟩
      exact hF hn
    clear hF
    clear hfb
    go_enter Try.func11, Try.ntmps11
    go_wp2_with fail
    rw [← hW0, ← hD, ← hC, ← hB]
    clear hW0 hD hC hB
    go_wp2_with (go_at_call 21; (with_reducible refine (kfm _).mono ?_); rintro r u0 ⟨rfl, HT0⟩; have hS0 := hS.keep HT0 (by simp); have hE0 := hE.keep HT0 (by simp); have hR0 := hR.keep HT0 (by simp); have d0 := (hS0.2 0 _ rfl).1; have d1 := (hS0.2 1 _ rfl).1; have d2 := (hS0.2 2 _ rfl).1; have d3 := (hS0.2 3 _ rfl).1; have c0 := (hE0.2 0 _ rfl).1; have f0 := (hE0.2 0 _ rfl).2; have c1 := (hE0.2 1 _ rfl).1; have f1 := (hE0.2 1 _ rfl).2; have c2 := (hE0.2 2 _ rfl).1; have f2 := (hE0.2 2 _ rfl).2; have c3 := (hE0.2 3 _ rfl).1; have f3 := (hE0.2 3 _ rfl).2; have c4 := (hE0.2 4 _ rfl).1; have f4 := (hE0.2 4 _ rfl).2; have c5 := (hE0.2 5 _ rfl).1; have f5 := (hE0.2 5 _ rfl).2; have c6 := (hE0.2 6 _ rfl).1; have f6 := (hE0.2 6 _ rfl).2; have c7 := (hE0.2 7 _ rfl).1; have f7 := (hE0.2 7 _ rfl).2; have z0 := (hR0.2 0 _ rfl).1; have y0 := (hR0.2 0 _ rfl).2; have z1 := (hR0.2 1 _ rfl).1; have y1 := (hR0.2 1 _ rfl).2; have z2 := (hR0.2 2 _ rfl).1; have y2 := (hR0.2 2 _ rfl).2; have z3 := (hR0.2 3 _ rfl).1; have y3 := (hR0.2 3 _ rfl).2; have z4 := (hR0.2 4 _ rfl).1; have y4 := (hR0.2 4 _ rfl).2; have z5 := (hR0.2 5 _ rfl).1; have y5 := (hR0.2 5 _ rfl).2; have z6 := (hR0.2 6 _ rfl).1; have y6 := (hR0.2 6 _ rfl).2; have z7 := (hR0.2 7 _ rfl).1; have y7 := (hR0.2 7 _ rfl).2)
    obtain ⟨W9, hW9⟩ : ∃ W9, W9 = put8 u0 D ⟨id, kind, ax, ay, vx, vy, hh, t⟩ := ⟨_, rfl⟩
    have hS9 : Struct D (enEnc ⟨id, kind, ax, ay, vx, vy, hh, t⟩) W9 := by rw [hW9]; exact set8 (e := zeroE) hR0 _
    have hT9 : Turned [] w W9 := by rw [hW9]; exact turned8 (hT.trans HT0 (by simp)) (.inr hDw) _
    simp only [put8] at hW9
    rw [← hW9]
    have e0 := (hS9.2 0 _ rfl).1
    have e1 := (hS9.2 1 _ rfl).1
    have e2 := (hS9.2 2 _ rfl).1
    have e3 := (hS9.2 3 _ rfl).1
    have e4 := (hS9.2 4 _ rfl).1
    have e5 := (hS9.2 5 _ rfl).1
    have e6 := (hS9.2 6 _ rfl).1
    have e7 := (hS9.2 7 _ rfl).1
    simp only [enEnc] at e0 e1 e2 e3 e4 e5 e6 e7
    exact bodyPost_ret (v := enVal ⟨id, kind, ax, ay, vx, vy, hh, t⟩) (by simp [results, Try.results11, go_sem, e0, e1, e2, e3, e4, e5, e6, e7]) rfl ⟨by rw [HA.out], hT9⟩

set_option maxRecDepth 20000 in
set_option maxHeartbeats 16000000 in
theorem roll_any (m : Ti.M) (oa : Option Addr) (ca : Nat) (ob : Option Addr) (cb : Nat) (e : En.E) (w : World) (h : MapAt m oa ob w) :
    Calls Try.prog 13 #[mapVal m oa ca ob cb, enVal e] w fun r w' => r = .returned (enVal (Mv.roll m e)) ∧ Turned [] w w' := by
  obtain ⟨id, kind, ax, ay, vx, vy, hh, t⟩ := e
  have kfm := fun u => EnR.formed_any ⟨id, kind, ax, ay, vx, vy, hh, t⟩ u
  have kst := fun (x y : Int) (u : World) (hu : MapAt m oa ob u) => stands_any m oa ca ob cb x y u hu
  obtain ⟨fb, hfb⟩ : ∃ b, b = decide (En.Formed ⟨id, kind, ax, ay, vx, vy, hh, t⟩) := ⟨_, rfl⟩
  rw [← hfb] at kfm
  obtain ⟨nw, hnw⟩ : ∃ n, n = m.ws.length := ⟨_, rfl⟩
  obtain ⟨ns, hns⟩ : ∃ n, n = m.sp.length := ⟨_, rfl⟩
  unfold mapVal at kst ⊢
  rw [← hnw, ← hns] at kst ⊢
  unfold enVal at kfm
  simp only at kfm
  show Calls _ _ #[_, .agg #[.int .i64 id, .int .i64 kind, .int .i64 ax, .int .i64 ay, .int .i64 vx, .int .i64 vy, .int .i64 hh, .int .i64 t]] _ _
  obtain ⟨W0, hW0⟩ : ∃ W0, W0 = ((w.alloc (.cells #[.int .i64 m.W, .int .i64 m.H, .slice oa nw ca, .slice ob ns cb] 35)).alloc (.cells #[.int .i64 id, .int .i64 kind, .int .i64 ax, .int .i64 ay, .int .i64 vx, .int .i64 vy, .int .i64 hh, .int .i64 t] 30)).alloc (.cells #[.int .i64 0, .int .i64 0, .int .i64 0, .int .i64 0, .int .i64 0, .int .i64 0, .int .i64 0, .int .i64 0] 30) := ⟨_, rfl⟩
  obtain ⟨B, hB⟩ : ∃ B, B = w.heap.size := ⟨_, rfl⟩
  obtain ⟨C, hC⟩ : ∃ C, C = w.heap.size + 1 := ⟨_, rfl⟩
  obtain ⟨D, hD⟩ : ∃ D, D = w.heap.size + 1 + 1 := ⟨_, rfl⟩
  have hsz : W0.heap.size = w.heap.size + 3 := by rw [hW0]; simp
  have hT : Turned [] w W0 := by rw [hW0]; exact (((Turned.refl [] w).alloc _).alloc _).alloc _
  have hS : Struct B [.int .i64 m.W, .int .i64 m.H, .slice oa nw ca, .slice ob ns cb] W0 := by rw [hW0, hB]; exact ((Struct.new w [.int .i64 m.W, .int .i64 m.H, .slice oa nw ca, .slice ob ns cb] _).keep ((Turned.refl [] _).alloc _) (by simp)).keep ((Turned.refl [] _).alloc _) (by simp)
  have hE : Struct C [.int .i64 id, .int .i64 kind, .int .i64 ax, .int .i64 ay, .int .i64 vx, .int .i64 vy, .int .i64 hh, .int .i64 t] W0 := by
    have h0 := Struct.new (w.alloc (.cells #[.int .i64 m.W, .int .i64 m.H, .slice oa nw ca, .slice ob ns cb] 35)) [.int .i64 id, .int .i64 kind, .int .i64 ax, .int .i64 ay, .int .i64 vx, .int .i64 vy, .int .i64 hh, .int .i64 t] 30
    rw [show (w.alloc (.cells #[.int .i64 m.W, .int .i64 m.H, .slice oa nw ca, .slice ob ns cb] 35)).heap.size = w.heap.size + 1 by simp, ← hC] at h0
    rw [hW0]; exact h0.keep ((Turned.refl [] _).alloc _) (by simp)
  have hR : Struct D [.int .i64 0, .int .i64 0, .int .i64 0, .int .i64 0, .int .i64 0, .int .i64 0, .int .i64 0, .int .i64 0] W0 := by
    have h0 := Struct.new ((w.alloc (.cells #[.int .i64 m.W, .int .i64 m.H, .slice oa nw ca, .slice ob ns cb] 35)).alloc (.cells #[.int .i64 id, .int .i64 kind, .int .i64 ax, .int .i64 ay, .int .i64 vx, .int .i64 vy, .int .i64 hh, .int .i64 t] 30)) [.int .i64 0, .int .i64 0, .int .i64 0, .int .i64 0, .int .i64 0, .int .i64 0, .int .i64 0, .int .i64 0] 30
    rw [show ((w.alloc (.cells #[.int .i64 m.W, .int .i64 m.H, .slice oa nw ca, .slice ob ns cb] 35)).alloc (.cells #[.int .i64 id, .int .i64 kind, .int .i64 ax, .int .i64 ay, .int .i64 vx, .int .i64 vy, .int .i64 hh, .int .i64 t] 30)).heap.size = w.heap.size + 1 + 1 by simp, ← hD] at h0
    rw [hW0]; exact h0
  have hM := h.calm hT
  have hCw : w.heap.size ≤ C := by omega
  have hDw : w.heap.size ≤ D := by omega
  have nBC : B ≠ C := by omega
  have nBD : B ≠ D := by omega
  have nCD : C ≠ D := by omega
  clear hnw hns hsz
  by_cases hF : En.Formed ⟨id, kind, ax, ay, vx, vy, hh, t⟩
  · rw [show fb = true by rw [hfb]; exact decide_eq_true hF] at kfm
    by_cases h1 : kind = 2
    · have hwk : Mv.rolls ⟨id, kind, ax, ay, vx, vy, hh, t⟩ = true := Mv.rolls_iff.2 ⟨hF, h1⟩
      have i1 : (kind != 2) = false := by rw [bne_eq_false_iff_eq]; exact h1
      obtain ⟨_, ⟨b1, b2, b3, b4⟩, ⟨b5, b6, b7, b8⟩, _⟩ := hF
      have b1 : -134217728 ≤ ax := b1
      have b2 : ax ≤ 134217728 := b2
      have b3 : -134217728 ≤ ay := b3
      have b4 : ay ≤ 134217728 := b4
      have b5 : -65536 ≤ vx := b5
      have b6 : vx ≤ 65536 := b6
      have b7 : -65536 ≤ vy := b7
      have b8 : vy ≤ 65536 := b8
      clear h1
      cases hs1 : Mv.stands m (ax + vx) ay with
      | false =>
        cases hs2 : Mv.stands m ax (ay + vy) with
        | false =>
          have ks1 := kst (ax + vx) ay
          rw [hs1] at ks1
          have ks2 := kst ax (ay + vy)
          rw [hs2] at ks2
          have HA : Hid (Mv.roll m ⟨id, kind, ax, ay, vx, vy, hh, t⟩ = ⟨id, kind, ax, ay, -vx, -vy, hh, t⟩) := by
            show _ = _
            simp only [Mv.roll, hwk, if_true, Mv.rolled, Mv.goX, Mv.goY, Mv.turnX, Mv.turnY, hs1, hs2, Bool.false_eq_true, if_false]
          clear hs1 hs2 hfb kst
          go_enter Try.func13, Try.ntmps13
          go_wp2_with fail
          rw [← hW0, ← hD, ← hC, ← hB]
          clear hW0 hD hC hB
          go_wp2_with (first | (go_at_call 21; (with_reducible refine (kfm _).mono ?_); rintro r u0 ⟨rfl, HT0⟩; have hS0 := hS.keep HT0 (by simp); have hE0 := hE.keep HT0 (by simp); have hR0 := hR.keep HT0 (by simp); have d0 := (hS0.2 0 _ rfl).1; have d1 := (hS0.2 1 _ rfl).1; have d2 := (hS0.2 2 _ rfl).1; have d3 := (hS0.2 3 _ rfl).1; have c0 := (hE0.2 0 _ rfl).1; have f0 := (hE0.2 0 _ rfl).2; have c1 := (hE0.2 1 _ rfl).1; have f1 := (hE0.2 1 _ rfl).2; have c2 := (hE0.2 2 _ rfl).1; have f2 := (hE0.2 2 _ rfl).2; have c3 := (hE0.2 3 _ rfl).1; have f3 := (hE0.2 3 _ rfl).2; have c4 := (hE0.2 4 _ rfl).1; have f4 := (hE0.2 4 _ rfl).2; have c5 := (hE0.2 5 _ rfl).1; have f5 := (hE0.2 5 _ rfl).2; have c6 := (hE0.2 6 _ rfl).1; have f6 := (hE0.2 6 _ rfl).2; have c7 := (hE0.2 7 _ rfl).1; have f7 := (hE0.2 7 _ rfl).2; have z0 := (hR0.2 0 _ rfl).1; have y0 := (hR0.2 0 _ rfl).2; have z1 := (hR0.2 1 _ rfl).1; have y1 := (hR0.2 1 _ rfl).2; have z2 := (hR0.2 2 _ rfl).1; have y2 := (hR0.2 2 _ rfl).2; have z3 := (hR0.2 3 _ rfl).1; have y3 := (hR0.2 3 _ rfl).2; have z4 := (hR0.2 4 _ rfl).1; have y4 := (hR0.2 4 _ rfl).2; have z5 := (hR0.2 5 _ rfl).1; have y5 := (hR0.2 5 _ rfl).2; have z6 := (hR0.2 6 _ rfl).1; have y6 := (hR0.2 6 _ rfl).2; have z7 := (hR0.2 7 _ rfl).1; have y7 := (hR0.2 7 _ rfl).2; have dd0 := fun o => (((hS0).keep ((Turned.refl [] u0).alloc o) (by simp)).2 0 _ rfl).1; have dd1 := fun o => (((hS0).keep ((Turned.refl [] u0).alloc o) (by simp)).2 1 _ rfl).1; have dd2 := fun o => (((hS0).keep ((Turned.refl [] u0).alloc o) (by simp)).2 2 _ rfl).1; have dd3 := fun o => (((hS0).keep ((Turned.refl [] u0).alloc o) (by simp)).2 3 _ rfl).1))
          have hTu0 := hT.trans HT0 (by simp)
          obtain ⟨V1, hV1⟩ : ∃ V, V = u0.alloc (.cells #[.int .i64 (ax + vx), .int .i64 ay] 28) := ⟨_, rfl⟩
          obtain ⟨O1, hO1⟩ : ∃ b, b = u0.heap.size := ⟨_, rfl⟩
          have hP1 : Struct O1 [.int .i64 (ax + vx), .int .i64 ay] V1 := by
            have h0 := Struct.new u0 [.int .i64 (ax + vx), .int .i64 ay] 28
            rw [← hO1] at h0
            rw [hV1]; exact h0
          have aV := (Turned.refl [] u0).alloc (.cells #[.int .i64 (ax + vx), .int .i64 ay] 28)
          rw [← hV1] at aV
          have hEv := (hE0).keep aV (by simp)
          have hRv := (hR0).keep aV (by simp)
          have hSv := (hS0).keep aV (by simp)
          have hTv := (hTu0).trans aV (by simp)
          have hMv := h.calm hTv
          rw [← hV1, ← hO1]
          clear hV1 hO1 aV d0 d1 d2 d3 dd0 dd1 dd2 dd3 c0 c1 c2 c3 c4 c5 c6 c7 f0 f1 f2 f3 f4 f5 f6 f7 z0 z1 z2 z3 z4 z5 z6 z7 y0 y1 y2 y3 y4 y5 y6 y7
          refine (ks1 _ hMv).mono ?_
          rintro r u1 ⟨rfl, HS1⟩
          have hS1 := hSv.keep HS1 (by simp)
          have hE1 := hEv.keep HS1 (by simp)
          have hR1 := hRv.keep HS1 (by simp)
          have hQ1 := hP1.keep HS1 (by simp)
          have hTu1 := hTv.trans HS1 (by simp)
          have d0 := (hS1.2 0 _ rfl).1
          have d1 := (hS1.2 1 _ rfl).1
          have d2 := (hS1.2 2 _ rfl).1
          have d3 := (hS1.2 3 _ rfl).1
          have c0 := (hE1.2 0 _ rfl).1
          have f0 := (hE1.2 0 _ rfl).2
          have c1 := (hE1.2 1 _ rfl).1
          have f1 := (hE1.2 1 _ rfl).2
          have c2 := (hE1.2 2 _ rfl).1
          have f2 := (hE1.2 2 _ rfl).2
          have c3 := (hE1.2 3 _ rfl).1
          have f3 := (hE1.2 3 _ rfl).2
          have c4 := (hE1.2 4 _ rfl).1
          have f4 := (hE1.2 4 _ rfl).2
          have c5 := (hE1.2 5 _ rfl).1
          have f5 := (hE1.2 5 _ rfl).2
          have c6 := (hE1.2 6 _ rfl).1
          have f6 := (hE1.2 6 _ rfl).2
          have c7 := (hE1.2 7 _ rfl).1
          have f7 := (hE1.2 7 _ rfl).2
          have z0 := (hR1.2 0 _ rfl).1
          have y0 := (hR1.2 0 _ rfl).2
          have z1 := (hR1.2 1 _ rfl).1
          have y1 := (hR1.2 1 _ rfl).2
          have z2 := (hR1.2 2 _ rfl).1
          have y2 := (hR1.2 2 _ rfl).2
          have z3 := (hR1.2 3 _ rfl).1
          have y3 := (hR1.2 3 _ rfl).2
          have z4 := (hR1.2 4 _ rfl).1
          have y4 := (hR1.2 4 _ rfl).2
          have z5 := (hR1.2 5 _ rfl).1
          have y5 := (hR1.2 5 _ rfl).2
          have z6 := (hR1.2 6 _ rfl).1
          have y6 := (hR1.2 6 _ rfl).2
          have z7 := (hR1.2 7 _ rfl).1
          have y7 := (hR1.2 7 _ rfl).2
          have o0 := (hQ1.2 0 _ rfl).1
          have o1 := (hQ1.2 1 _ rfl).1
          clear hSv hEv hRv hTv hMv
          have dd0 := fun o => (((((hS1).keep ((Turned.refl [C] _).setCell (p := ⟨C, 4, none⟩) (.inl (by simp)) _) (by simpa using nBC))).keep ((Turned.refl [] (u1.setCell ⟨C, 4, none⟩ (.int .i64 (-vx)))).alloc o) (by simp)).2 0 _ rfl).1
          have dd1 := fun o => (((((hS1).keep ((Turned.refl [C] _).setCell (p := ⟨C, 4, none⟩) (.inl (by simp)) _) (by simpa using nBC))).keep ((Turned.refl [] (u1.setCell ⟨C, 4, none⟩ (.int .i64 (-vx)))).alloc o) (by simp)).2 1 _ rfl).1
          have dd2 := fun o => (((((hS1).keep ((Turned.refl [C] _).setCell (p := ⟨C, 4, none⟩) (.inl (by simp)) _) (by simpa using nBC))).keep ((Turned.refl [] (u1.setCell ⟨C, 4, none⟩ (.int .i64 (-vx)))).alloc o) (by simp)).2 2 _ rfl).1
          have dd3 := fun o => (((((hS1).keep ((Turned.refl [C] _).setCell (p := ⟨C, 4, none⟩) (.inl (by simp)) _) (by simpa using nBC))).keep ((Turned.refl [] (u1.setCell ⟨C, 4, none⟩ (.int .i64 (-vx)))).alloc o) (by simp)).2 3 _ rfl).1
          go_wp2_with fail
          obtain ⟨V2, hV2⟩ : ∃ V, V = (u1.setCell ⟨C, 4, none⟩ (.int .i64 (-vx))).alloc (.cells #[.int .i64 ax, .int .i64 (ay + vy)] 28) := ⟨_, rfl⟩
          obtain ⟨O2, hO2⟩ : ∃ b, b = u1.heap.size := ⟨_, rfl⟩
          have hP2 : Struct O2 [.int .i64 ax, .int .i64 (ay + vy)] V2 := by
            have h0 := Struct.new (u1.setCell ⟨C, 4, none⟩ (.int .i64 (-vx))) [.int .i64 ax, .int .i64 (ay + vy)] 28
            rw [show (u1.setCell ⟨C, 4, none⟩ (.int .i64 (-vx))).heap.size = u1.heap.size by simp, ← hO2] at h0
            rw [hV2]; exact h0
          have aV := (Turned.refl [] (u1.setCell ⟨C, 4, none⟩ (.int .i64 (-vx)))).alloc (.cells #[.int .i64 ax, .int .i64 (ay + vy)] 28)
          rw [← hV2] at aV
          have hEv := (((hE1).set (i := 4) (by simp) _)).keep aV (by simp)
          have hRv := (((hR1).keep ((Turned.refl [C] _).setCell (p := ⟨C, 4, none⟩) (.inl (by simp)) _) (by simpa using nCD.symm))).keep aV (by simp)
          have hSv := (((hS1).keep ((Turned.refl [C] _).setCell (p := ⟨C, 4, none⟩) (.inl (by simp)) _) (by simpa using nBC))).keep aV (by simp)
          have hTv := (((hTu1).setCell (p := ⟨C, 4, none⟩) (.inr hCw) _)).trans aV (by simp)
          have hMv := h.calm hTv
          rw [← hV2, ← hO2]
          clear hV2 hO2 aV d0 d1 d2 d3 dd0 dd1 dd2 dd3 c0 c1 c2 c3 c4 c5 c6 c7 f0 f1 f2 f3 f4 f5 f6 f7 z0 z1 z2 z3 z4 z5 z6 z7 y0 y1 y2 y3 y4 y5 y6 y7 o0 o1
          refine (ks2 _ hMv).mono ?_
          rintro r u2 ⟨rfl, HS2⟩
          have hS2 := hSv.keep HS2 (by simp)
          have hE2 := hEv.keep HS2 (by simp)
          have hR2 := hRv.keep HS2 (by simp)
          have hQ2 := hP2.keep HS2 (by simp)
          have hTu2 := hTv.trans HS2 (by simp)
          have d0 := (hS2.2 0 _ rfl).1
          have d1 := (hS2.2 1 _ rfl).1
          have d2 := (hS2.2 2 _ rfl).1
          have d3 := (hS2.2 3 _ rfl).1
          have c0 := (hE2.2 0 _ rfl).1
          have f0 := (hE2.2 0 _ rfl).2
          have c1 := (hE2.2 1 _ rfl).1
          have f1 := (hE2.2 1 _ rfl).2
          have c2 := (hE2.2 2 _ rfl).1
          have f2 := (hE2.2 2 _ rfl).2
          have c3 := (hE2.2 3 _ rfl).1
          have f3 := (hE2.2 3 _ rfl).2
          have c4 := (hE2.2 4 _ rfl).1
          have f4 := (hE2.2 4 _ rfl).2
          have c5 := (hE2.2 5 _ rfl).1
          have f5 := (hE2.2 5 _ rfl).2
          have c6 := (hE2.2 6 _ rfl).1
          have f6 := (hE2.2 6 _ rfl).2
          have c7 := (hE2.2 7 _ rfl).1
          have f7 := (hE2.2 7 _ rfl).2
          have z0 := (hR2.2 0 _ rfl).1
          have y0 := (hR2.2 0 _ rfl).2
          have z1 := (hR2.2 1 _ rfl).1
          have y1 := (hR2.2 1 _ rfl).2
          have z2 := (hR2.2 2 _ rfl).1
          have y2 := (hR2.2 2 _ rfl).2
          have z3 := (hR2.2 3 _ rfl).1
          have y3 := (hR2.2 3 _ rfl).2
          have z4 := (hR2.2 4 _ rfl).1
          have y4 := (hR2.2 4 _ rfl).2
          have z5 := (hR2.2 5 _ rfl).1
          have y5 := (hR2.2 5 _ rfl).2
          have z6 := (hR2.2 6 _ rfl).1
          have y6 := (hR2.2 6 _ rfl).2
          have z7 := (hR2.2 7 _ rfl).1
          have y7 := (hR2.2 7 _ rfl).2
          have o0 := (hQ2.2 0 _ rfl).1
          have o1 := (hQ2.2 1 _ rfl).1
          clear hSv hEv hRv hTv hMv
          go_wp2_with fail
          obtain ⟨W9, hW9⟩ : ∃ W9, W9 = put8 (u2.setCell ⟨C, 5, none⟩ (.int .i64 (-vy))) D ⟨id, kind, ax, ay, -vx, -vy, hh, t⟩ := ⟨_, rfl⟩
          have hS9 : Struct D (enEnc ⟨id, kind, ax, ay, -vx, -vy, hh, t⟩) W9 := by rw [hW9]; exact set8 (e := zeroE) ((hR2).keep ((Turned.refl [C] _).setCell (p := ⟨C, 5, none⟩) (.inl (by simp)) _) (by simpa using nCD.symm)) _
          have hT9 : Turned [] w W9 := by rw [hW9]; exact turned8 ((hTu2).setCell (p := ⟨C, 5, none⟩) (.inr hCw) _) (.inr hDw) _
          simp only [put8] at hW9
          rw [← hW9]
          have e0 := (hS9.2 0 _ rfl).1
          have e1 := (hS9.2 1 _ rfl).1
          have e2 := (hS9.2 2 _ rfl).1
          have e3 := (hS9.2 3 _ rfl).1
          have e4 := (hS9.2 4 _ rfl).1
          have e5 := (hS9.2 5 _ rfl).1
          have e6 := (hS9.2 6 _ rfl).1
          have e7 := (hS9.2 7 _ rfl).1
          simp only [enEnc] at e0 e1 e2 e3 e4 e5 e6 e7
          exact bodyPost_ret (v := enVal ⟨id, kind, ax, ay, -vx, -vy, hh, t⟩) (by simp [results, Try.results13, go_sem, e0, e1, e2, e3, e4, e5, e6, e7]) rfl ⟨by rw [HA.out], hT9⟩
        | true =>
          have ks1 := kst (ax + vx) ay
          rw [hs1] at ks1
          have ks2 := kst ax (ay + vy)
          rw [hs2] at ks2
          have HA : Hid (Mv.roll m ⟨id, kind, ax, ay, vx, vy, hh, t⟩ = ⟨id, kind, ax, ay + vy, -vx, vy, hh, t⟩) := by
            show _ = _
            simp only [Mv.roll, hwk, if_true, Mv.rolled, Mv.goX, Mv.goY, Mv.turnX, Mv.turnY, hs1, hs2, Bool.false_eq_true, if_false]
          clear hs1 hs2 hfb kst
          go_enter Try.func13, Try.ntmps13
          go_wp2_with fail
          rw [← hW0, ← hD, ← hC, ← hB]
          clear hW0 hD hC hB
          go_wp2_with (first | (go_at_call 21; (with_reducible refine (kfm _).mono ?_); rintro r u0 ⟨rfl, HT0⟩; have hS0 := hS.keep HT0 (by simp); have hE0 := hE.keep HT0 (by simp); have hR0 := hR.keep HT0 (by simp); have d0 := (hS0.2 0 _ rfl).1; have d1 := (hS0.2 1 _ rfl).1; have d2 := (hS0.2 2 _ rfl).1; have d3 := (hS0.2 3 _ rfl).1; have c0 := (hE0.2 0 _ rfl).1; have f0 := (hE0.2 0 _ rfl).2; have c1 := (hE0.2 1 _ rfl).1; have f1 := (hE0.2 1 _ rfl).2; have c2 := (hE0.2 2 _ rfl).1; have f2 := (hE0.2 2 _ rfl).2; have c3 := (hE0.2 3 _ rfl).1; have f3 := (hE0.2 3 _ rfl).2; have c4 := (hE0.2 4 _ rfl).1; have f4 := (hE0.2 4 _ rfl).2; have c5 := (hE0.2 5 _ rfl).1; have f5 := (hE0.2 5 _ rfl).2; have c6 := (hE0.2 6 _ rfl).1; have f6 := (hE0.2 6 _ rfl).2; have c7 := (hE0.2 7 _ rfl).1; have f7 := (hE0.2 7 _ rfl).2; have z0 := (hR0.2 0 _ rfl).1; have y0 := (hR0.2 0 _ rfl).2; have z1 := (hR0.2 1 _ rfl).1; have y1 := (hR0.2 1 _ rfl).2; have z2 := (hR0.2 2 _ rfl).1; have y2 := (hR0.2 2 _ rfl).2; have z3 := (hR0.2 3 _ rfl).1; have y3 := (hR0.2 3 _ rfl).2; have z4 := (hR0.2 4 _ rfl).1; have y4 := (hR0.2 4 _ rfl).2; have z5 := (hR0.2 5 _ rfl).1; have y5 := (hR0.2 5 _ rfl).2; have z6 := (hR0.2 6 _ rfl).1; have y6 := (hR0.2 6 _ rfl).2; have z7 := (hR0.2 7 _ rfl).1; have y7 := (hR0.2 7 _ rfl).2; have dd0 := fun o => (((hS0).keep ((Turned.refl [] u0).alloc o) (by simp)).2 0 _ rfl).1; have dd1 := fun o => (((hS0).keep ((Turned.refl [] u0).alloc o) (by simp)).2 1 _ rfl).1; have dd2 := fun o => (((hS0).keep ((Turned.refl [] u0).alloc o) (by simp)).2 2 _ rfl).1; have dd3 := fun o => (((hS0).keep ((Turned.refl [] u0).alloc o) (by simp)).2 3 _ rfl).1))
          have hTu0 := hT.trans HT0 (by simp)
          obtain ⟨V1, hV1⟩ : ∃ V, V = u0.alloc (.cells #[.int .i64 (ax + vx), .int .i64 ay] 28) := ⟨_, rfl⟩
          obtain ⟨O1, hO1⟩ : ∃ b, b = u0.heap.size := ⟨_, rfl⟩
          have hP1 : Struct O1 [.int .i64 (ax + vx), .int .i64 ay] V1 := by
            have h0 := Struct.new u0 [.int .i64 (ax + vx), .int .i64 ay] 28
            rw [← hO1] at h0
            rw [hV1]; exact h0
          have aV := (Turned.refl [] u0).alloc (.cells #[.int .i64 (ax + vx), .int .i64 ay] 28)
          rw [← hV1] at aV
          have hEv := (hE0).keep aV (by simp)
          have hRv := (hR0).keep aV (by simp)
          have hSv := (hS0).keep aV (by simp)
          have hTv := (hTu0).trans aV (by simp)
          have hMv := h.calm hTv
          rw [← hV1, ← hO1]
          clear hV1 hO1 aV d0 d1 d2 d3 dd0 dd1 dd2 dd3 c0 c1 c2 c3 c4 c5 c6 c7 f0 f1 f2 f3 f4 f5 f6 f7 z0 z1 z2 z3 z4 z5 z6 z7 y0 y1 y2 y3 y4 y5 y6 y7
          refine (ks1 _ hMv).mono ?_
          rintro r u1 ⟨rfl, HS1⟩
          have hS1 := hSv.keep HS1 (by simp)
          have hE1 := hEv.keep HS1 (by simp)
          have hR1 := hRv.keep HS1 (by simp)
          have hQ1 := hP1.keep HS1 (by simp)
          have hTu1 := hTv.trans HS1 (by simp)
          have d0 := (hS1.2 0 _ rfl).1
          have d1 := (hS1.2 1 _ rfl).1
          have d2 := (hS1.2 2 _ rfl).1
          have d3 := (hS1.2 3 _ rfl).1
          have c0 := (hE1.2 0 _ rfl).1
          have f0 := (hE1.2 0 _ rfl).2
          have c1 := (hE1.2 1 _ rfl).1
          have f1 := (hE1.2 1 _ rfl).2
          have c2 := (hE1.2 2 _ rfl).1
          have f2 := (hE1.2 2 _ rfl).2
          have c3 := (hE1.2 3 _ rfl).1
          have f3 := (hE1.2 3 _ rfl).2
          have c4 := (hE1.2 4 _ rfl).1
          have f4 := (hE1.2 4 _ rfl).2
          have c5 := (hE1.2 5 _ rfl).1
          have f5 := (hE1.2 5 _ rfl).2
          have c6 := (hE1.2 6 _ rfl).1
          have f6 := (hE1.2 6 _ rfl).2
          have c7 := (hE1.2 7 _ rfl).1
          have f7 := (hE1.2 7 _ rfl).2
          have z0 := (hR1.2 0 _ rfl).1
          have y0 := (hR1.2 0 _ rfl).2
          have z1 := (hR1.2 1 _ rfl).1
          have y1 := (hR1.2 1 _ rfl).2
          have z2 := (hR1.2 2 _ rfl).1
          have y2 := (hR1.2 2 _ rfl).2
          have z3 := (hR1.2 3 _ rfl).1
          have y3 := (hR1.2 3 _ rfl).2
          have z4 := (hR1.2 4 _ rfl).1
          have y4 := (hR1.2 4 _ rfl).2
          have z5 := (hR1.2 5 _ rfl).1
          have y5 := (hR1.2 5 _ rfl).2
          have z6 := (hR1.2 6 _ rfl).1
          have y6 := (hR1.2 6 _ rfl).2
          have z7 := (hR1.2 7 _ rfl).1
          have y7 := (hR1.2 7 _ rfl).2
          have o0 := (hQ1.2 0 _ rfl).1
          have o1 := (hQ1.2 1 _ rfl).1
          clear hSv hEv hRv hTv hMv
          have dd0 := fun o => (((((hS1).keep ((Turned.refl [C] _).setCell (p := ⟨C, 4, none⟩) (.inl (by simp)) _) (by simpa using nBC))).keep ((Turned.refl [] (u1.setCell ⟨C, 4, none⟩ (.int .i64 (-vx)))).alloc o) (by simp)).2 0 _ rfl).1
          have dd1 := fun o => (((((hS1).keep ((Turned.refl [C] _).setCell (p := ⟨C, 4, none⟩) (.inl (by simp)) _) (by simpa using nBC))).keep ((Turned.refl [] (u1.setCell ⟨C, 4, none⟩ (.int .i64 (-vx)))).alloc o) (by simp)).2 1 _ rfl).1
          have dd2 := fun o => (((((hS1).keep ((Turned.refl [C] _).setCell (p := ⟨C, 4, none⟩) (.inl (by simp)) _) (by simpa using nBC))).keep ((Turned.refl [] (u1.setCell ⟨C, 4, none⟩ (.int .i64 (-vx)))).alloc o) (by simp)).2 2 _ rfl).1
          have dd3 := fun o => (((((hS1).keep ((Turned.refl [C] _).setCell (p := ⟨C, 4, none⟩) (.inl (by simp)) _) (by simpa using nBC))).keep ((Turned.refl [] (u1.setCell ⟨C, 4, none⟩ (.int .i64 (-vx)))).alloc o) (by simp)).2 3 _ rfl).1
          go_wp2_with fail
          obtain ⟨V2, hV2⟩ : ∃ V, V = (u1.setCell ⟨C, 4, none⟩ (.int .i64 (-vx))).alloc (.cells #[.int .i64 ax, .int .i64 (ay + vy)] 28) := ⟨_, rfl⟩
          obtain ⟨O2, hO2⟩ : ∃ b, b = u1.heap.size := ⟨_, rfl⟩
          have hP2 : Struct O2 [.int .i64 ax, .int .i64 (ay + vy)] V2 := by
            have h0 := Struct.new (u1.setCell ⟨C, 4, none⟩ (.int .i64 (-vx))) [.int .i64 ax, .int .i64 (ay + vy)] 28
            rw [show (u1.setCell ⟨C, 4, none⟩ (.int .i64 (-vx))).heap.size = u1.heap.size by simp, ← hO2] at h0
            rw [hV2]; exact h0
          have aV := (Turned.refl [] (u1.setCell ⟨C, 4, none⟩ (.int .i64 (-vx)))).alloc (.cells #[.int .i64 ax, .int .i64 (ay + vy)] 28)
          rw [← hV2] at aV
          have hEv := (((hE1).set (i := 4) (by simp) _)).keep aV (by simp)
          have hRv := (((hR1).keep ((Turned.refl [C] _).setCell (p := ⟨C, 4, none⟩) (.inl (by simp)) _) (by simpa using nCD.symm))).keep aV (by simp)
          have hSv := (((hS1).keep ((Turned.refl [C] _).setCell (p := ⟨C, 4, none⟩) (.inl (by simp)) _) (by simpa using nBC))).keep aV (by simp)
          have hTv := (((hTu1).setCell (p := ⟨C, 4, none⟩) (.inr hCw) _)).trans aV (by simp)
          have hMv := h.calm hTv
          rw [← hV2, ← hO2]
          clear hV2 hO2 aV d0 d1 d2 d3 dd0 dd1 dd2 dd3 c0 c1 c2 c3 c4 c5 c6 c7 f0 f1 f2 f3 f4 f5 f6 f7 z0 z1 z2 z3 z4 z5 z6 z7 y0 y1 y2 y3 y4 y5 y6 y7 o0 o1
          refine (ks2 _ hMv).mono ?_
          rintro r u2 ⟨rfl, HS2⟩
          have hS2 := hSv.keep HS2 (by simp)
          have hE2 := hEv.keep HS2 (by simp)
          have hR2 := hRv.keep HS2 (by simp)
          have hQ2 := hP2.keep HS2 (by simp)
          have hTu2 := hTv.trans HS2 (by simp)
          have d0 := (hS2.2 0 _ rfl).1
          have d1 := (hS2.2 1 _ rfl).1
          have d2 := (hS2.2 2 _ rfl).1
          have d3 := (hS2.2 3 _ rfl).1
          have c0 := (hE2.2 0 _ rfl).1
          have f0 := (hE2.2 0 _ rfl).2
          have c1 := (hE2.2 1 _ rfl).1
          have f1 := (hE2.2 1 _ rfl).2
          have c2 := (hE2.2 2 _ rfl).1
          have f2 := (hE2.2 2 _ rfl).2
          have c3 := (hE2.2 3 _ rfl).1
          have f3 := (hE2.2 3 _ rfl).2
          have c4 := (hE2.2 4 _ rfl).1
          have f4 := (hE2.2 4 _ rfl).2
          have c5 := (hE2.2 5 _ rfl).1
          have f5 := (hE2.2 5 _ rfl).2
          have c6 := (hE2.2 6 _ rfl).1
          have f6 := (hE2.2 6 _ rfl).2
          have c7 := (hE2.2 7 _ rfl).1
          have f7 := (hE2.2 7 _ rfl).2
          have z0 := (hR2.2 0 _ rfl).1
          have y0 := (hR2.2 0 _ rfl).2
          have z1 := (hR2.2 1 _ rfl).1
          have y1 := (hR2.2 1 _ rfl).2
          have z2 := (hR2.2 2 _ rfl).1
          have y2 := (hR2.2 2 _ rfl).2
          have z3 := (hR2.2 3 _ rfl).1
          have y3 := (hR2.2 3 _ rfl).2
          have z4 := (hR2.2 4 _ rfl).1
          have y4 := (hR2.2 4 _ rfl).2
          have z5 := (hR2.2 5 _ rfl).1
          have y5 := (hR2.2 5 _ rfl).2
          have z6 := (hR2.2 6 _ rfl).1
          have y6 := (hR2.2 6 _ rfl).2
          have z7 := (hR2.2 7 _ rfl).1
          have y7 := (hR2.2 7 _ rfl).2
          have o0 := (hQ2.2 0 _ rfl).1
          have o1 := (hQ2.2 1 _ rfl).1
          clear hSv hEv hRv hTv hMv
          go_wp2_with fail
          obtain ⟨W9, hW9⟩ : ∃ W9, W9 = put8 ((u2.setCell ⟨C, 2, none⟩ (.int .i64 ax)).setCell ⟨C, 3, none⟩ (.int .i64 (ay + vy))) D ⟨id, kind, ax, ay + vy, -vx, vy, hh, t⟩ := ⟨_, rfl⟩
          have hS9 : Struct D (enEnc ⟨id, kind, ax, ay + vy, -vx, vy, hh, t⟩) W9 := by rw [hW9]; exact set8 (e := zeroE) ((((hR2).keep ((Turned.refl [C] _).setCell (p := ⟨C, 2, none⟩) (.inl (by simp)) _) (by simpa using nCD.symm))).keep ((Turned.refl [C] _).setCell (p := ⟨C, 3, none⟩) (.inl (by simp)) _) (by simpa using nCD.symm)) _
          have hT9 : Turned [] w W9 := by rw [hW9]; exact turned8 ((((hTu2).setCell (p := ⟨C, 2, none⟩) (.inr hCw) _)).setCell (p := ⟨C, 3, none⟩) (.inr hCw) _) (.inr hDw) _
          simp only [put8] at hW9
          rw [← hW9]
          have e0 := (hS9.2 0 _ rfl).1
          have e1 := (hS9.2 1 _ rfl).1
          have e2 := (hS9.2 2 _ rfl).1
          have e3 := (hS9.2 3 _ rfl).1
          have e4 := (hS9.2 4 _ rfl).1
          have e5 := (hS9.2 5 _ rfl).1
          have e6 := (hS9.2 6 _ rfl).1
          have e7 := (hS9.2 7 _ rfl).1
          simp only [enEnc] at e0 e1 e2 e3 e4 e5 e6 e7
          exact bodyPost_ret (v := enVal ⟨id, kind, ax, ay + vy, -vx, vy, hh, t⟩) (by simp [results, Try.results13, go_sem, e0, e1, e2, e3, e4, e5, e6, e7]) rfl ⟨by rw [HA.out], hT9⟩
      | true =>
        cases hs2 : Mv.stands m (ax + vx) (ay + vy) with
        | false =>
          have ks1 := kst (ax + vx) ay
          rw [hs1] at ks1
          have ks2 := kst (ax + vx) (ay + vy)
          rw [hs2] at ks2
          have HA : Hid (Mv.roll m ⟨id, kind, ax, ay, vx, vy, hh, t⟩ = ⟨id, kind, ax + vx, ay, vx, -vy, hh, t⟩) := by
            show _ = _
            simp only [Mv.roll, hwk, if_true, Mv.rolled, Mv.goX, Mv.goY, Mv.turnX, Mv.turnY, hs1, hs2, Bool.false_eq_true, if_false]
          clear hs1 hs2 hfb kst
          go_enter Try.func13, Try.ntmps13
          go_wp2_with fail
          rw [← hW0, ← hD, ← hC, ← hB]
          clear hW0 hD hC hB
          go_wp2_with (first | (go_at_call 21; (with_reducible refine (kfm _).mono ?_); rintro r u0 ⟨rfl, HT0⟩; have hS0 := hS.keep HT0 (by simp); have hE0 := hE.keep HT0 (by simp); have hR0 := hR.keep HT0 (by simp); have d0 := (hS0.2 0 _ rfl).1; have d1 := (hS0.2 1 _ rfl).1; have d2 := (hS0.2 2 _ rfl).1; have d3 := (hS0.2 3 _ rfl).1; have c0 := (hE0.2 0 _ rfl).1; have f0 := (hE0.2 0 _ rfl).2; have c1 := (hE0.2 1 _ rfl).1; have f1 := (hE0.2 1 _ rfl).2; have c2 := (hE0.2 2 _ rfl).1; have f2 := (hE0.2 2 _ rfl).2; have c3 := (hE0.2 3 _ rfl).1; have f3 := (hE0.2 3 _ rfl).2; have c4 := (hE0.2 4 _ rfl).1; have f4 := (hE0.2 4 _ rfl).2; have c5 := (hE0.2 5 _ rfl).1; have f5 := (hE0.2 5 _ rfl).2; have c6 := (hE0.2 6 _ rfl).1; have f6 := (hE0.2 6 _ rfl).2; have c7 := (hE0.2 7 _ rfl).1; have f7 := (hE0.2 7 _ rfl).2; have z0 := (hR0.2 0 _ rfl).1; have y0 := (hR0.2 0 _ rfl).2; have z1 := (hR0.2 1 _ rfl).1; have y1 := (hR0.2 1 _ rfl).2; have z2 := (hR0.2 2 _ rfl).1; have y2 := (hR0.2 2 _ rfl).2; have z3 := (hR0.2 3 _ rfl).1; have y3 := (hR0.2 3 _ rfl).2; have z4 := (hR0.2 4 _ rfl).1; have y4 := (hR0.2 4 _ rfl).2; have z5 := (hR0.2 5 _ rfl).1; have y5 := (hR0.2 5 _ rfl).2; have z6 := (hR0.2 6 _ rfl).1; have y6 := (hR0.2 6 _ rfl).2; have z7 := (hR0.2 7 _ rfl).1; have y7 := (hR0.2 7 _ rfl).2; have dd0 := fun o => (((hS0).keep ((Turned.refl [] u0).alloc o) (by simp)).2 0 _ rfl).1; have dd1 := fun o => (((hS0).keep ((Turned.refl [] u0).alloc o) (by simp)).2 1 _ rfl).1; have dd2 := fun o => (((hS0).keep ((Turned.refl [] u0).alloc o) (by simp)).2 2 _ rfl).1; have dd3 := fun o => (((hS0).keep ((Turned.refl [] u0).alloc o) (by simp)).2 3 _ rfl).1))
          have hTu0 := hT.trans HT0 (by simp)
          obtain ⟨V1, hV1⟩ : ∃ V, V = u0.alloc (.cells #[.int .i64 (ax + vx), .int .i64 ay] 28) := ⟨_, rfl⟩
          obtain ⟨O1, hO1⟩ : ∃ b, b = u0.heap.size := ⟨_, rfl⟩
          have hP1 : Struct O1 [.int .i64 (ax + vx), .int .i64 ay] V1 := by
            have h0 := Struct.new u0 [.int .i64 (ax + vx), .int .i64 ay] 28
            rw [← hO1] at h0
            rw [hV1]; exact h0
          have aV := (Turned.refl [] u0).alloc (.cells #[.int .i64 (ax + vx), .int .i64 ay] 28)
          rw [← hV1] at aV
          have hEv := (hE0).keep aV (by simp)
          have hRv := (hR0).keep aV (by simp)
          have hSv := (hS0).keep aV (by simp)
          have hTv := (hTu0).trans aV (by simp)
          have hMv := h.calm hTv
          rw [← hV1, ← hO1]
          clear hV1 hO1 aV d0 d1 d2 d3 dd0 dd1 dd2 dd3 c0 c1 c2 c3 c4 c5 c6 c7 f0 f1 f2 f3 f4 f5 f6 f7 z0 z1 z2 z3 z4 z5 z6 z7 y0 y1 y2 y3 y4 y5 y6 y7
          refine (ks1 _ hMv).mono ?_
          rintro r u1 ⟨rfl, HS1⟩
          have hS1 := hSv.keep HS1 (by simp)
          have hE1 := hEv.keep HS1 (by simp)
          have hR1 := hRv.keep HS1 (by simp)
          have hQ1 := hP1.keep HS1 (by simp)
          have hTu1 := hTv.trans HS1 (by simp)
          have d0 := (hS1.2 0 _ rfl).1
          have d1 := (hS1.2 1 _ rfl).1
          have d2 := (hS1.2 2 _ rfl).1
          have d3 := (hS1.2 3 _ rfl).1
          have c0 := (hE1.2 0 _ rfl).1
          have f0 := (hE1.2 0 _ rfl).2
          have c1 := (hE1.2 1 _ rfl).1
          have f1 := (hE1.2 1 _ rfl).2
          have c2 := (hE1.2 2 _ rfl).1
          have f2 := (hE1.2 2 _ rfl).2
          have c3 := (hE1.2 3 _ rfl).1
          have f3 := (hE1.2 3 _ rfl).2
          have c4 := (hE1.2 4 _ rfl).1
          have f4 := (hE1.2 4 _ rfl).2
          have c5 := (hE1.2 5 _ rfl).1
          have f5 := (hE1.2 5 _ rfl).2
          have c6 := (hE1.2 6 _ rfl).1
          have f6 := (hE1.2 6 _ rfl).2
          have c7 := (hE1.2 7 _ rfl).1
          have f7 := (hE1.2 7 _ rfl).2
          have z0 := (hR1.2 0 _ rfl).1
          have y0 := (hR1.2 0 _ rfl).2
          have z1 := (hR1.2 1 _ rfl).1
          have y1 := (hR1.2 1 _ rfl).2
          have z2 := (hR1.2 2 _ rfl).1
          have y2 := (hR1.2 2 _ rfl).2
          have z3 := (hR1.2 3 _ rfl).1
          have y3 := (hR1.2 3 _ rfl).2
          have z4 := (hR1.2 4 _ rfl).1
          have y4 := (hR1.2 4 _ rfl).2
          have z5 := (hR1.2 5 _ rfl).1
          have y5 := (hR1.2 5 _ rfl).2
          have z6 := (hR1.2 6 _ rfl).1
          have y6 := (hR1.2 6 _ rfl).2
          have z7 := (hR1.2 7 _ rfl).1
          have y7 := (hR1.2 7 _ rfl).2
          have o0 := (hQ1.2 0 _ rfl).1
          have o1 := (hQ1.2 1 _ rfl).1
          clear hSv hEv hRv hTv hMv
          have dd0 := fun o => (((((((hS1).keep ((Turned.refl [C] _).setCell (p := ⟨C, 2, none⟩) (.inl (by simp)) _) (by simpa using nBC))).keep ((Turned.refl [C] _).setCell (p := ⟨C, 3, none⟩) (.inl (by simp)) _) (by simpa using nBC))).keep ((Turned.refl [] ((u1.setCell ⟨C, 2, none⟩ (.int .i64 (ax + vx))).setCell ⟨C, 3, none⟩ (.int .i64 ay))).alloc o) (by simp)).2 0 _ rfl).1
          have dd1 := fun o => (((((((hS1).keep ((Turned.refl [C] _).setCell (p := ⟨C, 2, none⟩) (.inl (by simp)) _) (by simpa using nBC))).keep ((Turned.refl [C] _).setCell (p := ⟨C, 3, none⟩) (.inl (by simp)) _) (by simpa using nBC))).keep ((Turned.refl [] ((u1.setCell ⟨C, 2, none⟩ (.int .i64 (ax + vx))).setCell ⟨C, 3, none⟩ (.int .i64 ay))).alloc o) (by simp)).2 1 _ rfl).1
          have dd2 := fun o => (((((((hS1).keep ((Turned.refl [C] _).setCell (p := ⟨C, 2, none⟩) (.inl (by simp)) _) (by simpa using nBC))).keep ((Turned.refl [C] _).setCell (p := ⟨C, 3, none⟩) (.inl (by simp)) _) (by simpa using nBC))).keep ((Turned.refl [] ((u1.setCell ⟨C, 2, none⟩ (.int .i64 (ax + vx))).setCell ⟨C, 3, none⟩ (.int .i64 ay))).alloc o) (by simp)).2 2 _ rfl).1
          have dd3 := fun o => (((((((hS1).keep ((Turned.refl [C] _).setCell (p := ⟨C, 2, none⟩) (.inl (by simp)) _) (by simpa using nBC))).keep ((Turned.refl [C] _).setCell (p := ⟨C, 3, none⟩) (.inl (by simp)) _) (by simpa using nBC))).keep ((Turned.refl [] ((u1.setCell ⟨C, 2, none⟩ (.int .i64 (ax + vx))).setCell ⟨C, 3, none⟩ (.int .i64 ay))).alloc o) (by simp)).2 3 _ rfl).1
          go_wp2_with fail
          obtain ⟨V2, hV2⟩ : ∃ V, V = ((u1.setCell ⟨C, 2, none⟩ (.int .i64 (ax + vx))).setCell ⟨C, 3, none⟩ (.int .i64 ay)).alloc (.cells #[.int .i64 (ax + vx), .int .i64 (ay + vy)] 28) := ⟨_, rfl⟩
          obtain ⟨O2, hO2⟩ : ∃ b, b = u1.heap.size := ⟨_, rfl⟩
          have hP2 : Struct O2 [.int .i64 (ax + vx), .int .i64 (ay + vy)] V2 := by
            have h0 := Struct.new ((u1.setCell ⟨C, 2, none⟩ (.int .i64 (ax + vx))).setCell ⟨C, 3, none⟩ (.int .i64 ay)) [.int .i64 (ax + vx), .int .i64 (ay + vy)] 28
            rw [show ((u1.setCell ⟨C, 2, none⟩ (.int .i64 (ax + vx))).setCell ⟨C, 3, none⟩ (.int .i64 ay)).heap.size = u1.heap.size by simp, ← hO2] at h0
            rw [hV2]; exact h0
          have aV := (Turned.refl [] ((u1.setCell ⟨C, 2, none⟩ (.int .i64 (ax + vx))).setCell ⟨C, 3, none⟩ (.int .i64 ay))).alloc (.cells #[.int .i64 (ax + vx), .int .i64 (ay + vy)] 28)
          rw [← hV2] at aV
          have hEv := (((((hE1).set (i := 2) (by simp) _)).set (i := 3) (by simp) _)).keep aV (by simp)
          have hRv := (((((hR1).keep ((Turned.refl [C] _).setCell (p := ⟨C, 2, none⟩) (.inl (by simp)) _) (by simpa using nCD.symm))).keep ((Turned.refl [C] _).setCell (p := ⟨C, 3, none⟩) (.inl (by simp)) _) (by simpa using nCD.symm))).keep aV (by simp)
          have hSv := (((((hS1).keep ((Turned.refl [C] _).setCell (p := ⟨C, 2, none⟩) (.inl (by simp)) _) (by simpa using nBC))).keep ((Turned.refl [C] _).setCell (p := ⟨C, 3, none⟩) (.inl (by simp)) _) (by simpa using nBC))).keep aV (by simp)
          have hTv := (((((hTu1).setCell (p := ⟨C, 2, none⟩) (.inr hCw) _)).setCell (p := ⟨C, 3, none⟩) (.inr hCw) _)).trans aV (by simp)
          have hMv := h.calm hTv
          rw [← hV2, ← hO2]
          clear hV2 hO2 aV d0 d1 d2 d3 dd0 dd1 dd2 dd3 c0 c1 c2 c3 c4 c5 c6 c7 f0 f1 f2 f3 f4 f5 f6 f7 z0 z1 z2 z3 z4 z5 z6 z7 y0 y1 y2 y3 y4 y5 y6 y7 o0 o1
          refine (ks2 _ hMv).mono ?_
          rintro r u2 ⟨rfl, HS2⟩
          have hS2 := hSv.keep HS2 (by simp)
          have hE2 := hEv.keep HS2 (by simp)
          have hR2 := hRv.keep HS2 (by simp)
          have hQ2 := hP2.keep HS2 (by simp)
          have hTu2 := hTv.trans HS2 (by simp)
          have d0 := (hS2.2 0 _ rfl).1
          have d1 := (hS2.2 1 _ rfl).1
          have d2 := (hS2.2 2 _ rfl).1
          have d3 := (hS2.2 3 _ rfl).1
          have c0 := (hE2.2 0 _ rfl).1
          have f0 := (hE2.2 0 _ rfl).2
          have c1 := (hE2.2 1 _ rfl).1
          have f1 := (hE2.2 1 _ rfl).2
          have c2 := (hE2.2 2 _ rfl).1
          have f2 := (hE2.2 2 _ rfl).2
          have c3 := (hE2.2 3 _ rfl).1
          have f3 := (hE2.2 3 _ rfl).2
          have c4 := (hE2.2 4 _ rfl).1
          have f4 := (hE2.2 4 _ rfl).2
          have c5 := (hE2.2 5 _ rfl).1
          have f5 := (hE2.2 5 _ rfl).2
          have c6 := (hE2.2 6 _ rfl).1
          have f6 := (hE2.2 6 _ rfl).2
          have c7 := (hE2.2 7 _ rfl).1
          have f7 := (hE2.2 7 _ rfl).2
          have z0 := (hR2.2 0 _ rfl).1
          have y0 := (hR2.2 0 _ rfl).2
          have z1 := (hR2.2 1 _ rfl).1
          have y1 := (hR2.2 1 _ rfl).2
          have z2 := (hR2.2 2 _ rfl).1
          have y2 := (hR2.2 2 _ rfl).2
          have z3 := (hR2.2 3 _ rfl).1
          have y3 := (hR2.2 3 _ rfl).2
          have z4 := (hR2.2 4 _ rfl).1
          have y4 := (hR2.2 4 _ rfl).2
          have z5 := (hR2.2 5 _ rfl).1
          have y5 := (hR2.2 5 _ rfl).2
          have z6 := (hR2.2 6 _ rfl).1
          have y6 := (hR2.2 6 _ rfl).2
          have z7 := (hR2.2 7 _ rfl).1
          have y7 := (hR2.2 7 _ rfl).2
          have o0 := (hQ2.2 0 _ rfl).1
          have o1 := (hQ2.2 1 _ rfl).1
          clear hSv hEv hRv hTv hMv
          go_wp2_with fail
          obtain ⟨W9, hW9⟩ : ∃ W9, W9 = put8 (u2.setCell ⟨C, 5, none⟩ (.int .i64 (-vy))) D ⟨id, kind, ax + vx, ay, vx, -vy, hh, t⟩ := ⟨_, rfl⟩
          have hS9 : Struct D (enEnc ⟨id, kind, ax + vx, ay, vx, -vy, hh, t⟩) W9 := by rw [hW9]; exact set8 (e := zeroE) ((hR2).keep ((Turned.refl [C] _).setCell (p := ⟨C, 5, none⟩) (.inl (by simp)) _) (by simpa using nCD.symm)) _
          have hT9 : Turned [] w W9 := by rw [hW9]; exact turned8 ((hTu2).setCell (p := ⟨C, 5, none⟩) (.inr hCw) _) (.inr hDw) _
          simp only [put8] at hW9
          rw [← hW9]
          have e0 := (hS9.2 0 _ rfl).1
          have e1 := (hS9.2 1 _ rfl).1
          have e2 := (hS9.2 2 _ rfl).1
          have e3 := (hS9.2 3 _ rfl).1
          have e4 := (hS9.2 4 _ rfl).1
          have e5 := (hS9.2 5 _ rfl).1
          have e6 := (hS9.2 6 _ rfl).1
          have e7 := (hS9.2 7 _ rfl).1
          simp only [enEnc] at e0 e1 e2 e3 e4 e5 e6 e7
          exact bodyPost_ret (v := enVal ⟨id, kind, ax + vx, ay, vx, -vy, hh, t⟩) (by simp [results, Try.results13, go_sem, e0, e1, e2, e3, e4, e5, e6, e7]) rfl ⟨by rw [HA.out], hT9⟩
        | true =>
          have ks1 := kst (ax + vx) ay
          rw [hs1] at ks1
          have ks2 := kst (ax + vx) (ay + vy)
          rw [hs2] at ks2
          have HA : Hid (Mv.roll m ⟨id, kind, ax, ay, vx, vy, hh, t⟩ = ⟨id, kind, ax + vx, ay + vy, vx, vy, hh, t⟩) := by
            show _ = _
            simp only [Mv.roll, hwk, if_true, Mv.rolled, Mv.goX, Mv.goY, Mv.turnX, Mv.turnY, hs1, hs2, Bool.false_eq_true, if_false]
          clear hs1 hs2 hfb kst
          go_enter Try.func13, Try.ntmps13
          go_wp2_with fail
          rw [← hW0, ← hD, ← hC, ← hB]
          clear hW0 hD hC hB
          go_wp2_with (first | (go_at_call 21; (with_reducible refine (kfm _).mono ?_); rintro r u0 ⟨rfl, HT0⟩; have hS0 := hS.keep HT0 (by simp); have hE0 := hE.keep HT0 (by simp); have hR0 := hR.keep HT0 (by simp); have d0 := (hS0.2 0 _ rfl).1; have d1 := (hS0.2 1 _ rfl).1; have d2 := (hS0.2 2 _ rfl).1; have d3 := (hS0.2 3 _ rfl).1; have c0 := (hE0.2 0 _ rfl).1; have f0 := (hE0.2 0 _ rfl).2; have c1 := (hE0.2 1 _ rfl).1; have f1 := (hE0.2 1 _ rfl).2; have c2 := (hE0.2 2 _ rfl).1; have f2 := (hE0.2 2 _ rfl).2; have c3 := (hE0.2 3 _ rfl).1; have f3 := (hE0.2 3 _ rfl).2; have c4 := (hE0.2 4 _ rfl).1; have f4 := (hE0.2 4 _ rfl).2; have c5 := (hE0.2 5 _ rfl).1; have f5 := (hE0.2 5 _ rfl).2; have c6 := (hE0.2 6 _ rfl).1; have f6 := (hE0.2 6 _ rfl).2; have c7 := (hE0.2 7 _ rfl).1; have f7 := (hE0.2 7 _ rfl).2; have z0 := (hR0.2 0 _ rfl).1; have y0 := (hR0.2 0 _ rfl).2; have z1 := (hR0.2 1 _ rfl).1; have y1 := (hR0.2 1 _ rfl).2; have z2 := (hR0.2 2 _ rfl).1; have y2 := (hR0.2 2 _ rfl).2; have z3 := (hR0.2 3 _ rfl).1; have y3 := (hR0.2 3 _ rfl).2; have z4 := (hR0.2 4 _ rfl).1; have y4 := (hR0.2 4 _ rfl).2; have z5 := (hR0.2 5 _ rfl).1; have y5 := (hR0.2 5 _ rfl).2; have z6 := (hR0.2 6 _ rfl).1; have y6 := (hR0.2 6 _ rfl).2; have z7 := (hR0.2 7 _ rfl).1; have y7 := (hR0.2 7 _ rfl).2; have dd0 := fun o => (((hS0).keep ((Turned.refl [] u0).alloc o) (by simp)).2 0 _ rfl).1; have dd1 := fun o => (((hS0).keep ((Turned.refl [] u0).alloc o) (by simp)).2 1 _ rfl).1; have dd2 := fun o => (((hS0).keep ((Turned.refl [] u0).alloc o) (by simp)).2 2 _ rfl).1; have dd3 := fun o => (((hS0).keep ((Turned.refl [] u0).alloc o) (by simp)).2 3 _ rfl).1))
          have hTu0 := hT.trans HT0 (by simp)
          obtain ⟨V1, hV1⟩ : ∃ V, V = u0.alloc (.cells #[.int .i64 (ax + vx), .int .i64 ay] 28) := ⟨_, rfl⟩
          obtain ⟨O1, hO1⟩ : ∃ b, b = u0.heap.size := ⟨_, rfl⟩
          have hP1 : Struct O1 [.int .i64 (ax + vx), .int .i64 ay] V1 := by
            have h0 := Struct.new u0 [.int .i64 (ax + vx), .int .i64 ay] 28
            rw [← hO1] at h0
            rw [hV1]; exact h0
          have aV := (Turned.refl [] u0).alloc (.cells #[.int .i64 (ax + vx), .int .i64 ay] 28)
          rw [← hV1] at aV
          have hEv := (hE0).keep aV (by simp)
          have hRv := (hR0).keep aV (by simp)
          have hSv := (hS0).keep aV (by simp)
          have hTv := (hTu0).trans aV (by simp)
          have hMv := h.calm hTv
          rw [← hV1, ← hO1]
          clear hV1 hO1 aV d0 d1 d2 d3 dd0 dd1 dd2 dd3 c0 c1 c2 c3 c4 c5 c6 c7 f0 f1 f2 f3 f4 f5 f6 f7 z0 z1 z2 z3 z4 z5 z6 z7 y0 y1 y2 y3 y4 y5 y6 y7
          refine (ks1 _ hMv).mono ?_
          rintro r u1 ⟨rfl, HS1⟩
          have hS1 := hSv.keep HS1 (by simp)
          have hE1 := hEv.keep HS1 (by simp)
          have hR1 := hRv.keep HS1 (by simp)
          have hQ1 := hP1.keep HS1 (by simp)
          have hTu1 := hTv.trans HS1 (by simp)
          have d0 := (hS1.2 0 _ rfl).1
          have d1 := (hS1.2 1 _ rfl).1
          have d2 := (hS1.2 2 _ rfl).1
          have d3 := (hS1.2 3 _ rfl).1
          have c0 := (hE1.2 0 _ rfl).1
          have f0 := (hE1.2 0 _ rfl).2
          have c1 := (hE1.2 1 _ rfl).1
          have f1 := (hE1.2 1 _ rfl).2
          have c2 := (hE1.2 2 _ rfl).1
          have f2 := (hE1.2 2 _ rfl).2
          have c3 := (hE1.2 3 _ rfl).1
          have f3 := (hE1.2 3 _ rfl).2
          have c4 := (hE1.2 4 _ rfl).1
          have f4 := (hE1.2 4 _ rfl).2
          have c5 := (hE1.2 5 _ rfl).1
          have f5 := (hE1.2 5 _ rfl).2
          have c6 := (hE1.2 6 _ rfl).1
          have f6 := (hE1.2 6 _ rfl).2
          have c7 := (hE1.2 7 _ rfl).1
          have f7 := (hE1.2 7 _ rfl).2
          have z0 := (hR1.2 0 _ rfl).1
          have y0 := (hR1.2 0 _ rfl).2
          have z1 := (hR1.2 1 _ rfl).1
          have y1 := (hR1.2 1 _ rfl).2
          have z2 := (hR1.2 2 _ rfl).1
          have y2 := (hR1.2 2 _ rfl).2
          have z3 := (hR1.2 3 _ rfl).1
          have y3 := (hR1.2 3 _ rfl).2
          have z4 := (hR1.2 4 _ rfl).1
          have y4 := (hR1.2 4 _ rfl).2
          have z5 := (hR1.2 5 _ rfl).1
          have y5 := (hR1.2 5 _ rfl).2
          have z6 := (hR1.2 6 _ rfl).1
          have y6 := (hR1.2 6 _ rfl).2
          have z7 := (hR1.2 7 _ rfl).1
          have y7 := (hR1.2 7 _ rfl).2
          have o0 := (hQ1.2 0 _ rfl).1
          have o1 := (hQ1.2 1 _ rfl).1
          clear hSv hEv hRv hTv hMv
          have dd0 := fun o => (((((((hS1).keep ((Turned.refl [C] _).setCell (p := ⟨C, 2, none⟩) (.inl (by simp)) _) (by simpa using nBC))).keep ((Turned.refl [C] _).setCell (p := ⟨C, 3, none⟩) (.inl (by simp)) _) (by simpa using nBC))).keep ((Turned.refl [] ((u1.setCell ⟨C, 2, none⟩ (.int .i64 (ax + vx))).setCell ⟨C, 3, none⟩ (.int .i64 ay))).alloc o) (by simp)).2 0 _ rfl).1
          have dd1 := fun o => (((((((hS1).keep ((Turned.refl [C] _).setCell (p := ⟨C, 2, none⟩) (.inl (by simp)) _) (by simpa using nBC))).keep ((Turned.refl [C] _).setCell (p := ⟨C, 3, none⟩) (.inl (by simp)) _) (by simpa using nBC))).keep ((Turned.refl [] ((u1.setCell ⟨C, 2, none⟩ (.int .i64 (ax + vx))).setCell ⟨C, 3, none⟩ (.int .i64 ay))).alloc o) (by simp)).2 1 _ rfl).1
          have dd2 := fun o => (((((((hS1).keep ((Turned.refl [C] _).setCell (p := ⟨C, 2, none⟩) (.inl (by simp)) _) (by simpa using nBC))).keep ((Turned.refl [C] _).setCell (p := ⟨C, 3, none⟩) (.inl (by simp)) _) (by simpa using nBC))).keep ((Turned.refl [] ((u1.setCell ⟨C, 2, none⟩ (.int .i64 (ax + vx))).setCell ⟨C, 3, none⟩ (.int .i64 ay))).alloc o) (by simp)).2 2 _ rfl).1
          have dd3 := fun o => (((((((hS1).keep ((Turned.refl [C] _).setCell (p := ⟨C, 2, none⟩) (.inl (by simp)) _) (by simpa using nBC))).keep ((Turned.refl [C] _).setCell (p := ⟨C, 3, none⟩) (.inl (by simp)) _) (by simpa using nBC))).keep ((Turned.refl [] ((u1.setCell ⟨C, 2, none⟩ (.int .i64 (ax + vx))).setCell ⟨C, 3, none⟩ (.int .i64 ay))).alloc o) (by simp)).2 3 _ rfl).1
          go_wp2_with fail
          obtain ⟨V2, hV2⟩ : ∃ V, V = ((u1.setCell ⟨C, 2, none⟩ (.int .i64 (ax + vx))).setCell ⟨C, 3, none⟩ (.int .i64 ay)).alloc (.cells #[.int .i64 (ax + vx), .int .i64 (ay + vy)] 28) := ⟨_, rfl⟩
          obtain ⟨O2, hO2⟩ : ∃ b, b = u1.heap.size := ⟨_, rfl⟩
          have hP2 : Struct O2 [.int .i64 (ax + vx), .int .i64 (ay + vy)] V2 := by
            have h0 := Struct.new ((u1.setCell ⟨C, 2, none⟩ (.int .i64 (ax + vx))).setCell ⟨C, 3, none⟩ (.int .i64 ay)) [.int .i64 (ax + vx), .int .i64 (ay + vy)] 28
            rw [show ((u1.setCell ⟨C, 2, none⟩ (.int .i64 (ax + vx))).setCell ⟨C, 3, none⟩ (.int .i64 ay)).heap.size = u1.heap.size by simp, ← hO2] at h0
            rw [hV2]; exact h0
          have aV := (Turned.refl [] ((u1.setCell ⟨C, 2, none⟩ (.int .i64 (ax + vx))).setCell ⟨C, 3, none⟩ (.int .i64 ay))).alloc (.cells #[.int .i64 (ax + vx), .int .i64 (ay + vy)] 28)
          rw [← hV2] at aV
          have hEv := (((((hE1).set (i := 2) (by simp) _)).set (i := 3) (by simp) _)).keep aV (by simp)
          have hRv := (((((hR1).keep ((Turned.refl [C] _).setCell (p := ⟨C, 2, none⟩) (.inl (by simp)) _) (by simpa using nCD.symm))).keep ((Turned.refl [C] _).setCell (p := ⟨C, 3, none⟩) (.inl (by simp)) _) (by simpa using nCD.symm))).keep aV (by simp)
          have hSv := (((((hS1).keep ((Turned.refl [C] _).setCell (p := ⟨C, 2, none⟩) (.inl (by simp)) _) (by simpa using nBC))).keep ((Turned.refl [C] _).setCell (p := ⟨C, 3, none⟩) (.inl (by simp)) _) (by simpa using nBC))).keep aV (by simp)
          have hTv := (((((hTu1).setCell (p := ⟨C, 2, none⟩) (.inr hCw) _)).setCell (p := ⟨C, 3, none⟩) (.inr hCw) _)).trans aV (by simp)
          have hMv := h.calm hTv
          rw [← hV2, ← hO2]
          clear hV2 hO2 aV d0 d1 d2 d3 dd0 dd1 dd2 dd3 c0 c1 c2 c3 c4 c5 c6 c7 f0 f1 f2 f3 f4 f5 f6 f7 z0 z1 z2 z3 z4 z5 z6 z7 y0 y1 y2 y3 y4 y5 y6 y7 o0 o1
          refine (ks2 _ hMv).mono ?_
          rintro r u2 ⟨rfl, HS2⟩
          have hS2 := hSv.keep HS2 (by simp)
          have hE2 := hEv.keep HS2 (by simp)
          have hR2 := hRv.keep HS2 (by simp)
          have hQ2 := hP2.keep HS2 (by simp)
          have hTu2 := hTv.trans HS2 (by simp)
          have d0 := (hS2.2 0 _ rfl).1
          have d1 := (hS2.2 1 _ rfl).1
          have d2 := (hS2.2 2 _ rfl).1
          have d3 := (hS2.2 3 _ rfl).1
          have c0 := (hE2.2 0 _ rfl).1
          have f0 := (hE2.2 0 _ rfl).2
          have c1 := (hE2.2 1 _ rfl).1
          have f1 := (hE2.2 1 _ rfl).2
          have c2 := (hE2.2 2 _ rfl).1
          have f2 := (hE2.2 2 _ rfl).2
          have c3 := (hE2.2 3 _ rfl).1
          have f3 := (hE2.2 3 _ rfl).2
          have c4 := (hE2.2 4 _ rfl).1
          have f4 := (hE2.2 4 _ rfl).2
          have c5 := (hE2.2 5 _ rfl).1
          have f5 := (hE2.2 5 _ rfl).2
          have c6 := (hE2.2 6 _ rfl).1
          have f6 := (hE2.2 6 _ rfl).2
          have c7 := (hE2.2 7 _ rfl).1
          have f7 := (hE2.2 7 _ rfl).2
          have z0 := (hR2.2 0 _ rfl).1
          have y0 := (hR2.2 0 _ rfl).2
          have z1 := (hR2.2 1 _ rfl).1
          have y1 := (hR2.2 1 _ rfl).2
          have z2 := (hR2.2 2 _ rfl).1
          have y2 := (hR2.2 2 _ rfl).2
          have z3 := (hR2.2 3 _ rfl).1
          have y3 := (hR2.2 3 _ rfl).2
          have z4 := (hR2.2 4 _ rfl).1
          have y4 := (hR2.2 4 _ rfl).2
          have z5 := (hR2.2 5 _ rfl).1
          have y5 := (hR2.2 5 _ rfl).2
          have z6 := (hR2.2 6 _ rfl).1
          have y6 := (hR2.2 6 _ rfl).2
          have z7 := (hR2.2 7 _ rfl).1
          have y7 := (hR2.2 7 _ rfl).2
          have o0 := (hQ2.2 0 _ rfl).1
          have o1 := (hQ2.2 1 _ rfl).1
          clear hSv hEv hRv hTv hMv
          go_wp2_with fail
          obtain ⟨W9, hW9⟩ : ∃ W9, W9 = put8 ((u2.setCell ⟨C, 2, none⟩ (.int .i64 (ax + vx))).setCell ⟨C, 3, none⟩ (.int .i64 (ay + vy))) D ⟨id, kind, ax + vx, ay + vy, vx, vy, hh, t⟩ := ⟨_, rfl⟩
          have hS9 : Struct D (enEnc ⟨id, kind, ax + vx, ay + vy, vx, vy, hh, t⟩) W9 := by rw [hW9]; exact set8 (e := zeroE) ((((hR2).keep ((Turned.refl [C] _).setCell (p := ⟨C, 2, none⟩) (.inl (by simp)) _) (by simpa using nCD.symm))).keep ((Turned.refl [C] _).setCell (p := ⟨C, 3, none⟩) (.inl (by simp)) _) (by simpa using nCD.symm)) _
          have hT9 : Turned [] w W9 := by rw [hW9]; exact turned8 ((((hTu2).setCell (p := ⟨C, 2, none⟩) (.inr hCw) _)).setCell (p := ⟨C, 3, none⟩) (.inr hCw) _) (.inr hDw) _
          simp only [put8] at hW9
          rw [← hW9]
          have e0 := (hS9.2 0 _ rfl).1
          have e1 := (hS9.2 1 _ rfl).1
          have e2 := (hS9.2 2 _ rfl).1
          have e3 := (hS9.2 3 _ rfl).1
          have e4 := (hS9.2 4 _ rfl).1
          have e5 := (hS9.2 5 _ rfl).1
          have e6 := (hS9.2 6 _ rfl).1
          have e7 := (hS9.2 7 _ rfl).1
          simp only [enEnc] at e0 e1 e2 e3 e4 e5 e6 e7
          exact bodyPost_ret (v := enVal ⟨id, kind, ax + vx, ay + vy, vx, vy, hh, t⟩) (by simp [results, Try.results13, go_sem, e0, e1, e2, e3, e4, e5, e6, e7]) rfl ⟨by rw [HA.out], hT9⟩
    · have HA : Hid (Mv.roll m ⟨id, kind, ax, ay, vx, vy, hh, t⟩ = ⟨id, kind, ax, ay, vx, vy, hh, t⟩) := by
        show _ = _
        unfold Mv.roll
        rw [if_neg]
        rw [Mv.rolls_iff]
        rintro ⟨_, hn⟩
        exact h1 hn
      have i1 : (kind != 2) = true := by rw [bne_iff_ne]; exact h1
      clear h1 hF
      clear hfb
      go_enter Try.func13, Try.ntmps13
      go_wp2_with fail
      rw [← hW0, ← hD, ← hC, ← hB]
      clear hW0 hD hC hB
      go_wp2_with (go_at_call 21; (with_reducible refine (kfm _).mono ?_); rintro r u0 ⟨rfl, HT0⟩; have hS0 := hS.keep HT0 (by simp); have hE0 := hE.keep HT0 (by simp); have hR0 := hR.keep HT0 (by simp); have d0 := (hS0.2 0 _ rfl).1; have d1 := (hS0.2 1 _ rfl).1; have d2 := (hS0.2 2 _ rfl).1; have d3 := (hS0.2 3 _ rfl).1; have c0 := (hE0.2 0 _ rfl).1; have f0 := (hE0.2 0 _ rfl).2; have c1 := (hE0.2 1 _ rfl).1; have f1 := (hE0.2 1 _ rfl).2; have c2 := (hE0.2 2 _ rfl).1; have f2 := (hE0.2 2 _ rfl).2; have c3 := (hE0.2 3 _ rfl).1; have f3 := (hE0.2 3 _ rfl).2; have c4 := (hE0.2 4 _ rfl).1; have f4 := (hE0.2 4 _ rfl).2; have c5 := (hE0.2 5 _ rfl).1; have f5 := (hE0.2 5 _ rfl).2; have c6 := (hE0.2 6 _ rfl).1; have f6 := (hE0.2 6 _ rfl).2; have c7 := (hE0.2 7 _ rfl).1; have f7 := (hE0.2 7 _ rfl).2; have z0 := (hR0.2 0 _ rfl).1; have y0 := (hR0.2 0 _ rfl).2; have z1 := (hR0.2 1 _ rfl).1; have y1 := (hR0.2 1 _ rfl).2; have z2 := (hR0.2 2 _ rfl).1; have y2 := (hR0.2 2 _ rfl).2; have z3 := (hR0.2 3 _ rfl).1; have y3 := (hR0.2 3 _ rfl).2; have z4 := (hR0.2 4 _ rfl).1; have y4 := (hR0.2 4 _ rfl).2; have z5 := (hR0.2 5 _ rfl).1; have y5 := (hR0.2 5 _ rfl).2; have z6 := (hR0.2 6 _ rfl).1; have y6 := (hR0.2 6 _ rfl).2; have z7 := (hR0.2 7 _ rfl).1; have y7 := (hR0.2 7 _ rfl).2)
      obtain ⟨W9, hW9⟩ : ∃ W9, W9 = put8 u0 D ⟨id, kind, ax, ay, vx, vy, hh, t⟩ := ⟨_, rfl⟩
      have hS9 : Struct D (enEnc ⟨id, kind, ax, ay, vx, vy, hh, t⟩) W9 := by rw [hW9]; exact set8 (e := zeroE) hR0 _
      have hT9 : Turned [] w W9 := by rw [hW9]; exact turned8 (hT.trans HT0 (by simp)) (.inr hDw) _
      simp only [put8] at hW9
      rw [← hW9]
      have e0 := (hS9.2 0 _ rfl).1
      have e1 := (hS9.2 1 _ rfl).1
      have e2 := (hS9.2 2 _ rfl).1
      have e3 := (hS9.2 3 _ rfl).1
      have e4 := (hS9.2 4 _ rfl).1
      have e5 := (hS9.2 5 _ rfl).1
      have e6 := (hS9.2 6 _ rfl).1
      have e7 := (hS9.2 7 _ rfl).1
      simp only [enEnc] at e0 e1 e2 e3 e4 e5 e6 e7
      exact bodyPost_ret (v := enVal ⟨id, kind, ax, ay, vx, vy, hh, t⟩) (by simp [results, Try.results13, go_sem, e0, e1, e2, e3, e4, e5, e6, e7]) rfl ⟨by rw [HA.out], hT9⟩
  · rw [show fb = false by rw [hfb]; exact decide_eq_false hF] at kfm
    have HA : Hid (Mv.roll m ⟨id, kind, ax, ay, vx, vy, hh, t⟩ = ⟨id, kind, ax, ay, vx, vy, hh, t⟩) := by
      show _ = _
      unfold Mv.roll
      rw [if_neg]
      rw [Mv.rolls_iff]
      rintro ⟨hn, _⟩
      exact hF hn
    clear hF
    clear hfb
    go_enter Try.func13, Try.ntmps13
    go_wp2_with fail
    rw [← hW0, ← hD, ← hC, ← hB]
    clear hW0 hD hC hB
    go_wp2_with (go_at_call 21; (with_reducible refine (kfm _).mono ?_); rintro r u0 ⟨rfl, HT0⟩; have hS0 := hS.keep HT0 (by simp); have hE0 := hE.keep HT0 (by simp); have hR0 := hR.keep HT0 (by simp); have d0 := (hS0.2 0 _ rfl).1; have d1 := (hS0.2 1 _ rfl).1; have d2 := (hS0.2 2 _ rfl).1; have d3 := (hS0.2 3 _ rfl).1; have c0 := (hE0.2 0 _ rfl).1; have f0 := (hE0.2 0 _ rfl).2; have c1 := (hE0.2 1 _ rfl).1; have f1 := (hE0.2 1 _ rfl).2; have c2 := (hE0.2 2 _ rfl).1; have f2 := (hE0.2 2 _ rfl).2; have c3 := (hE0.2 3 _ rfl).1; have f3 := (hE0.2 3 _ rfl).2; have c4 := (hE0.2 4 _ rfl).1; have f4 := (hE0.2 4 _ rfl).2; have c5 := (hE0.2 5 _ rfl).1; have f5 := (hE0.2 5 _ rfl).2; have c6 := (hE0.2 6 _ rfl).1; have f6 := (hE0.2 6 _ rfl).2; have c7 := (hE0.2 7 _ rfl).1; have f7 := (hE0.2 7 _ rfl).2; have z0 := (hR0.2 0 _ rfl).1; have y0 := (hR0.2 0 _ rfl).2; have z1 := (hR0.2 1 _ rfl).1; have y1 := (hR0.2 1 _ rfl).2; have z2 := (hR0.2 2 _ rfl).1; have y2 := (hR0.2 2 _ rfl).2; have z3 := (hR0.2 3 _ rfl).1; have y3 := (hR0.2 3 _ rfl).2; have z4 := (hR0.2 4 _ rfl).1; have y4 := (hR0.2 4 _ rfl).2; have z5 := (hR0.2 5 _ rfl).1; have y5 := (hR0.2 5 _ rfl).2; have z6 := (hR0.2 6 _ rfl).1; have y6 := (hR0.2 6 _ rfl).2; have z7 := (hR0.2 7 _ rfl).1; have y7 := (hR0.2 7 _ rfl).2)
    obtain ⟨W9, hW9⟩ : ∃ W9, W9 = put8 u0 D ⟨id, kind, ax, ay, vx, vy, hh, t⟩ := ⟨_, rfl⟩
    have hS9 : Struct D (enEnc ⟨id, kind, ax, ay, vx, vy, hh, t⟩) W9 := by rw [hW9]; exact set8 (e := zeroE) hR0 _
    have hT9 : Turned [] w W9 := by rw [hW9]; exact turned8 (hT.trans HT0 (by simp)) (.inr hDw) _
    simp only [put8] at hW9
    rw [← hW9]
    have e0 := (hS9.2 0 _ rfl).1
    have e1 := (hS9.2 1 _ rfl).1
    have e2 := (hS9.2 2 _ rfl).1
    have e3 := (hS9.2 3 _ rfl).1
    have e4 := (hS9.2 4 _ rfl).1
    have e5 := (hS9.2 5 _ rfl).1
    have e6 := (hS9.2 6 _ rfl).1
    have e7 := (hS9.2 7 _ rfl).1
    simp only [enEnc] at e0 e1 e2 e3 e4 e5 e6 e7
    exact bodyPost_ret (v := enVal ⟨id, kind, ax, ay, vx, vy, hh, t⟩) (by simp [results, Try.results13, go_sem, e0, e1, e2, e3, e4, e5, e6, e7]) rfl ⟨by rw [HA.out], hT9⟩
end MvR
end Go.Proofs.Ytbfffgnalopfbaa

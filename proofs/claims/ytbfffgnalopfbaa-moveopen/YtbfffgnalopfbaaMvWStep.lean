/- How one moves: the program's Stands, the closures that name a place, a half of a step, a whole one (MvW). -/
import Derived.Test.YtbfffgnalopfbaaMvRef
import Derived.Test.YtbfffgnalopfbaaTilWFree
namespace Go.Proofs.Ytbfffgnalopfbaa
open Go.RowKit
set_option linter.unusedVariables false
set_option linter.unusedSimpArgs false

namespace MvW
set_option maxHeartbeats 1000000 in
theorem stands_any (m : Ti.M) (oa : Option Addr) (ca : Nat) (ob : Option Addr) (cb : Nat) (x y : Int) (w : World) (h : MapAt m oa ob w) :
    Calls Try.prog 14 #[mapVal m oa ca ob cb, .agg #[.int .i64 x, .int .i64 y]] w fun e w' => e = .returned (.bool (Mv.stands m x y)) ∧ Turned [] w w' := by
  have ka := fun u => BxW.around_any x y 24576 u
  have kf : ∀ u, MapAt m oa ob u → Calls Try.prog 23 #[mapVal m oa ca ob cb, .agg #[.int .i64 (Fx.sub x 24576), .int .i64 (Fx.sub y 24576), .int .i64 (Fx.add x 24576), .int .i64 (Fx.add y 24576)]] u fun e w' => e = .returned (.bool (Mv.stands m x y)) ∧ Turned [] u w' :=
    fun u hu => TiW.free_any m oa ca ob cb (Mv.boxAt x y) u hu
  obtain ⟨nw, hnw⟩ : ∃ n, n = m.ws.length := ⟨_, rfl⟩
  obtain ⟨ns, hns⟩ : ∃ n, n = m.sp.length := ⟨_, rfl⟩
  unfold mapVal at kf ⊢
  rw [← hnw, ← hns] at kf ⊢
  obtain ⟨W0, hW0⟩ : ∃ W0, W0 = (w.alloc (.cells #[.int .i64 m.W, .int .i64 m.H, .slice oa nw ca, .slice ob ns cb] 25)).alloc (.cells #[.int .i64 x, .int .i64 y] 28) := ⟨_, rfl⟩
  obtain ⟨B, hB⟩ : ∃ B, B = w.heap.size := ⟨_, rfl⟩
  obtain ⟨C, hC⟩ : ∃ C, C = w.heap.size + 1 := ⟨_, rfl⟩
  have hT : Turned [] w W0 := by rw [hW0]; exact ((Turned.refl [] w).alloc _).alloc _
  have hS : Struct B [.int .i64 m.W, .int .i64 m.H, .slice oa nw ca, .slice ob ns cb] W0 := by rw [hW0, hB]; exact (Struct.new w [.int .i64 m.W, .int .i64 m.H, .slice oa nw ca, .slice ob ns cb] _).keep ((Turned.refl [] _).alloc _) (by simp)
  have hP : Struct C [.int .i64 x, .int .i64 y] W0 := by
    have h0 := Struct.new (w.alloc (.cells #[.int .i64 m.W, .int .i64 m.H, .slice oa nw ca, .slice ob ns cb] 25)) [.int .i64 x, .int .i64 y] 28
    rw [show (w.alloc (.cells #[.int .i64 m.W, .int .i64 m.H, .slice oa nw ca, .slice ob ns cb] 25)).heap.size = w.heap.size + 1 by simp, ← hC] at h0
    rw [hW0]; exact h0
  have d0 := KeptW.at hS.1 (hS.2 0 _ rfl).1
  have d1 := KeptW.at hS.1 (hS.2 1 _ rfl).1
  have d2 := KeptW.at hS.1 (hS.2 2 _ rfl).1
  have d3 := KeptW.at hS.1 (hS.2 3 _ rfl).1
  have c0 := KeptW.at hP.1 (hP.2 0 _ rfl).1
  have c1 := KeptW.at hP.1 (hP.2 1 _ rfl).1
  have ne : Nonempty (KeptW W0) := KeptW.one W0
  have hM := h.calm hT
  have g1 := fun (v : KeptW W0) => kept_call (ka v.u)
  have g2 := fun (v : KeptW W0) => kept_call ((kf v.u (hM.calm (Turned.ofBelow v.h))).mono fun r w' h => ⟨h.1, h.2.none⟩)
  clear hnw hns ka kf
  go_enter Try.func14, Try.ntmps14
  go_wp2_with fail
  rw [← hW0, ← hC, ← hB]
  clear hW0 hC hB
  refine wp_region_kept (by kernel_rfl) (by kernel_rfl) ?_
  repeat (go_big_quiet_step (first | (go_at_call 24; with_reducible exact g1 _) | (go_at_call 23; with_reducible exact g2 _)))
  refine wpQuiet_nil ?_
  rintro _ ⟨v, rfl⟩
  go_wp2_with fail
  go_ret
  exact ⟨rfl, hT.trans (Turned.ofBelow v.h) (by simp)⟩

/-- the place that has another x -/
theorem atX_any (x ax ay : Int) (B : Nat) (w : World) (h : Struct B [.int .i64 ax, .int .i64 ay] w) :
    Calls Try.prog 33 #[.int .i64 x, .pointer (some ⟨B, 0, none⟩)] w fun e w' => e = .returned (.agg #[.int .i64 x, .int .i64 ay]) ∧ Turned [] w w' := by
  have hP := fun o => h.keep ((Turned.refl [] w).alloc o) (by simp)
  have p0 := fun o => ((hP o).2 0 _ rfl).1
  have p1 := fun o => ((hP o).2 1 _ rfl).1
  clear hP
  go_enter Try.func33, Try.ntmps33
  go_wp2_with fail
  exact bodyPost_ret (v := .agg #[.int .i64 x, .int .i64 ay]) (by simp [results, Try.results33, go_sem]) rfl ⟨rfl, (Turned.refl [] w).alloc _⟩

/-- the place that has another y -/
theorem atY_any (y ax ay : Int) (B : Nat) (w : World) (h : Struct B [.int .i64 ax, .int .i64 ay] w) :
    Calls Try.prog 34 #[.int .i64 y, .pointer (some ⟨B, 0, none⟩)] w fun e w' => e = .returned (.agg #[.int .i64 ax, .int .i64 y]) ∧ Turned [] w w' := by
  have hP := fun o => h.keep ((Turned.refl [] w).alloc o) (by simp)
  have p0 := fun o => ((hP o).2 0 _ rfl).1
  have p1 := fun o => ((hP o).2 1 _ rfl).1
  clear hP
  go_enter Try.func34, Try.ntmps34
  go_wp2_with fail
  exact bodyPost_ret (v := .agg #[.int .i64 ax, .int .i64 y]) (by simp [results, Try.results34, go_sem]) rfl ⟨rfl, (Turned.refl [] w).alloc _⟩

set_option maxHeartbeats 1000000 in
/-- a half of a step, in X -/
theorem alongX_any (m : Ti.M) (oa : Option Addr) (ca : Nat) (ob : Option Addr) (cb : Nat) (n d px py : Int) (B : Nat) (w : World) (h : MapAt m oa ob w)
    (hf : ∀ u, Turned [] w u → Calls Try.prog 33 #[.int .i64 (Fx.add n d), .pointer (some ⟨B, 0, none⟩)] u fun e w' => e = .returned (.agg #[.int .i64 px, .int .i64 py]) ∧ Turned [] u w') :
    Calls Try.prog 32 #[mapVal m oa ca ob cb, .int .i64 n, .int .i64 d, .func (.func 33) #[] #[.pointer (some ⟨B, 0, none⟩)]] w fun e w' => e = .returned (.tuple #[.int .i64 (if Mv.stands m px py = true then Fx.add n d else n), .bool (Mv.stands m px py)]) ∧ Turned [] w w' := by
  have ks := fun (u : World) (hu : MapAt m oa ob u) => stands_any m oa ca ob cb px py u hu
  obtain ⟨s, hs⟩ : ∃ s, s = Mv.stands m px py := ⟨_, rfl⟩
  have ka := fun u => FxW.add_any n d u
  obtain ⟨nd, hnd⟩ : ∃ s, s = Fx.add n d := ⟨_, rfl⟩
  rw [← hnd] at ka hf ⊢
  rw [← hs] at ks ⊢
  obtain ⟨nw, hnw⟩ : ∃ n, n = m.ws.length := ⟨_, rfl⟩
  obtain ⟨ns, hns⟩ : ∃ n, n = m.sp.length := ⟨_, rfl⟩
  unfold mapVal at ks ⊢
  rw [← hnw, ← hns] at ks ⊢
  obtain ⟨W0, hW0⟩ : ∃ W0, W0 = w.alloc (.cells #[.int .i64 m.W, .int .i64 m.H, .slice oa nw ca, .slice ob ns cb] 25) := ⟨_, rfl⟩
  obtain ⟨C, hC⟩ : ∃ C, C = w.heap.size := ⟨_, rfl⟩
  have hT : Turned [] w W0 := by rw [hW0]; exact (Turned.refl [] w).alloc _
  have hS : Struct C [.int .i64 m.W, .int .i64 m.H, .slice oa nw ca, .slice ob ns cb] W0 := by rw [hW0, hC]; exact Struct.new w [.int .i64 m.W, .int .i64 m.H, .slice oa nw ca, .slice ob ns cb] _
  have d0 := KeptW.at hS.1 (hS.2 0 _ rfl).1
  have d1 := KeptW.at hS.1 (hS.2 1 _ rfl).1
  have d2 := KeptW.at hS.1 (hS.2 2 _ rfl).1
  have d3 := KeptW.at hS.1 (hS.2 3 _ rfl).1
  have ne : Nonempty (KeptW W0) := KeptW.one W0
  have hM := h.calm hT
  have g1 := fun (v : KeptW W0) => kept_call ((hf v.u (hT.trans (Turned.ofBelow v.h) (by simp))).mono fun r w' h => ⟨h.1, h.2.none⟩)
  have g2 := fun (v : KeptW W0) => kept_call ((ks v.u (hM.calm (Turned.ofBelow v.h))).mono fun r w' h => ⟨h.1, h.2.none⟩)
  clear hnw hns ks hf hs hnd
  cases s with
  | false =>
    go_enter Try.func32, Try.ntmps32
    go_wp2_with (go_at_call 62; (with_reducible refine (ka _).mono ?_); rintro r w9 ⟨rfl, hw9⟩; rw [hw9]; clear hw9 w9)
    rw [← hW0, ← hC]
    clear hW0 hC
    refine wp_region_kept (by kernel_rfl) (by kernel_rfl) ?_
    repeat (go_big_quiet_step (first | (go_at_call 33; with_reducible exact g1 _) | (go_at_call 14; with_reducible exact g2 _)))
    refine wpQuiet_nil ?_
    rintro _ ⟨v, rfl⟩
    go_wp2_with fail
    exact bodyPost_ret (v := .tuple #[.int .i64 n, .bool false]) (by simp [results, Try.results32, go_sem]) rfl ⟨rfl, hT.trans (Turned.ofBelow v.h) (by simp)⟩
  | true =>
    go_enter Try.func32, Try.ntmps32
    go_wp2_with (go_at_call 62; (with_reducible refine (ka _).mono ?_); rintro r w9 ⟨rfl, hw9⟩; rw [hw9]; clear hw9 w9)
    rw [← hW0, ← hC]
    clear hW0 hC
    refine wp_region_kept (by kernel_rfl) (by kernel_rfl) ?_
    repeat (go_big_quiet_step (first | (go_at_call 33; with_reducible exact g1 _) | (go_at_call 14; with_reducible exact g2 _)))
    refine wpQuiet_nil ?_
    rintro _ ⟨v, rfl⟩
    go_wp2_with fail
    exact bodyPost_ret (v := .tuple #[.int .i64 nd, .bool true]) (by simp [results, Try.results32, go_sem]) rfl ⟨rfl, hT.trans (Turned.ofBelow v.h) (by simp)⟩

set_option maxHeartbeats 1000000 in
/-- a half of a step, in Y -/
theorem alongY_any (m : Ti.M) (oa : Option Addr) (ca : Nat) (ob : Option Addr) (cb : Nat) (n d px py : Int) (B : Nat) (w : World) (h : MapAt m oa ob w)
    (hf : ∀ u, Turned [] w u → Calls Try.prog 34 #[.int .i64 (Fx.add n d), .pointer (some ⟨B, 0, none⟩)] u fun e w' => e = .returned (.agg #[.int .i64 px, .int .i64 py]) ∧ Turned [] u w') :
    Calls Try.prog 32 #[mapVal m oa ca ob cb, .int .i64 n, .int .i64 d, .func (.func 34) #[] #[.pointer (some ⟨B, 0, none⟩)]] w fun e w' => e = .returned (.tuple #[.int .i64 (if Mv.stands m px py = true then Fx.add n d else n), .bool (Mv.stands m px py)]) ∧ Turned [] w w' := by
  have ks := fun (u : World) (hu : MapAt m oa ob u) => stands_any m oa ca ob cb px py u hu
  obtain ⟨s, hs⟩ : ∃ s, s = Mv.stands m px py := ⟨_, rfl⟩
  have ka := fun u => FxW.add_any n d u
  obtain ⟨nd, hnd⟩ : ∃ s, s = Fx.add n d := ⟨_, rfl⟩
  rw [← hnd] at ka hf ⊢
  rw [← hs] at ks ⊢
  obtain ⟨nw, hnw⟩ : ∃ n, n = m.ws.length := ⟨_, rfl⟩
  obtain ⟨ns, hns⟩ : ∃ n, n = m.sp.length := ⟨_, rfl⟩
  unfold mapVal at ks ⊢
  rw [← hnw, ← hns] at ks ⊢
  obtain ⟨W0, hW0⟩ : ∃ W0, W0 = w.alloc (.cells #[.int .i64 m.W, .int .i64 m.H, .slice oa nw ca, .slice ob ns cb] 25) := ⟨_, rfl⟩
  obtain ⟨C, hC⟩ : ∃ C, C = w.heap.size := ⟨_, rfl⟩
  have hT : Turned [] w W0 := by rw [hW0]; exact (Turned.refl [] w).alloc _
  have hS : Struct C [.int .i64 m.W, .int .i64 m.H, .slice oa nw ca, .slice ob ns cb] W0 := by rw [hW0, hC]; exact Struct.new w [.int .i64 m.W, .int .i64 m.H, .slice oa nw ca, .slice ob ns cb] _
  have d0 := KeptW.at hS.1 (hS.2 0 _ rfl).1
  have d1 := KeptW.at hS.1 (hS.2 1 _ rfl).1
  have d2 := KeptW.at hS.1 (hS.2 2 _ rfl).1
  have d3 := KeptW.at hS.1 (hS.2 3 _ rfl).1
  have ne : Nonempty (KeptW W0) := KeptW.one W0
  have hM := h.calm hT
  have g1 := fun (v : KeptW W0) => kept_call ((hf v.u (hT.trans (Turned.ofBelow v.h) (by simp))).mono fun r w' h => ⟨h.1, h.2.none⟩)
  have g2 := fun (v : KeptW W0) => kept_call ((ks v.u (hM.calm (Turned.ofBelow v.h))).mono fun r w' h => ⟨h.1, h.2.none⟩)
  clear hnw hns ks hf hs hnd
  cases s with
  | false =>
    go_enter Try.func32, Try.ntmps32
    go_wp2_with (go_at_call 62; (with_reducible refine (ka _).mono ?_); rintro r w9 ⟨rfl, hw9⟩; rw [hw9]; clear hw9 w9)
    rw [← hW0, ← hC]
    clear hW0 hC
    refine wp_region_kept (by kernel_rfl) (by kernel_rfl) ?_
    repeat (go_big_quiet_step (first | (go_at_call 34; with_reducible exact g1 _) | (go_at_call 14; with_reducible exact g2 _)))
    refine wpQuiet_nil ?_
    rintro _ ⟨v, rfl⟩
    go_wp2_with fail
    exact bodyPost_ret (v := .tuple #[.int .i64 n, .bool false]) (by simp [results, Try.results32, go_sem]) rfl ⟨rfl, hT.trans (Turned.ofBelow v.h) (by simp)⟩
  | true =>
    go_enter Try.func32, Try.ntmps32
    go_wp2_with (go_at_call 62; (with_reducible refine (ka _).mono ?_); rintro r w9 ⟨rfl, hw9⟩; rw [hw9]; clear hw9 w9)
    rw [← hW0, ← hC]
    clear hW0 hC
    refine wp_region_kept (by kernel_rfl) (by kernel_rfl) ?_
    repeat (go_big_quiet_step (first | (go_at_call 34; with_reducible exact g1 _) | (go_at_call 14; with_reducible exact g2 _)))
    refine wpQuiet_nil ?_
    rintro _ ⟨v, rfl⟩
    go_wp2_with fail
    exact bodyPost_ret (v := .tuple #[.int .i64 nd, .bool true]) (by simp [results, Try.results32, go_sem]) rfl ⟨rfl, hT.trans (Turned.ofBelow v.h) (by simp)⟩
end MvW
end Go.Proofs.Ytbfffgnalopfbaa

/- A tile's sign is taken: the program's (TiW). -/
import Derived.Test.YtbfffgnalopfbaaTilWTake
namespace Go.Proofs.Ytbfffgnalopfbaa
open Go.RowKit
set_option linter.unusedVariables false
set_option linter.unusedSimpArgs false

namespace TiW
variable {B I : Nat} {o : Obj} {w0 w : World} {st : Ti.S} {va vb : Value}
set_option maxHeartbeats 1000000 in
theorem tile_no (r : Int) (h1 : r ≠ 9608) (h2 : r ≠ 183) (h3 : r ≠ 9678) (B : Nat) (w : World) :
    Calls Try.prog 53 #[.pointer (some ⟨B, 0, none⟩), .int .i32 r] w fun e w' => e = .returned (.bool false) ∧ w' = w := by
  have i1 : (r == 9608) = false := by rw [beq_eq_false_iff_ne]; exact h1
  have i2 : (r == 183) = false := by rw [beq_eq_false_iff_ne]; exact h2
  have i3 : (r == 9678) = false := by rw [beq_eq_false_iff_ne]; exact h3
  go_enter Try.func53, Try.ntmps53
  go_wp2
  go_ret
  exact ⟨rfl, rfl⟩

set_option maxHeartbeats 4000000 in
theorem tile_one (h : RP B I o w0 st va vb w) (hx : st.x < 32) (hws : st.ws.length ≤ 1000000) :
    Calls Try.prog 53 #[.pointer (some ⟨B, 0, none⟩), .int .i32 9608] w fun e w' => e = .returned (.bool true) ∧ ∃ va' vb', RP B I o w0 (Ti.next 1 st) va' vb' w' := by
  obtain ⟨oa, ca, rfl, hca, hcm⟩ := h.ws.form
  have b1 : st.ws.length + 1 ≤ maxLen := by unfold maxLen; omega
  have b2 : (st.ws.length + 1) * 1 ≤ 140737488355328 := by omega
  have d2 := (h.own.2 2 _ rfl).1
  go_enter Try.func53, Try.ntmps53
  go_wp2_with (at_builtin; refine wp_push (v := .slice oa st.ws.length ca) elem_tb rfl _ _ rfl rfl (h.ws.keep ((Turned.refl [] w).alloc _) (by simp)) w.heap.size 0 1 1 [true] rfl rfl tbEnc_len tbEnc_one (one_cell rfl w _) b1 b2 ?_; intro v' w1 ho1 ht1 hb1; have hL := h.push ho1 ht1 hb1; obtain ⟨g, cap, hv, _⟩ := ho1.cell tbEnc_len (i := st.ws.length) (a := true) (by simp); rw [show (st.ws ++ [true]).length = st.ws.length + 1 by simp] at hv; subst hv; obtain ⟨m1, m2, m3, m4⟩ := h.mid ht1; have e2 := (m1.2 2 _ rfl).1; have g2 := (m1.2 2 _ rfl).2; have e4 := (m1.2 4 _ rfl).1; have g4 := (m1.2 4 _ rfl).2)
  go_ret
  exact ⟨rfl, _, _, hL.col⟩

set_option maxHeartbeats 4000000 in
theorem tile_two (h : RP B I o w0 st va vb w) (hx : st.x < 32) (hws : st.ws.length ≤ 1000000) :
    Calls Try.prog 53 #[.pointer (some ⟨B, 0, none⟩), .int .i32 183] w fun e w' => e = .returned (.bool true) ∧ ∃ va' vb', RP B I o w0 (Ti.next 2 st) va' vb' w' := by
  obtain ⟨oa, ca, rfl, hca, hcm⟩ := h.ws.form
  have b1 : st.ws.length + 1 ≤ maxLen := by unfold maxLen; omega
  have b2 : (st.ws.length + 1) * 1 ≤ 140737488355328 := by omega
  have d2 := (h.own.2 2 _ rfl).1
  go_enter Try.func53, Try.ntmps53
  go_wp2_with (at_builtin; refine wp_push (v := .slice oa st.ws.length ca) elem_tb rfl _ _ rfl rfl (h.ws.keep ((Turned.refl [] w).alloc _) (by simp)) w.heap.size 0 1 1 [false] rfl rfl tbEnc_len tbEnc_one (one_cell rfl w _) b1 b2 ?_; intro v' w1 ho1 ht1 hb1; have hL := h.push ho1 ht1 hb1; obtain ⟨g, cap, hv, _⟩ := ho1.cell tbEnc_len (i := st.ws.length) (a := false) (by simp); rw [show (st.ws ++ [false]).length = st.ws.length + 1 by simp] at hv; subst hv; obtain ⟨m1, m2, m3, m4⟩ := h.mid ht1; have e2 := (m1.2 2 _ rfl).1; have g2 := (m1.2 2 _ rfl).2; have e4 := (m1.2 4 _ rfl).1; have g4 := (m1.2 4 _ rfl).2)
  go_ret
  exact ⟨rfl, _, _, hL.col⟩

set_option maxHeartbeats 8000000 in
theorem tile_three (h : RP B I o w0 st va vb w) (hx : st.x < 32) (hH : st.H < 32) (hws : st.ws.length ≤ 1000000) (hsp : st.sp.length ≤ 1000000) :
    Calls Try.prog 53 #[.pointer (some ⟨B, 0, none⟩), .int .i32 9678] w fun e w' => e = .returned (.bool true) ∧ ∃ va' vb', RP B I o w0 (Ti.next 3 st) va' vb' w' := by
  obtain ⟨oa, ca, rfl, hca, hcm⟩ := h.ws.form
  obtain ⟨ob, cb, rfl, hcb, hcm2⟩ := h.sp.form
  have b1 : st.ws.length + 1 ≤ maxLen := by unfold maxLen; omega
  have b2 : (st.ws.length + 1) * 1 ≤ 140737488355328 := by omega
  have b3 : st.sp.length + 1 ≤ maxLen := by unfold maxLen; omega
  have b4 : (st.sp.length + 1) * 16 ≤ 140737488355328 := by omega
  have kmid := fun (u : World) => middle_any (st.x : Int) (st.H : Int) (by omega) (by omega) (by omega) (by omega) u
  have d0 := (h.own.2 0 _ rfl).1
  have d1 := (h.own.2 1 _ rfl).1
  have d3 := (h.own.2 3 _ rfl).1
  have d4 := (h.own.2 4 _ rfl).1
  go_enter Try.func53, Try.ntmps53
  go_wp2_with fail
  have hrs := h
  have HT5 : Turned [] w w.drew := (Turned.refl [] w).drew
  go_region_law (first | (refine step_push (v := .slice ob st.sp.length cb) elem_tv rfl _ _ rfl rfl (hrs.sp.keep ((Turned.refl [] u5).alloc _) (by simp)) u5.heap.size 0 1 1 [Ti.mid st.x st.H] rfl rfl tvEnc_len tvEnc_one (TiR.two_cells u5 _) b3 b4 ?_; intro v2 w2 ho2 ht2 hb2; have hL2 := hrs.push2 ho2 ht2 hb2; obtain ⟨g2, cap2, hv2, _⟩ := ho2.cell tvEnc_len (i := st.sp.length) (a := Ti.mid st.x st.H) (by simp); rw [show (st.sp ++ [Ti.mid st.x st.H]).length = st.sp.length + 1 by simp] at hv2; subst hv2; obtain ⟨q1, q2, q3, q4⟩ := hrs.mid2 ht2; have e3 := (q1.2 3 _ rfl).1; have g3 := (q1.2 3 _ rfl).2) | (rw [if_pos (by rfl)]; go_simp; go_at_call 76; (with_reducible refine (kmid _).mono ?_); rintro e5 u5 ⟨rfl, HT6⟩; have hrs := hrs.keep (HT5.trans HT6 (by simp)); have d0' := (hrs.own.2 0 _ rfl).1; have d1' := (hrs.own.2 1 _ rfl).1; have d3 := (hrs.own.2 3 _ rfl).1; have d3' := fun o => ((hrs.own.keep ((Turned.refl [] u5).alloc o) (by simp)).2 3 _ rfl).1; have d4' := (hrs.own.2 4 _ rfl).1))
  all_goals
    obtain ⟨W2, hW2⟩ : ∃ W2, W2 = w2.setCell ⟨B, 3, none⟩ (.slice (some ⟨g2, 0, none⟩) (st.sp.length + 1) cap2) := ⟨_, rfl⟩
    rw [← hW2] at hL2 ⊢
    clear hW2 ho2 ht2 hb2 q1 q2 q3 q4 e3 g3 hrs h
    have c2 := (hL2.own.2 2 _ rfl).1
    go_wp2_with (at_builtin; refine wp_push (v := .slice oa st.ws.length ca) elem_tb rfl _ _ rfl rfl (hL2.ws.keep ((Turned.refl [] W2).alloc _) (by simp)) W2.heap.size 0 1 1 [false] rfl rfl tbEnc_len tbEnc_one (one_cell rfl W2 _) b1 b2 ?_; intro v' w1 ho1 ht1 hb1; have hL := hL2.push ho1 ht1 hb1; obtain ⟨g, cap, hv, _⟩ := ho1.cell tbEnc_len (i := st.ws.length) (a := false) (by simp); rw [show (st.ws ++ [false]).length = st.ws.length + 1 by simp] at hv; subst hv; obtain ⟨m1, m2, m3, m4⟩ := hL2.mid ht1; have e2 := (m1.2 2 _ rfl).1; have g2 := (m1.2 2 _ rfl).2; have e4 := (m1.2 4 _ rfl).1; have g4 := (m1.2 4 _ rfl).2)
    go_ret
    exact ⟨rfl, _, _, hL.col⟩
end TiW
end Go.Proofs.Ytbfffgnalopfbaa

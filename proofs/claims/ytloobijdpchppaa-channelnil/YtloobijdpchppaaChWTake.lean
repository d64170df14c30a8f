/- What the program's Take does (ChW). -/
import Derived.Test.YtloobijdpchppaaChWThose
namespace Go.Proofs.Ytloobijdpchppaa
open Go.RowKit
set_option linter.unusedVariables false
set_option linter.unusedSimpArgs false

namespace ChW
theorem take_nil (n : Int) (y : Bool) (a m : Int) (w : World) :
    Calls Try.prog 11 #[.pointer none, .agg #[.int .u16 n, .bool y, .int .u16 a, .int .u32 m]] w fun e w' => e = .returned (.tuple #[.slice none 0 0, .int .i64 6]) ∧ Turned [] w w' := by
  go_enter Try.func11, Try.ntmps11
  go_wp2_with fail
  refine bodyPost_ret (by simp [results, Try.results11, go_sem]) rfl (And.intro rfl ?_)
  repeat (first | exact Turned.refl _ _ | refine Turned.drew ?_ | refine Turned.alloc ?_ _ | refine Turned.setCell ?_ (Or.inr (by simp)) _)
theorem send_nil (w : World) :
    Calls Try.prog 9 #[.pointer none] w fun e w' => e = .returned (.agg #[.int .u16 0, .bool false, .int .u16 0, .int .u32 0]) ∧ Turned [] w w' := by
  go_enter Try.func9, Try.ntmps9
  go_wp2_with fail
  refine bodyPost_ret (by simp [results, Try.results9, go_sem]) rfl (And.intro rfl ?_)
  repeat (first | exact Turned.refl _ _ | refine Turned.drew ?_ | refine Turned.alloc ?_ _ | refine Turned.setCell ?_ (Or.inr (by simp)) _)

set_option maxRecDepth 20000 in
set_option maxHeartbeats 4000000 in
theorem take_old (p : Nat) (F : List Nat) (s : Ch.S) (h : Ch.H) (w : World) (hc : CH p F s w) (hw : Ch.Wf s) (hh : Ch.HWf h) (ho : Ch.fresh s h = false) :
    Calls Try.prog 11 #[.pointer (some ⟨p, 0, none⟩), .agg #[.int .u16 h.n, .bool h.y, .int .u16 h.a, .int .u32 h.m]] w fun e w' => e = .returned (.tuple #[.slice none 0 0, .int .i64 8]) ∧ Turned [] w w' := by
  obtain ⟨v, hs, _⟩ := hc
  obtain ⟨c1, f1⟩ := hs.2 1 _ rfl
  obtain ⟨c2, f2⟩ := hs.2 2 _ rfl
  obtain ⟨c3, f3⟩ := hs.2 3 _ rfl
  have hp := hs.1
  have hne : ¬ p = w.heap.size := by omega
  unfold Ch.fresh at ho
  obtain ⟨sx, sy, sl, sm, so⟩ := s
  obtain ⟨hn, hy, ha, hm⟩ := h
  have kt := fun (u : World) => SrW.take_any sy sl sm hn u hw.m0 hw.m1
  simp only at ho
  rw [ho] at kt
  obtain ⟨L, hL⟩ : ∃ L, L = Sr.last sy sl hn := ⟨_, rfl⟩
  obtain ⟨M, hM⟩ : ∃ M, M = Sr.mask sy sl sm hn := ⟨_, rfl⟩
  rw [← hL, ← hM] at kt
  clear hL hM hw hh ho
  simp only at c1 c2 c3 ⊢
  go_enter Try.func11, Try.ntmps11
  go_wp2_with fail
  go_region_with (go_at_call 29; (with_reducible refine (kt _).mono ?_); rintro e2 u2 ⟨rfl, hb2⟩; obtain ⟨hc2, hf2⟩ := bcell hb2)
  all_goals
    go_wp2_with fail
    refine bodyPost_ret (v := .tuple #[.slice none 0 0, .int .i64 8]) (by simp [results, Try.results11, go_sem]) rfl ⟨rfl, ?_⟩
    repeat (first | exact Turned.refl _ _ | refine Turned.drew ?_ | refine Turned.alloc ?_ _ | refine Turned.setCell ?_ (Or.inr (by simp)) _ | refine Turned.trans ?_ (Turned.ofBelow hb2) (by simp))
end ChW
end Go.Proofs.Ytloobijdpchppaa

/- A datagram comes at one end: what was sent there, or not. -/
import Derived.Test.YtloobijdpchppaaChEndS
namespace Go.Proofs.Ytloobijdpchppaa
open Go.RowKit
set_option linter.unusedVariables false
set_option linter.unusedSimpArgs false

namespace ChL
set_option maxRecDepth 20000 in
set_option maxHeartbeats 4000000 in
theorem take_out (P Q D : Nat) (G : List Nat) (us ua uc : Value) (b : Ch.E) (k : Int) (w : World) (hb : EndAt Q D G us ua uc b w) (hk : k < 0 ∨ (b.sent.length : Int) ≤ k) :
    Calls Try.prog 28 #[.pointer (some ⟨P, 0, none⟩), .pointer (some ⟨Q, 0, none⟩), .int .i64 k] w fun r w' => r = .returned (.bool true) ∧ Turned [] w w' := by
  obtain ⟨oa, cap, rfl, _, _⟩ := OwnL.form hb.se
  obtain ⟨c1, _⟩ := hb.st.2 1 _ rfl
  by_cases h0 : k < 0
  · go_enter Try.func28, Try.ntmps28
    go_wp2_with fail
    go_ret
    exact BtL.bool_ret rfl (Turned.refl _ _)
  · have h1 : (b.sent.length : Int) ≤ k := by omega
    go_enter Try.func28, Try.ntmps28
    go_wp2_with fail
    go_ret
    exact BtL.bool_ret rfl (Turned.refl _ _)

set_option maxRecDepth 20000 in
set_option maxHeartbeats 4000000 in
theorem take_again (P C Q D : Nat) (F : List Nat) (vs va vc : Value) (a : Ch.E) (G : List Nat) (us ua uc : Value) (b : Ch.E) (k : Nat) (h : Ch.H) (w : World) (ha : EndAt P C F vs va vc a w) (hb : EndAt Q D G us ua uc b w)
    (hk : b.sent[k]? = some h) (hh : Ch.HWf h) (hw : Ch.Wf a.s) (hf : Ch.fresh a.s h = false) :
    Calls Try.prog 28 #[.pointer (some ⟨P, 0, none⟩), .pointer (some ⟨Q, 0, none⟩), .int .i64 (k : Int)] w fun r w' => r = .returned (.bool true) ∧ Turned [] w w' := by
  have hkl := (List.getElem?_eq_some_iff.1 hk).1
  obtain ⟨g, cap, rfl, _, hg, hc⟩ := OwnL.cell hb.se hEnc_len hk
  have e0 := (hc 0 _ rfl).1
  rw [Nat.add_zero] at e0
  have e1 := (hc 1 _ rfl).1
  have e2 := (hc 2 _ rfl).1
  have e3 := (hc 3 _ rfl).1
  obtain ⟨c1, _⟩ := hb.st.2 1 _ rfl
  obtain ⟨a0, _⟩ := ha.st.2 0 _ rfl
  have kT : ∀ (u : World), Turned [] w u → Calls Try.prog 11 #[.pointer (some ⟨C, 0, none⟩), .agg #[.int .u16 h.n, .bool h.y, .int .u16 h.a, .int .u32 h.m]] u fun e w' => e = .returned (.tuple #[.slice none 0 0, .int .i64 8]) ∧ Turned [] u w' := fun u hu => ChW.take_old C F a.s h u (ha.ch.keep hu (by simp)) hw hh hf
  have hwd : Turned [] w w.drew := (Turned.refl [] w).drew
  have h0 : ¬ (k : Int) < 0 := by omega
  have h1 : ¬ (b.sent.length : Int) ≤ (k : Int) := by omega
  have h2 : (k : Int) < (b.sent.length : Int) := by omega
  clear hc hk hkl
  go_enter Try.func28, Try.ntmps28
  go_wp2_with fail
  go_region_with (go_at_call 11; (with_reducible refine (kT _ hwd).mono ?_); rintro e u2 ⟨rfl, ht2⟩)
  all_goals
    go_wp2_with fail
    go_ret
    exact BtL.bool_ret rfl (hwd.trans ht2 (by simp))
end ChL
end Go.Proofs.Ytloobijdpchppaa

/- What the laws of layer 2 ask first, and what the walks of laws over places keep: the two places lie where they lay, and nothing old has turned. -/
import Derived.Test.YtfpjpdhcdoaaiaaVecCalls
namespace Go.Proofs.Ytfpjpdhcdoaaiaa
open Go.RowKit
set_option linter.unusedVariables false
namespace VcL

/-- two places lie in the first two new blocks; nothing that was there before has turned -/
def Two (w : World) (a0 a1 b0 b1 : Value) (u : World) : Prop :=
  u.cell? ⟨w.heap.size, 0, none⟩ = some a0 ∧ u.cell? ⟨w.heap.size, 1, none⟩ = some a1 ∧ u.cell? ⟨w.heap.size + 1, 0, none⟩ = some b0 ∧ u.cell? ⟨w.heap.size + 1, 1, none⟩ = some b1 ∧ w.heap.size + 2 ≤ u.heap.size ∧ Below w.heap.size w u
/-- one place -/
def One (w : World) (a0 a1 : Value) (u : World) : Prop :=
  u.cell? ⟨w.heap.size, 0, none⟩ = some a0 ∧ u.cell? ⟨w.heap.size, 1, none⟩ = some a1 ∧ w.heap.size + 1 ≤ u.heap.size ∧ Below w.heap.size w u

theorem two_start (w : World) (a0 a1 b0 b1 : Value) (s t : TypeId) : Two w a0 a1 b0 b1 ((w.alloc (.cells #[a0, a1] s)).alloc (.cells #[b0, b1] t)) :=
  ⟨by simp [go_sem, World.cell?_alloc_past], by simp [go_sem, World.cell?_alloc_past], by simp [go_sem], by simp [go_sem], by simp, ((Below.refl _ _).alloc (Nat.le_refl _) _).alloc (by simp) _⟩
theorem one_start (w : World) (a0 a1 : Value) (s : TypeId) : One w a0 a1 (w.alloc (.cells #[a0, a1] s)) :=
  ⟨by simp [go_sem], by simp [go_sem], by simp, (Below.refl _ _).alloc (Nat.le_refl _) _⟩
theorem two_drew {w u : World} {a0 a1 b0 b1 : Value} (h : Two w a0 a1 b0 b1 u) : Two w a0 a1 b0 b1 u.drew :=
  ⟨h.1, h.2.1, h.2.2.1, h.2.2.2.1, h.2.2.2.2.1, h.2.2.2.2.2.drew⟩
theorem one_drew {w u : World} {a0 a1 : Value} (h : One w a0 a1 u) : One w a0 a1 u.drew :=
  ⟨h.1, h.2.1, h.2.2.1, h.2.2.2.drew⟩
theorem two_keep {w u u' : World} {a0 a1 b0 b1 : Value} (h : Two w a0 a1 b0 b1 u) (hb : Below u.heap.size u u') : Two w a0 a1 b0 b1 u' := by
  obtain ⟨h1, h2, h3, h4, h5, h6⟩ := h
  have hs := hb.size
  exact ⟨(hb.cell (p := ⟨w.heap.size, 0, none⟩) (by show w.heap.size < _; omega)).trans h1, (hb.cell (p := ⟨w.heap.size, 1, none⟩) (by show w.heap.size < _; omega)).trans h2, (hb.cell (p := ⟨w.heap.size + 1, 0, none⟩) (by show w.heap.size + 1 < _; omega)).trans h3, (hb.cell (p := ⟨w.heap.size + 1, 1, none⟩) (by show w.heap.size + 1 < _; omega)).trans h4, by omega, h6.trans (hb.mono (by omega))⟩
theorem one_keep {w u u' : World} {a0 a1 : Value} (h : One w a0 a1 u) (hb : Below u.heap.size u u') : One w a0 a1 u' := by
  obtain ⟨h1, h2, h5, h6⟩ := h
  have hs := hb.size
  exact ⟨(hb.cell (p := ⟨w.heap.size, 0, none⟩) (by show w.heap.size < _; omega)).trans h1, (hb.cell (p := ⟨w.heap.size, 1, none⟩) (by show w.heap.size < _; omega)).trans h2, by omega, h6.trans (hb.mono (by omega))⟩

theorem len_awake : (Vc.len 196608 262144 == 327680) = true := by
  have h : (327680 : Int) = Vc.root (Vc.sq 196608 + Vc.sq 262144) := Vc.root_eq (by decide) (by decide) (by decide) (by decide)
  unfold Vc.len; rw [← h]; decide

set_option maxHeartbeats 400000 in
theorem awake_any (w : World) :
    Calls Try.prog 9 #[] w fun e w' => e = .returned (.bool true) ∧ Below w.heap.size w w' := by
  have e1 := len_awake
  go_enter Try.func9, Try.ntmps9
  go_wp2_with (go_at_call 18; refine (VcW.len_any _ _ _).mono ?_; rintro e w' ⟨rfl, hb⟩)
  go_ret
  exact ⟨rfl, hb⟩

/-- how great a number is -/
def size (a : Int) : Int := if 0 ≤ a then a else -a

set_option maxHeartbeats 400000 in
theorem size_any (a : Int) (h1 : -134217728 ≤ a) (h2 : a ≤ 134217728) (w : World) :
    Calls Try.prog 24 #[.int .i64 a] w fun e w' => e = .returned (.int .i64 (size a)) ∧ w' = w := by
  rcases Int.lt_trichotomy a 0 with h | h | h
  · have e : size a = -a := by unfold size; rw [if_neg (by omega)]
    rw [e]; clear e
    go_enter Try.func24, Try.ntmps24
    go_wp2
    go_ret
    exact ⟨rfl, rfl⟩
  · subst h
    go_enter Try.func24, Try.ntmps24
    go_wp2
    go_ret
    exact ⟨rfl, rfl⟩
  · have e : size a = a := by unfold size; rw [if_pos (by omega)]
    rw [e]; clear e
    go_enter Try.func24, Try.ntmps24
    go_wp2
    go_ret
    exact ⟨rfl, rfl⟩
end VcL
end Go.Proofs.Ytfpjpdhcdoaaiaa

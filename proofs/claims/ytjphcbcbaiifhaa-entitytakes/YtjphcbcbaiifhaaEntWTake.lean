/- What comes next is taken, on a base: the program's (EnW). -/
import Derived.Test.YtjphcbcbaiifhaaEntWAdd
import Derived.Test.YtjphcbcbaiifhaaEntWForm
import Derived.Test.YtjphcbcbaiifhaaEntLaw
namespace Go.Proofs.Ytjphcbcbaiifhaa
open Go.RowKit
set_option linter.unusedVariables false
set_option linter.unusedSimpArgs false

namespace EnW

set_option maxRecDepth 20000 in
set_option maxHeartbeats 4000000 in
theorem take_none0 (p : Nat) (v : Value) (bs : List Nat) (r : Bt.Rd) (b : En.E) (hb : b.wf) (w : World) (h : PRd p v bs r w) (hno : En.td (En.f6 r) (r.take 6) 6 = none) :
    Calls Try.prog 24 #[.pointer (some ⟨p, 0, none⟩), enVal b] w fun e w' => Took p v bs r b w e w' := by
  have hrb := prd_rblk h
  have hpl := h.lt
  obtain ⟨W0, hW0⟩ : ∃ W0, W0 = (w.alloc (.cells #[.int .i64 b.id, .int .i64 b.kind, .int .i64 b.ax, .int .i64 b.ay, .int .i64 b.vx, .int .i64 b.vy, .int .i64 b.h, .int .i64 b.t] 29)).alloc (.cells #[.int .i64 0, .int .i64 0, .int .i64 0, .int .i64 0, .int .i64 0, .int .i64 0, .int .i64 0, .int .i64 0] 29) := ⟨_, rfl⟩
  obtain ⟨B1, hB1⟩ : ∃ B, B = w.heap.size := ⟨_, rfl⟩
  obtain ⟨B2, hB2⟩ : ∃ B, B = w.heap.size + 1 := ⟨_, rfl⟩
  have hS1 : Struct B1 (enEnc b) W0 := by
    rw [hW0, hB1]
    exact (Struct.new w (enEnc b) 29).keep ((Turned.refl [] _).alloc _) (by simp)
  have hS2 : Struct B2 (enEnc EnR.zeroE) W0 := by
    have := Struct.new (w.alloc (.cells (enEnc b).toArray 29)) (enEnc EnR.zeroE) 29
    rw [show (w.alloc (.cells (enEnc b).toArray 29)).heap.size = w.heap.size + 1 by simp, ← hB2] at this
    rw [hW0]
    exact this
  have hTW : Turned [] w W0 := by rw [hW0]; exact ((Turned.refl [] w).alloc _).alloc _
  have hst := h.keep hTW (by simp) (by simp)
  have hT0 : Turned [p] w W0 := hTW.mono (by simp)
  have b1 : w.heap.size ≤ B1 := by omega
  have b2 : w.heap.size ≤ B2 := by omega
  have n12 : B1 ≠ B2 := by omega
  have kt : Calls Try.prog 47 #[.pointer (some ⟨p, 0, none⟩)] W0 fun e w' => e = .returned (.tuple #[.agg #[.int .i64 0, .int .i64 0, .int .i64 0, .int .i64 0, .int .i64 0, .int .i64 0], .bool false]) ∧ (∃ s, PRd p v bs s w') ∧ Turned [p] W0 w' := by
    refine (told_any p v bs r W0 hst).mono ?_
    rintro e w' (⟨D, s, hd, _⟩ | ⟨_, h1, h2, h3⟩)
    · rw [hno] at hd; cases hd
    · exact ⟨h1, h2, h3⟩
  have HNO : Hid (∀ x, ¬ En.Next r b x) := En.td_none_of hb hno
  clear hno
  go_enter Try.func24, Try.ntmps24
  go_wp2_with fail
  rw [← hW0, ← hB2, ← hB1]
  clear hW0 hB1 hB2 hTW h
  go_wp2_with (go_at_call 47; (with_reducible refine kt.mono ?_); rintro e1 u1 ⟨rfl, ⟨s1, hP1⟩, hT1⟩; have hS1 := hS1.keep hT1 (by simp; omega); have hS2 := hS2.keep hT1 (by simp; omega); have hT := hT0.trans hT1 (fun k hk _ => hk); have c0 := fun o => ((hS2.keep ((Turned.refl [] u1).alloc o) (by simp)).2 0 _ rfl).1; have f0 := fun o => ((hS2.keep ((Turned.refl [] u1).alloc o) (by simp)).2 0 _ rfl).2; have c1 := fun o => ((hS2.keep ((Turned.refl [] u1).alloc o) (by simp)).2 1 _ rfl).1; have f1 := fun o => ((hS2.keep ((Turned.refl [] u1).alloc o) (by simp)).2 1 _ rfl).2; have c2 := fun o => ((hS2.keep ((Turned.refl [] u1).alloc o) (by simp)).2 2 _ rfl).1; have f2 := fun o => ((hS2.keep ((Turned.refl [] u1).alloc o) (by simp)).2 2 _ rfl).2; have c3 := fun o => ((hS2.keep ((Turned.refl [] u1).alloc o) (by simp)).2 3 _ rfl).1; have f3 := fun o => ((hS2.keep ((Turned.refl [] u1).alloc o) (by simp)).2 3 _ rfl).2; have c4 := fun o => ((hS2.keep ((Turned.refl [] u1).alloc o) (by simp)).2 4 _ rfl).1; have f4 := fun o => ((hS2.keep ((Turned.refl [] u1).alloc o) (by simp)).2 4 _ rfl).2; have c5 := fun o => ((hS2.keep ((Turned.refl [] u1).alloc o) (by simp)).2 5 _ rfl).1; have f5 := fun o => ((hS2.keep ((Turned.refl [] u1).alloc o) (by simp)).2 5 _ rfl).2; have c6 := fun o => ((hS2.keep ((Turned.refl [] u1).alloc o) (by simp)).2 6 _ rfl).1; have f6 := fun o => ((hS2.keep ((Turned.refl [] u1).alloc o) (by simp)).2 6 _ rfl).2; have c7 := fun o => ((hS2.keep ((Turned.refl [] u1).alloc o) (by simp)).2 7 _ rfl).1; have f7 := fun o => ((hS2.keep ((Turned.refl [] u1).alloc o) (by simp)).2 7 _ rfl).2)
  have hTa : Turned [] u1 (u1.alloc (.cells #[.int .i64 0, .int .i64 0, .int .i64 0, .int .i64 0, .int .i64 0, .int .i64 0] 78)) := (Turned.refl [] u1).alloc _
  obtain ⟨W9, hW9⟩ : ∃ W9, W9 = EnR.put8 (u1.alloc (.cells #[.int .i64 0, .int .i64 0, .int .i64 0, .int .i64 0, .int .i64 0, .int .i64 0] 78)) B2 EnR.zeroE := ⟨_, rfl⟩
  have hS9 : Struct B2 (enEnc EnR.zeroE) W9 := by rw [hW9]; exact EnR.set8 (hS2.keep hTa (by simp)) _
  have hT8 : Turned [B2] (u1.alloc (.cells #[.int .i64 0, .int .i64 0, .int .i64 0, .int .i64 0, .int .i64 0, .int .i64 0] 78)) W9 := by rw [hW9]; exact EnR.turned8 (Turned.refl _ _) (.inl (by simp)) _
  have hP9 := (hP1.keep hTa (by simp) (by simp)).keep hT8 (by simp; omega) (by intro x hx; have := hrb x hx; simp; omega)
  have hT9 : Turned [p] w W9 := by rw [hW9]; exact EnR.turned8 (hT.trans hTa (by simp)) (.inr b2) _
  simp only [EnR.put8, EnR.zeroE] at hW9
  rw [← hW9]
  have z0 := (hS9.2 0 _ rfl).1
  have z1 := (hS9.2 1 _ rfl).1
  have z2 := (hS9.2 2 _ rfl).1
  have z3 := (hS9.2 3 _ rfl).1
  have z4 := (hS9.2 4 _ rfl).1
  have z5 := (hS9.2 5 _ rfl).1
  have z6 := (hS9.2 6 _ rfl).1
  have z7 := (hS9.2 7 _ rfl).1
  simp only [EnR.zeroE] at z0 z1 z2 z3 z4 z5 z6 z7
  exact bodyPost_ret (v := .tuple #[enVal EnR.zeroE, .bool false]) (by simp [results, Try.results24, go_sem, EnR.zeroE, z0, z1, z2, z3, z4, z5, z6, z7]) rfl (Or.inr ⟨HNO.out, rfl, ⟨_, hP9⟩, hT9⟩)

set_option maxRecDepth 20000 in
set_option maxHeartbeats 4000000 in
theorem take_none1 (p : Nat) (v : Value) (bs : List Nat) (r : Bt.Rd) (b : En.E) (hb : b.wf) (w : World) (h : PRd p v bs r w) (d0 d1 d2 d3 d4 d5 : Int) (s : Bt.Rd) (hsm : En.td (En.f6 r) (r.take 6) 6 = some ([d0, d1, d2, d3, d4, d5], s)) (hfl : s.fail = true) :
    Calls Try.prog 24 #[.pointer (some ⟨p, 0, none⟩), enVal b] w fun e w' => Took p v bs r b w e w' := by
  have hrb := prd_rblk h
  have hpl := h.lt
  obtain ⟨W0, hW0⟩ : ∃ W0, W0 = (w.alloc (.cells #[.int .i64 b.id, .int .i64 b.kind, .int .i64 b.ax, .int .i64 b.ay, .int .i64 b.vx, .int .i64 b.vy, .int .i64 b.h, .int .i64 b.t] 29)).alloc (.cells #[.int .i64 0, .int .i64 0, .int .i64 0, .int .i64 0, .int .i64 0, .int .i64 0, .int .i64 0, .int .i64 0] 29) := ⟨_, rfl⟩
  obtain ⟨B1, hB1⟩ : ∃ B, B = w.heap.size := ⟨_, rfl⟩
  obtain ⟨B2, hB2⟩ : ∃ B, B = w.heap.size + 1 := ⟨_, rfl⟩
  have hS1 : Struct B1 (enEnc b) W0 := by
    rw [hW0, hB1]
    exact (Struct.new w (enEnc b) 29).keep ((Turned.refl [] _).alloc _) (by simp)
  have hS2 : Struct B2 (enEnc EnR.zeroE) W0 := by
    have := Struct.new (w.alloc (.cells (enEnc b).toArray 29)) (enEnc EnR.zeroE) 29
    rw [show (w.alloc (.cells (enEnc b).toArray 29)).heap.size = w.heap.size + 1 by simp, ← hB2] at this
    rw [hW0]
    exact this
  have hTW : Turned [] w W0 := by rw [hW0]; exact ((Turned.refl [] w).alloc _).alloc _
  have hst := h.keep hTW (by simp) (by simp)
  have hT0 : Turned [p] w W0 := hTW.mono (by simp)
  have b1 : w.heap.size ≤ B1 := by omega
  have b2 : w.heap.size ≤ B2 := by omega
  have n12 : B1 ≠ B2 := by omega
  have kt : Calls Try.prog 47 #[.pointer (some ⟨p, 0, none⟩)] W0 fun e w' => e = .returned (.tuple #[.agg #[.int .i64 d0, .int .i64 d1, .int .i64 d2, .int .i64 d3, .int .i64 d4, .int .i64 d5], .bool false]) ∧ (∃ s, PRd p v bs s w') ∧ Turned [p] W0 w' := by
    refine (told_any p v bs r W0 hst).mono ?_
    rintro e w' (⟨D, s, hd, h1, h2, h3⟩ | ⟨h0, _⟩)
    · rw [hsm] at hd
      simp at hd
      obtain ⟨rfl, rfl⟩ := hd
      rw [hfl] at h1
      exact ⟨h1, ⟨_, h2⟩, h3⟩
    · rw [hsm] at h0; cases h0
  have HNO : Hid (∀ x, ¬ En.Next r b x) := En.td_none_fail hb hsm (.inl hfl)
  clear hsm hfl
  go_enter Try.func24, Try.ntmps24
  go_wp2_with fail
  rw [← hW0, ← hB2, ← hB1]
  clear hW0 hB1 hB2 hTW h
  go_wp2_with (go_at_call 47; (with_reducible refine kt.mono ?_); rintro e1 u1 ⟨rfl, ⟨s1, hP1⟩, hT1⟩; have hS1 := hS1.keep hT1 (by simp; omega); have hS2 := hS2.keep hT1 (by simp; omega); have hT := hT0.trans hT1 (fun k hk _ => hk); have c0 := fun o => ((hS2.keep ((Turned.refl [] u1).alloc o) (by simp)).2 0 _ rfl).1; have f0 := fun o => ((hS2.keep ((Turned.refl [] u1).alloc o) (by simp)).2 0 _ rfl).2; have c1 := fun o => ((hS2.keep ((Turned.refl [] u1).alloc o) (by simp)).2 1 _ rfl).1; have f1 := fun o => ((hS2.keep ((Turned.refl [] u1).alloc o) (by simp)).2 1 _ rfl).2; have c2 := fun o => ((hS2.keep ((Turned.refl [] u1).alloc o) (by simp)).2 2 _ rfl).1; have f2 := fun o => ((hS2.keep ((Turned.refl [] u1).alloc o) (by simp)).2 2 _ rfl).2; have c3 := fun o => ((hS2.keep ((Turned.refl [] u1).alloc o) (by simp)).2 3 _ rfl).1; have f3 := fun o => ((hS2.keep ((Turned.refl [] u1).alloc o) (by simp)).2 3 _ rfl).2; have c4 := fun o => ((hS2.keep ((Turned.refl [] u1).alloc o) (by simp)).2 4 _ rfl).1; have f4 := fun o => ((hS2.keep ((Turned.refl [] u1).alloc o) (by simp)).2 4 _ rfl).2; have c5 := fun o => ((hS2.keep ((Turned.refl [] u1).alloc o) (by simp)).2 5 _ rfl).1; have f5 := fun o => ((hS2.keep ((Turned.refl [] u1).alloc o) (by simp)).2 5 _ rfl).2; have c6 := fun o => ((hS2.keep ((Turned.refl [] u1).alloc o) (by simp)).2 6 _ rfl).1; have f6 := fun o => ((hS2.keep ((Turned.refl [] u1).alloc o) (by simp)).2 6 _ rfl).2; have c7 := fun o => ((hS2.keep ((Turned.refl [] u1).alloc o) (by simp)).2 7 _ rfl).1; have f7 := fun o => ((hS2.keep ((Turned.refl [] u1).alloc o) (by simp)).2 7 _ rfl).2)
  have hTa : Turned [] u1 (u1.alloc (.cells #[.int .i64 d0, .int .i64 d1, .int .i64 d2, .int .i64 d3, .int .i64 d4, .int .i64 d5] 78)) := (Turned.refl [] u1).alloc _
  obtain ⟨W9, hW9⟩ : ∃ W9, W9 = EnR.put8 (u1.alloc (.cells #[.int .i64 d0, .int .i64 d1, .int .i64 d2, .int .i64 d3, .int .i64 d4, .int .i64 d5] 78)) B2 EnR.zeroE := ⟨_, rfl⟩
  have hS9 : Struct B2 (enEnc EnR.zeroE) W9 := by rw [hW9]; exact EnR.set8 (hS2.keep hTa (by simp)) _
  have hT8 : Turned [B2] (u1.alloc (.cells #[.int .i64 d0, .int .i64 d1, .int .i64 d2, .int .i64 d3, .int .i64 d4, .int .i64 d5] 78)) W9 := by rw [hW9]; exact EnR.turned8 (Turned.refl _ _) (.inl (by simp)) _
  have hP9 := (hP1.keep hTa (by simp) (by simp)).keep hT8 (by simp; omega) (by intro x hx; have := hrb x hx; simp; omega)
  have hT9 : Turned [p] w W9 := by rw [hW9]; exact EnR.turned8 (hT.trans hTa (by simp)) (.inr b2) _
  simp only [EnR.put8, EnR.zeroE] at hW9
  rw [← hW9]
  have z0 := (hS9.2 0 _ rfl).1
  have z1 := (hS9.2 1 _ rfl).1
  have z2 := (hS9.2 2 _ rfl).1
  have z3 := (hS9.2 3 _ rfl).1
  have z4 := (hS9.2 4 _ rfl).1
  have z5 := (hS9.2 5 _ rfl).1
  have z6 := (hS9.2 6 _ rfl).1
  have z7 := (hS9.2 7 _ rfl).1
  simp only [EnR.zeroE] at z0 z1 z2 z3 z4 z5 z6 z7
  exact bodyPost_ret (v := .tuple #[enVal EnR.zeroE, .bool false]) (by simp [results, Try.results24, go_sem, EnR.zeroE, z0, z1, z2, z3, z4, z5, z6, z7]) rfl (Or.inr ⟨HNO.out, rfl, ⟨_, hP9⟩, hT9⟩)

set_option maxRecDepth 20000 in
set_option maxHeartbeats 8000000 in
theorem take_some (p : Nat) (v : Value) (bs : List Nat) (r : Bt.Rd) (b : En.E) (hb : b.wf) (w : World) (h : PRd p v bs r w) (d0 d1 d2 d3 d4 d5 : Int) (s : Bt.Rd) (hsm : En.td (En.f6 r) (r.take 6) 6 = some ([d0, d1, d2, d3, d4, d5], s)) (hfl : s.fail = false) :
    Calls Try.prog 24 #[.pointer (some ⟨p, 0, none⟩), enVal b] w fun e w' => Took p v bs r b w e w' := by
  have hrb := prd_rblk h
  have hpl := h.lt
  obtain ⟨W0, hW0⟩ : ∃ W0, W0 = (w.alloc (.cells #[.int .i64 b.id, .int .i64 b.kind, .int .i64 b.ax, .int .i64 b.ay, .int .i64 b.vx, .int .i64 b.vy, .int .i64 b.h, .int .i64 b.t] 29)).alloc (.cells #[.int .i64 0, .int .i64 0, .int .i64 0, .int .i64 0, .int .i64 0, .int .i64 0, .int .i64 0, .int .i64 0] 29) := ⟨_, rfl⟩
  obtain ⟨B1, hB1⟩ : ∃ B, B = w.heap.size := ⟨_, rfl⟩
  obtain ⟨B2, hB2⟩ : ∃ B, B = w.heap.size + 1 := ⟨_, rfl⟩
  have hS1 : Struct B1 (enEnc b) W0 := by
    rw [hW0, hB1]
    exact (Struct.new w (enEnc b) 29).keep ((Turned.refl [] _).alloc _) (by simp)
  have hS2 : Struct B2 (enEnc EnR.zeroE) W0 := by
    have := Struct.new (w.alloc (.cells (enEnc b).toArray 29)) (enEnc EnR.zeroE) 29
    rw [show (w.alloc (.cells (enEnc b).toArray 29)).heap.size = w.heap.size + 1 by simp, ← hB2] at this
    rw [hW0]
    exact this
  have hTW : Turned [] w W0 := by rw [hW0]; exact ((Turned.refl [] w).alloc _).alloc _
  have hst := h.keep hTW (by simp) (by simp)
  have hT0 : Turned [p] w W0 := hTW.mono (by simp)
  have b1 : w.heap.size ≤ B1 := by omega
  have b2 : w.heap.size ≤ B2 := by omega
  have n12 : B1 ≠ B2 := by omega
  have kt : Calls Try.prog 47 #[.pointer (some ⟨p, 0, none⟩)] W0 fun e w' => e = .returned (.tuple #[.agg #[.int .i64 d0, .int .i64 d1, .int .i64 d2, .int .i64 d3, .int .i64 d4, .int .i64 d5], .bool true]) ∧ PRd p v bs s w' ∧ Turned [p] W0 w' := by
    refine (told_any p v bs r W0 hst).mono ?_
    rintro e w' (⟨D, s, hd, h1, h2, h3⟩ | ⟨h0, _⟩)
    · rw [hsm] at hd
      simp at hd
      obtain ⟨rfl, rfl⟩ := hd
      rw [hfl] at h1
      exact ⟨h1, h2, h3⟩
    · rw [hsm] at h0; cases h0
  have HSM : Hid (En.td (En.f6 r) (r.take 6) 6 = some ([d0, d1, d2, d3, d4, d5], s)) := hsm
  have HFL : Hid (s.fail = false) := hfl
  clear hsm hfl
  go_enter Try.func24, Try.ntmps24
  go_wp2_with fail
  rw [← hW0, ← hB2, ← hB1]
  clear hW0 hB1 hB2 hTW h
  go_wp2_with (go_at_call 47; (with_reducible refine kt.mono ?_); rintro e1 u1 ⟨rfl, hP1, hT1⟩; have hS1 := hS1.keep hT1 (by simp; omega); have hS2 := hS2.keep hT1 (by simp; omega); have hT := hT0.trans hT1 (fun k hk _ => hk); have c0 := fun o => ((hS1.keep ((Turned.refl [] u1).alloc o) (by simp)).2 0 _ rfl).1; have f0 := fun o => ((hS1.keep ((Turned.refl [] u1).alloc o) (by simp)).2 0 _ rfl).2; have c1 := fun o => ((hS1.keep ((Turned.refl [] u1).alloc o) (by simp)).2 1 _ rfl).1; have f1 := fun o => ((hS1.keep ((Turned.refl [] u1).alloc o) (by simp)).2 1 _ rfl).2; have c2 := fun o => ((hS1.keep ((Turned.refl [] u1).alloc o) (by simp)).2 2 _ rfl).1; have f2 := fun o => ((hS1.keep ((Turned.refl [] u1).alloc o) (by simp)).2 2 _ rfl).2; have c3 := fun o => ((hS1.keep ((Turned.refl [] u1).alloc o) (by simp)).2 3 _ rfl).1; have f3 := fun o => ((hS1.keep ((Turned.refl [] u1).alloc o) (by simp)).2 3 _ rfl).2; have c4 := fun o => ((hS1.keep ((Turned.refl [] u1).alloc o) (by simp)).2 4 _ rfl).1; have f4 := fun o => ((hS1.keep ((Turned.refl [] u1).alloc o) (by simp)).2 4 _ rfl).2; have c5 := fun o => ((hS1.keep ((Turned.refl [] u1).alloc o) (by simp)).2 5 _ rfl).1; have f5 := fun o => ((hS1.keep ((Turned.refl [] u1).alloc o) (by simp)).2 5 _ rfl).2; have c6 := fun o => ((hS1.keep ((Turned.refl [] u1).alloc o) (by simp)).2 6 _ rfl).1; have f6 := fun o => ((hS1.keep ((Turned.refl [] u1).alloc o) (by simp)).2 6 _ rfl).2; have c7 := fun o => ((hS1.keep ((Turned.refl [] u1).alloc o) (by simp)).2 7 _ rfl).1; have f7 := fun o => ((hS1.keep ((Turned.refl [] u1).alloc o) (by simp)).2 7 _ rfl).2)

  obtain ⟨W1, hW1⟩ : ∃ W1, W1 = (u1.alloc (.cells #[.int .i64 d0, .int .i64 d1, .int .i64 d2, .int .i64 d3, .int .i64 d4, .int .i64 d5] 78)).alloc (.cells #[.int .i64 b.id, .int .i64 b.kind, .int .i64 b.ax, .int .i64 b.ay, .int .i64 b.vx, .int .i64 b.vy, .int .i64 b.h, .int .i64 b.t] 29) := ⟨_, rfl⟩
  obtain ⟨B3, hB3⟩ : ∃ B, B = u1.heap.size := ⟨_, rfl⟩
  obtain ⟨B4, hB4⟩ : ∃ B, B = u1.heap.size + 1 := ⟨_, rfl⟩
  rw [← hW1, ← hB4, ← hB3]
  have hS3 : Struct B3 (dEnc [d0, d1, d2, d3, d4, d5]) W1 := by
    rw [hW1, hB3]
    exact (Struct.new u1 (dEnc [d0, d1, d2, d3, d4, d5]) 78).keep ((Turned.refl [] _).alloc _) (by simp)
  have hS4 : Struct B4 (enEnc (En.adds b [d0, d1, d2, d3, d4, d5] 0)) W1 := by
    have := Struct.new (u1.alloc (.cells (dEnc [d0, d1, d2, d3, d4, d5]).toArray 78)) (enEnc b) 29
    rw [show (u1.alloc (.cells (dEnc [d0, d1, d2, d3, d4, d5]).toArray 78)).heap.size = u1.heap.size + 1 by simp, ← hB4] at this
    rw [hW1]
    exact this
  have hTa : Turned [] u1 W1 := by rw [hW1]; exact ((Turned.refl [] u1).alloc _).alloc _
  have l2 := hS2.1
  have lu := hT.size
  have m3 : w.heap.size ≤ B3 := by omega
  have m4 : w.heap.size ≤ B4 := by omega
  have n23 : B2 ≠ B3 := by omega
  have n24 : B2 ≠ B4 := by omega
  have n34 : B3 ≠ B4 := by omega
  have hS2 := hS2.keep hTa (by simp)
  have hP := hP1.keep hTa (by simp) (by simp)
  have hT := hT.trans hTa (by simp)
  clear c0 c1 c2 c3 c4 c5 c6 c7 f0 f1 f2 f3 f4 f5 f6 f7 hW1 hB3 hB4 hTa hS1 hP1 hT1 l2 lu kt hst hT0
  have hdr : Turned [] W1 W1.drew := (Turned.refl [] W1).drew
  have hS2 := hS2.keep hdr (by simp)
  have hS3 := hS3.keep hdr (by simp)
  have hS4 := hS4.keep hdr (by simp)
  have hP := hP.keep hdr (by simp) (by simp)
  have hT := hT.trans hdr (by simp)
  clear hdr
  go_region_with (first | (go_at_call 36; (with_reducible refine (fixFields_any B4 _).mono ?_); rintro e3 u3 ⟨g3, hg3, rfl, hpl3, hT3⟩; have g34 : g3 ≠ B4 := (by have := hS4.1; omega); have hS2 := hS2.keep hT3 (by simp); have hS3 := hS3.keep hT3 (by simp); have hS4 := hS4.keep hT3 (by simp); have hP := hP.keep hT3 (by simp) (by simp); have hT := hT.trans hT3 (by simp); clear hT3) | (go_at_call 48; (with_reducible refine (addF_any g3 B4 B3 6 b [d0, d1, d2, d3, d4, d5] _ hpl3 hS4 hS3 rfl g34 n34).mono ?_); rintro e4 u4 ⟨rfl, hS4', hT4⟩; have hS2 := hS2.keep hT4 (by simp; omega); have hS3 := hS3.keep hT4 (by simp; omega); have hP := hP.keep hT4 (by simp; omega) (by intro x hx; have := hrb x hx; simp; omega); have hT := hT.trans hT4 (by simp; omega); have hS4 := hS4'; clear hS4' hT4 hpl3))
  all_goals
    go_wp2_with fail
    have hdr : Turned [] u4 u4.drew := (Turned.refl [] u4).drew
    have hS2 := hS2.keep hdr (by simp)
    have hS3 := hS3.keep hdr (by simp)
    have hS4 := hS4.keep hdr (by simp)
    have hP := hP.keep hdr (by simp) (by simp)
    have hT := hT.trans hdr (by simp)
    clear hdr
    go_region_with (first | (go_at_call 38; (with_reducible refine (countFields_any B4 _).mono ?_); rintro e3 u5 ⟨g3, hg3, rfl, hpl3, hT3⟩; have g34 : g3 ≠ B4 := (by have := hS4.1; omega); have hS2 := hS2.keep hT3 (by simp); have hS3 := hS3.keep hT3 (by simp); have hS4 := hS4.keep hT3 (by simp); have hP := hP.keep hT3 (by simp) (by simp); have hT := hT.trans hT3 (by simp); clear hT3) | (go_at_call 49; (with_reducible refine (addI_any g3 B4 B3 2 b [d0, d1, d2, d3, d4, d5] _ hpl3 hS4 hS3 rfl g34 n34).mono ?_); rintro e4 u6 ⟨rfl, hS4', hT4⟩; have hS2 := hS2.keep hT4 (by simp; omega); have hS3 := hS3.keep hT4 (by simp; omega); have hP := hP.keep hT4 (by simp; omega) (by intro x hx; have := hrb x hx; simp; omega); have hT := hT.trans hT4 (by simp; omega); have hS4 := hS4'; clear hS4' hT4 hpl3))
    all_goals
      obtain ⟨x, hx⟩ : ∃ x, x = En.adds b [d0, d1, d2, d3, d4, d5] 6 := ⟨_, rfl⟩
      rw [← hx] at hS4
      have kf := formed_any x
      have c0 := (hS4.2 0 _ rfl).1
      have c1 := (hS4.2 1 _ rfl).1
      have c2 := (hS4.2 2 _ rfl).1
      have c3 := (hS4.2 3 _ rfl).1
      have c4 := (hS4.2 4 _ rfl).1
      have c5 := (hS4.2 5 _ rfl).1
      have c6 := (hS4.2 6 _ rfl).1
      have c7 := (hS4.2 7 _ rfl).1
      by_cases hfm : En.Formed x
      · rw [show decide (En.Formed x) = true by simpa using hfm] at kf
        have HNX : Hid (En.Next r b x ∧ s = ⟨r.l, r.at_ + (En.all b x).length, false⟩) := by rw [hx] at hfm ⊢; exact En.td_next_of hb HSM.out HFL.out hfm
        clear hfm hx
        go_wp2_with (go_at_call 10; (with_reducible refine (kf _).mono ?_); rintro e9 u9 ⟨rfl, hT9⟩; have hS2 := hS2.keep hT9 (by simp); have hS4 := hS4.keep hT9 (by simp); have hP := hP.keep hT9 (by simp) (by simp); have hT := hT.trans hT9 (by simp); have y0 := (hS2.2 0 _ rfl).1; have o0 := (hS2.2 0 _ rfl).2; have y1 := (hS2.2 1 _ rfl).1; have o1 := (hS2.2 1 _ rfl).2; have y2 := (hS2.2 2 _ rfl).1; have o2 := (hS2.2 2 _ rfl).2; have y3 := (hS2.2 3 _ rfl).1; have o3 := (hS2.2 3 _ rfl).2; have y4 := (hS2.2 4 _ rfl).1; have o4 := (hS2.2 4 _ rfl).2; have y5 := (hS2.2 5 _ rfl).1; have o5 := (hS2.2 5 _ rfl).2; have y6 := (hS2.2 6 _ rfl).1; have o6 := (hS2.2 6 _ rfl).2; have y7 := (hS2.2 7 _ rfl).1; have o7 := (hS2.2 7 _ rfl).2; have x0 := (hS4.2 0 _ rfl).1; have x1 := (hS4.2 1 _ rfl).1; have x2 := (hS4.2 2 _ rfl).1; have x3 := (hS4.2 3 _ rfl).1; have x4 := (hS4.2 4 _ rfl).1; have x5 := (hS4.2 5 _ rfl).1; have x6 := (hS4.2 6 _ rfl).1; have x7 := (hS4.2 7 _ rfl).1)
        obtain ⟨W9, hW9⟩ : ∃ W9, W9 = EnR.put8 (u9) B2 x := ⟨_, rfl⟩
        have hS9 : Struct B2 (enEnc x) W9 := by rw [hW9]; exact EnR.set8 (hS2) _
        have hT8 : Turned [B2] (u9) W9 := by rw [hW9]; exact EnR.turned8 (Turned.refl _ _) (.inl (by simp)) _
        have hP9 := (hP).keep hT8 (by simp; omega) (by intro x hx; have := hrb x hx; simp; omega)
        have hT9 : Turned [p] w W9 := by rw [hW9]; exact EnR.turned8 (hT) (.inr b2) _
        simp only [EnR.put8, EnR.zeroE] at hW9
        rw [← hW9]
        have z0 := (hS9.2 0 _ rfl).1
        have z1 := (hS9.2 1 _ rfl).1
        have z2 := (hS9.2 2 _ rfl).1
        have z3 := (hS9.2 3 _ rfl).1
        have z4 := (hS9.2 4 _ rfl).1
        have z5 := (hS9.2 5 _ rfl).1
        have z6 := (hS9.2 6 _ rfl).1
        have z7 := (hS9.2 7 _ rfl).1
        exact bodyPost_ret (v := .tuple #[enVal x, .bool true]) (by simp [results, Try.results24, go_sem, EnR.zeroE, z0, z1, z2, z3, z4, z5, z6, z7]) rfl (Or.inl ⟨x, HNX.out.1, rfl, by rw [← HNX.out.2]; exact hP9, hT9⟩)
      · rw [show decide (En.Formed x) = false by simpa using hfm] at kf
        have HNO : Hid (∀ y, ¬ En.Next r b y) := by rw [hx] at hfm; exact En.td_none_fail hb HSM.out (.inr hfm)
        clear hfm hx
        go_wp2_with (go_at_call 10; (with_reducible refine (kf _).mono ?_); rintro e9 u9 ⟨rfl, hT9⟩; have hS2 := hS2.keep hT9 (by simp); have hP := hP.keep hT9 (by simp) (by simp); have hT := hT.trans hT9 (by simp); have y0 := (hS2.2 0 _ rfl).1; have o0 := (hS2.2 0 _ rfl).2; have y1 := (hS2.2 1 _ rfl).1; have o1 := (hS2.2 1 _ rfl).2; have y2 := (hS2.2 2 _ rfl).1; have o2 := (hS2.2 2 _ rfl).2; have y3 := (hS2.2 3 _ rfl).1; have o3 := (hS2.2 3 _ rfl).2; have y4 := (hS2.2 4 _ rfl).1; have o4 := (hS2.2 4 _ rfl).2; have y5 := (hS2.2 5 _ rfl).1; have o5 := (hS2.2 5 _ rfl).2; have y6 := (hS2.2 6 _ rfl).1; have o6 := (hS2.2 6 _ rfl).2; have y7 := (hS2.2 7 _ rfl).1; have o7 := (hS2.2 7 _ rfl).2)
        obtain ⟨W9, hW9⟩ : ∃ W9, W9 = EnR.put8 (u9) B2 EnR.zeroE := ⟨_, rfl⟩
        have hS9 : Struct B2 (enEnc EnR.zeroE) W9 := by rw [hW9]; exact EnR.set8 (hS2) _
        have hT8 : Turned [B2] (u9) W9 := by rw [hW9]; exact EnR.turned8 (Turned.refl _ _) (.inl (by simp)) _
        have hP9 := (hP).keep hT8 (by simp; omega) (by intro x hx; have := hrb x hx; simp; omega)
        have hT9 : Turned [p] w W9 := by rw [hW9]; exact EnR.turned8 (hT) (.inr b2) _
        simp only [EnR.put8, EnR.zeroE] at hW9
        rw [← hW9]
        have z0 := (hS9.2 0 _ rfl).1
        have z1 := (hS9.2 1 _ rfl).1
        have z2 := (hS9.2 2 _ rfl).1
        have z3 := (hS9.2 3 _ rfl).1
        have z4 := (hS9.2 4 _ rfl).1
        have z5 := (hS9.2 5 _ rfl).1
        have z6 := (hS9.2 6 _ rfl).1
        have z7 := (hS9.2 7 _ rfl).1
        simp only [EnR.zeroE] at z0 z1 z2 z3 z4 z5 z6 z7
        exact bodyPost_ret (v := .tuple #[enVal EnR.zeroE, .bool false]) (by simp [results, Try.results24, go_sem, EnR.zeroE, z0, z1, z2, z3, z4, z5, z6, z7]) rfl (Or.inr ⟨HNO.out, rfl, ⟨_, hP9⟩, hT9⟩)
end EnW
end Go.Proofs.Ytjphcbcbaiifhaa

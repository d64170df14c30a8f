/- What comes next is taken: the program's (CmW). -/
import Derived.Test.YtodfgekhffeapaaCmdPutW
import Derived.Test.YtodfgekhffeapaaCmdPlain3
import Derived.Test.YtodfgekhffeapaaBitRd2
namespace Go.Proofs.Ytodfgekhffeapaa
open Go.RowKit
set_option linter.unusedVariables false
set_option linter.unusedSimpArgs false

namespace CmW
theorem tell_lt3 (r : Bt.Rd) : ((r.tell 3 : Nat) : Int) < 8 := by have := Cm.tell_pow r 3; have h : r.tell 3 < 8 := this; omega
theorem tell_lt8 (r : Bt.Rd) : ((r.tell 8 : Nat) : Int) < 256 := by have := Cm.tell_pow r 8; have h : r.tell 8 < 256 := this; omega
theorem tell_lt1 (r : Bt.Rd) : ((r.tell 1 : Nat) : Int) < 2 := by have := Cm.tell_pow r 1; have h : r.tell 1 < 2 := this; omega
theorem tell_lt32 (r : Bt.Rd) : ((r.tell 32 : Nat) : Int) < 4294967296 := by have := Cm.tell_pow r 32; have h : r.tell 32 < 4294967296 := this; omega
set_option maxHeartbeats 400000 in
theorem takenOff_any (a : Nat) (h : (a : Int) < 256) (w : World) :
    Calls Try.prog 40 #[.int .u64 (a : Int)] w fun e w' => e = .returned (.int .i8 (Cm.off a)) ∧ w' = w := by
  go_enter Try.func40, Try.ntmps40
  go_wp2
  go_ret
  refine int_ret ?_ rfl
  unfold Cm.off
  split <;> simp [IntKind.wrap, IntKind.bits, IntKind.signed] <;> omega

/-- a command that is being taken: the reader, the answer's block and the command's, what has turned -/
structure At (p : Nat) (v : Value) (bs : List Nat) (B0 B1 : Nat) (w : World) (c : Cm.C) (r : Bt.Rd) (u : World) : Prop where
  rd : PRd p v bs r u
  ans : Struct B0 (cmEnc ⟨0, 0, 0, false, 0, 0⟩) u
  own : Struct B1 (cmEnc c) u
  turned : Turned [p] w u
theorem prd_rblk {p : Nat} {v : Value} {bs : List Nat} {r : Bt.Rd} {w : World} (h : PRd p v bs r w) : ∀ k ∈ rblk v, k < w.heap.size := by
  obtain ⟨_, ⟨oa, cap, rfl, _, hd⟩, _⟩ := h
  intro k hk
  cases oa with
  | none => simp [rblk] at hk
  | some a =>
    simp [rblk] at hk
    subst hk
    exact (hd a rfl).2
theorem At.took {p : Nat} {v : Value} {bs : List Nat} {B0 B1 : Nat} {w u u' : World} {c : Cm.C} {r r' : Bt.Rd} (h : At p v bs B0 B1 w c r u) (h0 : B0 ≠ p) (h1 : B1 ≠ p) (hp : PRd p v bs r' u') (ht : Turned [p] u u') : At p v bs B0 B1 w c r' u' :=
  ⟨hp, h.ans.keep ht (by simpa using h0), h.own.keep ht (by simpa using h1), h.turned.trans ht (fun k hk _ => hk)⟩
theorem At.set {p : Nat} {v : Value} {bs : List Nat} {B0 B1 : Nat} {w u : World} {c c' : Cm.C} {r : Bt.Rd} {i : Nat} {x : Value} (h : At p v bs B0 B1 w c r u) (hp : p < w.heap.size) (hv : ∀ k ∈ rblk v, k < w.heap.size) (h0 : B0 ≠ B1) (h1 : w.heap.size ≤ B1) (hi : i < 6) (hc : (cmEnc c).set i x = cmEnc c') : At p v bs B0 B1 w c' r (u.setCell ⟨B1, i, none⟩ x) := by
  have ht : Turned [B1] u (u.setCell ⟨B1, i, none⟩ x) := (Turned.refl [B1] u).setCell (.inl (by simp)) _
  refine ⟨h.rd.keep ht (by simp; omega) (fun k hk => by have := hv k hk; simp; omega), h.ans.keep ht (by simpa using h0), ?_, h.turned.setCell (p := ⟨B1, i, none⟩) (.inr h1) x⟩
  rw [← hc]
  exact h.own.set (i := i) (by simpa [cmEnc] using hi) x

/-- a command is stored whole -/
abbrev put6 (w : World) (p o : Nat) (c : Cm.C) : World := (((((w.setCell ⟨p, o, none⟩ (.int .u32 (c.n : Int))).setCell ⟨p, o + 1, none⟩ (.int .i8 c.x)).setCell ⟨p, o + 2, none⟩ (.int .i8 c.y)).setCell ⟨p, o + 3, none⟩ (.bool c.f)).setCell ⟨p, o + 4, none⟩ (.int .u32 (c.v : Int))).setCell ⟨p, o + 5, none⟩ (.int .u8 (c.q : Int))
theorem set6 {p : Nat} {e : Cm.C} {w : World} (h : Struct p (cmEnc e) w) (x : Cm.C) : Struct p (cmEnc x) (put6 w p 0 x) :=
  (((((h.set (i := 0) (by simp [cmEnc]) _).set (i := 1) (by simp [cmEnc]) _).set (i := 2) (by simp [cmEnc]) _).set (i := 3) (by simp [cmEnc]) _).set (i := 4) (by simp [cmEnc]) _).set (i := 5) (by simp [cmEnc]) _
theorem turned6 {S : List Nat} {w w' : World} {p o : Nat} (h : Turned S w w') (hp : p ∈ S ∨ w.heap.size ≤ p) (x : Cm.C) : Turned S w (put6 w' p o x) :=
  (((((h.setCell (p := ⟨p, o, none⟩) hp _).setCell (p := ⟨p, o + 1, none⟩) hp _).setCell (p := ⟨p, o + 2, none⟩) hp _).setCell (p := ⟨p, o + 3, none⟩) hp _).setCell (p := ⟨p, o + 4, none⟩) hp _).setCell (p := ⟨p, o + 5, none⟩) hp _

set_option maxRecDepth 20000 in
set_option maxHeartbeats 4000000 in
theorem takeOne_any (p : Nat) (v : Value) (bs : List Nat) (r : Bt.Rd) (m : Nat) (hm : (m : Int) < 4294967296) (w : World) (h : PRd p v bs r w) :
    Calls Try.prog 35 #[.pointer (some ⟨p, 0, none⟩), .int .u32 (m : Int)] w fun e w' => e = .returned (cmVal (Cm.pdOne r m).1) ∧ PRd p v bs (Cm.pdOne r m).2 w' ∧ Turned [p] w w' := by
  have kt := fun (r : Bt.Rd) (n : Int) (u : World) (h : PRd p v bs r u) => BtD.take_any p v bs r n u h
  have hrb := prd_rblk h
  have hpl := h.lt
  have t8 := tell_lt8 r
  have t8' := tell_lt8 (r.take 8)
  have t1 := tell_lt1 ((r.take 8).take 8)
  have t32 := tell_lt32 (((r.take 8).take 8).take 1)
  have t8'' := tell_lt8 ((((r.take 8).take 8).take 1).take 32)
  have k1 := takenOff_any (r.tell 8) t8
  have k2 := takenOff_any ((r.take 8).tell 8) t8'
  go_enter Try.func35, Try.ntmps35
  go_wp2_with fail
  obtain ⟨B0, hB0⟩ : ∃ B, B = w.heap.size := ⟨_, rfl⟩
  obtain ⟨B1, hB1⟩ : ∃ B, B = w.heap.size + 1 := ⟨_, rfl⟩
  obtain ⟨W0, hW0⟩ : ∃ W0, W0 = (w.alloc (.cells #[.int .u32 0, .int .i8 0, .int .i8 0, .bool false, .int .u32 0, .int .u8 0] 25)).alloc (.cells #[.int .u32 (m : Int), .int .i8 0, .int .i8 0, .bool false, .int .u32 0, .int .u8 0] 25) := ⟨_, rfl⟩
  rw [← hW0, ← hB1, ← hB0]
  have hA : At p v bs B0 B1 w ⟨m, 0, 0, false, 0, 0⟩ r W0 := by
    have hT : Turned [] w W0 := by rw [hW0]; exact ((Turned.refl [] w).alloc _).alloc _
    refine ⟨h.keep hT (by simp) (by simp), ?_, ?_, hT.mono (by simp)⟩
    · rw [hW0, hB0]; exact (Struct.new w (cmEnc ⟨0, 0, 0, false, 0, 0⟩) 25).keep ((Turned.refl [] _).alloc _) (by simp)
    · have := Struct.new (w.alloc (.cells #[.int .u32 0, .int .i8 0, .int .i8 0, .bool false, .int .u32 0, .int .u8 0] 25)) (cmEnc ⟨m, 0, 0, false, 0, 0⟩) 25
      rw [show (w.alloc (.cells #[.int .u32 0, .int .i8 0, .int .i8 0, .bool false, .int .u32 0, .int .u8 0] 25)).heap.size = w.heap.size + 1 by simp, ← hB1] at this
      rw [hW0]
      exact this
  have n0 : B0 ≠ p := by omega
  have n1 : B1 ≠ p := by omega
  have n01 : B0 ≠ B1 := by omega
  have b1 : w.heap.size ≤ B1 := by omega
  have b0 : w.heap.size ≤ B0 := by omega
  clear hW0 hB0 hB1 h
  go_at_call 28
  (with_reducible refine (kt _ _ _ hA.rd).mono ?_)
  rintro e u1 ⟨rfl, hP1, hT1⟩
  have hA := hA.took n0 n1 hP1 hT1
  have c1 := (hA.own.2 1 _ rfl).1
  have f1 := (hA.own.2 1 _ rfl).2
  clear hP1 hT1
  go_wp2_with fail
  go_at_call 40
  (with_reducible refine (k1 _).mono ?_)
  rintro e u2 ⟨rfl, hu⟩
  subst hu
  go_wp2_with fail
  have hA := hA.set (i := 1) (x := .int .i8 (Cm.off (r.tell 8))) (c' := ⟨m, Cm.off (r.tell 8), 0, false, 0, 0⟩) hpl hrb n01 b1 (by decide) rfl
  go_at_call 28
  (with_reducible refine (kt _ _ _ hA.rd).mono ?_)
  rintro e u3 ⟨rfl, hP1, hT1⟩
  have hA := hA.took n0 n1 hP1 hT1
  have c2 := (hA.own.2 2 _ rfl).1
  have f2 := (hA.own.2 2 _ rfl).2
  clear hP1 hT1
  go_wp2_with fail
  go_at_call 40
  (with_reducible refine (k2 _).mono ?_)
  rintro e u2 ⟨rfl, hu⟩
  subst hu
  go_wp2_with fail
  have hA := hA.set (i := 2) (x := .int .i8 (Cm.off ((r.take 8).tell 8))) (c' := ⟨m, Cm.off (r.tell 8), Cm.off ((r.take 8).tell 8), false, 0, 0⟩) hpl hrb n01 b1 (by decide) rfl
  go_at_call 28
  (with_reducible refine (kt _ _ _ hA.rd).mono ?_)
  rintro e u4 ⟨rfl, hP1, hT1⟩
  have hA := hA.took n0 n1 hP1 hT1
  have c0 := (hA.own.2 0 _ rfl).1
  have f0 := (hA.own.2 0 _ rfl).2
  have c1 := (hA.own.2 1 _ rfl).1
  have f1 := (hA.own.2 1 _ rfl).2
  have c2 := (hA.own.2 2 _ rfl).1
  have f2 := (hA.own.2 2 _ rfl).2
  have c3 := (hA.own.2 3 _ rfl).1
  have f3 := (hA.own.2 3 _ rfl).2
  have c4 := (hA.own.2 4 _ rfl).1
  have f4 := (hA.own.2 4 _ rfl).2
  have c5 := (hA.own.2 5 _ rfl).1
  have f5 := (hA.own.2 5 _ rfl).2
  clear hP1 hT1
  by_cases hc : ((r.take 8).take 8).tell 1 = 1
  · have ht : ((((r.take 8).take 8).tell 1 : Nat) : Int) = 1 := by omega
    have HP : Hid (Cm.pdOne r m = (⟨m, Cm.off (r.tell 8), Cm.off ((r.take 8).tell 8), true, (((r.take 8).take 8).take 1).tell 32, ((((r.take 8).take 8).take 1).take 32).tell 8⟩, ((((r.take 8).take 8).take 1).take 32).take 8)) := by show _ = _; unfold Cm.pdOne; rw [if_pos hc]
    rw [ht]
    clear hc t1
    go_wp2_with fail
    have hA := hA.set (i := 3) (x := .bool true) (c' := ⟨m, Cm.off (r.tell 8), Cm.off ((r.take 8).tell 8), true, 0, 0⟩) hpl hrb n01 b1 (by decide) rfl
    go_at_call 28
    (with_reducible refine (kt _ _ _ hA.rd).mono ?_)
    rintro e u5 ⟨rfl, hP1, hT1⟩
    have hA := hA.took n0 n1 hP1 hT1
    have c4 := (hA.own.2 4 _ rfl).1
    have f4 := (hA.own.2 4 _ rfl).2
    clear hP1 hT1
    go_wp2_with fail
    have hA := hA.set (i := 4) (x := .int .u32 (((((r.take 8).take 8).take 1).tell 32 : Nat) : Int)) (c' := ⟨m, Cm.off (r.tell 8), Cm.off ((r.take 8).tell 8), true, (((r.take 8).take 8).take 1).tell 32, 0⟩) hpl hrb n01 b1 (by decide) rfl
    go_at_call 28
    (with_reducible refine (kt _ _ _ hA.rd).mono ?_)
    rintro e u6 ⟨rfl, hP1, hT1⟩
    have hA := hA.took n0 n1 hP1 hT1
    have c0 := (hA.own.2 0 _ rfl).1
    have f0 := (hA.own.2 0 _ rfl).2
    have c1 := (hA.own.2 1 _ rfl).1
    have f1 := (hA.own.2 1 _ rfl).2
    have c2 := (hA.own.2 2 _ rfl).1
    have f2 := (hA.own.2 2 _ rfl).2
    have c3 := (hA.own.2 3 _ rfl).1
    have f3 := (hA.own.2 3 _ rfl).2
    have c4 := (hA.own.2 4 _ rfl).1
    have f4 := (hA.own.2 4 _ rfl).2
    have c5 := (hA.own.2 5 _ rfl).1
    have f5 := (hA.own.2 5 _ rfl).2
    clear hP1 hT1
    have z0 := (hA.ans.2 0 _ rfl).1
    have y0 := (hA.ans.2 0 _ rfl).2
    have z1 := (hA.ans.2 1 _ rfl).1
    have y1 := (hA.ans.2 1 _ rfl).2
    have z2 := (hA.ans.2 2 _ rfl).1
    have y2 := (hA.ans.2 2 _ rfl).2
    have z3 := (hA.ans.2 3 _ rfl).1
    have y3 := (hA.ans.2 3 _ rfl).2
    have z4 := (hA.ans.2 4 _ rfl).1
    have y4 := (hA.ans.2 4 _ rfl).2
    have z5 := (hA.ans.2 5 _ rfl).1
    have y5 := (hA.ans.2 5 _ rfl).2
    have hA0 := hA
    have hA := hA.set (i := 5) (x := .int .u8 ((((((r.take 8).take 8).take 1).take 32).tell 8 : Nat) : Int)) (c' := ⟨m, Cm.off (r.tell 8), Cm.off ((r.take 8).tell 8), true, (((r.take 8).take 8).take 1).tell 32, ((((r.take 8).take 8).take 1).take 32).tell 8⟩) hpl hrb n01 b1 (by decide) rfl
    go_wp2_with fail
    obtain ⟨W9, hW9⟩ : ∃ W9, W9 = put6 (u6.setCell ⟨B1, 5, none⟩ (.int .u8 ((((((r.take 8).take 8).take 1).take 32).tell 8 : Nat) : Int))) B0 0 ⟨m, Cm.off (r.tell 8), Cm.off ((r.take 8).tell 8), true, (((r.take 8).take 8).take 1).tell 32, ((((r.take 8).take 8).take 1).take 32).tell 8⟩ := ⟨_, rfl⟩
    have hS9 : Struct B0 (cmEnc ⟨m, Cm.off (r.tell 8), Cm.off ((r.take 8).tell 8), true, (((r.take 8).take 8).take 1).tell 32, ((((r.take 8).take 8).take 1).take 32).tell 8⟩) W9 := by rw [hW9]; exact set6 hA.ans _
    have hT8 : Turned [B0] (u6.setCell ⟨B1, 5, none⟩ (.int .u8 ((((((r.take 8).take 8).take 1).take 32).tell 8 : Nat) : Int))) W9 := by rw [hW9]; exact turned6 (Turned.refl _ _) (.inl (by simp)) _
    have hT9' : Turned [p] w W9 := by rw [hW9]; exact turned6 hA.turned (.inr b0) _
    have hP9' := hA.rd.keep hT8 (by simp; omega) (by intro x hx; have := hrb x hx; simp; omega)
    unfold put6 at hW9
    (try simp only at hW9)
    (try simp only [Nat.reduceAdd] at hW9)
    (try simp only [show ((0 : Nat) : Int) = 0 from rfl] at hW9)
    rw [← hW9]
    have g0 := (hS9.2 0 _ rfl).1
    have g1 := (hS9.2 1 _ rfl).1
    have g2 := (hS9.2 2 _ rfl).1
    have g3 := (hS9.2 3 _ rfl).1
    have g4 := (hS9.2 4 _ rfl).1
    have g5 := (hS9.2 5 _ rfl).1
    exact bodyPost_ret (v := cmVal ⟨m, Cm.off (r.tell 8), Cm.off ((r.take 8).tell 8), true, (((r.take 8).take 8).take 1).tell 32, ((((r.take 8).take 8).take 1).take 32).tell 8⟩) (by simp [results, Try.results35, go_sem, g0, g1, g2, g3, g4, g5]) rfl ⟨by rw [HP.out], by rw [HP.out]; exact hP9', hT9'⟩
  · have ht : ((((r.take 8).take 8).tell 1 : Nat) : Int) = 0 := by omega
    have HP : Hid (Cm.pdOne r m = (⟨m, Cm.off (r.tell 8), Cm.off ((r.take 8).tell 8), false, 0, 0⟩, ((r.take 8).take 8).take 1)) := by show _ = _; unfold Cm.pdOne; rw [if_neg hc]
    rw [ht]
    clear hc t1
    have z0 := (hA.ans.2 0 _ rfl).1
    have y0 := (hA.ans.2 0 _ rfl).2
    have z1 := (hA.ans.2 1 _ rfl).1
    have y1 := (hA.ans.2 1 _ rfl).2
    have z2 := (hA.ans.2 2 _ rfl).1
    have y2 := (hA.ans.2 2 _ rfl).2
    have z3 := (hA.ans.2 3 _ rfl).1
    have y3 := (hA.ans.2 3 _ rfl).2
    have z4 := (hA.ans.2 4 _ rfl).1
    have y4 := (hA.ans.2 4 _ rfl).2
    have z5 := (hA.ans.2 5 _ rfl).1
    have y5 := (hA.ans.2 5 _ rfl).2
    have hA := hA.set (i := 3) (x := .bool false) (c' := ⟨m, Cm.off (r.tell 8), Cm.off ((r.take 8).tell 8), false, 0, 0⟩) hpl hrb n01 b1 (by decide) rfl
    go_wp2_with fail
    obtain ⟨W9, hW9⟩ : ∃ W9, W9 = put6 (u4.setCell ⟨B1, 3, none⟩ (.bool false)) B0 0 ⟨m, Cm.off (r.tell 8), Cm.off ((r.take 8).tell 8), false, 0, 0⟩ := ⟨_, rfl⟩
    have hS9 : Struct B0 (cmEnc ⟨m, Cm.off (r.tell 8), Cm.off ((r.take 8).tell 8), false, 0, 0⟩) W9 := by rw [hW9]; exact set6 hA.ans _
    have hT8 : Turned [B0] (u4.setCell ⟨B1, 3, none⟩ (.bool false)) W9 := by rw [hW9]; exact turned6 (Turned.refl _ _) (.inl (by simp)) _
    have hT9' : Turned [p] w W9 := by rw [hW9]; exact turned6 hA.turned (.inr b0) _
    have hP9' := hA.rd.keep hT8 (by simp; omega) (by intro x hx; have := hrb x hx; simp; omega)
    unfold put6 at hW9
    (try simp only at hW9)
    (try simp only [Nat.reduceAdd] at hW9)
    (try simp only [show ((0 : Nat) : Int) = 0 from rfl] at hW9)
    rw [← hW9]
    have g0 := (hS9.2 0 _ rfl).1
    have g1 := (hS9.2 1 _ rfl).1
    have g2 := (hS9.2 2 _ rfl).1
    have g3 := (hS9.2 3 _ rfl).1
    have g4 := (hS9.2 4 _ rfl).1
    have g5 := (hS9.2 5 _ rfl).1
    exact bodyPost_ret (v := cmVal ⟨m, Cm.off (r.tell 8), Cm.off ((r.take 8).tell 8), false, 0, 0⟩) (by simp [results, Try.results35, go_sem, g0, g1, g2, g3, g4, g5]) rfl ⟨by rw [HP.out], by rw [HP.out]; exact hP9', hT9'⟩

/-- a block of commands of the call's own -/
structure Lay (g : Nat) (l : List Cm.C) (w : World) : Prop where
  lt : g < w.heap.size
  at_ : ∀ i c, l[i]? = some c → ∀ j u, (cmEnc c)[j]? = some u → w.cell? ⟨g, i * 6 + j, none⟩ = some u ∧ w.frozen? ⟨g, i * 6 + j, none⟩ = false
theorem Lay.keep {g : Nat} {l : List Cm.C} {w w' : World} {S : List Nat} (h : Lay g l w) (ht : Turned S w w') (hd : g ∉ S) : Lay g l w' :=
  ⟨Nat.lt_of_lt_of_le h.lt ht.size, fun i c hc j u hu => ⟨(ht.cell (p := ⟨g, i * 6 + j, none⟩) h.lt hd).trans (h.at_ i c hc j u hu).1, (ht.frozen (p := ⟨g, i * 6 + j, none⟩) h.lt hd).trans (h.at_ i c hc j u hu).2⟩⟩
theorem Lay.row {g : Nat} {l : List Cm.C} {w : World} (h : Lay g l w) : RowOf 6 cmEnc (some ⟨g, 0, none⟩) l w := by
  intro i a hi
  exact ⟨g, 0, rfl, h.lt, fun j u hu => by rw [Nat.zero_add]; exact (h.at_ i a hi j u hu).1⟩
/-- cells k * 6 .. of a block are written -/
theorem far6 {g k : Nat} {w : World} (x : Cm.C) (a : Addr) (h : ∀ j, j < 6 → a ≠ ⟨g, k * 6 + j, none⟩) : (put6 w g (k * 6) x).cell? a = w.cell? a := by
  unfold put6
  rw [World.cell?_setCell_other, World.cell?_setCell_other, World.cell?_setCell_other, World.cell?_setCell_other, World.cell?_setCell_other, World.cell?_setCell_other]
  · exact fun e => h 0 (by omega) e.symm
  · exact fun e => h 1 (by omega) e.symm
  · exact fun e => h 2 (by omega) e.symm
  · exact fun e => h 3 (by omega) e.symm
  · exact fun e => h 4 (by omega) e.symm
  · exact fun e => h 5 (by omega) e.symm
theorem Lay.set {g k : Nat} {l : List Cm.C} {w : World} (h : Lay g l w) (hk : k < l.length) (x : Cm.C) : Lay g (l.set k x) (put6 w g (k * 6) x) := by
  refine ⟨by simpa [put6] using h.lt, fun i c hc j u hu => ⟨?_, ?_⟩⟩
  · have hj' : j < 6 := by have := (List.getElem?_eq_some_iff.1 hu).1; simpa [cmEnc] using this
    by_cases e : k = i
    · subst e
      rw [List.getElem?_set_self hk] at hc
      simp at hc
      subst hc
      have old := h.at_ k _ (List.getElem?_eq_getElem hk)
      have o0 := (old 0 _ rfl).1
      have o1 := (old 1 _ rfl).1
      have o2 := (old 2 _ rfl).1
      have o3 := (old 3 _ rfl).1
      have o4 := (old 4 _ rfl).1
      have o5 := (old 5 _ rfl).1
      rw [Nat.add_zero] at o0
      match j, hj' with
      | 0, _ => simp [cmEnc] at hu; subst hu; simp [put6, World.cell?_setCell_other, World.cell?_setCell_same', o0]
      | 1, _ => simp [cmEnc] at hu; subst hu; simp [put6, World.cell?_setCell_other, World.cell?_setCell_same', o1]
      | 2, _ => simp [cmEnc] at hu; subst hu; simp [put6, World.cell?_setCell_other, World.cell?_setCell_same', o2]
      | 3, _ => simp [cmEnc] at hu; subst hu; simp [put6, World.cell?_setCell_other, World.cell?_setCell_same', o3]
      | 4, _ => simp [cmEnc] at hu; subst hu; simp [put6, World.cell?_setCell_other, World.cell?_setCell_same', o4]
      | 5, _ => simp [cmEnc] at hu; subst hu; simp [put6, World.cell?_setCell_other, World.cell?_setCell_same', o5]
    · rw [List.getElem?_set_ne e] at hc
      rw [far6]
      · exact (h.at_ i c hc j u hu).1
      · intro j' hj6 he
        rw [Addr.mk.injEq] at he
        omega
  · by_cases e : k = i
    · subst e
      have old := h.at_ k _ (List.getElem?_eq_getElem hk)
      have hj' : j < 6 := by have := (List.getElem?_eq_some_iff.1 hu).1; simpa [cmEnc] using this
      have : ∃ u', (cmEnc l[k])[j]? = some u' := ⟨_, List.getElem?_eq_getElem (by simpa [cmEnc] using hj')⟩
      obtain ⟨u', hu'⟩ := this
      simp only [put6, World.frozen?_setCell]
      exact (old j u' hu').2
    · rw [List.getElem?_set_ne e] at hc
      simp only [put6, World.frozen?_setCell]
      exact (h.at_ i c hc j u hu).2
end CmW
end Go.Proofs.Ytodfgekhffeapaa

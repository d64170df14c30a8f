/- What comes next is taken, on a base: the reference's (EnR). -/
import Derived.Test.YtjphcbcbaiifhaaEntRef
import Derived.Test.YtjphcbcbaiifhaaBitRg3
namespace Go.Proofs.Ytjphcbcbaiifhaa
open Go.RowKit
set_option linter.unusedVariables false
set_option linter.unusedSimpArgs false

namespace EnR
/-- which fields are told to be others, behind k flags -/
def tol (r : Bt.Rd) (k : Nat) : List Value := (List.range 6).map fun j => .bool (decide (j < k) && En.fl r j)
theorem tol_set (r : Bt.Rd) : ∀ k, k < 6 → (tol r k).set k (.bool (En.fl r k)) = tol r (k + 1) := by
  refine En.six ?_ ?_ ?_ ?_ ?_ ?_ <;> rfl
theorem tol_at (r : Bt.Rd) : ∀ k, k < 6 → (tol r 6)[k]? = some (.bool (En.fl r k)) := by
  refine En.six ?_ ?_ ?_ ?_ ?_ ?_ <;> rfl
theorem tol_old (r : Bt.Rd) : ∀ k, k < 6 → (tol r k)[k]? = some (.bool false) := by
  refine En.six ?_ ?_ ?_ ?_ ?_ ?_ <;> rfl
theorem tell_lt1 (r : Bt.Rd) : ((r.tell 1 : Nat) : Int) < 2 := by
  have : r.tell ((1 : Nat) : Int) < 2 ^ 1 := by
    unfold Bt.Rd.tell
    split
    · have := Bt.val_lt (r.rest.take (((1 : Nat) : Int)).toNat)
      refine Nat.lt_of_lt_of_le this (Nat.pow_le_pow_right (by omega) ?_)
      rw [List.length_take]; simp; omega
    · decide
  have h : r.tell 1 < 2 := this
  omega
theorem rrd_rblk {p : Nat} {v : Value} {r : Bt.Rd} {w : World} (h : RRd p v r w) : ∀ k ∈ rblk v, k < w.heap.size := by
  obtain ⟨_, ⟨oa, cap, rfl, _, _, hd⟩, _⟩ := h
  intro k hk
  cases oa with
  | none => simp [rblk] at hk
  | some a =>
    simp [rblk] at hk
    subst hk
    exact (hd a rfl).2
/-- an entity is stored whole -/
abbrev put8 (w : World) (p : Nat) (x : En.E) : World := ((((((((w.setCell ⟨p, 0, none⟩ (.int .i64 x.id)).setCell ⟨p, 1, none⟩ (.int .i64 x.kind)).setCell ⟨p, 2, none⟩ (.int .i64 x.ax)).setCell ⟨p, 3, none⟩ (.int .i64 x.ay)).setCell ⟨p, 4, none⟩ (.int .i64 x.vx)).setCell ⟨p, 5, none⟩ (.int .i64 x.vy)).setCell ⟨p, 6, none⟩ (.int .i64 x.h)).setCell ⟨p, 7, none⟩ (.int .i64 x.t))
theorem set8 {p : Nat} {e : En.E} {w : World} (h : Struct p (enEnc e) w) (x : En.E) : Struct p (enEnc x) (put8 w p x) :=
  (((((((h.set (i := 0) (by simp [enEnc]) _).set (i := 1) (by simp [enEnc]) _).set (i := 2) (by simp [enEnc]) _).set (i := 3) (by simp [enEnc]) _).set (i := 4) (by simp [enEnc]) _).set (i := 5) (by simp [enEnc]) _).set (i := 6) (by simp [enEnc]) _).set (i := 7) (by simp [enEnc]) _
theorem turned8 {S : List Nat} {w w' : World} {p : Nat} (h : Turned S w w') (hp : p ∈ S ∨ w.heap.size ≤ p) (x : En.E) : Turned S w (put8 w' p x) :=
  (((((((h.setCell (p := ⟨p, 0, none⟩) hp _).setCell (p := ⟨p, 1, none⟩) hp _).setCell (p := ⟨p, 2, none⟩) hp _).setCell (p := ⟨p, 3, none⟩) hp _).setCell (p := ⟨p, 4, none⟩) hp _).setCell (p := ⟨p, 5, none⟩) hp _).setCell (p := ⟨p, 6, none⟩) hp _).setCell (p := ⟨p, 7, none⟩) hp _
def zeroE : En.E := ⟨0, 0, 0, 0, 0, 0, 0, 0⟩
/-- what Take answers of a reader, on a base -/
def Took (p : Nat) (v : Value) (r : Bt.Rd) (b : En.E) (w : World) (e : Ending) (w' : World) : Prop :=
  (∃ x, En.Next r b x ∧ e = .returned (.tuple #[enVal x, .bool true]) ∧ RRd p v ⟨r.l, r.at_ + (En.all b x).length, false⟩ w' ∧ Turned [p] w w') ∨
  ((∀ x, ¬ En.Next r b x) ∧ e = .returned (.tuple #[enVal zeroE, .bool false]) ∧ (∃ r', RRd p v r' w') ∧ Turned [p] w w')

set_option maxRecDepth 20000 in
set_option maxHeartbeats 8000000 in
theorem take_any (p : Nat) (v : Value) (r : Bt.Rd) (b : En.E) (hb : b.wf) (w : World) (h : RRd p v r w) :
    Calls Try.prog 25 #[.pointer (some ⟨p, 0, none⟩), enVal b] w fun e w' => Took p v r b w e w' := by
  have kt := fun (r : Bt.Rd) (n : Int) (u : World) (h : RRd p v r u) => BtG.take_any p v r n u h
  have ks := fun (r : Bt.Rd) (u : World) (h : RRd p v r u) => BtG.small_any p v r u h
  have hrb := rrd_rblk h
  have hpl := h.lt
  go_enter Try.func25, Try.ntmps25
  go_wp2_with fail
  obtain ⟨W0, hW0⟩ : ∃ W0, W0 = ((w.alloc (.cells #[.int .i64 b.id, .int .i64 b.kind, .int .i64 b.ax, .int .i64 b.ay, .int .i64 b.vx, .int .i64 b.vy, .int .i64 b.h, .int .i64 b.t] 29)).alloc (.cells #[.int .i64 0, .int .i64 0, .int .i64 0, .int .i64 0, .int .i64 0, .int .i64 0, .int .i64 0, .int .i64 0] 29)).alloc (.cells #[.bool false, .bool false, .bool false, .bool false, .bool false, .bool false] 83) := ⟨_, rfl⟩
  rw [← hW0]
  obtain ⟨B1, hB1⟩ : ∃ B, B = w.heap.size := ⟨_, rfl⟩
  obtain ⟨B2, hB2⟩ : ∃ B, B = w.heap.size + 1 := ⟨_, rfl⟩
  obtain ⟨B3, hB3⟩ : ∃ B, B = w.heap.size + 1 + 1 := ⟨_, rfl⟩
  rw [← hB3, ← hB2, ← hB1]
  have hS1 : Struct B1 (enEnc b) W0 := by
    rw [hW0, hB1]
    exact ((Struct.new w (enEnc b) 29).keep ((Turned.refl [] _).alloc _) (by simp)).keep ((Turned.refl [] _).alloc _) (by simp)
  have hS2 : Struct B2 (enEnc zeroE) W0 := by
    have := (Struct.new (w.alloc (.cells (enEnc b).toArray 29)) (enEnc zeroE) 29).keep ((Turned.refl [] _).alloc (.cells #[.bool false, .bool false, .bool false, .bool false, .bool false, .bool false] 83)) (by simp)
    rw [show (w.alloc (.cells (enEnc b).toArray 29)).heap.size = w.heap.size + 1 by simp, ← hB2] at this
    rw [hW0]
    exact this
  have hS3 : Struct B3 (tol r 0) W0 := by
    have := Struct.new ((w.alloc (.cells (enEnc b).toArray 29)).alloc (.cells (enEnc zeroE).toArray 29)) (tol r 0) 83
    rw [show ((w.alloc (.cells (enEnc b).toArray 29)).alloc (.cells (enEnc zeroE).toArray 29)).heap.size = w.heap.size + 1 + 1 by simp, ← hB3] at this
    rw [hW0]
    exact this
  have hTW : Turned [] w W0 := by rw [hW0]; exact (((Turned.refl [] w).alloc _).alloc _).alloc _
  have hst : RRd p v (En.rdF r 0) W0 := h.keep hTW (by simp) (by simp)
  have hT0 : Turned [p] w W0 := hTW.mono (by simp)
  have b1 : w.heap.size ≤ B1 := by omega
  have b2 : w.heap.size ≤ B2 := by omega
  have b3 : w.heap.size ≤ B3 := by omega
  have n12 : B1 ≠ B3 := by omega
  have n13 : B2 ≠ B3 := by omega
  clear hW0 hTW hB1 hB2 hB3
  go_loopw [7] (fun i wr => ∃ k : Nat, k ≤ 6 ∧ i = .int .i64 (k : Int) ∧ Struct B1 (enEnc b) wr ∧ Struct B2 (enEnc zeroE) wr ∧ Struct B3 (tol r k) wr ∧ RRd p v (En.rdF r k) wr ∧ Turned [p] w wr) (fun i _ => 6 - (intOf i).toNat)
  case atStart => exact ⟨0, by omega, rfl, hS1, hS2, hS3, hst, hT0⟩
  case round =>
    clear hS1 hS2 hS3 hst hT0
    obtain ⟨k, hk, rfl, hS1, hS2, hS3, hP, hT⟩ := hrel
    by_cases hlt : (k : Int) < 6
    · have hfl : ((((En.rdF r k).tell 1 : Nat) : Int) == 1) = En.fl r k := by
        unfold En.fl
        rw [Bool.eq_iff_iff]; simp; omega
      have ktk := kt _ 1 _ hP
      have HTK : Hid (En.rdF r (k + 1) = (En.rdF r k).take 1) := rfl
      have hold := tol_old r k (by omega)
      have HSET : Hid ((tol r k).set k (.bool (En.fl r k)) = tol r (k + 1)) := tol_set r k (by omega)
      have HLN : Hid ((tol r k).length = 6) := by show _ = _; simp [tol]
      go_wp2_with (go_at_call 50; (with_reducible refine ktk.mono ?_); rintro e9 u9 ⟨rfl, hP9, hT9⟩; have hS1 := hS1.keep hT9 (by simp; omega); have hS2 := hS2.keep hT9 (by simp; omega); have hS3 := hS3.keep hT9 (by simp; omega); have c3 := (hS3.2 k _ hold).1; have f3 := (hS3.2 k _ hold).2)
      have hS3' := hS3.set (i := k) (by have := HLN.out; omega) (.bool (En.fl r k))
      rw [HSET.out] at hS3'
      have hTs : Turned [B3] u9 (u9.setCell ⟨B3, k, none⟩ (.bool (En.fl r k))) := (Turned.refl [B3] u9).setCell (.inl (by simp)) _
      have hS1' := hS1.keep hTs (by simpa using n12)
      have hS2' := hS2.keep hTs (by simpa using n13)
      have hP' := hP9.keep hTs (by simp; omega) (by intro x hx; have := hrb x hx; simp; omega)
      have hT' := (hT.trans hT9 (fun k hk _ => hk)).setCell (p := ⟨B3, k, none⟩) (.inr b3) (.bool (En.fl r k))
      go_roundw
      case rel => exact ⟨k + 1, by omega, by go_num, hS1', hS2', hS3', hP', hT'⟩
      case measure => simp [intOf]; omega
    · have hk' : k = 6 := by omega
      subst hk'
      have c0 := (hS1.2 0 _ rfl).1
      have c1 := (hS1.2 1 _ rfl).1
      have c2 := (hS1.2 2 _ rfl).1
      have c3 := (hS1.2 3 _ rfl).1
      have c4 := (hS1.2 4 _ rfl).1
      have c5 := (hS1.2 5 _ rfl).1
      have c6 := (hS1.2 6 _ rfl).1
      have c7 := (hS1.2 7 _ rfl).1
      go_wp2_with fail
      obtain ⟨W1, hW1⟩ : ∃ W1, W1 = wr.alloc (.cells #[.int .i64 b.id, .int .i64 b.kind, .int .i64 b.ax, .int .i64 b.ay, .int .i64 b.vx, .int .i64 b.vy, .int .i64 b.h, .int .i64 b.t] 29) := ⟨_, rfl⟩
      obtain ⟨B4, hB4⟩ : ∃ B, B = wr.heap.size := ⟨_, rfl⟩
      have n24 : B2 ≠ B4 := by have := hS2.1; omega
      have n34 : B3 ≠ B4 := by have := hS3.1; omega
      rw [← hW1, ← hB4]
      have hS4 : Struct B4 (enEnc b) W1 := by rw [hW1, hB4]; exact Struct.new wr (enEnc b) 29
      have hTa : Turned [] wr W1 := by rw [hW1]; exact (Turned.refl [] wr).alloc _
      have hS2 := hS2.keep hTa (by simp)
      have hS3 := hS3.keep hTa (by simp)
      have hP := hP.keep hTa (by simp) (by simp)
      have b4 : w.heap.size ≤ B4 := by rw [hB4]; exact hT.size
      have hT := hT.trans hTa (by simp)
      clear hW1 hB4 hTa hS1 c0 c1 c2 c3 c4 c5 c6 c7 hlt hk
      go_loopw [9] (fun i wq => ∃ (k : Nat) (ek : En.E) (rk : Bt.Rd), k ≤ 6 ∧ i = .int .i64 (k : Int) ∧ En.rdS r b k = some (ek, rk) ∧ Struct B4 (enEnc ek) wq ∧ Struct B2 (enEnc zeroE) wq ∧ Struct B3 (tol r 6) wq ∧ RRd p v rk wq ∧ Turned [p] w wq) (fun i _ => 6 - (intOf i).toNat)
      case atStart => exact ⟨0, b, _, by omega, rfl, rfl, hS4, hS2, hS3, hP, hT⟩
      case round =>
        clear hS4 hS2 hS3 hP hT
        obtain ⟨k, ek, rk, hk, rfl, hrd, hS4, hS2, hS3, hP, hT⟩ := hrel
        by_cases hlt : (k : Int) < 6
        · have ct := (hS3.2 k _ (tol_at r k (by omega))).1
          have hnx : En.rdS r b (k + 1) = En.step (En.fl r k) k (ek, rk) := by show (En.rdS r b k).bind _ = _; rw [hrd]; rfl
          cases hfl : En.fl r k with
          | false =>
            rw [hfl] at ct hnx
            have HNX : Hid (En.rdS r b (k + 1) = some (ek, rk)) := hnx
            clear hnx hfl hrd
            go_wp2_with fail
            go_roundw
            case rel => exact ⟨k + 1, ek, rk, by omega, by go_num, HNX.out, hS4, hS2, hS3, hP, hT⟩
            case measure => simp [intOf]; omega
          | true =>
            rw [hfl] at ct hnx
            have kss := ks _ _ hP
            by_cases hd : rk.sTell = 0
            · have HNO : Hid (∀ x, ¬ En.Next r b x) := En.none_of hb (En.rdS_none (j := k) (by omega) (by rw [hnx]; unfold En.step; rw [if_pos rfl, if_pos hd]))
              have i1 : (rk.sTell == 0) = true := by rw [beq_iff_eq]; exact hd
              have HD : Hid (rk.sTell = 0) := hd
              clear hnx hfl hrd hd
              go_wp2_with (go_at_call 51; (with_reducible refine kss.mono ?_); rintro e9 u9 ⟨rfl, hP9, hT9⟩; have hS2 := hS2.keep hT9 (by simp; omega); have c0 := (hS2.2 0 _ rfl).1; have c1 := (hS2.2 1 _ rfl).1; have c2 := (hS2.2 2 _ rfl).1; have c3 := (hS2.2 3 _ rfl).1; have c4 := (hS2.2 4 _ rfl).1; have c5 := (hS2.2 5 _ rfl).1; have c6 := (hS2.2 6 _ rfl).1; have c7 := (hS2.2 7 _ rfl).1; have f0 := (hS2.2 0 _ rfl).2; have f1 := (hS2.2 1 _ rfl).2; have f2 := (hS2.2 2 _ rfl).2; have f3 := (hS2.2 3 _ rfl).2; have f4 := (hS2.2 4 _ rfl).2; have f5 := (hS2.2 5 _ rfl).2; have f6 := (hS2.2 6 _ rfl).2; have f7 := (hS2.2 7 _ rfl).2)
              obtain ⟨W9, hW9⟩ : ∃ W9, W9 = put8 u9 B2 ⟨0, 0, 0, 0, 0, 0, 0, 0⟩ := ⟨_, rfl⟩
              have hS9 : Struct B2 (enEnc zeroE) W9 := by rw [hW9]; exact set8 hS2 _
              have hT8 : Turned [B2] u9 W9 := by rw [hW9]; exact turned8 (Turned.refl _ _) (.inl (by simp)) _
              have hT9' : Turned [p] w W9 := by rw [hW9]; exact turned8 (hT.trans hT9 (fun k hk _ => hk)) (.inr b2) _
              have hP9' := hP9.keep hT8 (by simp; omega) (by intro x hx; have := hrb x hx; simp; omega)
              unfold put8 at hW9
              simp only at hW9
              rw [← hW9]
              have g0 := (hS9.2 0 _ rfl).1
              have g1 := (hS9.2 1 _ rfl).1
              have g2 := (hS9.2 2 _ rfl).1
              have g3 := (hS9.2 3 _ rfl).1
              have g4 := (hS9.2 4 _ rfl).1
              have g5 := (hS9.2 5 _ rfl).1
              have g6 := (hS9.2 6 _ rfl).1
              have g7 := (hS9.2 7 _ rfl).1
              exact bodyPost_ret (v := .tuple #[enVal zeroE, .bool false]) (by simp [results, Try.results25, go_sem, g0, g1, g2, g3, g4, g5, g6, g7]) rfl (Or.inr ⟨HNO.out, rfl, ⟨_, hP9'⟩, hT9'⟩)
            · have HNX : Hid (En.rdS r b (k + 1) = some (En.put ek k (wrap64 (En.field ek k + rk.sTell)), rk.sTake)) := by show _ = _; rw [hnx]; unfold En.step; rw [if_pos rfl, if_neg hd]
              have i1 : (rk.sTell == 0) = false := by rw [beq_eq_false_iff_ne]; exact hd
              have hadd : IntKind.i64.wrap (En.field ek k + rk.sTell) = wrap64 (En.field ek k + rk.sTell) := by
                simp [wrap64, IntKind.wrap, IntKind.bits, IntKind.signed]; split <;> omega
              have kfd := fun u => field_any ek k (by omega) u
              have kwi := fun u => with_any ek k (by omega) (wrap64 (En.field ek k + rk.sTell)) u
              clear hnx hfl hrd hd
              go_wp2_with (go_at_call 51; (with_reducible refine kss.mono ?_); rintro e9 u9 ⟨rfl, hP9, hT9⟩; have hS4 := hS4.keep hT9 (by simp; omega); have hS2 := hS2.keep hT9 (by simp; omega); have hS3 := hS3.keep hT9 (by simp; omega); have c0 := (hS4.2 0 _ rfl).1; have c1 := (hS4.2 1 _ rfl).1; have c2 := (hS4.2 2 _ rfl).1; have c3 := (hS4.2 3 _ rfl).1; have c4 := (hS4.2 4 _ rfl).1; have c5 := (hS4.2 5 _ rfl).1; have c6 := (hS4.2 6 _ rfl).1; have c7 := (hS4.2 7 _ rfl).1; have f0 := (hS4.2 0 _ rfl).2; have f1 := (hS4.2 1 _ rfl).2; have f2 := (hS4.2 2 _ rfl).2; have f3 := (hS4.2 3 _ rfl).2; have f4 := (hS4.2 4 _ rfl).2; have f5 := (hS4.2 5 _ rfl).2; have f6 := (hS4.2 6 _ rfl).2; have f7 := (hS4.2 7 _ rfl).2; have hT := hT.trans hT9 (fun k hk _ => hk))
              have HT5 : Turned [] u9 u9.drew := (Turned.refl [] u9).drew
              have hS4 := hS4.keep HT5 (by simp)
              go_region_with (first | (go_at_call 42; refine (kfd _).mono ?_; rintro e5 u5 ⟨rfl, HT6⟩; have HT5 := HT5.trans HT6 (by simp); have hS4 := hS4.keep HT6 (by simp); have c0 := (hS4.2 0 _ rfl).1; have c1 := (hS4.2 1 _ rfl).1; have c2 := (hS4.2 2 _ rfl).1; have c3 := (hS4.2 3 _ rfl).1; have c4 := (hS4.2 4 _ rfl).1; have c5 := (hS4.2 5 _ rfl).1; have c6 := (hS4.2 6 _ rfl).1; have c7 := (hS4.2 7 _ rfl).1; have f0 := (hS4.2 0 _ rfl).2; have f1 := (hS4.2 1 _ rfl).2; have f2 := (hS4.2 2 _ rfl).2; have f3 := (hS4.2 3 _ rfl).2; have f4 := (hS4.2 4 _ rfl).2; have f5 := (hS4.2 5 _ rfl).2; have f6 := (hS4.2 6 _ rfl).2; have f7 := (hS4.2 7 _ rfl).2) | (go_at_call 52; refine (kwi _).mono ?_; rintro e6 u6 ⟨rfl, HT7⟩; have HT5 := HT5.trans HT7 (by simp); have hS4 := hS4.keep HT7 (by simp); have c0 := (hS4.2 0 _ rfl).1; have c1 := (hS4.2 1 _ rfl).1; have c2 := (hS4.2 2 _ rfl).1; have c3 := (hS4.2 3 _ rfl).1; have c4 := (hS4.2 4 _ rfl).1; have c5 := (hS4.2 5 _ rfl).1; have c6 := (hS4.2 6 _ rfl).1; have c7 := (hS4.2 7 _ rfl).1; have f0 := (hS4.2 0 _ rfl).2; have f1 := (hS4.2 1 _ rfl).2; have f2 := (hS4.2 2 _ rfl).2; have f3 := (hS4.2 3 _ rfl).2; have f4 := (hS4.2 4 _ rfl).2; have f5 := (hS4.2 5 _ rfl).2; have f6 := (hS4.2 6 _ rfl).2; have f7 := (hS4.2 7 _ rfl).2))
              all_goals
                obtain ⟨W8, hW8⟩ : ∃ W8, W8 = put8 u6 B4 (En.put ek k (wrap64 (En.field ek k + rk.sTell))) := ⟨_, rfl⟩
                have hS4' : Struct B4 (enEnc (En.put ek k (wrap64 (En.field ek k + rk.sTell)))) W8 := by rw [hW8]; exact set8 hS4 _
                have hTs : Turned [B4] u6 W8 := by rw [hW8]; exact turned8 (Turned.refl _ _) (.inl (by simp)) _
                have hS2' := (hS2.keep HT5 (by simp)).keep hTs (by simpa using n24)
                have hS3' := (hS3.keep HT5 (by simp)).keep hTs (by simpa using n34)
                have hP' := (hP9.keep HT5 (by simp) (by simp)).keep hTs (by simp; omega) (by intro x hx; have := hrb x hx; simp; omega)
                have hT' : Turned [p] w W8 := by rw [hW8]; exact turned8 (hT.trans HT5 (by simp)) (.inr b4) _
                unfold put8 at hW8
                rw [← hW8]
                clear hW8
                go_wp2_with fail
                go_roundw
                case rel => exact ⟨k + 1, _, _, by omega, by go_num, HNX.out, hS4', hS2', hS3', hP', hT'⟩
                case measure => simp [intOf]; omega
        · have hk' : k = 6 := by omega
          subst hk'
          have r2 := (hP.1.2 2 _ rfl).1
          have kf := formed_any ek
          cases hfl : rk.fail with
          | true =>
            rw [hfl] at r2
            have HNO : Hid (∀ x, ¬ En.Next r b x) := En.none_fail hb hrd (.inl hfl)
            clear hrd hfl kf
            have c0 := (hS2.2 0 _ rfl).1
            have c1 := (hS2.2 1 _ rfl).1
            have c2 := (hS2.2 2 _ rfl).1
            have c3 := (hS2.2 3 _ rfl).1
            have c4 := (hS2.2 4 _ rfl).1
            have c5 := (hS2.2 5 _ rfl).1
            have c6 := (hS2.2 6 _ rfl).1
            have c7 := (hS2.2 7 _ rfl).1
            have f0 := (hS2.2 0 _ rfl).2
            have f1 := (hS2.2 1 _ rfl).2
            have f2 := (hS2.2 2 _ rfl).2
            have f3 := (hS2.2 3 _ rfl).2
            have f4 := (hS2.2 4 _ rfl).2
            have f5 := (hS2.2 5 _ rfl).2
            have f6 := (hS2.2 6 _ rfl).2
            have f7 := (hS2.2 7 _ rfl).2
            go_wp2_with fail
            obtain ⟨W9, hW9⟩ : ∃ W9, W9 = put8 wr B2 ⟨0, 0, 0, 0, 0, 0, 0, 0⟩ := ⟨_, rfl⟩
            have hS9 : Struct B2 (enEnc ⟨0, 0, 0, 0, 0, 0, 0, 0⟩) W9 := by rw [hW9]; exact set8 hS2 _
            have hT8 : Turned [B2] wr W9 := by rw [hW9]; exact turned8 (Turned.refl _ _) (.inl (by simp)) _
            have hT9' : Turned [p] w W9 := by rw [hW9]; exact turned8 hT (.inr b2) _
            have hP9' := hP.keep hT8 (by simp; omega) (by intro x hx; have := hrb x hx; simp; omega)
            unfold put8 at hW9
            (try simp only at hW9)
            rw [← hW9]
            have g0 := (hS9.2 0 _ rfl).1
            have g1 := (hS9.2 1 _ rfl).1
            have g2 := (hS9.2 2 _ rfl).1
            have g3 := (hS9.2 3 _ rfl).1
            have g4 := (hS9.2 4 _ rfl).1
            have g5 := (hS9.2 5 _ rfl).1
            have g6 := (hS9.2 6 _ rfl).1
            have g7 := (hS9.2 7 _ rfl).1
            exact bodyPost_ret (v := .tuple #[enVal ⟨0, 0, 0, 0, 0, 0, 0, 0⟩, .bool false]) (by simp [results, Try.results25, go_sem, g0, g1, g2, g3, g4, g5, g6, g7]) rfl (Or.inr ⟨HNO.out, rfl, ⟨_, hP9'⟩, hT9'⟩)
          | false =>
            rw [hfl] at r2
            have z0 := (hS4.2 0 _ rfl).1
            have z1 := (hS4.2 1 _ rfl).1
            have z2 := (hS4.2 2 _ rfl).1
            have z3 := (hS4.2 3 _ rfl).1
            have z4 := (hS4.2 4 _ rfl).1
            have z5 := (hS4.2 5 _ rfl).1
            have z6 := (hS4.2 6 _ rfl).1
            have z7 := (hS4.2 7 _ rfl).1
            by_cases hfm : En.Formed ek
            · have hfm' : decide (En.Formed ek) = true := by simpa using hfm
              rw [hfm'] at kf
              have HNX : Hid (En.Next r b ek ∧ rk = ⟨r.l, r.at_ + (En.all b ek).length, false⟩) := En.next_of hb hrd hfl hfm
              clear hrd hfl hfm hfm'
              go_wp2_with (go_at_call 11; (with_reducible refine (kf _).mono ?_); rintro e9 u9 ⟨rfl, HT9⟩; have hS4 := hS4.keep HT9 (by simp); have hS2 := hS2.keep HT9 (by simp); have hP := hP.keep HT9 (by simp) (by simp); have hT := hT.trans HT9 (by simp); have z0 := (hS4.2 0 _ rfl).1; have z1 := (hS4.2 1 _ rfl).1; have z2 := (hS4.2 2 _ rfl).1; have z3 := (hS4.2 3 _ rfl).1; have z4 := (hS4.2 4 _ rfl).1; have z5 := (hS4.2 5 _ rfl).1; have z6 := (hS4.2 6 _ rfl).1; have z7 := (hS4.2 7 _ rfl).1; have c0 := (hS2.2 0 _ rfl).1; have c1 := (hS2.2 1 _ rfl).1; have c2 := (hS2.2 2 _ rfl).1; have c3 := (hS2.2 3 _ rfl).1; have c4 := (hS2.2 4 _ rfl).1; have c5 := (hS2.2 5 _ rfl).1; have c6 := (hS2.2 6 _ rfl).1; have c7 := (hS2.2 7 _ rfl).1; have f0 := (hS2.2 0 _ rfl).2; have f1 := (hS2.2 1 _ rfl).2; have f2 := (hS2.2 2 _ rfl).2; have f3 := (hS2.2 3 _ rfl).2; have f4 := (hS2.2 4 _ rfl).2; have f5 := (hS2.2 5 _ rfl).2; have f6 := (hS2.2 6 _ rfl).2; have f7 := (hS2.2 7 _ rfl).2)
              obtain ⟨W9, hW9⟩ : ∃ W9, W9 = put8 u9 B2 ek := ⟨_, rfl⟩
              have hS9 : Struct B2 (enEnc ek) W9 := by rw [hW9]; exact set8 hS2 _
              have hT8 : Turned [B2] u9 W9 := by rw [hW9]; exact turned8 (Turned.refl _ _) (.inl (by simp)) _
              have hT9' : Turned [p] w W9 := by rw [hW9]; exact turned8 hT (.inr b2) _
              have hP9' := hP.keep hT8 (by simp; omega) (by intro x hx; have := hrb x hx; simp; omega)
              unfold put8 at hW9
              (try simp only at hW9)
              rw [← hW9]
              have g0 := (hS9.2 0 _ rfl).1
              have g1 := (hS9.2 1 _ rfl).1
              have g2 := (hS9.2 2 _ rfl).1
              have g3 := (hS9.2 3 _ rfl).1
              have g4 := (hS9.2 4 _ rfl).1
              have g5 := (hS9.2 5 _ rfl).1
              have g6 := (hS9.2 6 _ rfl).1
              have g7 := (hS9.2 7 _ rfl).1
              exact bodyPost_ret (v := .tuple #[enVal ek, .bool true]) (by simp [results, Try.results25, go_sem, g0, g1, g2, g3, g4, g5, g6, g7]) rfl (Or.inl ⟨ek, HNX.out.1, rfl, by rw [← HNX.out.2]; exact hP9', hT9'⟩)
            · have hfm' : decide (En.Formed ek) = false := by simpa using hfm
              rw [hfm'] at kf
              have HNO : Hid (∀ x, ¬ En.Next r b x) := En.none_fail hb hrd (.inr hfm)
              clear hrd hfl hfm hfm'
              go_wp2_with (go_at_call 11; (with_reducible refine (kf _).mono ?_); rintro e9 u9 ⟨rfl, HT9⟩; have hS2 := hS2.keep HT9 (by simp); have hP := hP.keep HT9 (by simp) (by simp); have hT := hT.trans HT9 (by simp); have c0 := (hS2.2 0 _ rfl).1; have c1 := (hS2.2 1 _ rfl).1; have c2 := (hS2.2 2 _ rfl).1; have c3 := (hS2.2 3 _ rfl).1; have c4 := (hS2.2 4 _ rfl).1; have c5 := (hS2.2 5 _ rfl).1; have c6 := (hS2.2 6 _ rfl).1; have c7 := (hS2.2 7 _ rfl).1; have f0 := (hS2.2 0 _ rfl).2; have f1 := (hS2.2 1 _ rfl).2; have f2 := (hS2.2 2 _ rfl).2; have f3 := (hS2.2 3 _ rfl).2; have f4 := (hS2.2 4 _ rfl).2; have f5 := (hS2.2 5 _ rfl).2; have f6 := (hS2.2 6 _ rfl).2; have f7 := (hS2.2 7 _ rfl).2)
              obtain ⟨W9, hW9⟩ : ∃ W9, W9 = put8 u9 B2 ⟨0, 0, 0, 0, 0, 0, 0, 0⟩ := ⟨_, rfl⟩
              have hS9 : Struct B2 (enEnc ⟨0, 0, 0, 0, 0, 0, 0, 0⟩) W9 := by rw [hW9]; exact set8 hS2 _
              have hT8 : Turned [B2] u9 W9 := by rw [hW9]; exact turned8 (Turned.refl _ _) (.inl (by simp)) _
              have hT9' : Turned [p] w W9 := by rw [hW9]; exact turned8 hT (.inr b2) _
              have hP9' := hP.keep hT8 (by simp; omega) (by intro x hx; have := hrb x hx; simp; omega)
              unfold put8 at hW9
              (try simp only at hW9)
              rw [← hW9]
              have g0 := (hS9.2 0 _ rfl).1
              have g1 := (hS9.2 1 _ rfl).1
              have g2 := (hS9.2 2 _ rfl).1
              have g3 := (hS9.2 3 _ rfl).1
              have g4 := (hS9.2 4 _ rfl).1
              have g5 := (hS9.2 5 _ rfl).1
              have g6 := (hS9.2 6 _ rfl).1
              have g7 := (hS9.2 7 _ rfl).1
              exact bodyPost_ret (v := .tuple #[enVal ⟨0, 0, 0, 0, 0, 0, 0, 0⟩, .bool false]) (by simp [results, Try.results25, go_sem, g0, g1, g2, g3, g4, g5, g6, g7]) rfl (Or.inr ⟨HNO.out, rfl, ⟨_, hP9'⟩, hT9'⟩)
end EnR
end Go.Proofs.Ytjphcbcbaiifhaa

/- By how much each field differs, as it is told next: the program's (EnW). -/
import Derived.Test.YtjphcbcbaiifhaaEntWDiff
import Derived.Test.YtjphcbcbaiifhaaEntPlain3
import Derived.Test.YtjphcbcbaiifhaaBitRd2
import Derived.Test.YtjphcbcbaiifhaaEntTake
namespace Go.Proofs.Ytjphcbcbaiifhaa
open Go.RowKit
set_option linter.unusedVariables false
set_option linter.unusedSimpArgs false

namespace EnW
abbrev dEnc (D : List Int) : List Value := D.map (Value.int .i64)
theorem dEnc_at {D : List Int} {k : Nat} {x : Int} (h : D[k]? = some x) : (dEnc D)[k]? = some (.int .i64 x) := by simp [dEnc, h]
theorem prd_rblk {p : Nat} {v : Value} {bs : List Nat} {r : Bt.Rd} {w : World} (h : PRd p v bs r w) : ∀ k ∈ rblk v, k < w.heap.size := by
  obtain ⟨_, ⟨oa, cap, rfl, _, hd⟩, _⟩ := h
  intro k hk
  cases oa with
  | none => simp [rblk] at hk
  | some a =>
    simp [rblk] at hk
    subst hk
    exact (hd a rfl).2
theorem tell6 (r : Bt.Rd) : r.tell 6 < 64 := by
  have : r.tell ((6 : Nat) : Int) < 2 ^ 6 := by
    unfold Bt.Rd.tell
    split
    · have := Bt.val_lt (r.rest.take (((6 : Nat) : Int)).toNat)
      refine Nat.lt_of_lt_of_le this (Nat.pow_le_pow_right (by omega) ?_)
      rw [List.length_take]; simp; omega
    · decide
  exact this
theorem bit6 (r : Bt.Rd) (k : Nat) : (bits .and .u64 (((r.tell 6 : Nat) : Int) / 2 ^ k) 1 == 0) = !En.f6 r k := by
  have h6 := tell6 r
  have e1 : (((r.tell 6 : Nat) : Int) / 2 ^ k) = ((r.tell 6 / 2 ^ k : Nat) : Int) := by simp
  have hd : r.tell 6 / 2 ^ k ≤ r.tell 6 := Nat.div_le_self _ _
  rw [e1, BtW.and1 _ (by omega)]
  unfold En.f6
  have := Nat.mod_lt (r.tell 6 / 2 ^ k) (show 0 < 2 by omega)
  rw [Bool.eq_iff_iff]
  simp
  omega
abbrev arr6 (D : List Int) : Value := .agg (dEnc D).toArray
/-- six numbers are stored whole -/
abbrev put6 (w : World) (p : Nat) (x0 x1 x2 x3 x4 x5 : Int) : World := ((((((w.setCell ⟨p, 0, none⟩ (.int .i64 x0)).setCell ⟨p, 1, none⟩ (.int .i64 x1)).setCell ⟨p, 2, none⟩ (.int .i64 x2)).setCell ⟨p, 3, none⟩ (.int .i64 x3)).setCell ⟨p, 4, none⟩ (.int .i64 x4)).setCell ⟨p, 5, none⟩ (.int .i64 x5))
theorem set6 {p : Nat} {w : World} (h : Struct p (dEnc En.six6) w) (x0 x1 x2 x3 x4 x5 : Int) : Struct p (dEnc [x0, x1, x2, x3, x4, x5]) (put6 w p x0 x1 x2 x3 x4 x5) :=
  (((((h.set (i := 0) (by simp [dEnc, En.six6]) _).set (i := 1) (by simp [dEnc, En.six6]) _).set (i := 2) (by simp [dEnc, En.six6]) _).set (i := 3) (by simp [dEnc, En.six6]) _).set (i := 4) (by simp [dEnc, En.six6]) _).set (i := 5) (by simp [dEnc, En.six6]) _
theorem turned6 {S : List Nat} {w w' : World} {p : Nat} (h : Turned S w w') (hp : p ∈ S ∨ w.heap.size ≤ p) (x0 x1 x2 x3 x4 x5 : Int) : Turned S w (put6 w' p x0 x1 x2 x3 x4 x5) :=
  (((((h.setCell (p := ⟨p, 0, none⟩) hp _).setCell (p := ⟨p, 1, none⟩) hp _).setCell (p := ⟨p, 2, none⟩) hp _).setCell (p := ⟨p, 3, none⟩) hp _).setCell (p := ⟨p, 4, none⟩) hp _).setCell (p := ⟨p, 5, none⟩) hp _
/-- what takeDifferences answers -/
def Told (p : Nat) (v : Value) (bs : List Nat) (r : Bt.Rd) (w : World) (e : Ending) (w' : World) : Prop :=
  (∃ D s, En.td (En.f6 r) (r.take 6) 6 = some (D, s) ∧ e = .returned (.tuple #[arr6 D, .bool (!s.fail)]) ∧ PRd p v bs s w' ∧ Turned [p] w w') ∨
  (En.td (En.f6 r) (r.take 6) 6 = none ∧ e = .returned (.tuple #[arr6 En.six6, .bool false]) ∧ (∃ s, PRd p v bs s w') ∧ Turned [p] w w')

set_option maxRecDepth 20000 in
set_option maxHeartbeats 4000000 in
theorem told_any (p : Nat) (v : Value) (bs : List Nat) (r : Bt.Rd) (w : World) (h : PRd p v bs r w) :
    Calls Try.prog 47 #[.pointer (some ⟨p, 0, none⟩)] w fun e w' => Told p v bs r w e w' := by
  have kt := fun (u : World) (h : PRd p v bs r u) => BtD.take_any p v bs r 6 u h
  have ks := fun (r : Bt.Rd) (u : World) (h : PRd p v bs r u) => BtD.small_any p v bs r u h
  have hrb := prd_rblk h
  have hpl := h.lt
  have h6 : ((r.tell 6 : Nat) : Int) < 64 := by have := tell6 r; omega
  obtain ⟨W0, hW0⟩ : ∃ W0, W0 = (w.alloc (.cells #[.int .i64 0, .int .i64 0, .int .i64 0, .int .i64 0, .int .i64 0, .int .i64 0] 78)).alloc (.cells #[.int .i64 0, .int .i64 0, .int .i64 0, .int .i64 0, .int .i64 0, .int .i64 0] 78) := ⟨_, rfl⟩
  obtain ⟨B1, hB1⟩ : ∃ B, B = w.heap.size := ⟨_, rfl⟩
  obtain ⟨B2, hB2⟩ : ∃ B, B = w.heap.size + 1 := ⟨_, rfl⟩
  have hS1 : Struct B1 (dEnc En.six6) W0 := by
    rw [hW0, hB1]
    exact (Struct.new w (dEnc En.six6) 78).keep ((Turned.refl [] _).alloc _) (by simp)
  have hS2 : Struct B2 (dEnc En.six6) W0 := by
    have := Struct.new (w.alloc (.cells (dEnc En.six6).toArray 78)) (dEnc En.six6) 78
    rw [show (w.alloc (.cells (dEnc En.six6).toArray 78)).heap.size = w.heap.size + 1 by simp, ← hB2] at this
    rw [hW0]
    exact this
  have hTW : Turned [] w W0 := by rw [hW0]; exact ((Turned.refl [] w).alloc _).alloc _
  have hst := h.keep hTW (by simp) (by simp)
  have hT0 : Turned [p] w W0 := hTW.mono (by simp)
  have b1 : w.heap.size ≤ B1 := by omega
  have b2 : w.heap.size ≤ B2 := by omega
  have n12 : B1 ≠ B2 := by omega
  go_enter Try.func47, Try.ntmps47
  go_wp2_with fail
  rw [← hW0, ← hB2, ← hB1]
  clear hW0 hB1 hB2 hTW h
  go_wp2_with (go_at_call 58; (with_reducible refine (kt _ hst).mono ?_); rintro e1 u1 ⟨rfl, hP1, hT1⟩)
  have hS1 := hS1.keep hT1 (by simp; omega)
  have hS2 := hS2.keep hT1 (by simp; omega)
  have hT0 := hT0.trans hT1 (fun k hk _ => hk)
  clear hst hT1 kt
  go_loopw [9] (fun i wr => ∃ (k : Nat) (D : List Int) (s : Bt.Rd), k ≤ 6 ∧ i = .int .i64 (k : Int) ∧ En.td (En.f6 r) (r.take 6) k = some (D, s) ∧ Struct B1 (dEnc En.six6) wr ∧ Struct B2 (dEnc D) wr ∧ PRd p v bs s wr ∧ Turned [p] w wr) (fun i _ => 6 - (intOf i).toNat)
  case atStart => exact ⟨0, _, _, by omega, rfl, rfl, hS1, hS2, hP1, hT0⟩
  case round =>
    clear hS1 hS2 hP1 hT0
    obtain ⟨k, D, s, hk, rfl, htd, hS1, hS2, hP, hT⟩ := hrel
    by_cases hlt : (k : Int) < 6
    · have hnx := En.td_next htd
      have hbit := bit6 r k
      have hlen := (En.td_len htd).1
      cases hfl : En.f6 r k with
      | false =>
        rw [hfl] at hnx hbit
        simp only [Bool.not_false] at hbit
        have HNX : Hid (En.td (En.f6 r) (r.take 6) (k + 1) = some (D, s)) := hnx
        clear hnx hfl htd
        go_wp2_with fail
        go_roundw
        case rel => exact ⟨k + 1, D, s, by omega, by go_num, HNX.out, hS1, hS2, hP, hT⟩
        case measure => simp [intOf]; omega
      | true =>
        rw [hfl] at hnx hbit
        simp only [Bool.not_true] at hbit
        have kss := ks _ _ hP
        obtain ⟨x, hx⟩ : ∃ x, D[k]? = some x := ⟨_, List.getElem?_eq_getElem (by omega)⟩
        have hkD : k < (dEnc D).length := by simp [dEnc]; omega
        have hst : ∀ u, Struct B2 (dEnc D) u → Struct B2 (dEnc (D.set k s.sTell)) (u.setCell ⟨B2, k, none⟩ (.int .i64 s.sTell)) := by
          intro u hu
          have := hu.set hkD (.int .i64 s.sTell)
          simpa [dEnc, List.map_set] using this
        have hda := dEnc_at hx
        clear hfl htd hx hlen
        by_cases hd : s.sTell = 0
        · have HNO : Hid (En.td (En.f6 r) (r.take 6) 6 = none) := En.td_none6 (j := k + 1) (by omega) (by rw [hnx, if_pos rfl, if_pos hd])
          have i1 : (s.sTell == 0) = true := by rw [beq_iff_eq]; exact hd
          have HD : Hid (s.sTell = 0) := hd
          clear hnx hd
          go_wp2_with (go_at_call 59; (with_reducible refine kss.mono ?_); rintro e9 u9 ⟨rfl, hP9, hT9⟩; have hS1 := hS1.keep hT9 (by simp; omega); have hS2 := hS2.keep hT9 (by simp; omega); have d2 := (hS2.2 k _ hda).1; have f2 := (hS2.2 k _ hda).2; have c0 := (hS1.2 0 _ rfl).1; have f0 := (hS1.2 0 _ rfl).2; have c1 := (hS1.2 1 _ rfl).1; have f1 := (hS1.2 1 _ rfl).2; have c2 := (hS1.2 2 _ rfl).1; have g2 := (hS1.2 2 _ rfl).2; have c3 := (hS1.2 3 _ rfl).1; have f3 := (hS1.2 3 _ rfl).2; have c4 := (hS1.2 4 _ rfl).1; have f4 := (hS1.2 4 _ rfl).2; have c5 := (hS1.2 5 _ rfl).1; have f5 := (hS1.2 5 _ rfl).2)
          have hTs : Turned [B2] u9 (u9.setCell ⟨B2, k, none⟩ (.int .i64 s.sTell)) := (Turned.refl [B2] u9).setCell (.inl (by simp)) _
          have hS1' := hS1.keep hTs (by simpa using n12)
          have hP' := hP9.keep hTs (by simp; omega) (by intro x hx; have := hrb x hx; simp; omega)
          have hT' := (hT.trans hT9 (fun k hk _ => hk)).setCell (p := ⟨B2, k, none⟩) (.inr b2) (.int .i64 s.sTell)
          obtain ⟨W9, hW9⟩ : ∃ W9, W9 = put6 (u9.setCell ⟨B2, k, none⟩ (.int .i64 s.sTell)) B1 0 0 0 0 0 0 := ⟨_, rfl⟩
          have hS9 := set6 hS1' 0 0 0 0 0 0
          rw [← hW9] at hS9
          have hT8 : Turned [B1] (u9.setCell ⟨B2, k, none⟩ (.int .i64 s.sTell)) W9 := by rw [hW9]; exact turned6 (Turned.refl _ _) (.inl (by simp)) 0 0 0 0 0 0
          have hP9' := hP'.keep hT8 (by simp; omega) (by intro x hx; have := hrb x hx; simp; omega)
          have hT9' : Turned [p] w W9 := by rw [hW9]; exact turned6 (hT') (.inr b1) 0 0 0 0 0 0
          unfold put6 at hW9
          rw [← hW9]
          have z0 := (hS9.2 0 _ rfl).1
          have z1 := (hS9.2 1 _ rfl).1
          have z2 := (hS9.2 2 _ rfl).1
          have z3 := (hS9.2 3 _ rfl).1
          have z4 := (hS9.2 4 _ rfl).1
          have z5 := (hS9.2 5 _ rfl).1
          exact bodyPost_ret (v := .tuple #[arr6 En.six6, .bool false]) (by simp [results, Try.results47, go_sem, dEnc, En.six6, z0, z1, z2, z3, z4, z5]) rfl (Or.inr ⟨HNO.out, rfl, ⟨_, hP9'⟩, hT9'⟩)
        · have HNX : Hid (En.td (En.f6 r) (r.take 6) (k + 1) = some (D.set k s.sTell, s.sTake)) := by show _ = _; rw [hnx, if_pos rfl, if_neg hd]
          have i1 : (s.sTell == 0) = false := by rw [beq_eq_false_iff_ne]; exact hd
          clear hnx hd
          go_wp2_with (go_at_call 59; (with_reducible refine kss.mono ?_); rintro e9 u9 ⟨rfl, hP9, hT9⟩; have hS1 := hS1.keep hT9 (by simp; omega); have hS2 := hS2.keep hT9 (by simp; omega); have d2 := (hS2.2 k _ hda).1; have f2 := (hS2.2 k _ hda).2)
          have hS2' := hst _ hS2
          have hTs : Turned [B2] u9 (u9.setCell ⟨B2, k, none⟩ (.int .i64 s.sTell)) := (Turned.refl [B2] u9).setCell (.inl (by simp)) _
          have hS1' := hS1.keep hTs (by simpa using n12)
          have hP' := hP9.keep hTs (by simp; omega) (by intro x hx; have := hrb x hx; simp; omega)
          have hT' := (hT.trans hT9 (fun k hk _ => hk)).setCell (p := ⟨B2, k, none⟩) (.inr b2) (.int .i64 s.sTell)
          go_roundw
          case rel => exact ⟨k + 1, _, _, by omega, by go_num, HNX.out, hS1', hS2', hP', hT'⟩
          case measure => simp [intOf]; omega
    · have hk' : k = 6 := by omega
      subst hk'
      have hlen := (En.td_len htd).1
      obtain ⟨d0, d1, d2, d3, d4, d5, rfl⟩ : ∃ d0 d1 d2 d3 d4 d5, D = [d0, d1, d2, d3, d4, d5] := by
        match D, hlen with
        | [a, b, c, d, e, f], _ => exact ⟨a, b, c, d, e, f, rfl⟩
      have kok := fun u (h : Turned [] wr u) => BtD.ok_any p v _ s.fail u (hP.1.keep h (by simp))
      have c0 := (hS1.2 0 _ rfl).1
      have f0 := (hS1.2 0 _ rfl).2
      have e0 := (hS2.2 0 _ rfl).1
      have c1 := (hS1.2 1 _ rfl).1
      have f1 := (hS1.2 1 _ rfl).2
      have e1 := (hS2.2 1 _ rfl).1
      have c2 := (hS1.2 2 _ rfl).1
      have f2 := (hS1.2 2 _ rfl).2
      have e2 := (hS2.2 2 _ rfl).1
      have c3 := (hS1.2 3 _ rfl).1
      have f3 := (hS1.2 3 _ rfl).2
      have e3 := (hS2.2 3 _ rfl).1
      have c4 := (hS1.2 4 _ rfl).1
      have f4 := (hS1.2 4 _ rfl).2
      have e4 := (hS2.2 4 _ rfl).1
      have c5 := (hS1.2 5 _ rfl).1
      have f5 := (hS1.2 5 _ rfl).2
      have e5 := (hS2.2 5 _ rfl).1
      have HTD : Hid (En.td (En.f6 r) (r.take 6) 6 = some ([d0, d1, d2, d3, d4, d5], s)) := htd
      clear htd hlen hlt
      go_wp2_with fail
      go_region_with (go_at_call 53; (refine (kok _ ((Turned.refl [] wr).drew)).mono ?_); rintro e9 u9 ⟨rfl, rfl⟩)
      all_goals go_wp2_with fail
      all_goals have hS1' := hS1
      all_goals
        obtain ⟨W9, hW9⟩ : ∃ W9, W9 = put6 wr B1 d0 d1 d2 d3 d4 d5 := ⟨_, rfl⟩
        have hS9 := set6 hS1' d0 d1 d2 d3 d4 d5
        rw [← hW9] at hS9
        have hT8 : Turned [B1] wr W9 := by rw [hW9]; exact turned6 (Turned.refl _ _) (.inl (by simp)) d0 d1 d2 d3 d4 d5
        have hP9' := hP.keep hT8 (by simp; omega) (by intro x hx; have := hrb x hx; simp; omega)
        have hT9' : Turned [p] w W9 := by rw [hW9]; exact turned6 (hT) (.inr b1) d0 d1 d2 d3 d4 d5
        unfold put6 at hW9
        rw [← hW9]
        have hS9 := hS9.keep ((Turned.refl [] W9).drew) (by simp)
        have hP9' := hP9'.keep ((Turned.refl [] W9).drew) (by simp) (by simp)
        have hT9' := hT9'.drew
        have z0 := (hS9.2 0 _ rfl).1
        have z1 := (hS9.2 1 _ rfl).1
        have z2 := (hS9.2 2 _ rfl).1
        have z3 := (hS9.2 3 _ rfl).1
        have z4 := (hS9.2 4 _ rfl).1
        have z5 := (hS9.2 5 _ rfl).1
        exact bodyPost_ret (v := .tuple #[arr6 [d0, d1, d2, d3, d4, d5], .bool (!s.fail)]) (by simp [results, Try.results47, go_sem, dEnc, En.six6, z0, z1, z2, z3, z4, z5]) rfl (Or.inl ⟨_, _, HTD.out, rfl, hP9', hT9'⟩)
end EnW
end Go.Proofs.Ytjphcbcbaiifhaa

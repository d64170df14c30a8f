/- What comes next is taken: the reference's (CmR). -/
import Derived.Test.YtodfgekhffeapaaCmdPut
import Derived.Test.YtodfgekhffeapaaBitRg
import Derived.Test.YtodfgekhffeapaaBitHeld
namespace Go.Proofs.Ytodfgekhffeapaa
open Go.RowKit
set_option linter.unusedVariables false

theorem tell_lt3 (r : Bt.Rd) : ((r.tell 3 : Nat) : Int) < 8 := by have := Cm.tell_pow r 3; have h : r.tell 3 < 8 := this; omega
theorem tell_lt8 (r : Bt.Rd) : ((r.tell 8 : Nat) : Int) < 256 := by have := Cm.tell_pow r 8; have h : r.tell 8 < 256 := this; omega
theorem tell_lt1 (r : Bt.Rd) : ((r.tell 1 : Nat) : Int) < 2 := by have := Cm.tell_pow r 1; have h : r.tell 1 < 2 := this; omega
theorem tell_lt32 (r : Bt.Rd) : ((r.tell 32 : Nat) : Int) < 4294967296 := by have := Cm.tell_pow r 32; have h : r.tell 32 < 4294967296 := this; omega

namespace CmR
/-- behind k commands: the list, the reader, what has turned -/
def St (p : Nat) (v : Value) (r2 : Bt.Rd) (m : Nat) (w : World) (k : Nat) (vl : Value) (wr : World) : Prop :=
  OwnL 25 6 cmEnc vl (Cm.rdN r2 m k).1 wr ∧ (∀ b ∈ blk vl, w.heap.size ≤ b) ∧ RRd p v (Cm.rdN r2 m k).2 wr ∧ Turned [p] w wr

theorem rrd_rblk {p : Nat} {v : Value} {r : Bt.Rd} {w : World} (h : RRd p v r w) : ∀ k ∈ rblk v, k < w.heap.size := by
  obtain ⟨_, ⟨oa, cap, rfl, _, _, hd⟩, _⟩ := h
  intro k hk
  cases oa with
  | none => simp [rblk] at hk
  | some a =>
    simp [rblk] at hk
    subst hk
    exact (hd a rfl).2
theorem flat_cells {c : Cm.C} {cs : List Value} {b : Nat} {w : World} (he : cmEnc c = cs) (hb : b = w.heap.size) (t : TypeId) : ∀ j u, ([c].flatMap cmEnc)[j]? = some u → (w.alloc (.cells cs.toArray t)).cell? ⟨b, 0 + j, none⟩ = some u := by
  intro j u hj
  subst hb
  rw [Nat.zero_add]
  refine ((Struct.new w cs t).2 j u ?_).1
  rw [show [c].flatMap cmEnc = cs by simp [he]] at hj
  exact hj
theorem St.next {p : Nat} {v : Value} {r2 rk r' : Bt.Rd} {m k : Nat} {w W w1 : World} {vl vl' : Value} {lk : List Cm.C} {c : Cm.C} (hp : p < w.heap.size) (hv : ∀ b ∈ rblk v, b < w.heap.size) (hnew : ∀ b ∈ blk vl, w.heap.size ≤ b)
    (hP : RRd p v r' W) (hT : Turned [p] w W) (ho1 : OwnL 25 6 cmEnc vl' (lk ++ [c]) w1) (ht1 : Turned (blk vl) W w1) (hb1 : blk vl' = blk vl ∨ blk vl' = [W.heap.size])
    (h1 : lk = (Cm.rdN r2 m k).1) (hrk : rk = (Cm.rdN r2 m k).2) (h2 : Cm.rdOne rk ((m + k) % 4294967296) = (c, r')) : St p v r2 m w (k + 1) vl' w1 := by
  have hs := hT.size
  subst hrk
  have e1 : (Cm.rdN r2 m (k + 1)).1 = lk ++ [c] := by
    show (Cm.rdN r2 m k).1 ++ [(Cm.rdOne (Cm.rdN r2 m k).2 ((m + k) % 4294967296)).1] = _
    rw [h2, h1]
  have e2 : (Cm.rdN r2 m (k + 1)).2 = r' := by
    show (Cm.rdOne (Cm.rdN r2 m k).2 ((m + k) % 4294967296)).2 = _
    rw [h2]
  refine ⟨by rw [e1]; exact ho1, ?_, ?_, ?_⟩
  · intro b hb
    rcases hb1 with h | h
    · rw [h] at hb; exact hnew b hb
    · rw [h] at hb; simp at hb; omega
  · rw [e2]
    refine hP.keep ht1 ?_ ?_
    · intro hm; have := hnew p hm; omega
    · intro b hb hm; have := hnew b hm; have := hv b hb; omega
  · refine hT.trans ht1 ?_
    intro b hb hl
    have := hnew b hb
    omega

set_option maxRecDepth 20000 in
set_option maxHeartbeats 8000000 in
theorem take_any (p : Nat) (v : Value) (r : Bt.Rd) (w : World) (h : RRd p v r w) :
    Calls Try.prog 22 #[.pointer (some ⟨p, 0, none⟩)] w fun e w' =>
      (∃ l v', Cm.Next r l ∧ e = .returned (.tuple #[v', .bool true]) ∧ OwnL 25 6 cmEnc v' l w' ∧ (∀ b ∈ blk v', w.heap.size ≤ b) ∧ RRd p v ⟨r.l, r.at_ + (Cm.all l).length, false⟩ w' ∧ Turned [p] w w') ∨
      ((∀ l, ¬ Cm.Next r l) ∧ e = .returned (.tuple #[.slice none 0 0, .bool false]) ∧ (∃ r', RRd p v r' w') ∧ Turned [p] w w') := by
  have kt := fun (r : Bt.Rd) (n : Int) (u : World) (h : RRd p v r u) => BtG.take_any p v r n u h
  have c1 := (h.1.2 1 _ rfl).1
  have b3 := tell_lt3 r
  have b32 := tell_lt32 (r.take 3)
  have hP := h
  have hrb := rrd_rblk h
  have hpl := h.lt
  have hT : Turned [p] w w := Turned.refl _ _
  go_enter Try.func22, Try.ntmps22
  go_wp2_with (go_at_call 36; (with_reducible refine (kt _ _ _ hP).mono ?_); rintro e u1 ⟨rfl, hP1, hT1⟩; have hP := hP1; have hT := hT.trans hT1 (fun k hk _ => hk); clear hP1 hT1)
  have hst : St p v ((r.take 3).take 32) ((r.take 3).tell 32) w 0 (.slice none 0 0) u1 := ⟨OwnL.nil _ _ _ _, by simp [blk, Value.ownBlock], hP, hT⟩
  obtain ⟨N, hN⟩ : ∃ N, N = r.tell 3 := ⟨_, rfl⟩
  obtain ⟨m, hm⟩ : ∃ m, m = (r.take 3).tell 32 := ⟨_, rfl⟩
  obtain ⟨r2, hr2⟩ : ∃ r2, r2 = (r.take 3).take 32 := ⟨_, rfl⟩
  rw [← hN] at b3 ⊢
  rw [← hm] at b32 hst ⊢
  rw [← hr2] at hst
  have HN : Hid (N = r.tell 3) := hN
  have HM : Hid (m = (r.take 3).tell 32) := hm
  have HR : Hid (r2 = (r.take 3).take 32) := hr2
  clear hP hT hN hm hr2 c1
  go_loopw [7, 8] (fun vl i wr => ∃ k : Nat, k ≤ N + 1 ∧ i = .int .i64 (k : Int) ∧ St p v r2 m w k vl wr) (fun _ i _ => N + 1 - (intOf i).toNat)
  case atStart => exact ⟨0, by omega, rfl, hst⟩
  case round =>
    clear hst
    obtain ⟨k, hk, rfl, ho, hnew, hP, hT⟩ := hrel
    by_cases hlt : (k : Int) < (N : Int) + 1
    · obtain ⟨rk, hrk⟩ : ∃ rk, rk = (Cm.rdN r2 m k).2 := ⟨_, rfl⟩
      have HK : Hid (rk = (Cm.rdN r2 m k).2) := hrk
      rw [← hrk] at hP
      obtain ⟨lk, hlk⟩ : ∃ lk, lk = (Cm.rdN r2 m k).1 := ⟨_, rfl⟩
      have HLK : Hid (lk = (Cm.rdN r2 m k).1) := hlk
      rw [← hlk] at ho
      have HLEN : Hid (lk.length ≤ 8) := by
        show _ ≤ _
        rw [hlk, Cm.rdN_length]; omega
      have hpb : ∀ b ∈ blk u7, b ∉ [p] := by intro b hb; have := hnew b hb; simp; omega
      clear hrk hlk
      have t8 := tell_lt8 rk
      have t8' := tell_lt8 (rk.take 8)
      have t1 := tell_lt1 ((rk.take 8).take 8)
      have t32 := tell_lt32 (((rk.take 8).take 8).take 1)
      have t8'' := tell_lt8 ((((rk.take 8).take 8).take 1).take 32)
      by_cases hx : rk.tell 8 < 255 ∧ (rk.take 8).tell 8 < 255
      · have i1 : ((rk.tell 8 : Nat) : Int) - 127 < 128 := by omega
        have i2 : (((rk.take 8).tell 8 : Nat) : Int) - 127 < 128 := by omega
        have HX : Hid (Cm.Fits rk) := hx
        clear hx
        by_cases hf : ((rk.take 8).take 8).tell 1 = 1
        · have i3 : ((((rk.take 8).take 8).tell 1 : Nat) : Int) == 1 := by rw [hf]; rfl
          have HF : Hid (((rk.take 8).take 8).tell 1 = 1) := hf
          clear hf
          have hQ : Turned [p] wr wr := Turned.refl _ _
          go_wp2_with (first | (go_at_call 36; (with_reducible refine (kt _ _ _ hP).mono ?_); rintro e u1 ⟨rfl, hP1, hT1⟩; have hP := hP1; have hT := hT.trans hT1 (fun k hk _ => hk); have hQ := hQ.trans hT1 (fun k hk _ => hk); clear hP1 hT1) | (go_at_call 36; (with_reducible refine (kt _ _ _ (hP.keep ((Turned.refl [] _).alloc _) (by simp) (by simp))).mono ?_); rintro e u2 ⟨rfl, hP2, hT2⟩; have hlp := hP.lt; have hsz := hT.size; have hsr := hQ.size; have hS := (Struct.new u1 _ 25).keep hT2 (by simp; omega); have hT := (hT.alloc _).trans hT2 (fun k hk _ => hk); have hQ := (hQ.alloc _).trans hT2 (fun k hk _ => hk); have hP := hP2; have c0 := (hS.2 0 _ rfl).1; have c1 := (hS.2 1 _ rfl).1; have c2 := (hS.2 2 _ rfl).1; have c3 := (hS.2 3 _ rfl).1; have c4 := (hS.2 4 _ rfl).1; have f4 := (hS.2 4 _ rfl).2; have c5 := (hS.2 5 _ rfl).1; have f5 := (hS.2 5 _ rfl).2; clear hP2 hT2) | (go_at_call 36; (with_reducible refine (kt _ _ _ (hP.keep (S := [u1.heap.size]) ((Turned.refl [u1.heap.size] u2).setCell (.inl (by simp)) _) (by simp; omega) (by intro b hb; have := hrb b hb; simp; omega))).mono ?_); rintro e u3 ⟨rfl, hP3, hT3⟩; have hS := (hS.set (i := 4) (by simp) _).keep hT3 (by simp; omega); have hT := (hT.setCell (p := ⟨u1.heap.size, 4, none⟩) (.inr hsz) _).trans hT3 (fun k hk _ => hk); have hQ := (hQ.setCell (p := ⟨u1.heap.size, 4, none⟩) (.inr hsr) _).trans hT3 (fun k hk _ => hk); have hP := hP3; have c0 := (hS.2 0 _ rfl).1; have c1 := (hS.2 1 _ rfl).1; have c2 := (hS.2 2 _ rfl).1; have c3 := (hS.2 3 _ rfl).1; have c4 := (hS.2 4 _ rfl).1; have c5 := (hS.2 5 _ rfl).1; have f5 := (hS.2 5 _ rfl).2; clear hP3 hT3) | (at_builtin; refine wp_push (v := u7) elem_cm rfl _ _ rfl rfl (l := lk) (ho.keep (S := [p]) ((hQ.setCell (p := ⟨u1.heap.size, 5, none⟩) (.inr hsr) _).alloc _) hpb) _ 0 1 1 [⟨(m + k) % 4294967296, ((rk.tell 8 : Nat) : Int) - 127, (((rk.take 8).tell 8 : Nat) : Int) - 127, true, (((rk.take 8).take 8).take 1).tell 32, ((((rk.take 8).take 8).take 1).take 32).tell 8⟩] rfl rfl cmEnc_len cmEnc_one (flat_cells rfl (by simp) _) (by have := HLEN.out; unfold maxLen; omega) (by have := HLEN.out; omega) ?_; intro v' w1 ho1 ht1 hb1))
          have HW := St.next hpl hrb hnew ((hP.keep (S := [u1.heap.size]) ((Turned.refl [u1.heap.size] u3).setCell (p := ⟨u1.heap.size, 5, none⟩) (.inl (by simp)) _) (by simp; omega) (by intro b hb; have := hrb b hb; simp; omega)).keep ((Turned.refl [] _).alloc _) (by simp) (by simp)) ((hT.setCell (p := ⟨u1.heap.size, 5, none⟩) (.inr hsz) _).alloc _) ho1 ht1 hb1 HLK.out HK.out (Cm.rdOne_fire HX.out HF.out)
          go_roundw
          case rel => exact ⟨k + 1, by omega, by go_num, HW⟩
          case measure => simp [intOf]; omega
        · have i3 : (((((rk.take 8).take 8).tell 1 : Nat) : Int) == 1) = false := by rw [beq_eq_false_iff_ne]; omega
          have HF : Hid (¬ ((rk.take 8).take 8).tell 1 = 1) := hf
          clear hf
          have hQ : Turned [p] wr wr := Turned.refl _ _
          go_wp2_with (first | (go_at_call 36; (with_reducible refine (kt _ _ _ hP).mono ?_); rintro e u1 ⟨rfl, hP1, hT1⟩; have hP := hP1; have hT := hT.trans hT1 (fun k hk _ => hk); have hQ := hQ.trans hT1 (fun k hk _ => hk); clear hP1 hT1) | (at_builtin; refine wp_push (v := u7) elem_cm rfl _ _ rfl rfl (l := lk) (ho.keep (S := [p]) ((hQ.alloc _).alloc _) hpb) _ 0 1 1 [⟨(m + k) % 4294967296, ((rk.tell 8 : Nat) : Int) - 127, (((rk.take 8).tell 8 : Nat) : Int) - 127, false, 0, 0⟩] rfl rfl cmEnc_len cmEnc_one (flat_cells rfl (by simp) _) (by have := HLEN.out; unfold maxLen; omega) (by have := HLEN.out; omega) ?_; intro v' w1 ho1 ht1 hb1))
          have HW := St.next hpl hrb hnew ((hP.keep ((Turned.refl [] _).alloc _) (by simp) (by simp)).keep ((Turned.refl [] _).alloc _) (by simp) (by simp)) ((hT.alloc _).alloc _) ho1 ht1 hb1 HLK.out HK.out (Cm.rdOne_calm HX.out HF.out)
          go_roundw
          case rel => exact ⟨k + 1, by omega, by go_num, HW⟩
          case measure => simp [intOf]; omega
      · have HX : Hid (¬ Cm.Fits rk) := hx
        by_cases hx1 : rk.tell 8 < 255
        · have i1 : ((rk.tell 8 : Nat) : Int) - 127 < 128 := by omega
          have i2 : decide ((((rk.take 8).tell 8 : Nat) : Int) - 127 < 128) = false := by rw [decide_eq_false_iff_not]; omega
          clear hx hx1
          by_cases hf : ((rk.take 8).take 8).tell 1 = 1
          · have i3 : ((((rk.take 8).take 8).tell 1 : Nat) : Int) == 1 := by rw [hf]; rfl
            have HF : Hid (((rk.take 8).take 8).tell 1 = 1) := hf
            clear hf
            have hQ : Turned [p] wr wr := Turned.refl _ _
            go_wp2_with (first | (go_at_call 36; (with_reducible refine (kt _ _ _ hP).mono ?_); rintro e u1 ⟨rfl, hP1, hT1⟩; have hP := hP1; have hT := hT.trans hT1 (fun k hk _ => hk); have hQ := hQ.trans hT1 (fun k hk _ => hk); clear hP1 hT1) | (go_at_call 36; (with_reducible refine (kt _ _ _ (hP.keep ((Turned.refl [] _).alloc _) (by simp) (by simp))).mono ?_); rintro e u2 ⟨rfl, hP2, hT2⟩; have hlp := hP.lt; have hsz := hT.size; have hsr := hQ.size; have hS := (Struct.new u1 _ 25).keep hT2 (by simp; omega); have hT := (hT.alloc _).trans hT2 (fun k hk _ => hk); have hQ := (hQ.alloc _).trans hT2 (fun k hk _ => hk); have hP := hP2; have c0 := (hS.2 0 _ rfl).1; have c1 := (hS.2 1 _ rfl).1; have c2 := (hS.2 2 _ rfl).1; have c3 := (hS.2 3 _ rfl).1; have c4 := (hS.2 4 _ rfl).1; have f4 := (hS.2 4 _ rfl).2; have c5 := (hS.2 5 _ rfl).1; have f5 := (hS.2 5 _ rfl).2; clear hP2 hT2) | (go_at_call 36; (with_reducible refine (kt _ _ _ (hP.keep (S := [u1.heap.size]) ((Turned.refl [u1.heap.size] u2).setCell (.inl (by simp)) _) (by simp; omega) (by intro b hb; have := hrb b hb; simp; omega))).mono ?_); rintro e u3 ⟨rfl, hP3, hT3⟩; have hS := (hS.set (i := 4) (by simp) _).keep hT3 (by simp; omega); have hT := (hT.setCell (p := ⟨u1.heap.size, 4, none⟩) (.inr hsz) _).trans hT3 (fun k hk _ => hk); have hQ := (hQ.setCell (p := ⟨u1.heap.size, 4, none⟩) (.inr hsr) _).trans hT3 (fun k hk _ => hk); have hP := hP3; have c0 := (hS.2 0 _ rfl).1; have c1 := (hS.2 1 _ rfl).1; have c2 := (hS.2 2 _ rfl).1; have c3 := (hS.2 3 _ rfl).1; have c4 := (hS.2 4 _ rfl).1; have c5 := (hS.2 5 _ rfl).1; have f5 := (hS.2 5 _ rfl).2; clear hP3 hT3) | (at_builtin; refine wp_push (v := u7) elem_cm rfl _ _ rfl rfl (l := lk) (ho.keep (S := [p]) ((hQ.setCell (p := ⟨u1.heap.size, 5, none⟩) (.inr hsr) _).alloc _) hpb) _ 0 1 1 [⟨(m + k) % 4294967296, 0, 0, true, (((rk.take 8).take 8).take 1).tell 32, ((((rk.take 8).take 8).take 1).take 32).tell 8⟩] rfl rfl cmEnc_len cmEnc_one (flat_cells rfl (by simp) _) (by have := HLEN.out; unfold maxLen; omega) (by have := HLEN.out; omega) ?_; intro v' w1 ho1 ht1 hb1))
            have HW := St.next hpl hrb hnew ((hP.keep (S := [u1.heap.size]) ((Turned.refl [u1.heap.size] u3).setCell (p := ⟨u1.heap.size, 5, none⟩) (.inl (by simp)) _) (by simp; omega) (by intro b hb; have := hrb b hb; simp; omega)).keep ((Turned.refl [] _).alloc _) (by simp) (by simp)) ((hT.setCell (p := ⟨u1.heap.size, 5, none⟩) (.inr hsz) _).alloc _) ho1 ht1 hb1 HLK.out HK.out (Cm.rdOne_off_fire HX.out HF.out)
            go_roundw
            case rel => exact ⟨k + 1, by omega, by go_num, HW⟩
            case measure => simp [intOf]; omega
          · have i3 : (((((rk.take 8).take 8).tell 1 : Nat) : Int) == 1) = false := by rw [beq_eq_false_iff_ne]; omega
            have HF : Hid (¬ ((rk.take 8).take 8).tell 1 = 1) := hf
            clear hf
            have hQ : Turned [p] wr wr := Turned.refl _ _
            go_wp2_with (first | (go_at_call 36; (with_reducible refine (kt _ _ _ hP).mono ?_); rintro e u1 ⟨rfl, hP1, hT1⟩; have hP := hP1; have hT := hT.trans hT1 (fun k hk _ => hk); have hQ := hQ.trans hT1 (fun k hk _ => hk); clear hP1 hT1) | (at_builtin; refine wp_push (v := u7) elem_cm rfl _ _ rfl rfl (l := lk) (ho.keep (S := [p]) ((hQ.alloc _).alloc _) hpb) _ 0 1 1 [⟨(m + k) % 4294967296, 0, 0, false, 0, 0⟩] rfl rfl cmEnc_len cmEnc_one (flat_cells rfl (by simp) _) (by have := HLEN.out; unfold maxLen; omega) (by have := HLEN.out; omega) ?_; intro v' w1 ho1 ht1 hb1))
            have HW := St.next hpl hrb hnew ((hP.keep ((Turned.refl [] _).alloc _) (by simp) (by simp)).keep ((Turned.refl [] _).alloc _) (by simp) (by simp)) ((hT.alloc _).alloc _) ho1 ht1 hb1 HLK.out HK.out (Cm.rdOne_off_calm HX.out HF.out)
            go_roundw
            case rel => exact ⟨k + 1, by omega, by go_num, HW⟩
            case measure => simp [intOf]; omega
        · have i1 : decide (((rk.tell 8 : Nat) : Int) - 127 < 128) = false := by rw [decide_eq_false_iff_not]; omega
          clear hx hx1
          by_cases hf : ((rk.take 8).take 8).tell 1 = 1
          · have i3 : ((((rk.take 8).take 8).tell 1 : Nat) : Int) == 1 := by rw [hf]; rfl
            have HF : Hid (((rk.take 8).take 8).tell 1 = 1) := hf
            clear hf
            have hQ : Turned [p] wr wr := Turned.refl _ _
            go_wp2_with (first | (go_at_call 36; (with_reducible refine (kt _ _ _ hP).mono ?_); rintro e u1 ⟨rfl, hP1, hT1⟩; have hP := hP1; have hT := hT.trans hT1 (fun k hk _ => hk); have hQ := hQ.trans hT1 (fun k hk _ => hk); clear hP1 hT1) | (go_at_call 36; (with_reducible refine (kt _ _ _ (hP.keep ((Turned.refl [] _).alloc _) (by simp) (by simp))).mono ?_); rintro e u2 ⟨rfl, hP2, hT2⟩; have hlp := hP.lt; have hsz := hT.size; have hsr := hQ.size; have hS := (Struct.new u1 _ 25).keep hT2 (by simp; omega); have hT := (hT.alloc _).trans hT2 (fun k hk _ => hk); have hQ := (hQ.alloc _).trans hT2 (fun k hk _ => hk); have hP := hP2; have c0 := (hS.2 0 _ rfl).1; have c1 := (hS.2 1 _ rfl).1; have c2 := (hS.2 2 _ rfl).1; have c3 := (hS.2 3 _ rfl).1; have c4 := (hS.2 4 _ rfl).1; have f4 := (hS.2 4 _ rfl).2; have c5 := (hS.2 5 _ rfl).1; have f5 := (hS.2 5 _ rfl).2; clear hP2 hT2) | (go_at_call 36; (with_reducible refine (kt _ _ _ (hP.keep (S := [u1.heap.size]) ((Turned.refl [u1.heap.size] u2).setCell (.inl (by simp)) _) (by simp; omega) (by intro b hb; have := hrb b hb; simp; omega))).mono ?_); rintro e u3 ⟨rfl, hP3, hT3⟩; have hS := (hS.set (i := 4) (by simp) _).keep hT3 (by simp; omega); have hT := (hT.setCell (p := ⟨u1.heap.size, 4, none⟩) (.inr hsz) _).trans hT3 (fun k hk _ => hk); have hQ := (hQ.setCell (p := ⟨u1.heap.size, 4, none⟩) (.inr hsr) _).trans hT3 (fun k hk _ => hk); have hP := hP3; have c0 := (hS.2 0 _ rfl).1; have c1 := (hS.2 1 _ rfl).1; have c2 := (hS.2 2 _ rfl).1; have c3 := (hS.2 3 _ rfl).1; have c4 := (hS.2 4 _ rfl).1; have c5 := (hS.2 5 _ rfl).1; have f5 := (hS.2 5 _ rfl).2; clear hP3 hT3) | (at_builtin; refine wp_push (v := u7) elem_cm rfl _ _ rfl rfl (l := lk) (ho.keep (S := [p]) ((hQ.setCell (p := ⟨u1.heap.size, 5, none⟩) (.inr hsr) _).alloc _) hpb) _ 0 1 1 [⟨(m + k) % 4294967296, 0, 0, true, (((rk.take 8).take 8).take 1).tell 32, ((((rk.take 8).take 8).take 1).take 32).tell 8⟩] rfl rfl cmEnc_len cmEnc_one (flat_cells rfl (by simp) _) (by have := HLEN.out; unfold maxLen; omega) (by have := HLEN.out; omega) ?_; intro v' w1 ho1 ht1 hb1))
            have HW := St.next hpl hrb hnew ((hP.keep (S := [u1.heap.size]) ((Turned.refl [u1.heap.size] u3).setCell (p := ⟨u1.heap.size, 5, none⟩) (.inl (by simp)) _) (by simp; omega) (by intro b hb; have := hrb b hb; simp; omega)).keep ((Turned.refl [] _).alloc _) (by simp) (by simp)) ((hT.setCell (p := ⟨u1.heap.size, 5, none⟩) (.inr hsz) _).alloc _) ho1 ht1 hb1 HLK.out HK.out (Cm.rdOne_off_fire HX.out HF.out)
            go_roundw
            case rel => exact ⟨k + 1, by omega, by go_num, HW⟩
            case measure => simp [intOf]; omega
          · have i3 : (((((rk.take 8).take 8).tell 1 : Nat) : Int) == 1) = false := by rw [beq_eq_false_iff_ne]; omega
            have HF : Hid (¬ ((rk.take 8).take 8).tell 1 = 1) := hf
            clear hf
            have hQ : Turned [p] wr wr := Turned.refl _ _
            go_wp2_with (first | (go_at_call 36; (with_reducible refine (kt _ _ _ hP).mono ?_); rintro e u1 ⟨rfl, hP1, hT1⟩; have hP := hP1; have hT := hT.trans hT1 (fun k hk _ => hk); have hQ := hQ.trans hT1 (fun k hk _ => hk); clear hP1 hT1) | (at_builtin; refine wp_push (v := u7) elem_cm rfl _ _ rfl rfl (l := lk) (ho.keep (S := [p]) ((hQ.alloc _).alloc _) hpb) _ 0 1 1 [⟨(m + k) % 4294967296, 0, 0, false, 0, 0⟩] rfl rfl cmEnc_len cmEnc_one (flat_cells rfl (by simp) _) (by have := HLEN.out; unfold maxLen; omega) (by have := HLEN.out; omega) ?_; intro v' w1 ho1 ht1 hb1))
            have HW := St.next hpl hrb hnew ((hP.keep ((Turned.refl [] _).alloc _) (by simp) (by simp)).keep ((Turned.refl [] _).alloc _) (by simp) (by simp)) ((hT.alloc _).alloc _) ho1 ht1 hb1 HLK.out HK.out (Cm.rdOne_off_calm HX.out HF.out)
            go_roundw
            case rel => exact ⟨k + 1, by omega, by go_num, HW⟩
            case measure => simp [intOf]; omega
    · have hk' : k = N + 1 := by omega
      subst hk'
      obtain ⟨lr, hlr⟩ : ∃ lr, lr = (Cm.rdN r2 m (N + 1)).1 := ⟨_, rfl⟩
      obtain ⟨rr, hrr⟩ : ∃ rr, rr = (Cm.rdN r2 m (N + 1)).2 := ⟨_, rfl⟩
      rw [← hlr] at ho
      rw [← hrr] at hP
      have HLR : Hid (lr = (Cm.rdRow r).1) := by show _ = _; rw [hlr, HR.out, HM.out, HN.out]; rfl
      have HRR : Hid (rr = (Cm.rdRow r).2) := by show _ = _; rw [hrr, HR.out, HM.out, HN.out]; rfl
      have hlen8 : lr.length ≤ 8 := by rw [hlr, Cm.rdN_length]; omega
      clear hlr hrr hk hlt b3 b32
      have hwf : ∀ c ∈ lr, c.wf := by rw [HLR.out]; exact Cm.rdRow_wf r
      have ho0 := ho
      obtain ⟨ob, cb, rfl, _, _, hrow, _⟩ := ho.rowOf cmEnc_len
      have hobl : ∀ a, ob = some a → a.block < wr.heap.size := by
        intro a ha
        have := ho0.lt a.block (by subst ha; simp [blk, Value.ownBlock])
        exact this
      obtain ⟨n, hn⟩ : ∃ n, n = lr.length := ⟨_, rfl⟩
      have kput := put_any wr.heap.size [] [wr.heap.size] ob cb lr hwf (wr.alloc (.cells #[.slice none 0 0] 35)).drew ((RBits.new 4 wr 35).keep ((Turned.refl [] _).drew) (by simp)) (by simp) ((hrow.turned ((Turned.refl [] wr).alloc _) (by simp)).turned ((Turned.refl [] _).drew) (by simp)) (by omega) (by intro a ha _; have := hobl a ha; simp; omega)
      have hPd : RRd p v rr (wr.alloc (.cells #[.slice none 0 0] 35)).drew := (hP.keep ((Turned.refl [] wr).alloc _) (by simp) (by simp)).keep ((Turned.refl [] _).drew) (by simp) (by simp)
      have hTd : Turned [p] w (wr.alloc (.cells #[.slice none 0 0] 35)).drew := (hT.alloc _).drew
      have hod := ho0.keep (S := []) (((Turned.refl [] wr).alloc (.cells #[.slice none 0 0] 35)).drew) (by simp)
      have hpq : p ∉ [wr.heap.size] := by have := hP.lt; simp; omega
      have hvq : ∀ b ∈ rblk v, b ∉ [wr.heap.size] := by intro b hb; have := hrb b hb; have := hT.size; simp; omega
      have hoq : ∀ b ∈ blk (.slice ob lr.length cb), b ∉ [wr.heap.size] := by intro b hb; have := ho0.lt b hb; simp; omega
      rw [← hn] at kput hod ho0 hnew hoq
      have c2 := (hPd.1.2 2 _ rfl).1
      go_wp2_with fail
      rw [← hn]
      obtain ⟨W0, hW0⟩ : ∃ W0, W0 = wr.alloc (.cells #[.slice none 0 0] 35) := ⟨_, rfl⟩
      rw [← hW0] at kput hPd hTd hod c2 ⊢
      obtain ⟨q, hq⟩ : ∃ q, q = wr.heap.size := ⟨_, rfl⟩
      have hqw : w.heap.size ≤ q := by rw [hq]; exact hT.size
      rw [← hq] at kput hpq hvq hoq ⊢
      have HNL : Hid (n = lr.length) := hn
      clear hW0 hq hn hlen8 hobl ho0 ho hrow hP hT
      cases hfl : rr.fail with
      | true =>
        rw [hfl] at c2
        have HNO : Hid (∀ l, ¬ Cm.Next r l) := Cm.none_fail (by rw [← HRR.out]; exact hfl)
        clear kput
        refine wp_region_held_drew (S := (fun w' => w'.cell? ⟨p, 2, none⟩ = some (.bool true))) (by kernel_rfl) ?_ (fun hHeld => ?_)
        · exact c2
        refine BtL.take_d (some 72) (i := 0) (v := ?_) rfl rfl (by kernel_rfl) (by kernel_rfl) (by kernel_rfl) (fun _ _ _ h => h) (Or.inl ⟨by rfl, ?_⟩) (by assumption) ?_
        rotate_left
        · (intro w hSw; (try dsimp only at hSw); go_simp; try with_reducible rfl)
        simp only [Act.put, List.setIfInBounds_toArray, List.set_cons_zero, List.set_cons_succ]
        refine BtL.take_d (some 73) (i := 1) (v := ?_) rfl rfl (by kernel_rfl) (by kernel_rfl) (by kernel_rfl) (fun _ _ _ h => h) (Or.inl ⟨by rfl, ?_⟩) (by assumption) ?_
        rotate_left
        · (intro w hSw; (try dsimp only at hSw); go_simp; try with_reducible rfl)
        simp only [Act.put, List.setIfInBounds_toArray, List.set_cons_zero, List.set_cons_succ]
        refine BtL.take_d (some 74) (i := 2) (v := ?_) rfl rfl (by kernel_rfl) (by kernel_rfl) (by kernel_rfl) (fun _ _ _ h => h) (Or.inl ⟨by rfl, ?_⟩) (by assumption) ?_
        rotate_left
        · (intro w hSw; (try dsimp only at hSw); go_simp; try with_reducible rfl)
        simp only [Act.put, List.setIfInBounds_toArray, List.set_cons_zero, List.set_cons_succ]
        refine BtL.take_d (some 75) (i := 3) (v := ?_) rfl rfl (by kernel_rfl) (by kernel_rfl) (by kernel_rfl) (fun _ _ _ h => h) (Or.inl ⟨by rfl, ?_⟩) (by assumption) ?_
        rotate_left
        · (intro w hSw; (try dsimp only at hSw); go_simp; try with_reducible rfl)
        simp only [Act.put, List.setIfInBounds_toArray, List.set_cons_zero, List.set_cons_succ]
        refine BtL.take_d (some 76) (i := 4) (v := ?_) rfl rfl (by kernel_rfl) (by kernel_rfl) (by kernel_rfl) (fun _ _ _ h => h) (Or.inl ⟨by rfl, ?_⟩) (by assumption) ?_
        rotate_left
        · (intro w hSw; (try dsimp only at hSw); go_simp; try with_reducible rfl)
        simp only [Act.put, List.setIfInBounds_toArray, List.set_cons_zero, List.set_cons_succ]
        refine BtL.take_d (some 77) (i := 5) (v := undef) rfl rfl (by kernel_rfl) (by kernel_rfl) (by kernel_rfl) (fun _ _ _ h => h) (Or.inr ⟨by rfl, rfl⟩) (by assumption) ?_
        simp only [Act.put, List.setIfInBounds_toArray, List.set_cons_zero, List.set_cons_succ]
        refine BtL.take_d (some 78) (i := 6) (v := undef) rfl rfl (by kernel_rfl) (by kernel_rfl) (by kernel_rfl) (fun _ _ _ h => h) (Or.inr ⟨by rfl, rfl⟩) (by assumption) ?_
        simp only [Act.put, List.setIfInBounds_toArray, List.set_cons_zero, List.set_cons_succ]
        refine BtL.take_d (some 79) (i := 7) (v := undef) rfl rfl (by kernel_rfl) (by kernel_rfl) (by kernel_rfl) (fun _ _ _ h => h) (Or.inr ⟨by rfl, rfl⟩) (by assumption) ?_
        simp only [Act.put, List.setIfInBounds_toArray, List.set_cons_zero, List.set_cons_succ]
        refine BtL.take_d (some 80) (i := 8) (v := ?_) rfl rfl (by kernel_rfl) (by kernel_rfl) (by kernel_rfl) (fun _ _ _ h => h) (Or.inl ⟨by rfl, ?_⟩) (by assumption) ?_
        rotate_left
        · (intro w hSw; (try dsimp only at hSw); go_simp; try with_reducible rfl)
        simp only [Act.put, List.setIfInBounds_toArray, List.set_cons_zero, List.set_cons_succ]
        refine BtL.take_d (some 81) (i := 9) (v := ?_) rfl rfl (by kernel_rfl) (by kernel_rfl) (by kernel_rfl) (fun _ _ _ h => h) (Or.inl ⟨by rfl, ?_⟩) (by assumption) ?_
        rotate_left
        · (intro w hSw; (try dsimp only at hSw); go_simp; try with_reducible rfl)
        simp only [Act.put, List.setIfInBounds_toArray, List.set_cons_zero, List.set_cons_succ]
        refine BtL.take_d (some 82) (i := 10) (v := undef) rfl rfl (by kernel_rfl) (by kernel_rfl) (by kernel_rfl) (fun _ _ _ h => h) (Or.inr ⟨by rfl, rfl⟩) (by assumption) ?_
        simp only [Act.put, List.setIfInBounds_toArray, List.set_cons_zero, List.set_cons_succ]
        refine BtL.take_d (some 83) (i := 11) (v := undef) rfl rfl (by kernel_rfl) (by kernel_rfl) (by kernel_rfl) (fun _ _ _ h => h) (Or.inr ⟨by rfl, rfl⟩) (by assumption) ?_
        simp only [Act.put, List.setIfInBounds_toArray, List.set_cons_zero, List.set_cons_succ]
        refine BtL.take_d (some 84) (i := 12) (v := undef) rfl rfl (by kernel_rfl) (by kernel_rfl) (by kernel_rfl) (fun _ _ _ h => h) (Or.inr ⟨by rfl, rfl⟩) (by assumption) ?_
        simp only [Act.put, List.setIfInBounds_toArray, List.set_cons_zero, List.set_cons_succ]
        refine BtL.take_d (some 85) (i := 13) (v := undef) rfl rfl (by kernel_rfl) (by kernel_rfl) (by kernel_rfl) (fun _ _ _ h => h) (Or.inr ⟨by rfl, rfl⟩) (by assumption) ?_
        simp only [Act.put, List.setIfInBounds_toArray, List.set_cons_zero, List.set_cons_succ]
        refine BtL.take_d (some 86) (i := 14) (v := undef) rfl rfl (by kernel_rfl) (by kernel_rfl) (by kernel_rfl) (fun _ _ _ h => h) (Or.inr ⟨by rfl, rfl⟩) (by assumption) ?_
        simp only [Act.put, List.setIfInBounds_toArray, List.set_cons_zero, List.set_cons_succ]
        refine BtL.take_d (some 87) (i := 15) (v := undef) rfl rfl (by kernel_rfl) (by kernel_rfl) (by kernel_rfl) (fun _ _ _ h => h) (Or.inr ⟨by rfl, rfl⟩) (by assumption) ?_
        simp only [Act.put, List.setIfInBounds_toArray, List.set_cons_zero, List.set_cons_succ]
        refine BtL.take_d (some 88) (i := 16) (v := undef) rfl rfl (by kernel_rfl) (by kernel_rfl) (by kernel_rfl) (fun _ _ _ h => h) (Or.inr ⟨by rfl, rfl⟩) (by assumption) ?_
        simp only [Act.put, List.setIfInBounds_toArray, List.set_cons_zero, List.set_cons_succ]
        refine BtL.take_d (some 89) (i := 17) (v := undef) rfl rfl (by kernel_rfl) (by kernel_rfl) (by kernel_rfl) (fun _ _ _ h => h) (Or.inr ⟨by rfl, rfl⟩) (by assumption) ?_
        simp only [Act.put, List.setIfInBounds_toArray, List.set_cons_zero, List.set_cons_succ]
        refine BtL.take_d (some 90) (i := 18) (v := undef) rfl rfl (by kernel_rfl) (by kernel_rfl) (by kernel_rfl) (fun _ _ _ h => h) (Or.inr ⟨by rfl, rfl⟩) (by assumption) ?_
        simp only [Act.put, List.setIfInBounds_toArray, List.set_cons_zero, List.set_cons_succ]
        refine BtL.take_d (some 91) (i := 19) (v := undef) rfl rfl (by kernel_rfl) (by kernel_rfl) (by kernel_rfl) (fun _ _ _ h => h) (Or.inr ⟨by rfl, rfl⟩) (by assumption) ?_
        simp only [Act.put, List.setIfInBounds_toArray, List.set_cons_zero, List.set_cons_succ]
        refine BtL.take_d (some 92) (i := 20) (v := ?_) rfl rfl (by kernel_rfl) (by kernel_rfl) (by kernel_rfl) (fun _ _ _ h => h) (Or.inl ⟨by rfl, ?_⟩) (by assumption) ?_
        rotate_left
        · (intro w hSw; (try dsimp only at hSw); go_simp; try with_reducible rfl)
        simp only [Act.put, List.setIfInBounds_toArray, List.set_cons_zero, List.set_cons_succ]
        refine wpAnyH_done (by kernel_rfl) ?_ _
        go_wp2_with fail
        go_ret2
        exact Or.inr ⟨HNO.out, rfl, ⟨rr, hPd⟩, hTd⟩
      | false =>
        rw [hfl] at c2
        cases hrow : Cm.row lr with
        | false =>
          have HNO : Hid (∀ l, ¬ Cm.Next r l) := Cm.none_row (by rw [← HLR.out]; exact hrow)
          rw [hrow] at kput
          clear hrow
          refine wp_region_held_drew (S := (fun w' => w'.cell? ⟨p, 2, none⟩ = some (.bool false))) (by kernel_rfl) ?_ (fun hHeld => ?_)
          · exact c2
          refine BtL.take_d (some 72) (i := 0) (v := ?_) rfl rfl (by kernel_rfl) (by kernel_rfl) (by kernel_rfl) (fun _ _ _ h => h) (Or.inl ⟨by rfl, ?_⟩) (by assumption) ?_
          rotate_left
          · (intro w hSw; (try dsimp only at hSw); go_simp; try with_reducible rfl)
          simp only [Act.put, List.setIfInBounds_toArray, List.set_cons_zero, List.set_cons_succ]
          refine BtL.take_d (some 73) (i := 1) (v := ?_) rfl rfl (by kernel_rfl) (by kernel_rfl) (by kernel_rfl) (fun _ _ _ h => h) (Or.inl ⟨by rfl, ?_⟩) (by assumption) ?_
          rotate_left
          · (intro w hSw; (try dsimp only at hSw); go_simp; try with_reducible rfl)
          simp only [Act.put, List.setIfInBounds_toArray, List.set_cons_zero, List.set_cons_succ]
          refine BtL.take_d (some 74) (i := 2) (v := ?_) rfl rfl (by kernel_rfl) (by kernel_rfl) (by kernel_rfl) (fun _ _ _ h => h) (Or.inl ⟨by rfl, ?_⟩) (by assumption) ?_
          rotate_left
          · (intro w hSw; (try dsimp only at hSw); go_simp; try with_reducible rfl)
          simp only [Act.put, List.setIfInBounds_toArray, List.set_cons_zero, List.set_cons_succ]
          refine BtL.take_d (some 75) (i := 3) (v := ?_) rfl rfl (by kernel_rfl) (by kernel_rfl) (by kernel_rfl) (fun _ _ _ h => h) (Or.inl ⟨by rfl, ?_⟩) (by assumption) ?_
          rotate_left
          · (intro w hSw; (try dsimp only at hSw); go_simp; try with_reducible rfl)
          simp only [Act.put, List.setIfInBounds_toArray, List.set_cons_zero, List.set_cons_succ]
          refine BtL.take_d (some 76) (i := 4) (v := ?_) rfl rfl (by kernel_rfl) (by kernel_rfl) (by kernel_rfl) (fun _ _ _ h => h) (Or.inl ⟨by rfl, ?_⟩) (by assumption) ?_
          rotate_left
          · (intro w hSw; (try dsimp only at hSw); go_simp; try with_reducible rfl)
          simp only [Act.put, List.setIfInBounds_toArray, List.set_cons_zero, List.set_cons_succ]
          refine BtL.take_d (some 77) (i := 5) (v := ?_) rfl rfl (by kernel_rfl) (by kernel_rfl) (by kernel_rfl) (fun _ _ _ h => h) (Or.inl ⟨by rfl, ?_⟩) (by assumption) ?_
          rotate_left
          · (intro w hSw; (try dsimp only at hSw); go_simp; try with_reducible rfl)
          simp only [Act.put, List.setIfInBounds_toArray, List.set_cons_zero, List.set_cons_succ]
          refine BtL.one_d (some 78) (i := 6) rfl rfl (by kernel_rfl) (by rfl) 11 #[.pointer (some ⟨q, 0, none⟩), .slice ob n cb] (by go_simp) ?_
          refine kput.mono ?_
          rintro e u4 ⟨rfl, F4, hB4, hM4⟩
          have hP4 := hPd.keep hM4.1 hpq hvq
          have d2 := (hP4.1.2 2 _ rfl).1
          rw [hfl] at d2
          refine ⟨_, rfl, d2, fun hHeld => ?_⟩
          simp only [Act.put, List.setIfInBounds_toArray, List.set_cons_zero, List.set_cons_succ]
          refine BtL.take_d (some 79) (i := 7) (v := ?_) rfl rfl (by kernel_rfl) (by kernel_rfl) (by kernel_rfl) (fun _ _ _ h => h) (Or.inl ⟨by rfl, ?_⟩) (by assumption) ?_
          rotate_left
          · (intro w hSw; (try dsimp only at hSw); go_simp; try with_reducible rfl)
          simp only [Act.put, List.setIfInBounds_toArray, List.set_cons_zero, List.set_cons_succ]
          refine BtL.take_d (some 80) (i := 8) (v := ?_) rfl rfl (by kernel_rfl) (by kernel_rfl) (by kernel_rfl) (fun _ _ _ h => h) (Or.inl ⟨by rfl, ?_⟩) (by assumption) ?_
          rotate_left
          · (intro w hSw; (try dsimp only at hSw); go_simp; try with_reducible rfl)
          simp only [Act.put, List.setIfInBounds_toArray, List.set_cons_zero, List.set_cons_succ]
          refine BtL.take_d (some 81) (i := 9) (v := ?_) rfl rfl (by kernel_rfl) (by kernel_rfl) (by kernel_rfl) (fun _ _ _ h => h) (Or.inl ⟨by rfl, ?_⟩) (by assumption) ?_
          rotate_left
          · (intro w hSw; (try dsimp only at hSw); go_simp; try with_reducible rfl)
          simp only [Act.put, List.setIfInBounds_toArray, List.set_cons_zero, List.set_cons_succ]
          refine BtL.take_d (some 82) (i := 10) (v := undef) rfl rfl (by kernel_rfl) (by kernel_rfl) (by kernel_rfl) (fun _ _ _ h => h) (Or.inr ⟨by rfl, rfl⟩) (by assumption) ?_
          simp only [Act.put, List.setIfInBounds_toArray, List.set_cons_zero, List.set_cons_succ]
          refine BtL.take_d (some 83) (i := 11) (v := undef) rfl rfl (by kernel_rfl) (by kernel_rfl) (by kernel_rfl) (fun _ _ _ h => h) (Or.inr ⟨by rfl, rfl⟩) (by assumption) ?_
          simp only [Act.put, List.setIfInBounds_toArray, List.set_cons_zero, List.set_cons_succ]
          refine BtL.take_d (some 84) (i := 12) (v := undef) rfl rfl (by kernel_rfl) (by kernel_rfl) (by kernel_rfl) (fun _ _ _ h => h) (Or.inr ⟨by rfl, rfl⟩) (by assumption) ?_
          simp only [Act.put, List.setIfInBounds_toArray, List.set_cons_zero, List.set_cons_succ]
          refine BtL.take_d (some 85) (i := 13) (v := undef) rfl rfl (by kernel_rfl) (by kernel_rfl) (by kernel_rfl) (fun _ _ _ h => h) (Or.inr ⟨by rfl, rfl⟩) (by assumption) ?_
          simp only [Act.put, List.setIfInBounds_toArray, List.set_cons_zero, List.set_cons_succ]
          refine BtL.take_d (some 86) (i := 14) (v := undef) rfl rfl (by kernel_rfl) (by kernel_rfl) (by kernel_rfl) (fun _ _ _ h => h) (Or.inr ⟨by rfl, rfl⟩) (by assumption) ?_
          simp only [Act.put, List.setIfInBounds_toArray, List.set_cons_zero, List.set_cons_succ]
          refine BtL.take_d (some 87) (i := 15) (v := undef) rfl rfl (by kernel_rfl) (by kernel_rfl) (by kernel_rfl) (fun _ _ _ h => h) (Or.inr ⟨by rfl, rfl⟩) (by assumption) ?_
          simp only [Act.put, List.setIfInBounds_toArray, List.set_cons_zero, List.set_cons_succ]
          refine BtL.take_d (some 88) (i := 16) (v := undef) rfl rfl (by kernel_rfl) (by kernel_rfl) (by kernel_rfl) (fun _ _ _ h => h) (Or.inr ⟨by rfl, rfl⟩) (by assumption) ?_
          simp only [Act.put, List.setIfInBounds_toArray, List.set_cons_zero, List.set_cons_succ]
          refine BtL.take_d (some 89) (i := 17) (v := undef) rfl rfl (by kernel_rfl) (by kernel_rfl) (by kernel_rfl) (fun _ _ _ h => h) (Or.inr ⟨by rfl, rfl⟩) (by assumption) ?_
          simp only [Act.put, List.setIfInBounds_toArray, List.set_cons_zero, List.set_cons_succ]
          refine BtL.take_d (some 90) (i := 18) (v := undef) rfl rfl (by kernel_rfl) (by kernel_rfl) (by kernel_rfl) (fun _ _ _ h => h) (Or.inr ⟨by rfl, rfl⟩) (by assumption) ?_
          simp only [Act.put, List.setIfInBounds_toArray, List.set_cons_zero, List.set_cons_succ]
          refine BtL.take_d (some 91) (i := 19) (v := undef) rfl rfl (by kernel_rfl) (by kernel_rfl) (by kernel_rfl) (fun _ _ _ h => h) (Or.inr ⟨by rfl, rfl⟩) (by assumption) ?_
          simp only [Act.put, List.setIfInBounds_toArray, List.set_cons_zero, List.set_cons_succ]
          refine BtL.take_d (some 92) (i := 20) (v := ?_) rfl rfl (by kernel_rfl) (by kernel_rfl) (by kernel_rfl) (fun _ _ _ h => h) (Or.inl ⟨by rfl, ?_⟩) (by assumption) ?_
          rotate_left
          · (intro w hSw; (try dsimp only at hSw); go_simp; try with_reducible rfl)
          simp only [Act.put, List.setIfInBounds_toArray, List.set_cons_zero, List.set_cons_succ]
          refine wpAnyH_done (by kernel_rfl) ?_ _
          have hT4 : Turned [p] w u4 := hTd.trans (hM4.1.mono (S' := [p, q]) (by simp)) (by
            intro k hk hl
            simp at hk
            rcases hk with rfl | rfl
            · simp
            · have := hTd.size; have := hqw; omega)
          go_wp2_with fail
          go_ret2
          exact Or.inr ⟨HNO.out, rfl, ⟨rr, hP4⟩, hT4⟩
        | true =>
          have HROW : Hid (Cm.row lr = true) := hrow
          rw [hrow, if_pos rfl, List.nil_append] at kput
          have hat : rr.at_ = r.at_ + (Cm.all lr).length := by rw [HRR.out, HLR.out]; exact Cm.rdRow_at (by rw [← HRR.out]; exact hfl)
          obtain ⟨n2, hn2⟩ : ∃ n2, n2 = (Cm.all lr).length := ⟨_, rfl⟩
          obtain ⟨A, hA⟩ : ∃ A, A = rr.at_ := ⟨_, rfl⟩
          have HN2 : Hid ((Cm.all lr).length = n2) := hn2.symm
          have HA : Hid (rr.at_ = A) := hA.symm
          have hbig : (A : Int) ≤ 34359738368 := by
            have h1 := hPd.2.2.1
            have h2 := hPd.2.2.2
            unfold Bt.Rd.wf at h1
            omega
          have hAn : (A : Int) - (r.at_ : Int) = (n2 : Int) := by omega
          have hsub : IntKind.i64.wrap ((A : Int) - (r.at_ : Int)) = (n2 : Int) := by
            have : IntKind.i64.wrap ((A : Int) - (r.at_ : Int)) = wrap64 ((A : Int) - (r.at_ : Int)) := by simp [wrap64, IntKind.wrap, IntKind.bits, IntKind.signed]; split <;> omega
            rw [this]; unfold wrap64; omega
          have hneq : ((n2 : Int) != (n2 : Int)) = false := by simp
          have HAN : Hid ((A : Int) - (r.at_ : Int) = (n2 : Int)) := hAn
          have HBIG : Hid ((A : Int) ≤ 34359738368) := hbig
          clear hrow hat hn2 hA hAn hbig
          refine wp_region_held_drew (S := (fun w' => w'.cell? ⟨p, 2, none⟩ = some (.bool false))) (by kernel_rfl) ?_ (fun hHeld => ?_)
          · exact c2
          refine BtL.take_d (some 72) (i := 0) (v := ?_) rfl rfl (by kernel_rfl) (by kernel_rfl) (by kernel_rfl) (fun _ _ _ h => h) (Or.inl ⟨by rfl, ?_⟩) (by assumption) ?_
          rotate_left
          · (intro w hSw; (try dsimp only at hSw); go_simp; try with_reducible rfl)
          simp only [Act.put, List.setIfInBounds_toArray, List.set_cons_zero, List.set_cons_succ]
          refine BtL.take_d (some 73) (i := 1) (v := ?_) rfl rfl (by kernel_rfl) (by kernel_rfl) (by kernel_rfl) (fun _ _ _ h => h) (Or.inl ⟨by rfl, ?_⟩) (by assumption) ?_
          rotate_left
          · (intro w hSw; (try dsimp only at hSw); go_simp; try with_reducible rfl)
          simp only [Act.put, List.setIfInBounds_toArray, List.set_cons_zero, List.set_cons_succ]
          refine BtL.take_d (some 74) (i := 2) (v := ?_) rfl rfl (by kernel_rfl) (by kernel_rfl) (by kernel_rfl) (fun _ _ _ h => h) (Or.inl ⟨by rfl, ?_⟩) (by assumption) ?_
          rotate_left
          · (intro w hSw; (try dsimp only at hSw); go_simp; try with_reducible rfl)
          simp only [Act.put, List.setIfInBounds_toArray, List.set_cons_zero, List.set_cons_succ]
          refine BtL.take_d (some 75) (i := 3) (v := ?_) rfl rfl (by kernel_rfl) (by kernel_rfl) (by kernel_rfl) (fun _ _ _ h => h) (Or.inl ⟨by rfl, ?_⟩) (by assumption) ?_
          rotate_left
          · (intro w hSw; (try dsimp only at hSw); go_simp; try with_reducible rfl)
          simp only [Act.put, List.setIfInBounds_toArray, List.set_cons_zero, List.set_cons_succ]
          refine BtL.take_d (some 76) (i := 4) (v := ?_) rfl rfl (by kernel_rfl) (by kernel_rfl) (by kernel_rfl) (fun _ _ _ h => h) (Or.inl ⟨by rfl, ?_⟩) (by assumption) ?_
          rotate_left
          · (intro w hSw; (try dsimp only at hSw); go_simp; try with_reducible rfl)
          simp only [Act.put, List.setIfInBounds_toArray, List.set_cons_zero, List.set_cons_succ]
          refine BtL.take_d (some 77) (i := 5) (v := ?_) rfl rfl (by kernel_rfl) (by kernel_rfl) (by kernel_rfl) (fun _ _ _ h => h) (Or.inl ⟨by rfl, ?_⟩) (by assumption) ?_
          rotate_left
          · (intro w hSw; (try dsimp only at hSw); go_simp; try with_reducible rfl)
          simp only [Act.put, List.setIfInBounds_toArray, List.set_cons_zero, List.set_cons_succ]
          refine BtL.one_d (some 78) (i := 6) rfl rfl (by kernel_rfl) (by rfl) 11 #[.pointer (some ⟨q, 0, none⟩), .slice ob n cb] (by go_simp) ?_
          refine kput.mono ?_
          rintro e u4 ⟨rfl, F4, hB4, hM4⟩
          have hP4 := hPd.keep hM4.1 hpq hvq
          have d2 := (hP4.1.2 2 _ rfl).1
          rw [hfl] at d2
          refine ⟨_, rfl, d2, fun hHeld => ?_⟩
          simp only [Act.put, List.setIfInBounds_toArray, List.set_cons_zero, List.set_cons_succ]
          obtain ⟨v4, hs4, ho4, hF4, hn4⟩ := id hB4
          obtain ⟨oc, cc, rfl, _, _, hrow4, _⟩ := ho4.rowOf bEnc_len
          rw [HN2.out] at hs4
          have d0 := (hs4.2 0 _ rfl).1
          have d1 := (hP4.1.2 1 _ rfl).1
          rw [HA.out] at d1
          refine BtL.held_mono (S' := (fun w' => w'.cell? ⟨p, 2, none⟩ = some (.bool false) ∧ w'.cell? ⟨p, 1, none⟩ = some (.int .i64 (A : Int)) ∧ w'.cell? ⟨q, 0, none⟩ = some (.slice oc n2 cc))) (fun w h => h.1) ?_
          have hHeld2 : (fun w' => w'.cell? ⟨p, 2, none⟩ = some (.bool false) ∧ w'.cell? ⟨p, 1, none⟩ = some (.int .i64 (A : Int)) ∧ w'.cell? ⟨q, 0, none⟩ = some (.slice oc n2 cc)) u4 := ⟨d2, d1, d0⟩
          refine BtL.take_d (some 79) (i := 7) (v := ?_) rfl rfl (by kernel_rfl) (by kernel_rfl) (by kernel_rfl) (fun _ _ _ h => h) (Or.inl ⟨by rfl, ?_⟩) (by assumption) ?_
          rotate_left
          · (intro w hSw; (try dsimp only at hSw); go_simp; try with_reducible rfl)
          simp only [Act.put, List.setIfInBounds_toArray, List.set_cons_zero, List.set_cons_succ]
          refine BtL.take_d (some 80) (i := 8) (v := ?_) rfl rfl (by kernel_rfl) (by kernel_rfl) (by kernel_rfl) (fun _ _ _ h => h) (Or.inl ⟨by rfl, ?_⟩) (by assumption) ?_
          rotate_left
          · (intro w hSw; (try dsimp only at hSw); go_simp; try with_reducible rfl)
          simp only [Act.put, List.setIfInBounds_toArray, List.set_cons_zero, List.set_cons_succ]
          refine BtL.take_d (some 81) (i := 9) (v := ?_) rfl rfl (by kernel_rfl) (by kernel_rfl) (by kernel_rfl) (fun _ _ _ h => h) (Or.inl ⟨by rfl, ?_⟩) (by assumption) ?_
          rotate_left
          · (intro w hSw; (try dsimp only at hSw); go_simp; try with_reducible rfl)
          simp only [Act.put, List.setIfInBounds_toArray, List.set_cons_zero, List.set_cons_succ]
          refine BtL.take_d (some 82) (i := 10) (v := ?_) rfl rfl (by kernel_rfl) (by kernel_rfl) (by kernel_rfl) (fun _ _ _ h => h) (Or.inl ⟨by rfl, ?_⟩) (by assumption) ?_
          rotate_left
          · (intro w hSw; (try dsimp only at hSw); go_simp; try with_reducible rfl)
          simp only [Act.put, List.setIfInBounds_toArray, List.set_cons_zero, List.set_cons_succ]
          refine BtL.take_d (some 83) (i := 11) (v := ?_) rfl rfl (by kernel_rfl) (by kernel_rfl) (by kernel_rfl) (fun _ _ _ h => h) (Or.inl ⟨by rfl, ?_⟩) (by assumption) ?_
          rotate_left
          · (intro w hSw; (try dsimp only at hSw); go_simp; try with_reducible rfl)
          simp only [Act.put, List.setIfInBounds_toArray, List.set_cons_zero, List.set_cons_succ]
          refine BtL.take_d (some 84) (i := 12) (v := ?_) rfl rfl (by kernel_rfl) (by kernel_rfl) (by kernel_rfl) (fun _ _ _ h => h) (Or.inl ⟨by rfl, ?_⟩) (by assumption) ?_
          rotate_left
          · (intro w hSw; (try dsimp only at hSw); go_simp; try with_reducible rfl)
          simp only [Act.put, List.setIfInBounds_toArray, List.set_cons_zero, List.set_cons_succ]
          refine BtL.take_d (some 85) (i := 13) (v := ?_) rfl rfl (by kernel_rfl) (by kernel_rfl) (by kernel_rfl) (fun _ _ _ h => h) (Or.inl ⟨by rfl, ?_⟩) (by assumption) ?_
          rotate_left
          · (intro w hSw; (try dsimp only at hSw); go_simp; try with_reducible rfl)
          simp only [Act.put, List.setIfInBounds_toArray, List.set_cons_zero, List.set_cons_succ]
          refine BtL.take_d (some 86) (i := 14) (v := ?_) rfl rfl (by kernel_rfl) (by kernel_rfl) (by kernel_rfl) (fun _ _ _ h => h) (Or.inl ⟨by rfl, ?_⟩) (by assumption) ?_
          rotate_left
          · (intro w hSw; (try dsimp only at hSw); go_simp; try with_reducible rfl)
          simp only [Act.put, List.setIfInBounds_toArray, List.set_cons_zero, List.set_cons_succ]
          refine BtL.take_d (some 87) (i := 15) (v := ?_) rfl rfl (by kernel_rfl) (by kernel_rfl) (by kernel_rfl) (fun _ _ _ h => h) (Or.inl ⟨by rfl, ?_⟩) (by assumption) ?_
          rotate_left
          · (intro w hSw; (try dsimp only at hSw); go_simp; try with_reducible rfl)
          simp only [Act.put, List.setIfInBounds_toArray, List.set_cons_zero, List.set_cons_succ]
          refine BtL.take_d (some 88) (i := 16) (v := ?_) rfl rfl (by kernel_rfl) (by kernel_rfl) (by kernel_rfl) (fun _ _ _ h => h) (Or.inl ⟨by rfl, ?_⟩) (by assumption) ?_
          rotate_left
          · (intro w hSw; (try dsimp only at hSw); go_simp; try with_reducible rfl)
          simp only [Act.put, List.setIfInBounds_toArray, List.set_cons_zero, List.set_cons_succ]
          refine BtL.take_d (some 89) (i := 17) (v := ?_) rfl rfl (by kernel_rfl) (by kernel_rfl) (by kernel_rfl) (fun _ _ _ h => h) (Or.inl ⟨by rfl, ?_⟩) (by assumption) ?_
          rotate_left
          · (intro w hSw; (try dsimp only at hSw); go_simp; try with_reducible rfl)
          simp only [Act.put, List.setIfInBounds_toArray, List.set_cons_zero, List.set_cons_succ]
          refine BtL.take_d (some 90) (i := 18) (v := ?_) rfl rfl (by kernel_rfl) (by kernel_rfl) (by kernel_rfl) (fun _ _ _ h => h) (Or.inl ⟨by rfl, ?_⟩) (by assumption) ?_
          rotate_left
          · (intro w hSw; (try dsimp only at hSw); go_simp; try with_reducible rfl)
          simp only [Act.put, List.setIfInBounds_toArray, List.set_cons_zero, List.set_cons_succ]
          try rw [hsub]
          refine BtL.take_d (some 91) (i := 19) (v := ?_) rfl rfl (by kernel_rfl) (by kernel_rfl) (by kernel_rfl) (fun _ _ _ h => h) (Or.inl ⟨by rfl, ?_⟩) (by assumption) ?_
          rotate_left
          · (intro w hSw; (try dsimp only at hSw); go_simp; try with_reducible rfl)
          simp only [Act.put, List.setIfInBounds_toArray, List.set_cons_zero, List.set_cons_succ]
          try rw [hneq]
          refine BtL.take_d (some 92) (i := 20) (v := ?_) rfl rfl (by kernel_rfl) (by kernel_rfl) (by kernel_rfl) (fun _ _ _ h => h) (Or.inl ⟨by rfl, ?_⟩) (by assumption) ?_
          rotate_left
          · (intro w hSw; (try dsimp only at hSw); go_simp; try with_reducible rfl)
          simp only [Act.put, List.setIfInBounds_toArray, List.set_cons_zero, List.set_cons_succ]
          refine wpAnyH_done (by kernel_rfl) ?_ _
          have hT4 : Turned [p] w u4 := hTd.trans (hM4.1.mono (S' := [p, q]) (by simp)) (by
            intro k hk hl
            simp at hk
            rcases hk with rfl | rfl
            · simp
            · have := hTd.size; have := hqw; omega)
          have ho4' := hod.keep hM4.1 hoq
          have hl0 : rr.l = r.l := by rw [HRR.out]; exact Cm.rdRow_l r
          have HROWS : Hid (RowOf 1 bEnc oc (Cm.all lr) u4) := hrow4
          obtain ⟨hsP, ⟨ov, cv, rfl, hcv, hrowP, hdP⟩, hwP, hmP⟩ := id hP4
          have HRP : Hid (RowOf 1 bEnc ov rr.l u4) := hrowP
          have HLL : Hid (rr.l.length ≤ 4294967296 * 8 ∧ A ≤ rr.l.length ∧ rr.l = r.l) := by
            unfold Bt.Rd.wf at hwP
            rw [HA.out] at hwP
            exact ⟨hmP, hwP, hl0⟩
          obtain ⟨n3, hn3⟩ : ∃ n3, n3 = rr.l.length := ⟨_, rfl⟩
          have HN3 : Hid (n3 = rr.l.length) := hn3
          rw [← hn3] at hsP
          clear hrow4 hrowP hdP hwP hmP hl0 hn3 hcv hHeld hHeld2 d0 d1 d2 hod kput c2
          go_wp2_with fail
          go_loopw [13] (fun i wq => ∃ j : Nat, j ≤ n2 ∧ i = .int .i64 (j : Int) ∧ (Cm.all lr).take j = r.rest.take j ∧ Turned [] u4 wq) (fun i _ => n2 - (intOf i).toNat)
          case atStart => exact ⟨0, by omega, rfl, by simp, Turned.refl _ _⟩
          case round =>
            obtain ⟨j, hj, rfl, htk, hTq⟩ := hrel
            have d0 := ((hs4.keep hTq (by simp)).2 0 _ rfl).1
            have e0 := ((hsP.keep hTq (by simp)).2 0 _ rfl).1
            by_cases hlt : (j : Int) < (n2 : Int)
            · obtain ⟨a, ha⟩ : ∃ a, (Cm.all lr)[j]? = some a := ⟨_, List.getElem?_eq_getElem (by have := HN2.out; omega)⟩
              obtain ⟨b, hb⟩ : ∃ b, rr.l[r.at_ + j]? = some b := ⟨_, List.getElem?_eq_getElem (by have := HLL.out; have := HAN.out; omega)⟩
              obtain ⟨g1, o1, rfl, hg1, hc1⟩ := (HROWS.out.turned hTq (by simp)) _ _ ha
              obtain ⟨g2, o2, rfl, hg2, hc2⟩ := (HRP.out.turned hTq (by simp)) _ _ hb
              have e1 := hc1 0 _ rfl
              have e2 := hc2 0 _ rfl
              rw [Nat.mul_one, Nat.add_zero] at e1 e2
              have hbnd : (r.at_ : Int) + (j : Int) < (n3 : Int) := by have := HLL.out; have := HAN.out; have := HN3.out; omega
              have hbig : (n3 : Int) ≤ 34359738368 := by have := HLL.out; have := HN3.out; omega
              have hb' : r.rest[j]? = some b := by
                have h1 := HLL.out.2.2
                rw [h1] at hb
                unfold Bt.Rd.rest
                rw [List.getElem?_drop]; exact hb
              by_cases hab : a = b
              · subst hab
                have HTK : Hid ((Cm.all lr).take (j + 1) = r.rest.take (j + 1)) := by
                  show _ = _
                  rw [List.take_add_one, List.take_add_one, htk, ha, hb']
                have hne : (a != a) = false := by simp
                clear htk ha hb hb' hc1 hc2
                go_wp2_with fail
                go_region
                go_wp2_with fail
                all_goals
                  go_roundw
                  case rel => exact ⟨j + 1, by omega, by go_num, HTK.out, hTq.drew⟩
                  case measure => simp [intOf]; omega
              · have HNO : Hid (∀ l, ¬ Cm.Next r l) := Cm.none_bit (by rw [← HLR.out]; exact ha) (by rw [← HLL.out.2.2]; exact hb) hab
                have hne : (!(a == b)) = true := by simpa using hab
                clear htk ha hb hb' hc1 hc2
                go_wp2_with fail
                go_region
                go_wp2_with fail
                go_ret2
                exact Or.inr ⟨HNO.out, rfl, ⟨rr, hP4.keep hTq.drew (by simp) (by simp)⟩, hT4.trans hTq.drew (by simp)⟩
            · have hj' : j = n2 := by omega
              subst hj'
              have hnb := Cm.next_of_bits (r := r) (by rw [← HRR.out]; exact hfl) (by rw [← HLR.out]; exact HROW.out) (by rw [← HLR.out, HN2.out]; exact htk)
              rw [← HLR.out, ← HRR.out] at hnb
              have HNB : Hid (Cm.Next r lr ∧ rr = ⟨r.l, r.at_ + (Cm.all lr).length, false⟩) := hnb
              clear hnb htk
              go_wp2_with fail
              go_ret2
              exact Or.inl ⟨lr, HNB.out.1, _, rfl, ho4'.keep hTq (by simp), hnew, by rw [← HNB.out.2]; exact hP4.keep hTq (by simp) (by simp), hT4.trans hTq (by simp)⟩
end CmR
end Go.Proofs.Ytodfgekhffeapaa

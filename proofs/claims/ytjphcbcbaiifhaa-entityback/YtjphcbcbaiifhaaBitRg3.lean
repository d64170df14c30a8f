/- What the reference's reader of bits answers, as a call: small numbers, the whole (BtG). -/
import Derived.Test.YtjphcbcbaiifhaaBitRg2
import Derived.Test.YtjphcbcbaiifhaaKept
import Derived.Test.YtjphcbcbaiifhaaBitRd2
namespace Go.Proofs.Ytjphcbcbaiifhaa
open Go.RowKit
set_option linter.unusedVariables false

namespace BtG
open BtW (int_ret puts)
open BtD (eight lacks rest_on)
theorem u_mod {n c x : Nat} : (n % 18446744073709551616 + x * (c % 18446744073709551616) % 18446744073709551616) % 18446744073709551616 = (n + c * x) % 18446744073709551616 := by
  rw [Nat.mul_comm c x, Nat.add_mod n, Nat.mul_mod x c, Nat.mul_mod x (c % _), Nat.mod_mod]
theorem one_mod {c : Nat} : (c % 18446744073709551616 * 128) % 18446744073709551616 = (c * 128) % 18446744073709551616 := by
  rw [Nat.mul_mod (c % _), Nat.mod_mod, ← Nat.mul_mod]

theorem row_sub {g off a m : Nat} {l : List Bool} {w : World} (h : RowOf 1 bEnc (some ⟨g, off, none⟩) l w) : RowOf 1 bEnc (some ⟨g, off + a, none⟩) ((l.drop a).take m) w := by
  intro i b hi
  have hi' : l[a + i]? = some b := by
    have h1 : i < m := by
      have := (List.getElem?_eq_some_iff.1 hi).1
      rw [List.length_take] at this
      omega
    rw [List.getElem?_take_of_lt h1, List.getElem?_drop] at hi
    exact hi
  obtain ⟨g', off', ho, hlt, hc⟩ := h _ _ hi'
  simp at ho
  obtain ⟨rfl, rfl⟩ := ho
  refine ⟨g, off + a, rfl, hlt, fun j u hu => ?_⟩
  have := hc j u hu
  rw [show off + (a + i) * 1 + j = off + a + i * 1 + j by omega] at this
  exact this
theorem same_kept {g off cap at_ m : Nat} {l : List Bool} {V : Nat} {X : Int} {w3 : World} (hrow : RowOf 1 bEnc (some ⟨g, off, none⟩) l w3) (hm : at_ + m ≤ l.length) (hl : l.length ≤ 1099511627776) (hV : V < 18446744073709551616) (hX : X = Bt.zag V) (x : KeptW w3) :
    Calls Try.prog 60 #[.slice (some ⟨g, off + at_, none⟩) m (cap - at_), .int .i64 X] x.u fun e w'' => e = .returned (.bool (decide ((l.drop at_).take m = Bt.sm (Bt.zig (Bt.zag V))))) ∧ ∃ y : KeptW w3, w'' = y.u := by
  subst hX
  have hlen : ((l.drop at_).take m).length = m := by rw [List.length_take, List.length_drop]; omega
  have hr : RowOf 1 bEnc (some ⟨g, off + at_, none⟩) ((l.drop at_).take m) x.u := (row_sub hrow).keep x.h
  have := same_any (some ⟨g, off + at_, none⟩) (cap - at_) ((l.drop at_).take m) (Bt.zag V) (Bt.zag_lo hV) (Bt.zag_hi hV) x.u hr (by omega)
  rw [hlen] at this
  exact kept_call (this.mono fun e w' h => ⟨h.1, h.2.none⟩)

set_option maxHeartbeats 4000000 in
theorem small_go (p : Nat) (v : Value) (r : Bt.Rd) (w : World) (h : RRd p v r w) (hf : r.fail = false) :
    Calls Try.prog 51 #[.pointer (some ⟨p, 0, none⟩)] w fun e w' => e = .returned (.int .i64 r.sTell) ∧ RRd p v r.sTake w' ∧ Turned [p] w w' := by
  have c1 := (h.1.2 1 _ rfl).1
  have c2 := (h.1.2 2 _ rfl).1
  rw [hf] at c2
  have hwf : r.at_ ≤ r.l.length := h.2.2.1
  have hm := h.2.2.2
  have h00 : RRd p v ⟨r.l, r.at_ + 8 * 0, false⟩ w := by rw [Nat.mul_zero, Nat.add_zero, ← hf]; exact h
  go_enter Try.func51, Try.ntmps51
  go_wp2_with fail
  go_loopw [4, 5, 6] (fun uv one kv wr => ∃ j n : Nat, j ≤ 10 ∧ kv = .int .i64 (j : Int) ∧ uv = .int .u64 ((n % 18446744073709551616 : Nat) : Int) ∧ one = .int .u64 ((128 ^ j % 18446744073709551616 : Nat) : Int) ∧ RRd p v ⟨r.l, r.at_ + 8 * j, false⟩ wr ∧ Turned [p] w wr ∧ Bt.grp 10 r.rest = glay j n (Bt.grp (10 - j) (r.rest.drop (8 * j)))) (fun _ _ kv _ => 10 - (intOf kv).toNat)
  case atStart =>
    refine ⟨0, 0, by omega, rfl, rfl, rfl, h00, Turned.refl _ _, ?_⟩
    rw [Nat.mul_zero, List.drop_zero]
    show Bt.grp 10 r.rest = glay 0 0 (Bt.grp 10 r.rest)
    cases Bt.grp 10 r.rest with
    | none => rfl
    | some q => simp [glay]
  case round =>
    obtain ⟨j, n, hj, rfl, rfl, rfl, hP, hT, hG⟩ := hrel
    obtain ⟨rj, hrj⟩ : ∃ rj, rj = (⟨r.l, r.at_ + 8 * j, false⟩ : Bt.Rd) := ⟨_, rfl⟩
    obtain ⟨hr0, hr1⟩ := rest_on hrj
    have hfj : rj.fail = false := by rw [hrj]
    rw [← hrj] at hP
    have HG : Hid (Bt.grp 10 r.rest = glay j n (Bt.grp (10 - j) rj.rest)) := by rw [hr0]; exact hG
    clear hG h00 c1 c2
    have hrl : rj.l = r.l := by rw [hrj]
    have hra : rj.at_ + 8 = r.at_ + 8 * (j + 1) := by rw [hrj]; show r.at_ + 8 * j + 8 = _; omega
    by_cases hlt : (j : Int) < 10
    · have k1 := take_any p v rj 1 wr hP
      have k2 := fun w2 (h2 : RRd p v (rj.take 1) w2) => take_any p v (rj.take 1) 7 w2 h2
      by_cases h8 : rj.left < 8
      · have hlk := lacks hfj h8
        have HN : Hid (Bt.small r.rest = none) := small_no (by rw [HG.out]; exact grp_short (by rw [Bt.Rd.rest_length]; exact h8))
        have hc3 : ∀ w3, RRd p v ((rj.take 1).take 7) w3 → w3.cell? ⟨p, 2, none⟩ = some (.bool true) ∧ (∃ z, w3.cell? ⟨p, 1, none⟩ = some z) ∧ w3.frozen? ⟨p, 1, none⟩ = false := by
          intro w3 h3
          have := (h3.1.2 2 _ rfl).1
          rw [hlk] at this
          exact ⟨this, ⟨_, (h3.1.2 1 _ rfl).1⟩, (h3.1.2 1 _ rfl).2⟩
        have hll : ((rj.take 1).take 7).l = r.l := by
          have hl1 : ∀ (q : Bt.Rd) (m : Int), (q.take m).l = q.l := fun q m => by unfold Bt.Rd.take; split <;> rfl
          rw [hl1, hl1, hrl]
        have hmv : ∀ w3, RRd p v ((rj.take 1).take 7) w3 → RRd p v ⟨r.l, r.at_, true⟩ (w3.setCell ⟨p, 1, none⟩ (.int .i64 (r.at_ : Int))) ∧ Turned [p] w3 (w3.setCell ⟨p, 1, none⟩ (.int .i64 (r.at_ : Int))) := by
          intro w3 h3
          have := moves (n := r.at_) h3 (Turned.refl _ _) (by rw [hll]; exact hwf)
          rw [hll, hlk] at this
          exact this
        clear hP hlk h8 hr0 hr1 hrj HG
        go_wp2_with (first | (go_at_call 50; with_reducible refine k1.mono ?_; rintro e w2 ⟨rfl, hP2, hT2⟩) | (go_at_call 50; with_reducible refine (k2 w2 hP2).mono ?_; rintro e w3 ⟨rfl, hP3, hT3⟩; obtain ⟨d2, ⟨z1, d1⟩, f1⟩ := hc3 w3 hP3))
        go_ret
        obtain ⟨e1, e2⟩ := st_none hf HN.out
        rw [e1, e2]
        exact ⟨rfl, (hmv w3 hP3).1, ((hT.trans hT2 (fun k hk _ => hk)).trans hT3 (fun k hk _ => hk)).trans (hmv w3 hP3).2 (fun k hk _ => hk)⟩
      · obtain ⟨t1, t2, t3⟩ := eight hfj (by omega)
        obtain ⟨b, hb⟩ : ∃ b, b = rj.rest.headD false := ⟨_, rfl⟩
        obtain ⟨x, hx⟩ : ∃ x, x = Bt.val ((rj.rest.drop 1).take 7) := ⟨_, rfl⟩
        have hx128 : x < 128 := by
          rw [hx]
          have := Bt.val_lt ((rj.rest.drop 1).take 7)
          rw [List.length_take, List.length_drop, Bt.Rd.rest_length, Nat.min_eq_left (by omega)] at this
          exact this
        have hsplit : rj.rest = b :: rj.rest.drop 1 ∧ ¬ (rj.rest.drop 1).length < 7 := by
          have hl := rj.rest_length
          refine ⟨?_, by rw [List.length_drop]; omega⟩
          cases hr : rj.rest with
          | nil => rw [hr] at hl; simp at hl; omega
          | cons a t => rw [hb, hr]; rfl
        have hmore : b = true → Bt.grp 10 r.rest = glay (j + 1) (n + 128 ^ j * x) (Bt.grp (10 - (j + 1)) (r.rest.drop (8 * (j + 1)))) := by
          rintro rfl
          rw [HG.out, show 10 - j = (10 - (j + 1)) + 1 by omega, hsplit.1, grp_next hsplit.2, ← hx]
          have : (rj.rest.drop 1).drop 7 = r.rest.drop (8 * (j + 1)) := by rw [List.drop_drop]; exact hr1
          rw [this]
        have hend : b = false → Bt.grp 10 r.rest = some (n + 128 ^ j * x, j + 1) := by
          rintro rfl
          rw [HG.out, show 10 - j = (10 - (j + 1)) + 1 by omega, hsplit.1, grp_end hsplit.2, ← hx]
        rw [t1, ← hb] at k1
        rw [t2, ← hx, t3, hrl, hra] at k2
        clear hsplit hb hx t1 t2 t3 hr0 hr1 h8 HG hrj
        have hc3 : ∀ w3, RRd p v ⟨r.l, r.at_ + 8 * (j + 1), false⟩ w3 → w3.cell? ⟨p, 2, none⟩ = some (.bool false) := fun w3 h3 => (h3.1.2 2 _ rfl).1
        have hu : IntKind.u64.wrap (((n % 18446744073709551616 : Nat) : Int) + IntKind.u64.wrap ((x : Int) * ((128 ^ j % 18446744073709551616 : Nat) : Int))) = (((n + 128 ^ j * x) % 18446744073709551616 : Nat) : Int) := by
          rw [wrapu, wrapu, ← u_mod]
          have hc : (x : Int) * ((128 ^ j % 18446744073709551616 : Nat) : Int) = ((x * (128 ^ j % 18446744073709551616) : Nat) : Int) := (Int.natCast_mul _ _).symm
          rw [hc]
          generalize x * (128 ^ j % 18446744073709551616) = q
          omega
        have ho : IntKind.u64.wrap (((128 ^ j % 18446744073709551616 : Nat) : Int) * 128) = ((128 ^ (j + 1) % 18446744073709551616 : Nat) : Int) := by
          rw [wrapu, Nat.pow_succ, ← one_mod]
          omega
        cases b with
        | true =>
          have HM : Hid (Bt.grp 10 r.rest = glay (j + 1) (n + 128 ^ j * x) (Bt.grp (10 - (j + 1)) (r.rest.drop (8 * (j + 1))))) := hmore rfl
          have hk1 : Calls Try.prog 50 #[.pointer (some ⟨p, 0, none⟩), .int .i64 1] wr fun e w' => e = .returned (.int .u64 1) ∧ RRd p v (rj.take 1) w' ∧ Turned [p] wr w' := k1
          clear hmore hend k1 hP
          generalize (n % 18446744073709551616) = N at *
          generalize (128 ^ j % 18446744073709551616) = O at *
          go_wp2_with (first | (go_at_call 50; with_reducible refine hk1.mono ?_; rintro e w2 ⟨rfl, hP2, hT2⟩) | (go_at_call 50; with_reducible refine (k2 w2 hP2).mono ?_; rintro e w3 ⟨rfl, hP3, hT3⟩; have d2 := hc3 w3 hP3))
          go_roundw
          case rel => exact ⟨j + 1, n + 128 ^ j * x, by omega, by go_num, by go_num, by go_num, hP3, (hT.trans hT2 (fun k hk _ => hk)).trans hT3 (fun k hk _ => hk), HM.out⟩
          case measure => simp [intOf]; omega
        | false =>
          have HM := hend rfl
          have HQ : Hid (Bt.small r.rest = if r.rest.take (8 * (j + 1)) = Bt.sm (Bt.zig (Bt.zag ((n + 128 ^ j * x) % 18446744073709551616))) then some (Bt.zag ((n + 128 ^ j * x) % 18446744073709551616), 8 * (j + 1)) else none) := small_same HM
          have hk1 : Calls Try.prog 50 #[.pointer (some ⟨p, 0, none⟩), .int .i64 1] wr fun e w' => e = .returned (.int .u64 0) ∧ RRd p v (rj.take 1) w' ∧ Turned [p] wr w' := k1
          have hV : (n + 128 ^ j * x) % 18446744073709551616 < 18446744073709551616 := Nat.mod_lt _ (by omega)
          clear hmore hend k1 hP HM
          generalize (n + 128 ^ j * x) % 18446744073709551616 = V at *
          generalize (n % 18446744073709551616) = N at *
          generalize (128 ^ j % 18446744073709551616) = O at *
          have hcells : ∀ w3, RRd p v ⟨r.l, r.at_ + 8 * (j + 1), false⟩ w3 → ∃ g off cap, v = .slice (some ⟨g, off, none⟩) r.l.length cap ∧ r.l.length ≤ cap ∧ r.at_ + 8 * (j + 1) ≤ r.l.length ∧ w3.cell? ⟨p, 0, none⟩ = some v ∧ w3.cell? ⟨p, 1, none⟩ = some (.int .i64 ((r.at_ + 8 * (j + 1) : Nat) : Int)) ∧ w3.frozen? ⟨p, 1, none⟩ = false ∧ w3.frozen? ⟨p, 2, none⟩ = false ∧ p < w3.heap.size ∧ RowOf 1 bEnc (some ⟨g, off, none⟩) r.l w3 := by
            intro w3 h3
            obtain ⟨hs, ⟨oa, cap, rfl, hcap, hr, hd⟩, hw, _⟩ := h3
            have hw' : r.at_ + 8 * (j + 1) ≤ r.l.length := hw
            obtain ⟨b, hb⟩ : ∃ b, r.l[0]? = some b := ⟨_, List.getElem?_eq_getElem (by omega)⟩
            obtain ⟨g, off, rfl, _, _⟩ := hr _ _ hb
            exact ⟨g, off, cap, rfl, hcap, hw', (hs.2 0 _ rfl).1, (hs.2 1 _ rfl).1, (hs.2 1 _ rfl).2, (hs.2 2 _ rfl).2, hs.1, hr⟩
          by_cases hE : r.rest.take (8 * (j + 1)) = Bt.sm (Bt.zig (Bt.zag V))
          · have HS : Hid (Bt.small r.rest = some (Bt.zag V, 8 * (j + 1))) := by show _ = _; rw [HQ.out, if_pos hE]
            have HD : Hid (decide ((r.l.drop r.at_).take (8 * (j + 1)) = Bt.sm (Bt.zig (Bt.zag V))) = true) := decide_eq_true hE
            clear HQ hE
            by_cases hodd : V % 2 = 1
            · have hz : Bt.zag V = -((V / 2 : Nat) : Int) - 1 := by unfold Bt.zag; rw [if_pos hodd]
              have hodd' : (V : Int) % 2 = 1 := by omega
              go_wp2_with (first | (go_at_call 50; with_reducible refine hk1.mono ?_; rintro e w2 ⟨rfl, hP2, hT2⟩) | (go_at_call 50; with_reducible refine (k2 w2 hP2).mono ?_; rintro e w3 ⟨rfl, hP3, hT3⟩; have d2 := hc3 w3 hP3))
              obtain ⟨g, off, cap, rfl, hcap, hwl, d0, d1, f1, f2, hpl, hrow⟩ := hcells w3 hP3
              have ne : Nonempty (KeptW w3) := KeptW.one w3
              have q0 := KeptW.at hpl d0
              have q1 := KeptW.at hpl d1
              have q2 := KeptW.at hpl d2
              have p1 := KeptW.unfrozen hpl f1
              have p2 := KeptW.unfrozen hpl f2
              have b1 : (r.at_ : Int) + 8 * ((j : Int) + 1) ≤ (cap : Int) := by omega
              have b2 : r.at_ + 8 * (j + 1) ≤ cap := by omega
              have ksame : ∀ x : KeptW w3, Calls Try.prog 60 #[.slice (some ⟨g, off + r.at_, none⟩) (8 * (j + 1)) (cap - r.at_), .int .i64 (-((V : Int) / 2) - 1)] x.u fun e w'' => e = .returned (.bool true) ∧ ∃ y : KeptW w3, w'' = y.u := by
                intro x
                have := same_kept (cap := cap) (X := (-((V : Int) / 2) - 1)) hrow hwl (by omega) hV (by rw [hz]; simp) x
                rw [show decide ((r.l.drop r.at_).take (8 * (j + 1)) = Bt.sm (Bt.zig (Bt.zag V))) = true from HD.out] at this
                exact this
              have HR : Hid (RowOf 1 bEnc (some ⟨g, off, none⟩) r.l w3) := hrow
              have HM := fun x : KeptW w3 => moves (n := r.at_) hP3 (Turned.ofBelow x.h |>.mono (by simp)) hwf
              have HP3 := hP3
              clear hrow hcells hc3 hk1 k2 hP2 hu ho d0 d1 d2 f1 f2
              refine wp_region_kept (by kernel_rfl) (by kernel_rfl) ?_
              repeat (go_big_quiet_step (first | (go_at_call 60; with_reducible exact ksame _)))
              refine wpQuiet_nil ?_
              rintro _ ⟨y, rfl⟩
              have hTy : Turned [p] w y.u := (((hT.trans hT2 (fun k hk _ => hk)).trans hT3 (fun k hk _ => hk)).trans (Turned.ofBelow y.h) (by simp))
              have z1 := q1 y
              have z2 := q2 y
              have y1 := p1 y
              have y2 := p2 y
              go_wp2
              go_ret
              obtain ⟨e1, e2⟩ := st_some hf HS.out
              rw [e1, e2]
              exact ⟨by rw [hz]; simp, HP3.keep (Turned.ofBelow y.h) (by simp) (by simp), hTy⟩
            · have hz : Bt.zag V = ((V / 2 : Nat) : Int) := by unfold Bt.zag; rw [if_neg hodd]
              have hodd' : (V : Int) % 2 = 0 := by omega
              go_wp2_with (first | (go_at_call 50; with_reducible refine hk1.mono ?_; rintro e w2 ⟨rfl, hP2, hT2⟩) | (go_at_call 50; with_reducible refine (k2 w2 hP2).mono ?_; rintro e w3 ⟨rfl, hP3, hT3⟩; have d2 := hc3 w3 hP3))
              obtain ⟨g, off, cap, rfl, hcap, hwl, d0, d1, f1, f2, hpl, hrow⟩ := hcells w3 hP3
              have ne : Nonempty (KeptW w3) := KeptW.one w3
              have q0 := KeptW.at hpl d0
              have q1 := KeptW.at hpl d1
              have q2 := KeptW.at hpl d2
              have p1 := KeptW.unfrozen hpl f1
              have p2 := KeptW.unfrozen hpl f2
              have b1 : (r.at_ : Int) + 8 * ((j : Int) + 1) ≤ (cap : Int) := by omega
              have b2 : r.at_ + 8 * (j + 1) ≤ cap := by omega
              have ksame : ∀ x : KeptW w3, Calls Try.prog 60 #[.slice (some ⟨g, off + r.at_, none⟩) (8 * (j + 1)) (cap - r.at_), .int .i64 ((V : Int) / 2)] x.u fun e w'' => e = .returned (.bool true) ∧ ∃ y : KeptW w3, w'' = y.u := by
                intro x
                have := same_kept (cap := cap) (X := ((V : Int) / 2)) hrow hwl (by omega) hV (by rw [hz]; simp) x
                rw [show decide ((r.l.drop r.at_).take (8 * (j + 1)) = Bt.sm (Bt.zig (Bt.zag V))) = true from HD.out] at this
                exact this
              have HR : Hid (RowOf 1 bEnc (some ⟨g, off, none⟩) r.l w3) := hrow
              have HM := fun x : KeptW w3 => moves (n := r.at_) hP3 (Turned.ofBelow x.h |>.mono (by simp)) hwf
              have HP3 := hP3
              clear hrow hcells hc3 hk1 k2 hP2 hu ho d0 d1 d2 f1 f2
              refine wp_region_kept (by kernel_rfl) (by kernel_rfl) ?_
              repeat (go_big_quiet_step (first | (go_at_call 60; with_reducible exact ksame _)))
              refine wpQuiet_nil ?_
              rintro _ ⟨y, rfl⟩
              have hTy : Turned [p] w y.u := (((hT.trans hT2 (fun k hk _ => hk)).trans hT3 (fun k hk _ => hk)).trans (Turned.ofBelow y.h) (by simp))
              have z1 := q1 y
              have z2 := q2 y
              have y1 := p1 y
              have y2 := p2 y
              go_wp2
              go_ret
              obtain ⟨e1, e2⟩ := st_some hf HS.out
              rw [e1, e2]
              exact ⟨by rw [hz]; simp, HP3.keep (Turned.ofBelow y.h) (by simp) (by simp), hTy⟩
          · have HS : Hid (Bt.small r.rest = none) := by show _ = _; rw [HQ.out, if_neg hE]
            have HD : Hid (decide ((r.l.drop r.at_).take (8 * (j + 1)) = Bt.sm (Bt.zig (Bt.zag V))) = false) := decide_eq_false hE
            clear HQ hE
            by_cases hodd : V % 2 = 1
            · have hz : Bt.zag V = -((V / 2 : Nat) : Int) - 1 := by unfold Bt.zag; rw [if_pos hodd]
              have hodd' : (V : Int) % 2 = 1 := by omega
              go_wp2_with (first | (go_at_call 50; with_reducible refine hk1.mono ?_; rintro e w2 ⟨rfl, hP2, hT2⟩) | (go_at_call 50; with_reducible refine (k2 w2 hP2).mono ?_; rintro e w3 ⟨rfl, hP3, hT3⟩; have d2 := hc3 w3 hP3))
              obtain ⟨g, off, cap, rfl, hcap, hwl, d0, d1, f1, f2, hpl, hrow⟩ := hcells w3 hP3
              have ne : Nonempty (KeptW w3) := KeptW.one w3
              have q0 := KeptW.at hpl d0
              have q1 := KeptW.at hpl d1
              have q2 := KeptW.at hpl d2
              have p1 := KeptW.unfrozen hpl f1
              have p2 := KeptW.unfrozen hpl f2
              have b1 : (r.at_ : Int) + 8 * ((j : Int) + 1) ≤ (cap : Int) := by omega
              have b2 : r.at_ + 8 * (j + 1) ≤ cap := by omega
              have ksame : ∀ x : KeptW w3, Calls Try.prog 60 #[.slice (some ⟨g, off + r.at_, none⟩) (8 * (j + 1)) (cap - r.at_), .int .i64 (-((V : Int) / 2) - 1)] x.u fun e w'' => e = .returned (.bool false) ∧ ∃ y : KeptW w3, w'' = y.u := by
                intro x
                have := same_kept (cap := cap) (X := (-((V : Int) / 2) - 1)) hrow hwl (by omega) hV (by rw [hz]; simp) x
                rw [show decide ((r.l.drop r.at_).take (8 * (j + 1)) = Bt.sm (Bt.zig (Bt.zag V))) = false from HD.out] at this
                exact this
              have HR : Hid (RowOf 1 bEnc (some ⟨g, off, none⟩) r.l w3) := hrow
              have HM := fun x : KeptW w3 => moves (n := r.at_) hP3 (Turned.ofBelow x.h |>.mono (by simp)) hwf
              have HP3 := hP3
              clear hrow hcells hc3 hk1 k2 hP2 hu ho d0 d1 d2 f1 f2
              refine wp_region_kept (by kernel_rfl) (by kernel_rfl) ?_
              repeat (go_big_quiet_step (first | (go_at_call 60; with_reducible exact ksame _)))
              refine wpQuiet_nil ?_
              rintro _ ⟨y, rfl⟩
              have hTy : Turned [p] w y.u := (((hT.trans hT2 (fun k hk _ => hk)).trans hT3 (fun k hk _ => hk)).trans (Turned.ofBelow y.h) (by simp))
              have z1 := q1 y
              have z2 := q2 y
              have y1 := p1 y
              have y2 := p2 y
              go_wp2
              go_ret
              obtain ⟨e1, e2⟩ := st_none hf HS.out
              rw [e1, e2]
              have HF := fails (HM y).1 (Turned.refl _ _)
              exact ⟨rfl, HF.1, ((((hT.trans hT2 (fun k hk _ => hk)).trans hT3 (fun k hk _ => hk)).trans (HM y).2 (fun k hk _ => hk)).trans HF.2 (fun k hk _ => hk))⟩
            · have hz : Bt.zag V = ((V / 2 : Nat) : Int) := by unfold Bt.zag; rw [if_neg hodd]
              have hodd' : (V : Int) % 2 = 0 := by omega
              go_wp2_with (first | (go_at_call 50; with_reducible refine hk1.mono ?_; rintro e w2 ⟨rfl, hP2, hT2⟩) | (go_at_call 50; with_reducible refine (k2 w2 hP2).mono ?_; rintro e w3 ⟨rfl, hP3, hT3⟩; have d2 := hc3 w3 hP3))
              obtain ⟨g, off, cap, rfl, hcap, hwl, d0, d1, f1, f2, hpl, hrow⟩ := hcells w3 hP3
              have ne : Nonempty (KeptW w3) := KeptW.one w3
              have q0 := KeptW.at hpl d0
              have q1 := KeptW.at hpl d1
              have q2 := KeptW.at hpl d2
              have p1 := KeptW.unfrozen hpl f1
              have p2 := KeptW.unfrozen hpl f2
              have b1 : (r.at_ : Int) + 8 * ((j : Int) + 1) ≤ (cap : Int) := by omega
              have b2 : r.at_ + 8 * (j + 1) ≤ cap := by omega
              have ksame : ∀ x : KeptW w3, Calls Try.prog 60 #[.slice (some ⟨g, off + r.at_, none⟩) (8 * (j + 1)) (cap - r.at_), .int .i64 ((V : Int) / 2)] x.u fun e w'' => e = .returned (.bool false) ∧ ∃ y : KeptW w3, w'' = y.u := by
                intro x
                have := same_kept (cap := cap) (X := ((V : Int) / 2)) hrow hwl (by omega) hV (by rw [hz]; simp) x
                rw [show decide ((r.l.drop r.at_).take (8 * (j + 1)) = Bt.sm (Bt.zig (Bt.zag V))) = false from HD.out] at this
                exact this
              have HR : Hid (RowOf 1 bEnc (some ⟨g, off, none⟩) r.l w3) := hrow
              have HM := fun x : KeptW w3 => moves (n := r.at_) hP3 (Turned.ofBelow x.h |>.mono (by simp)) hwf
              have HP3 := hP3
              clear hrow hcells hc3 hk1 k2 hP2 hu ho d0 d1 d2 f1 f2
              refine wp_region_kept (by kernel_rfl) (by kernel_rfl) ?_
              repeat (go_big_quiet_step (first | (go_at_call 60; with_reducible exact ksame _)))
              refine wpQuiet_nil ?_
              rintro _ ⟨y, rfl⟩
              have hTy : Turned [p] w y.u := (((hT.trans hT2 (fun k hk _ => hk)).trans hT3 (fun k hk _ => hk)).trans (Turned.ofBelow y.h) (by simp))
              have z1 := q1 y
              have z2 := q2 y
              have y1 := p1 y
              have y2 := p2 y
              go_wp2
              go_ret
              obtain ⟨e1, e2⟩ := st_none hf HS.out
              rw [e1, e2]
              have HF := fails (HM y).1 (Turned.refl _ _)
              exact ⟨rfl, HF.1, ((((hT.trans hT2 (fun k hk _ => hk)).trans hT3 (fun k hk _ => hk)).trans (HM y).2 (fun k hk _ => hk)).trans HF.2 (fun k hk _ => hk))⟩
    · have hj10 : j = 10 := by omega
      subst hj10
      have HN : Hid (Bt.small r.rest = none) := small_no HG.out
      rw [hrj] at hP
      have d1 := (hP.1.2 1 _ rfl).1
      have d2 := (hP.1.2 2 _ rfl).1
      have f1 := (hP.1.2 1 _ rfl).2
      have f2 := (hP.1.2 2 _ rfl).2
      have HM := moves (n := r.at_) hP (Turned.refl _ _) hwf
      have HF := fails HM.1 (Turned.refl _ _)
      clear HG hr0 hr1 hrj hfj
      rw [show ((10 : Nat) : Int) = 10 from rfl]
      go_wp2_with fail
      go_ret
      obtain ⟨e1, e2⟩ := st_none hf HN.out
      rw [e1, e2]
      exact ⟨rfl, HF.1, (hT.trans HM.2 (fun k hk _ => hk)).trans HF.2 (fun k hk _ => hk)⟩

set_option maxHeartbeats 1000000 in
theorem small_any (p : Nat) (v : Value) (r : Bt.Rd) (w : World) (h : RRd p v r w) :
    Calls Try.prog 51 #[.pointer (some ⟨p, 0, none⟩)] w fun e w' => e = .returned (.int .i64 r.sTell) ∧ RRd p v r.sTake w' ∧ Turned [p] w w' := by
  by_cases hf : r.fail = true
  · have e1 : r.sTell = 0 := by unfold Bt.Rd.sTell; rw [if_pos hf]
    have e2 : r.sTake = r := by unfold Bt.Rd.sTake; rw [if_pos hf]
    rw [e1, e2]
    have c2 := (h.1.2 2 _ rfl).1
    rw [hf] at c2
    go_enter Try.func51, Try.ntmps51
    go_wp2_with fail
    go_ret
    exact ⟨rfl, h, Turned.refl _ _⟩
  · exact small_go p v r w h (by simpa using hf)

end BtG
end Go.Proofs.Ytjphcbcbaiifhaa

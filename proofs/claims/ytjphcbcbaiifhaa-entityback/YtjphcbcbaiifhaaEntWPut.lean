/- An entity's bits are put on a base: the program's (EnW). -/
import Derived.Test.YtjphcbcbaiifhaaEntWDiff
import Derived.Test.YtjphcbcbaiifhaaEntWForm
import Derived.Test.YtjphcbcbaiifhaaEntPlain3
import Derived.Test.YtjphcbcbaiifhaaEntPut
import Derived.Test.YtjphcbcbaiifhaaBitWr2
namespace Go.Proofs.Ytjphcbcbaiifhaa
open Go.RowKit
set_option linter.unusedVariables false
set_option linter.unusedSimpArgs false

namespace EnW
theorem nums_fix {B : Nat} {e : En.E} {w : World} (h : Struct B (enEnc e) w) : Nums B 2 [e.ax, e.ay, e.vx, e.vy] w := by
  refine ⟨h.1, fun i x hi => ?_⟩
  match i, hi with
  | 0, hi => simp at hi; subst hi; exact h.2 2 _ rfl
  | 1, hi => simp at hi; subst hi; exact h.2 3 _ rfl
  | 2, hi => simp at hi; subst hi; exact h.2 4 _ rfl
  | 3, hi => simp at hi; subst hi; exact h.2 5 _ rfl
  | n + 4, hi => simp at hi
theorem nums_cnt {B : Nat} {e : En.E} {w : World} (h : Struct B (enEnc e) w) : Nums B 6 [e.h, e.t] w := by
  refine ⟨h.1, fun i x hi => ?_⟩
  match i, hi with
  | 0, hi => simp at hi; subst hi; exact h.2 6 _ rfl
  | 1, hi => simp at hi; subst hi; exact h.2 7 _ rfl
  | n + 2, hi => simp at hi
/-- the six differences -/
def dd (b e : En.E) (j : Nat) : Int := wrap64 (En.field e j - En.field b j)
def ds (b e : En.E) : List Int := [dd b e 0, dd b e 1, dd b e 2, dd b e 3, dd b e 4, dd b e 5]
theorem ds_eq (b e : En.E) : apart [b.ax, b.ay, b.vx, b.vy] [e.ax, e.ay, e.vx, e.vy] ++ apart [b.h, b.t] [e.h, e.t] = ds b e := rfl
theorem ds_at (b e : En.E) : ∀ k, k < 6 → (ds b e)[k]? = some (dd b e k) := by
  refine En.six ?_ ?_ ?_ ?_ ?_ ?_ <;> rfl
theorem dd_dif {b e : En.E} (hb : b.wf) (he : e.wf) {k : Nat} (hk : k < 6) : En.dif b e k = !(dd b e k == 0) := by
  have h1 := En.field_wf hb k hk
  have h2 := En.field_wf he k hk
  unfold En.dif dd
  rw [Bool.eq_iff_iff]
  simp only [Bool.not_eq_true', beq_eq_false_iff_ne, ne_eq]
  unfold En.I64 at h1 h2
  unfold wrap64
  omega
theorem il_at {oa : Option Addr} {l : List Int} {w : World} (h : RowOf 1 ilEnc oa l w) {k : Nat} {x : Int} (hk : l[k]? = some x) :
    ∃ g off, oa = some ⟨g, off, none⟩ ∧ g < w.heap.size ∧ w.cell? ⟨g, off + k, none⟩ = some (.int .i64 x) := by
  obtain ⟨g, off, ho, hlt, hc⟩ := h k _ hk
  have := hc 0 _ rfl
  rw [Nat.mul_one, Nat.add_zero] at this
  exact ⟨g, off, ho, hlt, this⟩
theorem row6 {b e : En.E} {v : Value} {w : World} (h : OwnL 2 1 ilEnc v (ds b e) w) : ∃ g cap, v = .slice (some ⟨g, 0, none⟩) 6 cap ∧ blk v = [g] ∧ g < w.heap.size ∧ ∀ k, k < 6 → w.cell? ⟨g, k, none⟩ = some (.int .i64 (dd b e k)) := by
  obtain ⟨g, cap, hv, hb, hlt, _⟩ := h.cell ilEnc_len (ds_at b e 0 (by omega))
  refine ⟨g, cap, hv, hb, hlt, fun k hk => ?_⟩
  obtain ⟨g', cap', hv', _, _, hc⟩ := h.cell ilEnc_len (ds_at b e k hk)
  rw [hv] at hv'
  simp at hv'
  obtain ⟨rfl, rfl⟩ := hv'
  have := (hc 0 _ rfl).1
  rw [Nat.mul_one, Nat.add_zero] at this
  exact this
theorem bit_put (M : List Bool) (b e : En.E) (k : Nat) (x : Int) (hd : En.dif b e k = !(x == 0)) : M ++ En.flags b e k ++ BtW.puts (if x = 0 then 0 else 1 : Int).toNat 1 = M ++ En.flags b e (k + 1) := by
  rw [En.flags_succ, ← List.append_assoc]
  by_cases h : x = 0
  · rw [if_pos h, EnR.puts_0, hd, h]; rfl
  · rw [if_neg h, EnR.puts_1, hd, show (x == 0) = false by simpa using h]; rfl
theorem small_put (M : List Bool) (b e : En.E) (k : Nat) (hd : En.dif b e k = true) : M ++ En.smalls b e k ++ Bt.sm (Bt.zig (dd b e k)) = M ++ En.smalls b e (k + 1) := by
  rw [En.smalls_succ, ← List.append_assoc]
  unfold En.small1
  rw [if_pos hd]
  rfl
theorem small_not (M : List Bool) (b e : En.E) (k : Nat) (hd : En.dif b e k = false) : M ++ En.smalls b e k = M ++ En.smalls b e (k + 1) := by
  rw [En.smalls_succ]
  unfold En.small1
  rw [if_neg (by simp [hd]), List.append_nil]
theorem dd_in (b e : En.E) (k : Nat) : -9223372036854775808 ≤ dd b e k ∧ dd b e k < 9223372036854775808 := En.w64_i _
theorem other_any (x : Int) (w : World) :
    Calls Try.prog 40 #[.int .i64 x] w fun e w' => e = .returned (.int .u64 (if x = 0 then 0 else 1)) ∧ w' = w := by
  by_cases h : x = 0
  · subst h
    go_enter Try.func40, Try.ntmps40
    go_wp2
    go_ret
    exact ⟨rfl, rfl⟩
  · rw [if_neg h]
    go_enter Try.func40, Try.ntmps40
    go_wp2
    go_ret
    exact ⟨rfl, rfl⟩

set_option maxRecDepth 20000 in
set_option maxHeartbeats 8000000 in
theorem put_any (p : Nat) (L : List Bool) (F : List Nat) (b e : En.E) (hb : b.wf) (he : e.wf) (w : World) (hp0 : PW p L F w) (hL : L.length ≤ 137438953472) :
    Calls Try.prog 16 #[.pointer (some ⟨p, 0, none⟩), enVal b, enVal e] w fun r w' => r = .returned (.bool (EnR.fits b e)) ∧ ∃ F', PW p (L ++ if EnR.fits b e then En.all b e else []) F' w' ∧ Moved F F' w w' := by
  have hFl := hp0.lt
  obtain ⟨W0, hW0⟩ : ∃ W0, W0 = (w.alloc (.cells #[.int .i64 b.id, .int .i64 b.kind, .int .i64 b.ax, .int .i64 b.ay, .int .i64 b.vx, .int .i64 b.vy, .int .i64 b.h, .int .i64 b.t] 29)).alloc (.cells #[.int .i64 e.id, .int .i64 e.kind, .int .i64 e.ax, .int .i64 e.ay, .int .i64 e.vx, .int .i64 e.vy, .int .i64 e.h, .int .i64 e.t] 29) := ⟨_, rfl⟩
  have hTW : Turned [] w W0 := by rw [hW0]; exact ((Turned.refl [] w).alloc _).alloc _
  obtain ⟨B1, hB1e⟩ : ∃ B, B = w.heap.size := ⟨_, rfl⟩
  obtain ⟨B2, hB2e⟩ : ∃ B, B = w.heap.size + 1 := ⟨_, rfl⟩
  have hS1 : Struct B1 (enEnc b) W0 := by rw [hW0, hB1e]; exact (Struct.new w (enEnc b) _).keep ((Turned.refl [] _).alloc _) (by simp)
  have hS2 : Struct B2 (enEnc e) W0 := by
    have := Struct.new (w.alloc (.cells (enEnc b).toArray 29)) (enEnc e) 29
    rw [show (w.alloc (.cells (enEnc b).toArray 29)).heap.size = w.heap.size + 1 by simp, ← hB2e] at this
    rw [hW0]
    exact this
  have c0 := (hS1.2 0 _ rfl).1
  have d0 := (hS2.2 0 _ rfl).1
  have c1 := (hS1.2 1 _ rfl).1
  have d1 := (hS2.2 1 _ rfl).1
  have c2 := (hS1.2 2 _ rfl).1
  have d2 := (hS2.2 2 _ rfl).1
  have c3 := (hS1.2 3 _ rfl).1
  have d3 := (hS2.2 3 _ rfl).1
  have c4 := (hS1.2 4 _ rfl).1
  have d4 := (hS2.2 4 _ rfl).1
  have c5 := (hS1.2 5 _ rfl).1
  have d5 := (hS2.2 5 _ rfl).1
  have c6 := (hS1.2 6 _ rfl).1
  have d6 := (hS2.2 6 _ rfl).1
  have c7 := (hS1.2 7 _ rfl).1
  have d7 := (hS2.2 7 _ rfl).1
  have kf := fun u => formed_any e u
  have HL : Hid (L.length ≤ 137438953472) := hL
  clear hL
  by_cases hfit : EnR.fits b e = true
  · obtain ⟨⟨hfm, hid⟩, hkd⟩ : (En.Formed e ∧ b.id = e.id) ∧ b.kind = e.kind := by unfold EnR.fits at hfit; simpa using hfit
    have hfm' : decide (En.Formed e) = true := by simpa using hfm
    rw [hfm'] at kf
    have i1 : (b.id != e.id) = false := by rw [bne_eq_false_iff_eq]; exact hid
    have i2 : (b.kind != e.kind) = false := by rw [bne_eq_false_iff_eq]; exact hkd
    rw [hfit, if_pos rfl]
    clear hfm hfm' hid hkd hfit
    go_enter Try.func16, Try.ntmps16
    go_wp2_with fail
    rw [← hW0, ← hB2e, ← hB1e]
    clear hW0 hB1e hB2e
    go_wp2_with (first | (go_at_call 10; (with_reducible refine (kf _).mono ?_); rintro e0 u0 ⟨rfl, hT0⟩; have hT := hTW.trans hT0 (by simp); have hS1 := hS1.keep hT0 (by simp); have hS2 := hS2.keep hT0 (by simp); have c0 := (hS1.2 0 _ rfl).1; have c1 := (hS1.2 1 _ rfl).1; have c2 := (hS1.2 2 _ rfl).1; have c3 := (hS1.2 3 _ rfl).1; have c4 := (hS1.2 4 _ rfl).1; have c5 := (hS1.2 5 _ rfl).1; have c6 := (hS1.2 6 _ rfl).1; have c7 := (hS1.2 7 _ rfl).1; have d0 := (hS2.2 0 _ rfl).1; have d1 := (hS2.2 1 _ rfl).1; have d2 := (hS2.2 2 _ rfl).1; have d3 := (hS2.2 3 _ rfl).1; have d4 := (hS2.2 4 _ rfl).1; have d5 := (hS2.2 5 _ rfl).1; have d6 := (hS2.2 6 _ rfl).1; have d7 := (hS2.2 7 _ rfl).1) | (go_at_call 36; (with_reducible refine (fixFields_any B1 _).mono ?_); rintro e1 u1 ⟨g1, hg1, rfl, hl1, hT1⟩; have hT := hT.trans hT1 (by simp); have hS1 := hS1.keep hT1 (by simp); have hS2 := hS2.keep hT1 (by simp)) | (go_at_call 36; (with_reducible refine (fixFields_any B2 _).mono ?_); rintro e2 u2 ⟨g2, hg2, rfl, hl2, hT2⟩; have hT := hT.trans hT2 (by simp); have hS1 := hS1.keep hT2 (by simp); have hS2 := hS2.keep hT2 (by simp); have hl1 := hl1.keep hT2 (by simp)) | (go_at_call 35; (with_reducible refine (apartF_any g1 g2 4 B1 B2 2 _ _ rfl rfl (by omega) _ hl1 hl2 (nums_fix hS1) (nums_fix hS2)).mono ?_); rintro e3 u3 ⟨v3, rfl, ho3, hT3, hb3⟩; have h3w : ∀ k ∈ blk v3, w.heap.size ≤ k := (fun k hk => Nat.le_trans hT.size (hb3 k hk)); have hT := hT.trans hT3 (by simp); have hS1 := hS1.keep hT3 (by simp); have hS2 := hS2.keep hT3 (by simp)) | (go_at_call 38; (with_reducible refine (countFields_any B1 _).mono ?_); rintro e4 u4 ⟨g4, hg4, rfl, hl4, hT4⟩; have hT := hT.trans hT4 (by simp); have hS1 := hS1.keep hT4 (by simp); have hS2 := hS2.keep hT4 (by simp); have ho3 := ho3.keep hT4 (by simp)) | (go_at_call 38; (with_reducible refine (countFields_any B2 _).mono ?_); rintro e5 u5 ⟨g5, hg5, rfl, hl5, hT5⟩; have hT := hT.trans hT5 (by simp); have hS1 := hS1.keep hT5 (by simp); have hS2 := hS2.keep hT5 (by simp); have ho3 := ho3.keep hT5 (by simp); have hl4 := hl4.keep hT5 (by simp)) | (go_at_call 37; (with_reducible refine (apartI_any g4 g5 2 B1 B2 6 _ _ rfl rfl (by omega) _ hl4 hl5 (nums_cnt hS1) (nums_cnt hS2)).mono ?_); rintro e6 u6 ⟨v6, rfl, ho6, hT6, hb6⟩; have hT := hT.trans hT6 (by simp); have ho3 := ho3.keep hT6 (by simp); obtain ⟨oa6, cap6, rfl, _, _, hr6, _⟩ := ho6.rowOf ilEnc_len) | (at_builtin; refine wp_pushAll (v := v3) elem_il rfl _ _ rfl rfl ho3 oa6 2 cap6 (apart [b.h, b.t] [e.h, e.t]) rfl rfl hr6 ilEnc_len ilEnc_one (by unfold maxLen; simp [apart]) (by simp [apart]) ?_; intro v7 u7 ho7 hT7 hb7; have h7w : ∀ k ∈ blk v7, w.heap.size ≤ k := (by intro k hk; rcases hb7 with q | q <;> rw [q] at hk; exact h3w k hk; simp at hk; have := hT.size; omega); have hT := hT.trans hT7 (by intro k hk hl; have := h3w k hk; omega); rw [ds_eq] at ho7; obtain ⟨g7, cap7, rfl, hbk7, hg7, hc7⟩ := row6 ho7))
    have hgF : g7 ∉ F := by intro hm; have := hFl g7 hm; have := h7w g7 (by rw [hbk7]; simp); omega
    have hp := hp0.keep hT (by simp)
    have back : ∀ F' u, Moved F F' u7 u → Moved F F' w u := fun F' u h => ⟨hT.mono (S' := F) (by simp) |>.trans h.1 (fun k hk _ => hk), fun k hk => (h.2 k hk).imp id (fun h => Nat.le_trans hT.size h)⟩
    have hcell : ∀ F' u k, Moved F F' u7 u → k < 6 → u.cell? ⟨g7, k, none⟩ = some (.int .i64 (dd b e k)) := fun F' u k h hk => (h.1.cell (p := ⟨g7, k, none⟩) hg7 hgF).trans (hc7 k hk)
    have HW : Hid (b.wf ∧ e.wf) := ⟨hb, he⟩
    clear hb he hp0 hFl hTW hc7 hg7 hgF hbk7 ho7 hT7 hb7 h7w hT hS1 hS2 hT0 hl1 hl2 hl4 hl5 hT1 hT2 hT3 hT4 hT5 hT6 h3w hr6 ho3 hb3 ho6 hb6 hg1 hg2 hg4 hg5 c0 c1 c2 c3 c4 c5 c6 c7 d0 d1 d2 d3 d4 d5 d6 d7 kf i1 i2
    go_loopw [38] (fun i wr => ∃ (k : Nat) (F' : List Nat), k ≤ 6 ∧ i = .int .i64 (k : Int) ∧ PW p (L ++ En.flags b e k) F' wr ∧ Moved F F' u7 wr) (fun i _ => 6 - (intOf i).toNat)
    case atStart => exact ⟨0, F, by omega, rfl, by simpa [En.flags] using hp, Moved.refl _ _⟩
    case round =>
      clear hp
      obtain ⟨k, F1, hk, rfl, hp, hm⟩ := hrel
      by_cases hlt : (k : Int) < 6
      · have cc := hcell _ _ k hm (by omega)
        have HD : Hid (En.dif b e k = !(dd b e k == 0)) := dd_dif HW.out.1 HW.out.2 (by omega)
        obtain ⟨x, hx⟩ : ∃ x, x = dd b e k := ⟨_, rfl⟩
        rw [← hx] at cc HD
        have ko := fun u => other_any x u
        obtain ⟨y, hy⟩ : ∃ y : Int, y = if x = 0 then 0 else 1 := ⟨_, rfl⟩
        have hy0 : 0 ≤ y := by rw [hy]; split <;> omega
        have hy1 : y < 18446744073709551616 := by rw [hy]; split <;> omega
        have HNX := bit_put L b e k x HD.out
        rw [← hy] at ko HNX
        have HNX' : Hid (L ++ En.flags b e k ++ BtW.puts y.toNat 1 = L ++ En.flags b e (k + 1)) := HNX
        have kp := BtW.put_any p _ F1 y 1 hy0 hy1 wr hp (by have := HL.out; rw [List.length_append, En.flags_len]; omega)
        clear HNX hx hy HD
        go_wp2_with (first | (go_at_call 40; (with_reducible refine (ko _).mono ?_); rintro e8 u8 ⟨rfl, rfl⟩) | (go_at_call 39; (with_reducible refine kp.mono ?_); rintro e9 u9 ⟨rfl, F9, hp9, hm9⟩))
        rw [HNX'.out] at hp9
        go_roundw
        case rel => exact ⟨k + 1, F9, by omega, by go_num, hp9, hm.trans hm9⟩
        case measure => simp [intOf]; omega
      · have hk6 : k = 6 := by omega
        subst hk6
        clear hlt
        go_wp2_with fail
        go_loopw [49] (fun i wq => ∃ (k : Nat) (F' : List Nat), k ≤ 6 ∧ i = .int .i64 (k : Int) ∧ PW p (L ++ En.flags b e 6 ++ En.smalls b e k) F' wq ∧ Moved F F' u7 wq) (fun i _ => 6 - (intOf i).toNat)
        case atStart => exact ⟨0, F1, by omega, rfl, by simpa [En.smalls] using hp, hm⟩
        case round =>
          clear hp hm
          obtain ⟨k, F1, hk, rfl, hp, hm⟩ := hrel
          by_cases hlt : (k : Int) < 6
          · have cc := hcell _ _ k hm (by omega)
            have hd := dd_dif HW.out.1 HW.out.2 (k := k) (by omega)
            have hin := dd_in b e k
            cases hz : (dd b e k == 0) with
            | true =>
              have HNX : Hid (L ++ En.flags b e 6 ++ En.smalls b e k = L ++ En.flags b e 6 ++ En.smalls b e (k + 1)) := small_not _ b e k (by rw [hd, hz]; rfl)
              have i1 : (dd b e k != 0) = false := by simpa using hz
              have HZ : Hid ((dd b e k == 0) = true) := hz
              clear hd hz hin
              go_wp2_with fail
              rw [HNX.out] at hp
              go_roundw
              case rel => exact ⟨k + 1, F1, by omega, by go_num, hp, hm⟩
              case measure => simp [intOf]; omega
            | false =>
              have HNX : Hid (L ++ En.flags b e 6 ++ En.smalls b e k ++ Bt.sm (Bt.zig (dd b e k)) = L ++ En.flags b e 6 ++ En.smalls b e (k + 1)) := small_put _ b e k (by rw [hd, hz]; rfl)
              have i1 : (dd b e k != 0) = true := by simpa using hz
              have HZ : Hid ((dd b e k == 0) = false) := hz
              have ks := BtW.small_any p _ F1 (dd b e k) hin.1 hin.2 _ hp (by have := HL.out; have := En.smalls_len b e k; rw [List.length_append, List.length_append, En.flags_len]; omega)
              clear hd hz hin
              go_wp2_with (go_at_call 41; (with_reducible refine ks.mono ?_); rintro r9 z9 ⟨rfl, F9, hp9, hm9⟩)
              rw [HNX.out] at hp9
              refine ⟨⟨_, .int .i64 ((k + 1 : Nat) : Int), _, _, _, _, _, _, _, _, _, ⟨k + 1, F9, by omega, rfl, hp9, hm.trans hm9⟩, by rw [show ((k + 1 : Nat) : Int) = (k : Int) + 1 by omega]; rfl⟩, ?_⟩
              simp [intOf]
              omega
          · have hk6 : k = 6 := by omega
            subst hk6
            clear hlt
            go_wp2_with fail
            go_ret
            refine ⟨rfl, F1, ?_, back _ _ hm⟩
            unfold En.all
            rw [← List.append_assoc]
            exact hp
  · have hff : EnR.fits b e = false := by simpa using hfit
    rw [hff, if_neg (by simp), List.append_nil]
    have done : ∀ u, Turned [] w u → ∃ F', PW p L F' u ∧ Moved F F' w u := fun u h => ⟨F, hp0.keep h (by simp), ⟨h.mono (by simp), fun k hk => .inl hk⟩⟩
    clear hff
    by_cases hfm : En.Formed e
    · rw [show decide (En.Formed e) = true by simpa using hfm] at kf
      by_cases hid : b.id = e.id
      · have hkd : ¬ b.kind = e.kind := by intro h; apply hfit; unfold EnR.fits; simp [hfm, hid, h]
        have i1 : (b.id != e.id) = false := by rw [bne_eq_false_iff_eq]; exact hid
        have i2 : (b.kind != e.kind) = true := by rw [bne_iff_ne]; exact hkd
        clear hid hkd hfm hfit
        go_enter Try.func16, Try.ntmps16
        go_wp2_with fail
        rw [← hW0, ← hB2e, ← hB1e]
        clear hW0 hB1e hB2e
        go_wp2_with (go_at_call 10; (with_reducible refine (kf _).mono ?_); rintro e0 u0 ⟨rfl, hT0⟩; have hT := hTW.trans hT0 (by simp); have hS1 := hS1.keep hT0 (by simp); have hS2 := hS2.keep hT0 (by simp); have c0 := (hS1.2 0 _ rfl).1; have c1 := (hS1.2 1 _ rfl).1; have c2 := (hS1.2 2 _ rfl).1; have c3 := (hS1.2 3 _ rfl).1; have c4 := (hS1.2 4 _ rfl).1; have c5 := (hS1.2 5 _ rfl).1; have c6 := (hS1.2 6 _ rfl).1; have c7 := (hS1.2 7 _ rfl).1; have d0 := (hS2.2 0 _ rfl).1; have d1 := (hS2.2 1 _ rfl).1; have d2 := (hS2.2 2 _ rfl).1; have d3 := (hS2.2 3 _ rfl).1; have d4 := (hS2.2 4 _ rfl).1; have d5 := (hS2.2 5 _ rfl).1; have d6 := (hS2.2 6 _ rfl).1; have d7 := (hS2.2 7 _ rfl).1)
        go_ret
        exact ⟨rfl, done _ hT⟩
      · have i1 : (b.id != e.id) = true := by rw [bne_iff_ne]; exact hid
        clear hid hfm hfit
        go_enter Try.func16, Try.ntmps16
        go_wp2_with fail
        rw [← hW0, ← hB2e, ← hB1e]
        clear hW0 hB1e hB2e
        go_wp2_with (go_at_call 10; (with_reducible refine (kf _).mono ?_); rintro e0 u0 ⟨rfl, hT0⟩; have hT := hTW.trans hT0 (by simp); have hS1 := hS1.keep hT0 (by simp); have hS2 := hS2.keep hT0 (by simp); have c0 := (hS1.2 0 _ rfl).1; have c1 := (hS1.2 1 _ rfl).1; have c2 := (hS1.2 2 _ rfl).1; have c3 := (hS1.2 3 _ rfl).1; have c4 := (hS1.2 4 _ rfl).1; have c5 := (hS1.2 5 _ rfl).1; have c6 := (hS1.2 6 _ rfl).1; have c7 := (hS1.2 7 _ rfl).1; have d0 := (hS2.2 0 _ rfl).1; have d1 := (hS2.2 1 _ rfl).1; have d2 := (hS2.2 2 _ rfl).1; have d3 := (hS2.2 3 _ rfl).1; have d4 := (hS2.2 4 _ rfl).1; have d5 := (hS2.2 5 _ rfl).1; have d6 := (hS2.2 6 _ rfl).1; have d7 := (hS2.2 7 _ rfl).1)
        go_ret
        exact ⟨rfl, done _ hT⟩
    · rw [show decide (En.Formed e) = false by simpa using hfm] at kf
      clear hfm hfit
      go_enter Try.func16, Try.ntmps16
      go_wp2_with fail
      rw [← hW0, ← hB2e, ← hB1e]
      clear hW0 hB1e hB2e
      go_wp2_with (go_at_call 10; (with_reducible refine (kf _).mono ?_); rintro e0 u0 ⟨rfl, hT0⟩; have hT := hTW.trans hT0 (by simp); have hS1 := hS1.keep hT0 (by simp); have hS2 := hS2.keep hT0 (by simp); have c0 := (hS1.2 0 _ rfl).1; have c1 := (hS1.2 1 _ rfl).1; have c2 := (hS1.2 2 _ rfl).1; have c3 := (hS1.2 3 _ rfl).1; have c4 := (hS1.2 4 _ rfl).1; have c5 := (hS1.2 5 _ rfl).1; have c6 := (hS1.2 6 _ rfl).1; have c7 := (hS1.2 7 _ rfl).1; have d0 := (hS2.2 0 _ rfl).1; have d1 := (hS2.2 1 _ rfl).1; have d2 := (hS2.2 2 _ rfl).1; have d3 := (hS2.2 3 _ rfl).1; have d4 := (hS2.2 4 _ rfl).1; have d5 := (hS2.2 5 _ rfl).1; have d6 := (hS2.2 6 _ rfl).1; have d7 := (hS2.2 7 _ rfl).1)
      go_ret
      exact ⟨rfl, done _ hT⟩
end EnW
end Go.Proofs.Ytjphcbcbaiifhaa

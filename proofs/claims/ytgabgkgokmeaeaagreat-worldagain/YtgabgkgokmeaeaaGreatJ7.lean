/- Joined: WdWake, WdRoll, WdHarm, WdHarms, WdTick, WdNew, BitHeld. -/
import Derived.Test.YtgabgkgokmeaeaaGreatJ6
import Derived.Deep.RegionHeld3
/- The dead wait, and come in: awaken of the program (WdW). -/
namespace Go.Proofs.YtgabgkgokmeaeaaGreat
open Go.RowKit
set_option linter.unusedVariables false
set_option linter.unusedSimpArgs false

/-- one cell of an element written -/
theorem own_set1 {ol : Option Addr} {nl cl : Nat} {l : List En.E} {w : World} (h : OwnL 51 8 enEnc (.slice ol nl cl) l w) {g k j : Nat} {e : En.E} (hg : ol = some ⟨g, 0, none⟩) (hk : l[k]? = some e) (hj : j < 8) (u : Value) (x : En.E) (hx : (enEnc e).set j u = enEnc x) :
    OwnL 51 8 enEnc (.slice ol nl cl) (l.set k x) (w.setCell ⟨g, k * 8 + j, none⟩ u) := by
  obtain ⟨hkl, rfl⟩ := List.getElem?_eq_some_iff.1 hk
  obtain ⟨g', cap, R, hv, hc, hm, hgg, hR⟩ := h.block (by omega)
  rw [hg] at hv
  simp at hv
  obtain ⟨rfl, rfl, rfl⟩ := hv
  have hA : ((l.take k).flatMap enEnc).length = k * 8 := by
    rw [flat_len (enc := enEnc) (sz := 8) enEnc_len, List.length_take, Nat.min_eq_left (by omega)]
  have e1 : l.flatMap enEnc ++ R = (l.take k).flatMap enEnc ++ (enEnc l[k] ++ ((l.drop (k + 1)).flatMap enEnc ++ R)) := by rw [flat_at_k (enc := enEnc) hk]; simp only [List.append_assoc]
  have e2 : (l.set k x).flatMap enEnc ++ R = (l.take k).flatMap enEnc ++ (enEnc x ++ ((l.drop (k + 1)).flatMap enEnc ++ R)) := by rw [flat_set hkl]; simp only [List.append_assoc]
  rw [hg]
  refine OwnL.ofBlock (l := l.set k x) (R := R) ?_ enEnc_len (by simp) hc hm hR
  rw [setCell_eq_setRow w g (k * 8 + j) _ _ (0, 0) u hgg, setRow_heap w g _ _ _ _ hgg]
  congr 2
  rw [e2, ← hx, e1]
  apply Array.ext'
  rw [Array.toList_setIfInBounds, List.toList_toArray, List.toList_toArray, List.set_append_right _ _ (by omega), hA, show k * 8 + j - k * 8 = j by omega, List.set_append_left _ _ (by show j < 8; exact hj)]
namespace Wd
theorem backS_cons (s : Nat) (e : En.E) (l : List En.E) : backS s (e :: l) = if waits e = true ∧ e.t = 1 then backS (Ra.nxt s) l else backS s l := rfl
theorem back_cons (m : Ti.M) (s : Nat) (e : En.E) (l : List En.E) : back m s (e :: l) = if waits e = true then (if e.t = 1 then came m s e.id :: back m (Ra.nxt s) l else ⟨e.id, e.kind, e.ax, e.ay, e.vx, e.vy, e.h, e.t - 1⟩ :: back m s l) else e :: back m s l := rfl
theorem backS_app : ∀ (xs ys : List En.E) (s : Nat), backS s (xs ++ ys) = backS (backS s xs) ys
  | [], ys, s => rfl
  | x :: xs, ys, s => by
    rw [List.cons_append, backS_cons, backS_cons s x xs]
    by_cases h : waits x = true ∧ x.t = 1
    · rw [if_pos h, if_pos h]; exact backS_app xs ys _
    · rw [if_neg h, if_neg h]; exact backS_app xs ys _
theorem back_app {m : Ti.M} : ∀ (xs ys : List En.E) (s : Nat), back m s (xs ++ ys) = back m s xs ++ back m (backS s xs) ys
  | [], ys, s => rfl
  | x :: xs, ys, s => by
    rw [List.cons_append, back_cons, back_cons m s x xs, backS_cons]
    by_cases hw : waits x = true
    · rw [if_pos hw, if_pos hw]
      by_cases ht : x.t = 1
      · rw [if_pos ht, if_pos ht, if_pos ⟨hw, ht⟩, back_app xs ys, List.cons_append]
      · rw [if_neg ht, if_neg ht, if_neg (fun h => ht h.2), back_app xs ys, List.cons_append]
    · rw [if_neg hw, if_neg hw, if_neg (fun h => hw h.1), back_app xs ys, List.cons_append]
/-- the first k have waited -/
def bk (m : Ti.M) (s : Nat) (l : List En.E) (k : Nat) : List En.E := back m s (l.take k) ++ l.drop k
def bs (s : Nat) (l : List En.E) (k : Nat) : Nat := backS s (l.take k)
theorem bk_zero (m : Ti.M) (s : Nat) (l : List En.E) : bk m s l 0 = l := rfl
theorem bk_all (m : Ti.M) (s : Nat) (l : List En.E) : bk m s l l.length = back m s l ∧ bs s l l.length = backS s l := by unfold bk bs; rw [List.take_length, List.drop_length, List.append_nil]; exact ⟨rfl, rfl⟩
theorem bk_len (m : Ti.M) (s : Nat) (l : List En.E) (k : Nat) : (bk m s l k).length = l.length := by unfold bk; rw [List.length_append, back_len, List.length_take, List.length_drop]; omega
theorem bk_at {m : Ti.M} {s : Nat} {l : List En.E} {k : Nat} {e : En.E} (h : l[k]? = some e) : (bk m s l k)[k]? = some e := by
  have hk := (List.getElem?_eq_some_iff.1 h).1
  unfold bk
  rw [List.getElem?_append_right (by rw [back_len, List.length_take]; omega), back_len, List.length_take, Nat.min_eq_left (by omega), List.getElem?_drop, Nat.sub_self, Nat.add_zero]
  exact h
theorem bk_step {m : Ti.M} {s : Nat} {l : List En.E} {k : Nat} {e d : En.E} (h : l[k]? = some e) (hd : back m (bs s l k) [e] = [d]) : bk m s l (k + 1) = (bk m s l k).set k d ∧ bs s l (k + 1) = backS (bs s l k) [e] := by
  obtain ⟨hk, rfl⟩ := List.getElem?_eq_some_iff.1 h
  have hl : (back m s (l.take k)).length = k := by rw [back_len, List.length_take]; omega
  refine ⟨?_, ?_⟩
  · unfold bk
    rw [List.set_append_right _ _ (by omega), hl, Nat.sub_self, List.drop_eq_getElem_cons hk, List.set_cons_zero, List.take_succ_eq_append_getElem hk, back_app]
    show back m s (l.take k) ++ back m (bs s l k) [l[k]] ++ _ = _
    rw [hd, List.append_assoc]
    rfl
  · unfold bs
    rw [List.take_succ_eq_append_getElem hk, backS_app]
theorem bk_same {m : Ti.M} {s : Nat} {l : List En.E} {k : Nat} {e : En.E} (h : l[k]? = some e) (hw : waits e = false) : bk m s l (k + 1) = bk m s l k ∧ bs s l (k + 1) = bs s l k := by
  have h1 : back m (bs s l k) [e] = [e] := by simp [back, hw]
  obtain ⟨h2, h3⟩ := bk_step h h1
  obtain ⟨hk, rfl⟩ := List.getElem?_eq_some_iff.1 (bk_at (m := m) (s := s) h)
  rw [h2, h3]
  exact ⟨List.set_getElem_self hk, by simp [backS, hw]⟩
end Wd
namespace WdW
set_option maxRecDepth 20000 in
set_option maxHeartbeats 8000000 in
theorem awaken_any (m : Ti.M) (s : Nat) (ob : Option Addr) (cb : Nat) (ol : Option Addr) (nl cl : Nat) (l : List En.E) (hR : Wd.Rise l) (hf : ∀ e ∈ l, Wd.waits e = true → 0 < e.t ∧ e.t ≤ 20) (hn : nl = l.length) (hl : nl ≤ 16) (h0 : 0 < m.sp.length) (h1 : m.sp.length ≤ 1100)
    (w : World) (hsp : RowOf 2 tvEnc ob m.sp w) (hO : OwnL 51 8 enEnc (.slice ol nl cl) l w) (nb : ∀ a, ob = some a → a.block ∉ blk (.slice ol nl cl)) :
    Calls Tryz.prog 30 #[.int .u64 (s : Int), .slice ob m.sp.length cb, .slice ol nl cl] w fun e w' => e = .returned (.int .u64 ((Wd.backS s l : Nat) : Int)) ∧ OwnL 51 8 enEnc (.slice ol nl cl) (Wd.back m s l) w' ∧ Turned (blk (.slice ol nl cl)) w w' := by
  have kb := byID_any ol nl cl l hR hn hl w (by obtain ⟨o1, d1, e1, _, _, r1, _⟩ := hO.rowOf enEnc_len; simp at e1; rw [e1.1]; exact r1)
  have HNL : Hid (nl = l.length ∧ nl ≤ 16) := ⟨hn, hl⟩
  have hnl1 : (nl : Int) ≤ 16 := by omega
  obtain ⟨ns, hns⟩ : ∃ n, n = m.sp.length := ⟨_, rfl⟩
  have HNS : Hid (ns = m.sp.length ∧ 0 < m.sp.length ∧ m.sp.length ≤ 1100) := ⟨hns, h0, h1⟩
  have HF : Hid (∀ e ∈ l, Wd.waits e = true → 0 < e.t ∧ e.t ≤ 20) := hf
  have hbk0 : ∀ j ∈ blk (.slice ol nl cl), j < w.heap.size := hO.lt
  rw [← hns]
  clear hn hl hf hR hns h0 h1
  go_enter Tryz.func30, Tryz.ntmps30
  go_wp2_with (go_at_call 64; (with_reducible refine kb.mono ?_); rintro r u1 ⟨p, rfl, hpw, hpl, hP, HT1⟩)
  go_loopw [0, 12] (fun sv i wr => ∃ k : Nat, k ≤ nl ∧ sv = .int .u64 ((Wd.bs s l k : Nat) : Int) ∧ i = .int .i64 (k : Int) ∧ OwnL 51 8 enEnc (.slice ol nl cl) (Wd.bk m s l k) wr ∧ Turned (blk (.slice ol nl cl)) u1 wr) (fun _ i _ => nl - (intOf i).toNat)
  case atStart => exact ⟨0, by omega, rfl, rfl, by rw [Wd.bk_zero]; exact hO.keep HT1 (by simp), Turned.refl _ _⟩
  case round =>
    clear hO
    obtain ⟨k, hk, rfl, rfl, hO, HTr⟩ := hrel
    by_cases hlt : (k : Int) < (nl : Int)
    · obtain ⟨e, he⟩ : ∃ e, l[k]? = some e := ⟨_, List.getElem?_eq_getElem (by have := HNL.out; omega)⟩
      have hfe := HF.out e (List.mem_of_getElem? he)
      obtain ⟨g, hol, -, hbk, hgl, hat⟩ := own_at hO (Wd.bk_at (m := m) (s := s) he)
      have hgw : g < w.heap.size := hbk0 g (by rw [hbk]; simp)
      have hpg : p ≠ g := by omega
      have hpb : p ∉ blk (.slice ol nl cl) := by rw [hbk]; simpa using hpg
      have P0 := (HTr.cell (p := ⟨p, k, none⟩) hpl hpb).trans (hP k (by omega))
      have hpr : p < wr.heap.size := Nat.lt_of_lt_of_le hpl HTr.size
      have HG : Hid (ol = some ⟨g, 0, none⟩ ∧ blk (.slice ol nl cl) = [g] ∧ k < (Wd.bk m s l k).length) := ⟨hol, hbk, by rw [Wd.bk_len]; exact (List.getElem?_eq_some_iff.1 he).1⟩
      have hspr := (hsp.turned HT1 (by simp)).turned HTr nb
      obtain ⟨⟨a0, a1, a2, a3, a4, a5, a6, a7⟩, ⟨i0, i1, i2, i3, i4, i5, i6, i7⟩⟩ := hat wr (Turned.refl _ _)
      rw [hol]
      by_cases hk1 : e.kind = 1
      · by_cases hd : e.h = 0
        · have hwt : Wd.waits e = true := Wd.waits_iff.2 ⟨hk1, hd⟩
          obtain ⟨ht0, ht20⟩ := hfe hwt
          obtain ⟨id, kind, ax, ay, vx, vy, h, t⟩ := e
          simp only at hk1 hd ht0 ht20 a0 a1 a2 a3 a4 a5 a6 a7
          subst hk1 hd
          have kd := fun u => dead_any ⟨id, 1, ax, ay, vx, vy, 0, t⟩ u
          rw [show decide ((⟨id, 1, ax, ay, vx, vy, 0, t⟩ : En.E).h = 0) = true from rfl] at kd
          by_cases ht : t = 1
          · subst ht
            have hstep := Wd.bk_step (m := m) (s := s) he (d := Wd.came m (Wd.bs s l k) id) (by simp [Wd.back, hwt])
            have hbs : Wd.backS (Wd.bs s l k) [⟨id, 1, ax, ay, vx, vy, 0, 1⟩] = Ra.nxt (Wd.bs s l k) := by simp [Wd.backS, hwt]
            have kc := fun u (h : Turned [g] wr u) => comeIn_any m (Wd.bs s l k) ob cb ⟨id, 1, ax, ay, vx, vy, 0, 0⟩ HNS.out.2.1 HNS.out.2.2 u (hspr.turned h (by rw [← hbk]; exact nb))
            obtain ⟨x, hx⟩ : ∃ x, x = Wd.comes m (Wd.bs s l k) ⟨id, 1, ax, ay, vx, vy, 0, 0⟩ := ⟨_, rfl⟩
            have hxc : x = Wd.came m (Wd.bs s l k) id := hx
            rw [← hx, ← HNS.out.1] at kc
            obtain ⟨s1, hs1⟩ : ∃ y, y = Ra.nxt (Wd.bs s l k) := ⟨_, rfl⟩
            rw [← hs1] at kc
            have HX : Hid (Wd.bk m s l (k + 1) = (Wd.bk m s l k).set k x ∧ Wd.bs s l (k + 1) = s1 ∧ (Wd.bk m s l k)[k]? = some ⟨id, 1, ax, ay, vx, vy, 0, 1⟩) := ⟨by rw [hxc]; exact hstep.1, by rw [hstep.2, hbs, hs1], Wd.bk_at he⟩
            obtain ⟨s0, hs0⟩ : ∃ y, y = Wd.bs s l k := ⟨_, rfl⟩
            rw [← hs0] at kc ⊢
            clear hs0 hs1 hx hxc hstep hbs hwt hfe he ht0 ht20 hol hbk hpb hspr
            go_wp2_with (first
              | (go_at_call 43; (with_reducible refine (kd _).mono ?_); rintro r u2 ⟨rfl, HT2⟩; obtain ⟨⟨a0, a1, a2, a3, a4, a5, a6, a7⟩, ⟨i0, i1, i2, i3, i4, i5, i6, i7⟩⟩ := hat u2 HT2)
              | (go_at_call 36; (with_reducible refine (kc _ (Turned.setCell (p := ⟨g, k * 8 + 7, none⟩) (HT2.mono (by simp)) (.inl (by simp)) (.int .i64 0))).mono ?_); rintro r u3 ⟨rfl, HT3⟩; have hO2 := (own_set1 (hO.keep HT2 (by simp)) HG.out.1 HX.out.2.2 (j := 7) (by omega) (.int .i64 0) ⟨id, 1, ax, ay, vx, vy, 0, 0⟩ rfl); have hO3 := hO2.keep HT3 (by simp); obtain ⟨g3, hol3, -, hbk3, hgl3, hat3⟩ := own_at hO3 (List.getElem?_set_self HG.out.2.2); have hgg : g3 = g := (by have := HG.out.1; rw [hol3] at this; simpa using this); subst hgg; obtain ⟨⟨a0, a1, a2, a3, a4, a5, a6, a7⟩, ⟨i0, i1, i2, i3, i4, i5, i6, i7⟩⟩ := hat3 u3 (Turned.refl _ _)))
            obtain ⟨X2, hX2⟩ : ∃ X, X = put8k u3 g3 (k * 8) x := ⟨_, rfl⟩
            have hTg : Turned [g3] u3 X2 := by rw [hX2]; exact turned8k (Turned.refl _ _) (.inl (by simp)) _ x
            have hO4 := own_put hO3 HG.out.1 (by rw [List.length_set]; exact HG.out.2.2) x
            rw [← hX2, List.set_set, ← HX.out.1] at hO4
            have HT4 : Turned [g3] wr X2 := ((Turned.setCell (p := ⟨g3, k * 8 + 7, none⟩) (HT2.mono (S' := [g3]) (by simp)) (.inl (by simp)) (.int .i64 0)).trans (S' := []) HT3 (by simp)).trans hTg (fun j hj _ => hj)
            have HT9 : Turned (blk (.slice ol nl cl)) u1 X2 := HTr.trans HT4 (by intro j hj _; rw [HG.out.2.1]; exact hj)
            simp only [put8k] at hX2
            rw [← hX2]
            clear hX2
            rw [← HG.out.1]
            go_roundw
            case rel => exact ⟨k + 1, by omega, by rw [HX.out.2.1], by go_num, hO4, HT9⟩
            case measure => simp [intOf]; omega
          · have hstep := Wd.bk_step (m := m) (s := s) he (d := ⟨id, 1, ax, ay, vx, vy, 0, t - 1⟩) (by simp [Wd.back, hwt, ht])
            have hbs : Wd.backS (Wd.bs s l k) [⟨id, 1, ax, ay, vx, vy, 0, t⟩] = Wd.bs s l k := by simp [Wd.backS, ht]
            have HX : Hid (Wd.bk m s l (k + 1) = (Wd.bk m s l k).set k ⟨id, 1, ax, ay, vx, vy, 0, t - 1⟩ ∧ Wd.bs s l (k + 1) = Wd.bs s l k ∧ (Wd.bk m s l k)[k]? = some ⟨id, 1, ax, ay, vx, vy, 0, t⟩) := ⟨hstep.1, by rw [hstep.2, hbs], Wd.bk_at he⟩
            have hw : ∀ y : Int, y = t → wrap64 (y - 1) = y - 1 := fun y h => w64 (by omega)
            have hne : ¬ t - 1 = 0 := by omega
            have hnb : (t - 1 == 0) = false := by rw [beq_eq_false_iff_ne]; exact hne
            obtain ⟨s0, hs0⟩ : ∃ y, y = Wd.bs s l k := ⟨_, rfl⟩
            have HS0 : Hid (s0 = Wd.bs s l k) := hs0
            rw [← hs0]
            clear hs0 hstep hbs hwt hfe he ht0 ht20 hol hbk hpb hspr ht
            go_wp2_with (go_at_call 43; (with_reducible refine (kd _).mono ?_); rintro r u2 ⟨rfl, HT2⟩; obtain ⟨⟨a0, a1, a2, a3, a4, a5, a6, a7⟩, ⟨i0, i1, i2, i3, i4, i5, i6, i7⟩⟩ := hat u2 HT2)
            obtain ⟨X2, hX2⟩ : ∃ X, X = u2.setCell ⟨g, k * 8 + 7, none⟩ (.int .i64 (t - 1)) := ⟨_, rfl⟩
            have hTg : Turned [g] u2 X2 := by rw [hX2]; exact (Turned.refl [g] u2).setCell (p := ⟨g, k * 8 + 7, none⟩) (.inl (by simp)) _
            have hO2 := own_set1 (hO.keep HT2 (by simp)) HG.out.1 HX.out.2.2 (j := 7) (by omega) (.int .i64 (t - 1)) ⟨id, 1, ax, ay, vx, vy, 0, t - 1⟩ rfl
            rw [← hX2, ← HX.out.1] at hO2
            have HT9 : Turned (blk (.slice ol nl cl)) u1 X2 := HTr.trans (S' := [g]) ((HT2.mono (by simp)).trans hTg (fun j hj _ => hj)) (by intro j hj _; rw [HG.out.2.1]; exact hj)
            rw [← hX2]
            clear hX2
            rw [← HG.out.1]
            go_roundw
            case rel => exact ⟨k + 1, by omega, by rw [HX.out.2.1, HS0.out], by go_num, hO2, HT9⟩
            case measure => simp [intOf]; omega
        · have kd := fun u => dead_any e u
          rw [decide_eq_false hd] at kd
          have hw : Wd.waits e = false := by cases hq : Wd.waits e with | false => rfl | true => exact absurd (Wd.waits_iff.1 hq).2 hd
          have HSM : Hid (Wd.bk m s l (k + 1) = Wd.bk m s l k ∧ Wd.bs s l (k + 1) = Wd.bs s l k) := Wd.bk_same he hw
          have j0 : (e.kind != 1) = false := by simp [hk1]
          obtain ⟨s0, hs0⟩ : ∃ y, y = Wd.bs s l k := ⟨_, rfl⟩
          have HS0 : Hid (s0 = Wd.bs s l k) := hs0
          rw [← hs0]
          clear hs0 hd
          clear hk1 hfe he hol hbk hpb hspr hw
          go_wp2_with (go_at_call 43; (with_reducible refine (kd _).mono ?_); rintro r u2 ⟨rfl, HT2⟩)
          rw [← HG.out.1]
          go_roundw
          case rel => exact ⟨k + 1, by omega, by rw [HSM.out.2, HS0.out], by go_num, by rw [HSM.out.1]; exact hO.keep HT2 (by simp), HTr.trans (S' := []) HT2 (by simp)⟩
          case measure => simp [intOf]; omega
      · have hw : Wd.waits e = false := by cases hq : Wd.waits e with | false => rfl | true => exact absurd (Wd.waits_iff.1 hq).1 hk1
        have HSM : Hid (Wd.bk m s l (k + 1) = Wd.bk m s l k ∧ Wd.bs s l (k + 1) = Wd.bs s l k) := Wd.bk_same he hw
        have j0 : (e.kind != 1) = true := by rw [bne_iff_ne]; exact hk1
        obtain ⟨s0, hs0⟩ : ∃ y, y = Wd.bs s l k := ⟨_, rfl⟩
        have HS0 : Hid (s0 = Wd.bs s l k) := hs0
        rw [← hs0]
        clear hs0
        have HT2 : Turned [] wr wr := Turned.refl _ _
        clear hk1 hfe he hol hbk hpb hspr hw
        go_wp2_with fail
        rw [← HG.out.1]
        go_roundw
        case rel => exact ⟨k + 1, by omega, by rw [HSM.out.2, HS0.out], by go_num, by rw [HSM.out.1]; exact hO.keep HT2 (by simp), HTr.trans (S' := []) HT2 (by simp)⟩
        case measure => simp [intOf]; omega
    · have hkn : k = l.length := by have := HNL.out; omega
      subst hkn
      obtain ⟨q1, q2⟩ := Wd.bk_all m s l
      rw [q1] at hO
      rw [q2]
      clear q1 q2
      go_wp2_with fail
      go_ret
      exact ⟨rfl, hO, (HT1.mono (by simp)).trans HTr (fun j hj _ => hj)⟩
end WdW

end Go.Proofs.YtgabgkgokmeaeaaGreat


/- The balls roll: rollBalls of the program (WdW). -/
namespace Go.Proofs.YtgabgkgokmeaeaaGreat
open Go.RowKit
set_option linter.unusedVariables false
set_option linter.unusedSimpArgs false

namespace Wd
/-- the first k of a list turned -/
def upto (f : En.E → En.E) (l : List En.E) (k : Nat) : List En.E := (l.take k).map f ++ l.drop k
theorem upto_zero (f : En.E → En.E) (l : List En.E) : upto f l 0 = l := rfl
theorem upto_all (f : En.E → En.E) (l : List En.E) : upto f l l.length = l.map f := by unfold upto; rw [List.take_length, List.drop_length, List.append_nil]
theorem upto_len (f : En.E → En.E) (l : List En.E) (k : Nat) : (upto f l k).length = l.length := by unfold upto; rw [List.length_append, List.length_map, List.length_take, List.length_drop]; omega
theorem upto_at {f : En.E → En.E} {l : List En.E} {k : Nat} {e : En.E} (h : l[k]? = some e) : (upto f l k)[k]? = some e := by
  have hk := (List.getElem?_eq_some_iff.1 h).1
  unfold upto
  rw [List.getElem?_append_right (by rw [List.length_map, List.length_take]; omega), List.length_map, List.length_take, Nat.min_eq_left (by omega), List.getElem?_drop, Nat.sub_self, Nat.add_zero]
  exact h
theorem upto_set {f : En.E → En.E} {l : List En.E} {k : Nat} {e : En.E} (h : l[k]? = some e) : (upto f l k).set k (f e) = upto f l (k + 1) := by
  obtain ⟨hk, rfl⟩ := List.getElem?_eq_some_iff.1 h
  unfold upto
  have hl : ((l.take k).map f).length = k := by rw [List.length_map, List.length_take]; omega
  rw [List.set_append_right _ _ (by omega), hl, Nat.sub_self, List.drop_eq_getElem_cons hk, List.set_cons_zero, List.take_succ_eq_append_getElem hk, List.map_append, List.append_assoc]
  rfl
end Wd
namespace WdW
set_option maxRecDepth 20000 in
set_option maxHeartbeats 4000000 in
theorem rollBalls_any (m : Ti.M) (oa : Option Addr) (ca : Nat) (ob : Option Addr) (cb : Nat) (ol : Option Addr) (nl cl : Nat) (l : List En.E) (w : World) (hM : MapAt m oa ob w) (hO : OwnL 51 8 enEnc (.slice ol nl cl) l w)
    (na : ∀ a, oa = some a → a.block ∉ blk (.slice ol nl cl)) (nb : ∀ a, ob = some a → a.block ∉ blk (.slice ol nl cl)) (hl : l.length ≤ 1000) :
    Calls Tryz.prog 28 #[mapVal m oa ca ob cb, .slice ol nl cl] w fun e w' => e = .returned (.tuple #[]) ∧ OwnL 51 8 enEnc (.slice ol nl cl) (l.map (Mv.roll m)) w' ∧ Turned (blk (.slice ol nl cl)) w w' := by
  have hnl : nl = l.length := by obtain ⟨o1, c1, e1, _, _⟩ := hO.form; simp at e1; exact e1.2.1
  obtain ⟨W0, hW0⟩ : ∃ W0, W0 = w.alloc (.cells #[.int .i64 m.W, .int .i64 m.H, .slice oa m.ws.length ca, .slice ob m.sp.length cb] 25) := ⟨_, rfl⟩
  obtain ⟨M, hMM⟩ : ∃ b, b = w.heap.size := ⟨_, rfl⟩
  have hT : Turned [] w W0 := by rw [hW0]; exact (Turned.refl [] w).alloc _
  have hS : Struct M [.int .i64 m.W, .int .i64 m.H, .slice oa m.ws.length ca, .slice ob m.sp.length cb] W0 := by rw [hW0, hMM]; exact Struct.new w [.int .i64 m.W, .int .i64 m.H, .slice oa m.ws.length ca, .slice ob m.sp.length cb] 25
  have nM : M ∉ blk (.slice ol nl cl) := fun h => by have := hO.lt _ h; omega
  have hO0 := hO.keep hT (by simp)
  have hM0 := hM.calm hT
  have HNL : Hid (nl = l.length ∧ nl ≤ 1000) := ⟨hnl, by omega⟩
  have hnl1 : (nl : Int) ≤ 1000 := by omega
  clear hO hM hnl
  go_enter Tryz.func28, Tryz.ntmps28
  go_wp2_with fail
  rw [← hW0, ← hMM]
  clear hW0 hMM
  go_loopw [8] (fun i wr => ∃ k : Nat, k ≤ nl ∧ i = .int .i64 (k : Int) ∧ Struct M [.int .i64 m.W, .int .i64 m.H, .slice oa m.ws.length ca, .slice ob m.sp.length cb] wr ∧ OwnL 51 8 enEnc (.slice ol nl cl) (Wd.upto (Mv.roll m) l k) wr ∧ Turned (blk (.slice ol nl cl)) W0 wr) (fun i _ => nl - (intOf i).toNat)
  case atStart => exact ⟨0, by omega, rfl, hS, by rw [Wd.upto_zero]; exact hO0, Turned.refl _ _⟩
  case round =>
    clear hS
    obtain ⟨k, hk, rfl, hS, hO, HTr⟩ := hrel
    by_cases hlt : (k : Int) < (nl : Int)
    · obtain ⟨e, he⟩ : ∃ e, l[k]? = some e := ⟨_, List.getElem?_eq_getElem (by have := HNL.out; omega)⟩
      obtain ⟨g, hol, -, hbk, hgl, hat⟩ := own_at hO (Wd.upto_at (f := Mv.roll m) he)
      have HG : Hid (ol = some ⟨g, 0, none⟩ ∧ blk (.slice ol nl cl) = [g] ∧ (Wd.upto (Mv.roll m) l k).set k (Mv.roll m e) = Wd.upto (Mv.roll m) l (k + 1) ∧ k < (Wd.upto (Mv.roll m) l k).length) := ⟨hol, hbk, Wd.upto_set he, by rw [Wd.upto_len]; exact (List.getElem?_eq_some_iff.1 he).1⟩
      have kr := fun u (h : Turned [] wr u) => MvW.roll_any m oa ca ob cb e u ((hM0.turned HTr na nb).calm h)
      obtain ⟨x, hx⟩ : ∃ x, x = Mv.roll m e := ⟨_, rfl⟩
      rw [← hx] at kr
      have HX : Hid (x = Mv.roll m e) := hx
      have ngM : M ≠ g := fun h => nM (by rw [hbk, h]; simp)
      have hMl : M < wr.heap.size := hS.1
      obtain ⟨⟨a0, a1, a2, a3, a4, a5, a6, a7⟩, ⟨i0, i1, i2, i3, i4, i5, i6, i7⟩⟩ := hat wr (Turned.refl _ _)
      have c0 := (hS.2 0 _ rfl).1
      have f0 := (hS.2 0 _ rfl).2
      have c1 := (hS.2 1 _ rfl).1
      have f1 := (hS.2 1 _ rfl).2
      have c2 := (hS.2 2 _ rfl).1
      have f2 := (hS.2 2 _ rfl).2
      have c3 := (hS.2 3 _ rfl).1
      have f3 := (hS.2 3 _ rfl).2
      rw [hol]
      clear hx he hbk hol
      go_wp2_with (go_at_call 62; (with_reducible refine (kr _ ((Turned.refl [] wr).alloc _)).mono ?_); rintro r u2 ⟨rfl, HT2⟩; have HT3 : Turned [] wr u2 := ((Turned.refl [] wr).alloc (.cells #[.int .i64 e.id, .int .i64 e.kind, .int .i64 e.ax, .int .i64 e.ay, .int .i64 e.vx, .int .i64 e.vy, .int .i64 e.h, .int .i64 e.t] 51)).trans HT2 (by simp); have hS2 := hS.keep HT3 (by simp); have c0 := (hS2.2 0 _ rfl).1; have f0 := (hS2.2 0 _ rfl).2; have c1 := (hS2.2 1 _ rfl).1; have f1 := (hS2.2 1 _ rfl).2; have c2 := (hS2.2 2 _ rfl).1; have f2 := (hS2.2 2 _ rfl).2; have c3 := (hS2.2 3 _ rfl).1; have f3 := (hS2.2 3 _ rfl).2; obtain ⟨⟨a0, a1, a2, a3, a4, a5, a6, a7⟩, ⟨i0, i1, i2, i3, i4, i5, i6, i7⟩⟩ := hat u2 HT3)
      obtain ⟨X2, hX2⟩ : ∃ X, X = put8k u2 g (k * 8) x := ⟨_, rfl⟩
      have hTg : Turned [g] u2 X2 := by rw [hX2]; exact turned8k (Turned.refl _ _) (.inl (by simp)) _ x
      have hO2 := own_put (hO.keep HT3 (by simp)) HG.out.1 HG.out.2.2.2 x
      rw [← hX2, HX.out, HG.out.2.2.1] at hO2
      have hS3 := hS2.keep hTg (by simpa using ngM)
      have HT9 : Turned (blk (.slice ol nl cl)) W0 X2 := HTr.trans (S' := [g]) (HT3.mono (by simp) |>.trans hTg (fun j hj _ => hj)) (by intro j hj _; rw [HG.out.2.1]; exact hj)
      simp only [put8k] at hX2
      rw [← hX2]
      clear hX2
      rw [← HG.out.1]
      go_roundw
      case rel => exact ⟨k + 1, by omega, by go_num, hS3, hO2, HT9⟩
      case measure => simp [intOf]; omega
    · have hkn : k = l.length := by have := HNL.out; omega
      subst hkn
      rw [Wd.upto_all] at hO
      go_wp2_with fail
      go_end0
      exact ⟨rfl, hO, (hT.mono (by simp)).trans HTr (fun j hj _ => hj)⟩
end WdW

end Go.Proofs.YtgabgkgokmeaeaaGreat


/- The balls hit: harmed, harmPlayers of the program (WdW). -/
namespace Go.Proofs.YtgabgkgokmeaeaaGreat
open Go.RowKit
set_option linter.unusedVariables false
set_option linter.unusedSimpArgs false

namespace Wd
theorem laps_comm (a b c d : Int) : Bx.laps a b c d = Bx.laps c d a b := by unfold Bx.laps; rw [Bool.eq_iff_iff]; simp only [Bool.and_eq_true, decide_eq_true_iff]; constructor <;> (intro h; exact ⟨h.2, h.1⟩)
theorem overlap_comm (a b c d a' b' c' d' : Int) : Bx.overlap a b c d a' b' c' d' = Bx.overlap a' b' c' d' a b c d := by
  unfold Bx.overlap
  rw [laps_comm a c a' c', laps_comm b d b' d', Bool.and_comm (Bx.formed a b c d)]
/-- a player of the list: alive, or just dead -/
def Live (e : En.E) : Prop := e.kind = 1 ∧ (0 ≤ e.h ∧ e.h ≤ 100) ∧ (0 < e.h ∨ (e.h = 0 ∧ e.vx = 0 ∧ e.vy = 0 ∧ e.t = 20))
/-- what the program makes of one ball -/
def harm1 (e b : En.E) : En.E := if meets b e = true then struck e 5 else e
theorem live_struck {e : En.E} (h : Live e) : Live (struck e 5) := by
  obtain ⟨hk, h0, h1⟩ := h
  unfold struck
  split
  · rename_i hlt
    refine ⟨hk, ⟨by show 0 ≤ e.h - 5; omega, by show e.h - 5 ≤ 100; omega⟩, .inl (by show 0 < e.h - 5; omega)⟩
  · exact ⟨hk, ⟨Int.le_refl _, by show (0 : Int) ≤ 100; omega⟩, .inr ⟨rfl, rfl, rfl, rfl⟩⟩
theorem harm1_eq {e b : En.E} (h : Live e) : harm1 e b = hurt1 e b ∧ Live (harm1 e b) := by
  obtain ⟨hk, h0, h1⟩ := h
  unfold harm1 hurt1
  by_cases hm : meets b e = true
  · rw [if_pos hm]
    refine ⟨?_, live_struck ⟨hk, h0, h1⟩⟩
    by_cases hp : 0 < e.h
    · rw [if_pos ⟨hk, hp, hm⟩]
    · rw [if_neg (fun h => hp h.2.1)]
      rcases h1 with h1 | ⟨z1, z2, z3, z4⟩
      · exact absurd h1 hp
      · obtain ⟨id, kind, ax, ay, vx, vy, hh, t⟩ := e
        simp only at z1 z2 z3 z4
        subst z1 z2 z3 z4
        unfold struck
        rw [if_neg (by simp)]
  · rw [if_neg hm, if_neg (fun h => hm h.2.2)]
    exact ⟨rfl, hk, h0, h1⟩
theorem harm_eq : ∀ (bs : List En.E) (e : En.E), Live e → bs.foldl harm1 e = hurt bs e ∧ Live (bs.foldl harm1 e)
  | [], e, h => ⟨rfl, h⟩
  | b :: bs, e, h => by
    obtain ⟨h1, h2⟩ := harm1_eq (b := b) h
    have := harm_eq bs (harm1 e b) h2
    rw [List.foldl_cons]
    refine ⟨?_, this.2⟩
    rw [this.1, h1]
    rfl
/-- only kinds and places of the others count -/
def Like (a b : En.E) : Prop := a.kind = b.kind ∧ a.ax = b.ax ∧ a.ay = b.ay
theorem hurt1_like {a b e : En.E} (h : Like a b) : hurt1 e a = hurt1 e b := by
  unfold hurt1 meets
  rw [h.1, h.2.1, h.2.2]
theorem hurt_like : ∀ {xs bs : List En.E} (e : En.E), xs.length = bs.length → (∀ (k : Nat) (a b : En.E), xs[k]? = some a → bs[k]? = some b → Like a b) → hurt xs e = hurt bs e
  | [], [], e, _, _ => rfl
  | [], _ :: _, _, h, _ => by simp at h
  | _ :: _, [], _, h, _ => by simp at h
  | a :: xs, b :: bs, e, hl, h => by
    show hurt xs (hurt1 e a) = hurt bs (hurt1 e b)
    rw [hurt1_like (h 0 a b rfl rfl)]
    exact hurt_like _ (by simpa using hl) fun k x y hx hy => h (k + 1) x y (by simpa using hx) (by simpa using hy)
theorem hurt_upto (bs l : List En.E) (k : Nat) (e : En.E) : hurt (upto (hurt bs) l k) e = hurt l e := by
  refine hurt_like e (upto_len _ _ _) fun j a b ha hb => ?_
  unfold upto at ha
  by_cases hj : j < k
  · rw [List.getElem?_append_left (by rw [List.length_map, List.length_take]; have := (List.getElem?_eq_some_iff.1 hb).1; omega), List.getElem?_map, List.getElem?_take, if_pos hj, hb] at ha
    simp at ha
    subst ha
    have := hurt_id bs b
    exact ⟨this.2.1, this.2.2.1, this.2.2.2⟩
  · have hl := (List.getElem?_eq_some_iff.1 hb).1
    rw [List.getElem?_append_right (by rw [List.length_map, List.length_take]; omega), List.length_map, List.length_take, Nat.min_eq_left (by omega), List.getElem?_drop, show k + (j - k) = j by omega, hb] at ha
    simp at ha
    subst ha
    exact ⟨rfl, rfl, rfl⟩
end Wd
namespace WdW
theorem around_kept {W : World} (e : En.E) (x : KeptW W) : Calls Tryz.prog 86 #[enVal e] x.u fun r w'' => r = .returned (.agg #[.int .i64 (Fx.sub e.ax 24576), .int .i64 (Fx.sub e.ay 24576), .int .i64 (Fx.add e.ax 24576), .int .i64 (Fx.add e.ay 24576)]) ∧ ∃ y : KeptW W, w'' = y.u :=
  kept_call ((around_any e x.u).mono fun r w' ⟨he, ht⟩ => ⟨he, ht.none⟩)
theorem overlap_kept {W : World} (a b c d a' b' c' d' : Int) (q : Bool) (hq : Bx.overlap a b c d a' b' c' d' = q) (x : KeptW W) : Calls Tryz.prog 53 #[.agg #[.int .i64 a, .int .i64 b, .int .i64 c, .int .i64 d], .agg #[.int .i64 a', .int .i64 b', .int .i64 c', .int .i64 d']] x.u fun r w'' => r = .returned (.bool q) ∧ ∃ y : KeptW W, w'' = y.u :=
  kept_call ((BxW.overlap_any a b c d a' b' c' d' x.u).mono fun r w' ⟨he, ht⟩ => ⟨by rw [he, hq], ht⟩)

set_option maxRecDepth 20000 in
set_option maxHeartbeats 4000000 in
theorem harmed_any (e : En.E) (hL : Wd.Live e) (ol : Option Addr) (nl cl : Nat) (l : List En.E) (hn : nl = l.length) (hl : nl ≤ 1000) (w : World) (hr : RowOf 8 enEnc ol l w) :
    Calls Tryz.prog 63 #[enVal e, .slice ol nl cl] w fun r w' => r = .returned (enVal (Wd.hurt l e)) ∧ Turned [] w w' := by
  obtain ⟨e0, he0⟩ : ∃ d, d = e := ⟨_, rfl⟩
  rw [← he0]
  have HE0 : Hid (e0 = e) := he0
  have hL0 : Wd.Live e0 := by rw [he0]; exact hL
  clear he0 hL
  obtain ⟨W0, hW0⟩ : ∃ W0, W0 = (w.alloc (.cells #[.int .i64 e0.id, .int .i64 e0.kind, .int .i64 e0.ax, .int .i64 e0.ay, .int .i64 e0.vx, .int .i64 e0.vy, .int .i64 e0.h, .int .i64 e0.t] 51)).alloc (.cells #[.int .i64 0, .int .i64 0, .int .i64 0, .int .i64 0, .int .i64 0, .int .i64 0, .int .i64 0, .int .i64 0] 51) := ⟨_, rfl⟩
  obtain ⟨B, hB⟩ : ∃ b, b = w.heap.size := ⟨_, rfl⟩
  obtain ⟨D, hD⟩ : ∃ b, b = w.heap.size + 1 := ⟨_, rfl⟩
  have hT : Turned [] w W0 := by rw [hW0]; exact (((Turned.refl [] w).alloc _).alloc _)
  have hS : Struct B [.int .i64 e0.id, .int .i64 e0.kind, .int .i64 e0.ax, .int .i64 e0.ay, .int .i64 e0.vx, .int .i64 e0.vy, .int .i64 e0.h, .int .i64 e0.t] W0 := by
    have h0 := Struct.new w [.int .i64 e0.id, .int .i64 e0.kind, .int .i64 e0.ax, .int .i64 e0.ay, .int .i64 e0.vx, .int .i64 e0.vy, .int .i64 e0.h, .int .i64 e0.t] 51
    rw [← hB] at h0
    rw [hW0]; exact h0.keep ((Turned.refl [] _).alloc _) (by simp)
  have hR : Struct D [.int .i64 0, .int .i64 0, .int .i64 0, .int .i64 0, .int .i64 0, .int .i64 0, .int .i64 0, .int .i64 0] W0 := by
    have h0 := Struct.new (w.alloc (.cells #[.int .i64 e0.id, .int .i64 e0.kind, .int .i64 e0.ax, .int .i64 e0.ay, .int .i64 e0.vx, .int .i64 e0.vy, .int .i64 e0.h, .int .i64 e0.t] 51)) [.int .i64 0, .int .i64 0, .int .i64 0, .int .i64 0, .int .i64 0, .int .i64 0, .int .i64 0, .int .i64 0] 51
    rw [show (w.alloc (.cells #[.int .i64 e0.id, .int .i64 e0.kind, .int .i64 e0.ax, .int .i64 e0.ay, .int .i64 e0.vx, .int .i64 e0.vy, .int .i64 e0.h, .int .i64 e0.t] 51)).heap.size = w.heap.size + 1 by simp, ← hD] at h0
    rw [hW0]; exact h0
  have hBw : w.heap.size ≤ B := by omega
  have hDw : w.heap.size ≤ D := by omega
  have nBD : B ≠ D := by omega
  have nDB : D ≠ B := by omega
  have HNL : Hid (nl = l.length) := hn
  have hnl1 : (nl : Int) ≤ 1000 := by omega
  have HL0 : Hid (Wd.Live e0) := hL0
  clear hn hl hL0
  go_enter Tryz.func63, Tryz.ntmps63
  go_wp2_with fail
  rw [← hW0, ← hD, ← hB]
  clear hW0 hB hD
  go_loopw [9] (fun i wr => ∃ (k : Nat) (d : En.E), k ≤ nl ∧ i = .int .i64 (k : Int) ∧ d = (l.take k).foldl Wd.harm1 e0 ∧ Wd.Live d ∧ Struct B [.int .i64 d.id, .int .i64 d.kind, .int .i64 d.ax, .int .i64 d.ay, .int .i64 d.vx, .int .i64 d.vy, .int .i64 d.h, .int .i64 d.t] wr ∧ Struct D [.int .i64 0, .int .i64 0, .int .i64 0, .int .i64 0, .int .i64 0, .int .i64 0, .int .i64 0, .int .i64 0] wr ∧ Turned [B] W0 wr) (fun i _ => nl - (intOf i).toNat)
  case atStart => exact ⟨0, e0, by omega, rfl, rfl, HL0.out, hS, hR, Turned.refl _ _⟩
  case round =>
    clear hS hR
    obtain ⟨k, d, hk, rfl, hd, hLd, hS, hR, HTr⟩ := hrel
    have c0 := (hS.2 0 _ rfl).1
    have f0 := (hS.2 0 _ rfl).2
    have c1 := (hS.2 1 _ rfl).1
    have f1 := (hS.2 1 _ rfl).2
    have c2 := (hS.2 2 _ rfl).1
    have f2 := (hS.2 2 _ rfl).2
    have c3 := (hS.2 3 _ rfl).1
    have f3 := (hS.2 3 _ rfl).2
    have c4 := (hS.2 4 _ rfl).1
    have f4 := (hS.2 4 _ rfl).2
    have c5 := (hS.2 5 _ rfl).1
    have f5 := (hS.2 5 _ rfl).2
    have c6 := (hS.2 6 _ rfl).1
    have f6 := (hS.2 6 _ rfl).2
    have c7 := (hS.2 7 _ rfl).1
    have f7 := (hS.2 7 _ rfl).2
    have z0 := (hR.2 0 _ rfl).1
    have y0 := (hR.2 0 _ rfl).2
    have z1 := (hR.2 1 _ rfl).1
    have y1 := (hR.2 1 _ rfl).2
    have z2 := (hR.2 2 _ rfl).1
    have y2 := (hR.2 2 _ rfl).2
    have z3 := (hR.2 3 _ rfl).1
    have y3 := (hR.2 3 _ rfl).2
    have z4 := (hR.2 4 _ rfl).1
    have y4 := (hR.2 4 _ rfl).2
    have z5 := (hR.2 5 _ rfl).1
    have y5 := (hR.2 5 _ rfl).2
    have z6 := (hR.2 6 _ rfl).1
    have y6 := (hR.2 6 _ rfl).2
    have z7 := (hR.2 7 _ rfl).1
    have y7 := (hR.2 7 _ rfl).2
    have hwr : Turned [] w wr := (hT.trans (S' := [B]) HTr (by intro j hj hl; simp at hj; omega))
    by_cases hlt : (k : Int) < (nl : Int)
    · obtain ⟨o, ho⟩ : ∃ o, l[k]? = some o := ⟨_, List.getElem?_eq_getElem (by have := HNL.out; omega)⟩
      obtain ⟨g, off, rfl, hg, q0, q1, q2, q3, q4, q5, q6, q7⟩ := en_at (hr.turned hwr (by simp)) ho
      have hstep : (l.take (k + 1)).foldl Wd.harm1 e0 = Wd.harm1 d o := by
        obtain ⟨h1, h2⟩ := List.getElem?_eq_some_iff.1 ho
        rw [List.take_succ_eq_append_getElem h1, List.foldl_append, ← hd, h2]
        rfl
      have hLn := (Wd.harm1_eq (b := o) hLd).2
      have HST : Hid ((l.take (k + 1)).foldl Wd.harm1 e0 = Wd.harm1 d o ∧ Wd.Live (Wd.harm1 d o)) := ⟨hstep, hLn⟩
      have HLD : Hid (Wd.Live d) := hLd
      have hm : Wd.meets o d = (decide (o.kind = 2) && Bx.overlap (Fx.sub d.ax 24576) (Fx.sub d.ay 24576) (Fx.add d.ax 24576) (Fx.add d.ay 24576) (Fx.sub o.ax 24576) (Fx.sub o.ay 24576) (Fx.add o.ax 24576) (Fx.add o.ay 24576)) := by unfold Wd.meets; rw [Wd.overlap_comm]
      have HD : Hid (d = (l.take k).foldl Wd.harm1 e0) := hd
      have kh := fun u => hit_any d 5 hLd.2.1 (by omega) u
      have hBl : B < wr.heap.size := hS.1
      clear hd hstep hLn hLd ho hr
      go_wp2_with fail
      obtain ⟨W1, hW1⟩ : ∃ W1, W1 = wr.alloc (.cells #[.int .i64 o.id, .int .i64 o.kind, .int .i64 o.ax, .int .i64 o.ay, .int .i64 o.vx, .int .i64 o.vy, .int .i64 o.h, .int .i64 o.t] 51) := ⟨_, rfl⟩
      obtain ⟨O, hOO⟩ : ∃ b, b = wr.heap.size := ⟨_, rfl⟩
      have hTa : Turned [] wr W1 := by rw [hW1]; exact (Turned.refl [] wr).alloc _
      have hO1 : Struct O (enEnc o) W1 := by rw [hW1, hOO]; exact Struct.new wr (enEnc o) 51
      have hB1 := hS.keep hTa (by simp)
      rw [← hW1, ← hOO]
      clear hW1 hOO q0 q1 q2 q3 q4 q5 q6 q7 c0 c1 c2 c3 c4 c5 c6 c7 f0 f1 f2 f3 f4 f5 f6 f7 z0 z1 z2 z3 z4 z5 z6 z7 y0 y1 y2 y3 y4 y5 y6 y7
      have ne : Nonempty (KeptW W1) := KeptW.one W1
      have kb0 := KeptW.at hB1.1 (hB1.2 0 _ rfl).1
      have kb1 := KeptW.at hB1.1 (hB1.2 1 _ rfl).1
      have kb2 := KeptW.at hB1.1 (hB1.2 2 _ rfl).1
      have kb3 := KeptW.at hB1.1 (hB1.2 3 _ rfl).1
      have kb4 := KeptW.at hB1.1 (hB1.2 4 _ rfl).1
      have kb5 := KeptW.at hB1.1 (hB1.2 5 _ rfl).1
      have kb6 := KeptW.at hB1.1 (hB1.2 6 _ rfl).1
      have kb7 := KeptW.at hB1.1 (hB1.2 7 _ rfl).1
      have ko0 := KeptW.at hO1.1 (hO1.2 0 _ rfl).1
      have ko1 := KeptW.at hO1.1 (hO1.2 1 _ rfl).1
      have ko2 := KeptW.at hO1.1 (hO1.2 2 _ rfl).1
      have ko3 := KeptW.at hO1.1 (hO1.2 3 _ rfl).1
      have ko4 := KeptW.at hO1.1 (hO1.2 4 _ rfl).1
      have ko5 := KeptW.at hO1.1 (hO1.2 5 _ rfl).1
      have ko6 := KeptW.at hO1.1 (hO1.2 6 _ rfl).1
      have ko7 := KeptW.at hO1.1 (hO1.2 7 _ rfl).1
      have kad := around_kept (W := W1) d
      have kao := around_kept (W := W1) o
      obtain ⟨q, hq⟩ : ∃ q, q = Bx.overlap (Fx.sub d.ax 24576) (Fx.sub d.ay 24576) (Fx.add d.ax 24576) (Fx.add d.ay 24576) (Fx.sub o.ax 24576) (Fx.sub o.ay 24576) (Fx.add o.ax 24576) (Fx.add o.ay 24576) := ⟨_, rfl⟩
      have kv := overlap_kept (W := W1) _ _ _ _ _ _ _ _ q hq.symm
      rw [← hq] at hm
      clear hq
      obtain ⟨a1, e1⟩ : ∃ x, x = Fx.sub d.ax 24576 := ⟨_, rfl⟩
      obtain ⟨a2, e2⟩ : ∃ x, x = Fx.sub d.ay 24576 := ⟨_, rfl⟩
      obtain ⟨a3, e3⟩ : ∃ x, x = Fx.add d.ax 24576 := ⟨_, rfl⟩
      obtain ⟨a4, e4⟩ : ∃ x, x = Fx.add d.ay 24576 := ⟨_, rfl⟩
      obtain ⟨b1, e5⟩ : ∃ x, x = Fx.sub o.ax 24576 := ⟨_, rfl⟩
      obtain ⟨b2, e6⟩ : ∃ x, x = Fx.sub o.ay 24576 := ⟨_, rfl⟩
      obtain ⟨b3, e7⟩ : ∃ x, x = Fx.add o.ax 24576 := ⟨_, rfl⟩
      obtain ⟨b4, e8⟩ : ∃ x, x = Fx.add o.ay 24576 := ⟨_, rfl⟩
      rw [← e1, ← e2, ← e3, ← e4, ← e5, ← e6, ← e7, ← e8] at kv
      rw [← e1, ← e2, ← e3, ← e4] at kad
      rw [← e5, ← e6, ← e7, ← e8] at kao
      clear e1 e2 e3 e4 e5 e6 e7 e8
      by_cases hk2 : o.kind = 2
      · have i0 : (o.kind == 2) = true := by rw [beq_iff_eq]; exact hk2
        rw [decide_eq_true hk2, Bool.true_and] at hm
        clear hk2
        cases q with
        | true =>
          have HH : Hid (Wd.harm1 d o = Wd.struck d 5) := by show _ = _; unfold Wd.harm1; rw [hm, if_pos rfl]
          clear hm
          refine wp_region_kept (by kernel_rfl) (by kernel_rfl) ?_
          repeat (go_big_quiet_step (first | (go_at_call 86; with_reducible exact kad _) | (go_at_call 86; with_reducible exact kao _) | (go_at_call 53; with_reducible exact kv _)))
          refine wpQuiet_nil ?_
          rintro _ ⟨y, rfl⟩
          have hTy := Turned.ofBelow y.h
          generalize y.u = u2 at hTy ⊢
          have HT2 : Turned [] wr u2 := hTa.trans hTy (by simp)
          have hB2 := hS.keep HT2 (by simp)
          have hD2 := hR.keep HT2 (by simp)
          clear kb0 kb1 kb2 kb3 kb4 kb5 kb6 kb7 ko0 ko1 ko2 ko3 ko4 ko5 ko6 ko7 kad kao kv ne
          obtain ⟨x, hx⟩ : ∃ x, x = Wd.struck d 5 := ⟨_, rfl⟩
          rw [← hx] at kh
          have HX : Hid (x = Wd.struck d 5) := hx
          clear hx
          have c0 := (hB2.2 0 _ rfl).1
          have f0 := (hB2.2 0 _ rfl).2
          have c1 := (hB2.2 1 _ rfl).1
          have f1 := (hB2.2 1 _ rfl).2
          have c2 := (hB2.2 2 _ rfl).1
          have f2 := (hB2.2 2 _ rfl).2
          have c3 := (hB2.2 3 _ rfl).1
          have f3 := (hB2.2 3 _ rfl).2
          have c4 := (hB2.2 4 _ rfl).1
          have f4 := (hB2.2 4 _ rfl).2
          have c5 := (hB2.2 5 _ rfl).1
          have f5 := (hB2.2 5 _ rfl).2
          have c6 := (hB2.2 6 _ rfl).1
          have f6 := (hB2.2 6 _ rfl).2
          have c7 := (hB2.2 7 _ rfl).1
          have f7 := (hB2.2 7 _ rfl).2
          go_wp2_with (go_at_call 44; (with_reducible refine (kh _).mono ?_); rintro r u3 ⟨rfl, HT3⟩; have hB3 := hB2.keep HT3 (by simp); have hD3 := hD2.keep HT3 (by simp); have c0 := (hB3.2 0 _ rfl).1; have f0 := (hB3.2 0 _ rfl).2; have c1 := (hB3.2 1 _ rfl).1; have f1 := (hB3.2 1 _ rfl).2; have c2 := (hB3.2 2 _ rfl).1; have f2 := (hB3.2 2 _ rfl).2; have c3 := (hB3.2 3 _ rfl).1; have f3 := (hB3.2 3 _ rfl).2; have c4 := (hB3.2 4 _ rfl).1; have f4 := (hB3.2 4 _ rfl).2; have c5 := (hB3.2 5 _ rfl).1; have f5 := (hB3.2 5 _ rfl).2; have c6 := (hB3.2 6 _ rfl).1; have f6 := (hB3.2 6 _ rfl).2; have c7 := (hB3.2 7 _ rfl).1; have f7 := (hB3.2 7 _ rfl).2)
          obtain ⟨X2, hX2⟩ : ∃ X, X = MvR.put8 u3 B x := ⟨_, rfl⟩
          have tB : Turned [B] u3 X2 := by rw [hX2]; exact MvR.turned8 (Turned.refl _ _) (.inl (by simp)) x
          have hB4 : Struct B (enEnc x) X2 := by rw [hX2]; exact MvR.set8 (e := d) hB3 x
          have hD4 := hD3.keep tB (by simpa using nDB)
          have HT9 : Turned [B] W0 X2 := (HTr.trans (S' := [B]) ((HT2.trans HT3 (by simp)).mono (by simp)) (fun j hj _ => hj)).trans tB (fun j hj _ => hj)
          simp only [MvR.put8] at hX2
          rw [← hX2]
          clear hX2
          go_roundw
          case rel => exact ⟨k + 1, x, by omega, by go_num, by rw [HST.out.1, HH.out, HX.out], by rw [HX.out, ← HH.out]; exact HST.out.2, hB4, hD4, HT9⟩
          case measure => simp [intOf]; omega
        | false =>
          have HH : Hid (Wd.harm1 d o = d) := by show _ = _; unfold Wd.harm1; rw [hm]; simp
          clear hm
          refine wp_region_kept (by kernel_rfl) (by kernel_rfl) ?_
          repeat (go_big_quiet_step (first | (go_at_call 86; with_reducible exact kad _) | (go_at_call 86; with_reducible exact kao _) | (go_at_call 53; with_reducible exact kv _)))
          refine wpQuiet_nil ?_
          rintro _ ⟨y, rfl⟩
          have hTy := Turned.ofBelow y.h
          generalize y.u = u2 at hTy ⊢
          have HT2 : Turned [] wr u2 := hTa.trans hTy (by simp)
          have hB2 := hS.keep HT2 (by simp)
          have hD2 := hR.keep HT2 (by simp)
          clear kb0 kb1 kb2 kb3 kb4 kb5 kb6 kb7 ko0 ko1 ko2 ko3 ko4 ko5 ko6 ko7 kad kao kv ne
          have HT9 : Turned [B] W0 u2 := HTr.trans (HT2.mono (S' := [B]) (by simp)) (fun j hj _ => hj)
          go_wp2_with fail
          go_roundw
          case rel => exact ⟨k + 1, d, by omega, by go_num, by rw [HST.out.1, HH.out], HLD.out, hB2, hD2, HT9⟩
          case measure => simp [intOf]; omega
      · have i0 : (o.kind == 2) = false := by rw [beq_eq_false_iff_ne]; exact hk2
        have HH : Hid (Wd.harm1 d o = d) := by show _ = _; unfold Wd.harm1; rw [hm, decide_eq_false hk2]; simp
        clear hm hk2
        refine wp_region_kept (by kernel_rfl) (by kernel_rfl) ?_
        repeat (go_big_quiet_step (first | (go_at_call 86; with_reducible exact kad _) | (go_at_call 86; with_reducible exact kao _) | (go_at_call 53; with_reducible exact kv _)))
        refine wpQuiet_nil ?_
        rintro _ ⟨y, rfl⟩
        have hTy := Turned.ofBelow y.h
        generalize y.u = u2 at hTy ⊢
        have HT2 : Turned [] wr u2 := hTa.trans hTy (by simp)
        have hB2 := hS.keep HT2 (by simp)
        have hD2 := hR.keep HT2 (by simp)
        clear kb0 kb1 kb2 kb3 kb4 kb5 kb6 kb7 ko0 ko1 ko2 ko3 ko4 ko5 ko6 ko7 kad kao kv ne
        have HT9 : Turned [B] W0 u2 := HTr.trans (HT2.mono (S' := [B]) (by simp)) (fun j hj _ => hj)
        go_wp2_with fail
        go_roundw
        case rel => exact ⟨k + 1, d, by omega, by go_num, by rw [HST.out.1, HH.out], HLD.out, hB2, hD2, HT9⟩
        case measure => simp [intOf]; omega
    · have hkN : k = l.length := by have := HNL.out; omega
      have HE : Hid (d = Wd.hurt l e0) := by
        show _ = _
        rw [hd, hkN, List.take_length]
        exact (Wd.harm_eq l e0 HL0.out).1
      clear hd hkN
      go_wp2_with fail
      obtain ⟨X9, hX9⟩ : ∃ X, X = MvR.put8 wr D d := ⟨_, rfl⟩
      have hS9 : Struct D (enEnc d) X9 := by rw [hX9]; exact MvR.set8 (e := ⟨0, 0, 0, 0, 0, 0, 0, 0⟩) hR d
      have hT9 : Turned [D] wr X9 := by rw [hX9]; exact MvR.turned8 (Turned.refl _ _) (.inl (by simp)) d
      simp only [MvR.put8] at hX9
      rw [← hX9]
      clear hX9
      have ee0 := (hS9.2 0 _ rfl).1
      have e1 := (hS9.2 1 _ rfl).1
      have e2 := (hS9.2 2 _ rfl).1
      have e3 := (hS9.2 3 _ rfl).1
      have e4 := (hS9.2 4 _ rfl).1
      have e5 := (hS9.2 5 _ rfl).1
      have e6 := (hS9.2 6 _ rfl).1
      have e7 := (hS9.2 7 _ rfl).1
      go_wp2_with fail
      exact bodyPost_ret (v := enVal d) (by simp [results, Tryz.results63, go_sem, ee0, e1, e2, e3, e4, e5, e6, e7]) rfl ⟨by rw [← HE.out], hwr.trans (S' := [D]) hT9 (by intro j hj hl; simp at hj; omega)⟩
end WdW

end Go.Proofs.YtgabgkgokmeaeaaGreat


/- All players are hit: harmPlayers of the program (WdW). -/
namespace Go.Proofs.YtgabgkgokmeaeaaGreat
open Go.RowKit
set_option linter.unusedVariables false
set_option linter.unusedSimpArgs false

namespace Wd
theorem set_self {l : List En.E} {k : Nat} {e : En.E} (h : l[k]? = some e) : l.set k e = l := by
  obtain ⟨hk, rfl⟩ := List.getElem?_eq_some_iff.1 h
  exact List.set_getElem_self hk
end Wd
namespace WdW
set_option maxRecDepth 20000 in
set_option maxHeartbeats 4000000 in
theorem harmPlayers_any (ol : Option Addr) (nl cl : Nat) (l : List En.E) (hf : ∀ e ∈ l, 0 ≤ e.h ∧ e.h ≤ 100) (w : World) (hO : OwnL 51 8 enEnc (.slice ol nl cl) l w) (hl : l.length ≤ 1000) :
    Calls Tryz.prog 29 #[.slice ol nl cl] w fun e w' => e = .returned (.tuple #[]) ∧ OwnL 51 8 enEnc (.slice ol nl cl) (l.map (Wd.hurt l)) w' ∧ Turned (blk (.slice ol nl cl)) w w' := by
  have hnl : nl = l.length := by obtain ⟨o1, c1, e1, _, _⟩ := hO.form; simp at e1; exact e1.2.1
  have HNL : Hid (nl = l.length ∧ nl ≤ 1000) := ⟨hnl, by omega⟩
  have hnl1 : (nl : Int) ≤ 1000 := by omega
  have HF : Hid (∀ e ∈ l, 0 ≤ e.h ∧ e.h ≤ 100) := hf
  clear hnl hl hf
  go_enter Tryz.func29, Tryz.ntmps29
  go_wp2_with fail
  go_loopw [6] (fun i wr => ∃ k : Nat, k ≤ nl ∧ i = .int .i64 (k : Int) ∧ OwnL 51 8 enEnc (.slice ol nl cl) (Wd.upto (Wd.hurt l) l k) wr ∧ Turned (blk (.slice ol nl cl)) w wr) (fun i _ => nl - (intOf i).toNat)
  case atStart => exact ⟨0, by omega, rfl, by rw [Wd.upto_zero]; exact hO, Turned.refl _ _⟩
  case round =>
    clear hO
    obtain ⟨k, hk, rfl, hO, HTr⟩ := hrel
    by_cases hlt : (k : Int) < (nl : Int)
    · obtain ⟨e, he⟩ : ∃ e, l[k]? = some e := ⟨_, List.getElem?_eq_getElem (by have := HNL.out; omega)⟩
      have hfe := HF.out e (List.mem_of_getElem? he)
      obtain ⟨g, hol, -, hbk, hgl, hat⟩ := own_at hO (Wd.upto_at (f := Wd.hurt l) he)
      have HG : Hid (ol = some ⟨g, 0, none⟩ ∧ blk (.slice ol nl cl) = [g] ∧ (Wd.upto (Wd.hurt l) l k).set k (Wd.hurt l e) = Wd.upto (Wd.hurt l) l (k + 1) ∧ k < (Wd.upto (Wd.hurt l) l k).length) := ⟨hol, hbk, Wd.upto_set he, by rw [Wd.upto_len]; exact (List.getElem?_eq_some_iff.1 he).1⟩
      have kd := fun u => dead_any e u
      obtain ⟨⟨a0, a1, a2, a3, a4, a5, a6, a7⟩, ⟨i0, i1, i2, i3, i4, i5, i6, i7⟩⟩ := hat wr (Turned.refl _ _)
      rw [hol]
      by_cases hk1 : e.kind = 1
      · have j0 : (e.kind == 1) = true := by rw [beq_iff_eq]; exact hk1
        by_cases hd : e.h = 0
        · have hst : Wd.hurt l e = e := (Wd.hurt_h l e hfe.1).2.2 hd
          have hsame : Wd.upto (Wd.hurt l) l k = Wd.upto (Wd.hurt l) l (k + 1) := by rw [← Wd.upto_set he, hst]; exact (Wd.set_self (Wd.upto_at he)).symm
          have hO' := hO
          rw [hsame] at hO'
          rw [decide_eq_true hd] at kd
          clear hst hsame he hbk hfe hk1 hd hol hO
          go_wp2_with (go_at_call 43; (with_reducible refine (kd _).mono ?_); rintro r u2 ⟨rfl, HT2⟩)
          have HT3 : Turned [] wr u2 := ((Turned.refl [] wr).alloc (.cells #[.int .i64 e.id, .int .i64 e.kind, .int .i64 e.ax, .int .i64 e.ay, .int .i64 e.vx, .int .i64 e.vy, .int .i64 e.h, .int .i64 e.t] 51)).trans HT2 (by simp)
          rw [← HG.out.1]
          go_roundw
          case rel => exact ⟨k + 1, by omega, by go_num, hO'.keep HT3 (by simp), HTr.trans (S' := []) HT3 (by simp)⟩
          case measure => simp [intOf]; omega
        · have hdf : decide (e.h = 0) = false := by rw [decide_eq_false_iff_not]; exact hd
          rw [hdf] at kd
          have kr := fun u (h : Turned [] wr u) => harmed_any e ⟨hk1, hfe, .inl (by omega)⟩ ol nl cl (Wd.upto (Wd.hurt l) l k) (by rw [Wd.upto_len]; exact HNL.out.1) HNL.out.2 u (by obtain ⟨o1, d1, e1, _, _, r1, _⟩ := (hO.keep h (by simp)).rowOf enEnc_len; simp at e1; rw [e1.1]; exact r1)
          rw [Wd.hurt_upto, hol] at kr
          obtain ⟨x, hx⟩ : ∃ x, x = Wd.hurt l e := ⟨_, rfl⟩
          rw [← hx] at kr
          have HX : Hid (x = Wd.hurt l e) := hx
          clear hx he hbk hfe hk1 hd hol hdf
          have hEl : ∀ u : World, Turned [] (wr.alloc (.cells #[.int .i64 e.id, .int .i64 e.kind, .int .i64 e.ax, .int .i64 e.ay, .int .i64 e.vx, .int .i64 e.vy, .int .i64 e.h, .int .i64 e.t] 51)) u → Struct wr.heap.size (enEnc e) u := fun u h => (Struct.new wr (enEnc e) 51).keep h (by simp)
          go_wp2_with (first
            | (go_at_call 43; (with_reducible refine (kd _).mono ?_); rintro r u2 ⟨rfl, HT2⟩; have HT3 : Turned [] wr u2 := ((Turned.refl [] wr).alloc (.cells #[.int .i64 e.id, .int .i64 e.kind, .int .i64 e.ax, .int .i64 e.ay, .int .i64 e.vx, .int .i64 e.vy, .int .i64 e.h, .int .i64 e.t] 51)).trans HT2 (by simp); have hE2 := hEl u2 HT2; have d0 := (hE2.2 0 _ rfl).1; have j0 := (hE2.2 0 _ rfl).2; have d1 := (hE2.2 1 _ rfl).1; have j1 := (hE2.2 1 _ rfl).2; have d2 := (hE2.2 2 _ rfl).1; have j2 := (hE2.2 2 _ rfl).2; have d3 := (hE2.2 3 _ rfl).1; have j3 := (hE2.2 3 _ rfl).2; have d4 := (hE2.2 4 _ rfl).1; have j4 := (hE2.2 4 _ rfl).2; have d5 := (hE2.2 5 _ rfl).1; have j5 := (hE2.2 5 _ rfl).2; have d6 := (hE2.2 6 _ rfl).1; have j6 := (hE2.2 6 _ rfl).2; have d7 := (hE2.2 7 _ rfl).1; have j7 := (hE2.2 7 _ rfl).2)
            | (go_at_call 63; (with_reducible refine (kr _ HT3).mono ?_); rintro r u3 ⟨rfl, HT4⟩; have HT5 : Turned [] wr u3 := HT3.trans HT4 (by simp); obtain ⟨⟨a0, a1, a2, a3, a4, a5, a6, a7⟩, ⟨i0, i1, i2, i3, i4, i5, i6, i7⟩⟩ := hat u3 HT5))
          obtain ⟨X2, hX2⟩ : ∃ X, X = put8k u3 g (k * 8) x := ⟨_, rfl⟩
          have hTg : Turned [g] u3 X2 := by rw [hX2]; exact turned8k (Turned.refl _ _) (.inl (by simp)) _ x
          have hO2 := own_put (hO.keep HT5 (by simp)) HG.out.1 HG.out.2.2.2 x
          rw [← hX2, HX.out, HG.out.2.2.1] at hO2
          have HT9 : Turned (blk (.slice ol nl cl)) w X2 := HTr.trans (S' := [g]) (HT5.mono (by simp) |>.trans hTg (fun j hj _ => hj)) (by intro j hj _; rw [HG.out.2.1]; exact hj)
          simp only [put8k] at hX2
          rw [← hX2]
          clear hX2
          rw [← HG.out.1]
          go_roundw
          case rel => exact ⟨k + 1, by omega, by go_num, hO2, HT9⟩
          case measure => simp [intOf]; omega
      · have j0 : (e.kind == 1) = false := by rw [beq_eq_false_iff_ne]; exact hk1
        have hst : Wd.hurt l e = e := (Wd.hurt_h l e hfe.1).2.1 hk1
        have hsame : Wd.upto (Wd.hurt l) l k = Wd.upto (Wd.hurt l) l (k + 1) := by rw [← Wd.upto_set he, hst]; exact (Wd.set_self (Wd.upto_at he)).symm
        have hO' := hO
        rw [hsame] at hO'
        clear hst hsame he hbk hfe hk1 hol hO
        go_wp2_with fail
        have HT3 : Turned [] wr (wr.alloc (.cells #[.int .i64 e.id, .int .i64 e.kind, .int .i64 e.ax, .int .i64 e.ay, .int .i64 e.vx, .int .i64 e.vy, .int .i64 e.h, .int .i64 e.t] 51)) := (Turned.refl [] wr).alloc _
        rw [← HG.out.1]
        go_roundw
        case rel => exact ⟨k + 1, by omega, by go_num, hO'.keep HT3 (by simp), HTr.trans (S' := []) HT3 (by simp)⟩
        case measure => simp [intOf]; omega
    · have hkn : k = l.length := by have := HNL.out; omega
      subst hkn
      rw [Wd.upto_all] at hO
      go_wp2_with fail
      go_end0
      exact ⟨rfl, hO, HTr⟩
end WdW

end Go.Proofs.YtgabgkgokmeaeaaGreat


/- A tick of the program (WdW). -/
namespace Go.Proofs.YtgabgkgokmeaeaaGreat
open Go.RowKit
set_option linter.unusedVariables false
set_option linter.unusedSimpArgs false

namespace WdW
set_option maxRecDepth 20000 in
set_option maxHeartbeats 8000000 in
theorem tick_any (W : Wd.W) (V : WV) (hG : Wd.Gd W) (ht : 0 ≤ W.tick ∧ W.tick ≤ 4611686018427387904) (w : World) (hV : Tells W V w) :
    Calls Tryz.prog 13 #[wvVal V] w fun e w' => ∃ V', e = .returned (wvVal V') ∧ Tells (Wd.tick W) V' w' ∧ (∀ k, V'.At k → V.At k ∨ w.heap.size ≤ k) ∧ Turned [] w w' := by
  obtain ⟨W0, hW0⟩ : ∃ W0, W0 = (w.alloc (.cells #[.int .i64 V.mw, .int .i64 V.mh, .slice V.oa V.nw V.ca, .slice V.ob V.ns V.cb, .int .u64 V.st, .int .i64 V.tk, .slice V.ol V.nl V.cl] 34)).alloc (.cells #[.int .i64 0, .int .i64 0, .slice none 0 0, .slice none 0 0, .int .u64 0, .int .i64 0, .slice none 0 0] 34) := ⟨_, rfl⟩
  obtain ⟨B, hB⟩ : ∃ b, b = w.heap.size := ⟨_, rfl⟩
  obtain ⟨D, hD⟩ : ∃ b, b = w.heap.size + 1 := ⟨_, rfl⟩
  have hT : Turned [] w W0 := by rw [hW0]; exact (((Turned.refl [] w).alloc _).alloc _)
  have hS : Struct B [.int .i64 V.mw, .int .i64 V.mh, .slice V.oa V.nw V.ca, .slice V.ob V.ns V.cb, .int .u64 V.st, .int .i64 V.tk, .slice V.ol V.nl V.cl] W0 := by
    have h0 := Struct.new w [.int .i64 V.mw, .int .i64 V.mh, .slice V.oa V.nw V.ca, .slice V.ob V.ns V.cb, .int .u64 V.st, .int .i64 V.tk, .slice V.ol V.nl V.cl] 34
    rw [← hB] at h0
    rw [hW0]; exact h0.keep ((Turned.refl [] _).alloc _) (by simp)
  have hR : Struct D [.int .i64 0, .int .i64 0, .slice none 0 0, .slice none 0 0, .int .u64 0, .int .i64 0, .slice none 0 0] W0 := by
    have h0 := Struct.new (w.alloc (.cells #[.int .i64 V.mw, .int .i64 V.mh, .slice V.oa V.nw V.ca, .slice V.ob V.ns V.cb, .int .u64 V.st, .int .i64 V.tk, .slice V.ol V.nl V.cl] 34)) [.int .i64 0, .int .i64 0, .slice none 0 0, .slice none 0 0, .int .u64 0, .int .i64 0, .slice none 0 0] 34
    rw [show (w.alloc (.cells #[.int .i64 V.mw, .int .i64 V.mh, .slice V.oa V.nw V.ca, .slice V.ob V.ns V.cb, .int .u64 V.st, .int .i64 V.tk, .slice V.ol V.nl V.cl] 34)).heap.size = w.heap.size + 1 by simp, ← hD] at h0
    rw [hW0]; exact h0
  have hBw : w.heap.size ≤ B := by omega
  have hDw : w.heap.size ≤ D := by omega
  have nBD : B ≠ D := by omega
  have nDB : D ≠ B := by omega
  have hbB : B < W0.heap.size := hS.1
  have hbD : D < W0.heap.size := hR.1
  have kc := copied_any W V (by have := hG.short; omega) W0 (hV.calm hT)
  obtain ⟨b0, hb0⟩ : ∃ b, b = W0.heap.size := ⟨_, rfl⟩
  rw [← hb0] at kc hbB hbD
  have hb0w : w.heap.size ≤ b0 := by rw [hb0]; exact hT.size
  have c0 := (hS.2 0 _ rfl).1
  have f0 := (hS.2 0 _ rfl).2
  have c1 := (hS.2 1 _ rfl).1
  have f1 := (hS.2 1 _ rfl).2
  have c2 := (hS.2 2 _ rfl).1
  have f2 := (hS.2 2 _ rfl).2
  have c3 := (hS.2 3 _ rfl).1
  have f3 := (hS.2 3 _ rfl).2
  have c4 := (hS.2 4 _ rfl).1
  have f4 := (hS.2 4 _ rfl).2
  have c5 := (hS.2 5 _ rfl).1
  have f5 := (hS.2 5 _ rfl).2
  have c6 := (hS.2 6 _ rfl).1
  have f6 := (hS.2 6 _ rfl).2
  have z0 := (hR.2 0 _ rfl).1
  have y0 := (hR.2 0 _ rfl).2
  have z1 := (hR.2 1 _ rfl).1
  have y1 := (hR.2 1 _ rfl).2
  have z2 := (hR.2 2 _ rfl).1
  have y2 := (hR.2 2 _ rfl).2
  have z3 := (hR.2 3 _ rfl).1
  have y3 := (hR.2 3 _ rfl).2
  have z4 := (hR.2 4 _ rfl).1
  have y4 := (hR.2 4 _ rfl).2
  have z5 := (hR.2 5 _ rfl).1
  have y5 := (hR.2 5 _ rfl).2
  have z6 := (hR.2 6 _ rfl).1
  have y6 := (hR.2 6 _ rfl).2
  have HGd : Hid (Wd.Gd W) := hG
  have HV : Hid (Tells W V w) := hV
  clear hG hV
  go_enter Tryz.func13, Tryz.ntmps13
  go_wp2_with fail
  rw [← hW0, ← hD, ← hB]
  clear hW0 hB hD
  go_wp2_with (go_at_call 15; (with_reducible refine kc.mono ?_); rintro r u1 ⟨V1, rfl, hF1, HT1⟩; have hS1 := hS.keep HT1 (by simp); have hR1 := hR.keep HT1 (by simp); have c0 := (hS1.2 0 _ rfl).1; have f0 := (hS1.2 0 _ rfl).2; have c1 := (hS1.2 1 _ rfl).1; have f1 := (hS1.2 1 _ rfl).2; have c2 := (hS1.2 2 _ rfl).1; have f2 := (hS1.2 2 _ rfl).2; have c3 := (hS1.2 3 _ rfl).1; have f3 := (hS1.2 3 _ rfl).2; have c4 := (hS1.2 4 _ rfl).1; have f4 := (hS1.2 4 _ rfl).2; have c5 := (hS1.2 5 _ rfl).1; have f5 := (hS1.2 5 _ rfl).2; have c6 := (hS1.2 6 _ rfl).1; have f6 := (hS1.2 6 _ rfl).2; have z0 := (hR1.2 0 _ rfl).1; have y0 := (hR1.2 0 _ rfl).2; have z1 := (hR1.2 1 _ rfl).1; have y1 := (hR1.2 1 _ rfl).2; have z2 := (hR1.2 2 _ rfl).1; have y2 := (hR1.2 2 _ rfl).2; have z3 := (hR1.2 3 _ rfl).1; have y3 := (hR1.2 3 _ rfl).2; have z4 := (hR1.2 4 _ rfl).1; have y4 := (hR1.2 4 _ rfl).2; have z5 := (hR1.2 5 _ rfl).1; have y5 := (hR1.2 5 _ rfl).2; have z6 := (hR1.2 6 _ rfl).1; have y6 := (hR1.2 6 _ rfl).2)
  have hb1 : b0 ≤ u1.heap.size := by rw [hb0]; exact HT1.size
  obtain ⟨X1, hX1⟩ : ∃ X, X = put7 u1 B V1 := ⟨_, rfl⟩
  have hBX : Struct B (wvEnc V1) X1 := by rw [hX1]; exact set7 hS1 rfl V1
  have hTX : Turned [B] u1 X1 := by rw [hX1]; exact turned7 (Turned.refl _ _) (.inl (by simp)) V1
  have hDX : Struct D [.int .i64 0, .int .i64 0, .slice none 0 0, .slice none 0 0, .int .u64 0, .int .i64 0, .slice none 0 0] X1 := hR1.keep hTX (by simpa using nDB)
  have hF : Fresh W V1 b0 X1 := hF1.keep hTX (by intro k hk; simp at hk; omega)
  have hbX : b0 ≤ X1.heap.size := Nat.le_trans hb1 hTX.size
  have HTX : Turned [] w X1 := ((hT.trans HT1 (by simp)).trans (S' := [B]) hTX (by intro k hk hl; simp at hk; omega))
  have hnl := hF.tells.nl
  simp only [put7] at hX1
  rw [← hX1]
  clear hX1 c0 c1 c2 c3 c4 c5 c6 f0 f1 f2 f3 f4 f5 f6 z0 z1 z2 z3 z4 z5 z6 y0 y1 y2 y3 y4 y5 y6 hb0
  have c0 := (hBX.2 0 _ rfl).1
  have f0 := (hBX.2 0 _ rfl).2
  have c1 := (hBX.2 1 _ rfl).1
  have f1 := (hBX.2 1 _ rfl).2
  have c2 := (hBX.2 2 _ rfl).1
  have f2 := (hBX.2 2 _ rfl).2
  have c3 := (hBX.2 3 _ rfl).1
  have f3 := (hBX.2 3 _ rfl).2
  have c4 := (hBX.2 4 _ rfl).1
  have f4 := (hBX.2 4 _ rfl).2
  have c5 := (hBX.2 5 _ rfl).1
  have f5 := (hBX.2 5 _ rfl).2
  have c6 := (hBX.2 6 _ rfl).1
  have f6 := (hBX.2 6 _ rfl).2
  have z0 := (hDX.2 0 _ rfl).1
  have y0 := (hDX.2 0 _ rfl).2
  have z1 := (hDX.2 1 _ rfl).1
  have y1 := (hDX.2 1 _ rfl).2
  have z2 := (hDX.2 2 _ rfl).1
  have y2 := (hDX.2 2 _ rfl).2
  have z3 := (hDX.2 3 _ rfl).1
  have y3 := (hDX.2 3 _ rfl).2
  have z4 := (hDX.2 4 _ rfl).1
  have y4 := (hDX.2 4 _ rfl).2
  have z5 := (hDX.2 5 _ rfl).1
  have y5 := (hDX.2 5 _ rfl).2
  have z6 := (hDX.2 6 _ rfl).1
  have y6 := (hDX.2 6 _ rfl).2

  have hG := HGd.out
  have hsh := hG.short
  have hmv : mapVal W.m V1.oa V1.ca V1.ob V1.cb = .agg #[.int .i64 V1.mw, .int .i64 V1.mh, .slice V1.oa V1.nw V1.ca, .slice V1.ob V1.ns V1.cb] := by rw [hF.tells.mw, hF.tells.mh, hF.tells.nw, hF.tells.ns]
  have kr := rollBalls_any W.m V1.oa V1.ca V1.ob V1.cb V1.ol V1.nl V1.cl W.l X1 hF.tells.map hF.own hF.na hF.nb (by omega)
  rw [hmv] at kr
  have hlr : (Wd.rolled W).length = W.l.length := by unfold Wd.rolled; rw [List.length_map]
  have hlh : (Wd.hurts W).length = W.l.length := by unfold Wd.hurts; rw [List.length_map, hlr]
  have hgr : ∀ e ∈ Wd.rolled W, Wd.Good W.m e := fun e he => by
    obtain ⟨d, hd, rfl⟩ := List.mem_map.1 he
    exact Wd.roll_good (hG.good d hd)
  have hgh : ∀ e ∈ Wd.hurts W, Wd.Good W.m e := fun e he => by
    obtain ⟨d, hd, rfl⟩ := List.mem_map.1 he
    exact Wd.hurt_good _ _ (hgr d hd)
  have hRr : Wd.Rise (Wd.hurts W) := (hG.rise.map fun e => (Wd.roll_id W.m e).1).map fun e => (Wd.hurt_id _ e).1
  have kh := fun u (h : OwnL 51 8 enEnc (.slice V1.ol V1.nl V1.cl) (Wd.rolled W) u) => harmPlayers_any V1.ol V1.nl V1.cl (Wd.rolled W) (fun e he => ⟨(hgr e he).1.2.2.2.1, (hgr e he).1.2.2.2.2.1⟩) u h (by omega)
  have ka := fun u (h : OwnL 51 8 enEnc (.slice V1.ol V1.nl V1.cl) (Wd.hurts W) u) (hs : RowOf 2 tvEnc V1.ob W.m.sp u) => awaken_any W.m W.st V1.ob V1.cb V1.ol V1.nl V1.cl (Wd.hurts W) hRr (fun e he hw => by
    obtain ⟨hk1, hd⟩ := Wd.waits_iff.1 hw
    obtain ⟨hf, _⟩ := hgh e he
    rcases hf.1 with ⟨_, _, _, h | h⟩ | ⟨k2, _⟩
    · omega
    · exact ⟨h.2, hf.2.2.2.2.2.2⟩
    · omega) (by omega) (by omega) (List.length_pos_iff.2 hG.m.2.1) hG.len.2 u hs h hF.nb
  rw [← hF.tells.ns, ← hF.tells.st] at ka
  obtain ⟨Q, hQ⟩ : ∃ q, q = Wd.backS W.st (Wd.hurts W) := ⟨_, rfl⟩
  rw [← hQ] at ka
  have HQ : Hid (Wd.tick W = ⟨W.m, Q, W.tick + 1, Wd.back W.m W.st (Wd.hurts W)⟩) := by show _ = _; unfold Wd.tick; rw [hQ]
  have htk := hF.tells.tk
  have hw : ∀ y : Int, y = V1.tk → wrap64 (y + 1) = y + 1 := fun y h => w64 (by omega)
  have nB : B ∉ blk (.slice V1.ol V1.nl V1.cl) := fun h => by have := hF.gl B h; omega
  have nD : D ∉ blk (.slice V1.ol V1.nl V1.cl) := fun h => by have := hF.gl D h; omega
  have HTK : Hid (V1.tk = W.tick) := htk
  clear htk hQ hRr hgh hgr hlh hlr hmv hsh hG hnl
  go_wp2_with (first
    | (go_at_call 28; (with_reducible refine kr.mono ?_); rintro r u2 ⟨rfl, hO2, ht2⟩; have hO2 : OwnL 51 8 enEnc (.slice V1.ol V1.nl V1.cl) (Wd.rolled W) u2 := hO2; have hB2 := hBX.keep ht2 nB; have hD2 := hDX.keep ht2 nD; have c0 := (hB2.2 0 _ rfl).1; have f0 := (hB2.2 0 _ rfl).2; have c1 := (hB2.2 1 _ rfl).1; have f1 := (hB2.2 1 _ rfl).2; have c2 := (hB2.2 2 _ rfl).1; have f2 := (hB2.2 2 _ rfl).2; have c3 := (hB2.2 3 _ rfl).1; have f3 := (hB2.2 3 _ rfl).2; have c4 := (hB2.2 4 _ rfl).1; have f4 := (hB2.2 4 _ rfl).2; have c5 := (hB2.2 5 _ rfl).1; have f5 := (hB2.2 5 _ rfl).2; have c6 := (hB2.2 6 _ rfl).1; have f6 := (hB2.2 6 _ rfl).2; have z0 := (hD2.2 0 _ rfl).1; have y0 := (hD2.2 0 _ rfl).2; have z1 := (hD2.2 1 _ rfl).1; have y1 := (hD2.2 1 _ rfl).2; have z2 := (hD2.2 2 _ rfl).1; have y2 := (hD2.2 2 _ rfl).2; have z3 := (hD2.2 3 _ rfl).1; have y3 := (hD2.2 3 _ rfl).2; have z4 := (hD2.2 4 _ rfl).1; have y4 := (hD2.2 4 _ rfl).2; have z5 := (hD2.2 5 _ rfl).1; have y5 := (hD2.2 5 _ rfl).2; have z6 := (hD2.2 6 _ rfl).1; have y6 := (hD2.2 6 _ rfl).2)
    | (go_at_call 29; (with_reducible refine (kh _ hO2).mono ?_); rintro r u3 ⟨rfl, hO3, ht3⟩; have hO3 : OwnL 51 8 enEnc (.slice V1.ol V1.nl V1.cl) (Wd.hurts W) u3 := hO3; have hB3 := hB2.keep ht3 nB; have hD3 := hD2.keep ht3 nD; have c0 := (hB3.2 0 _ rfl).1; have f0 := (hB3.2 0 _ rfl).2; have c1 := (hB3.2 1 _ rfl).1; have f1 := (hB3.2 1 _ rfl).2; have c2 := (hB3.2 2 _ rfl).1; have f2 := (hB3.2 2 _ rfl).2; have c3 := (hB3.2 3 _ rfl).1; have f3 := (hB3.2 3 _ rfl).2; have c4 := (hB3.2 4 _ rfl).1; have f4 := (hB3.2 4 _ rfl).2; have c5 := (hB3.2 5 _ rfl).1; have f5 := (hB3.2 5 _ rfl).2; have c6 := (hB3.2 6 _ rfl).1; have f6 := (hB3.2 6 _ rfl).2; have z0 := (hD3.2 0 _ rfl).1; have y0 := (hD3.2 0 _ rfl).2; have z1 := (hD3.2 1 _ rfl).1; have y1 := (hD3.2 1 _ rfl).2; have z2 := (hD3.2 2 _ rfl).1; have y2 := (hD3.2 2 _ rfl).2; have z3 := (hD3.2 3 _ rfl).1; have y3 := (hD3.2 3 _ rfl).2; have z4 := (hD3.2 4 _ rfl).1; have y4 := (hD3.2 4 _ rfl).2; have z5 := (hD3.2 5 _ rfl).1; have y5 := (hD3.2 5 _ rfl).2; have z6 := (hD3.2 6 _ rfl).1; have y6 := (hD3.2 6 _ rfl).2)
    | (go_at_call 30; (with_reducible refine (ka _ hO3 ((hF.tells.map.sp.turned ht2 hF.nb).turned ht3 hF.nb)).mono ?_); rintro r u4 ⟨rfl, hO4, ht4⟩; have hB4 := hB3.keep ht4 nB; have hD4 := hD3.keep ht4 nD; have c0 := (hB4.2 0 _ rfl).1; have f0 := (hB4.2 0 _ rfl).2; have c1 := (hB4.2 1 _ rfl).1; have f1 := (hB4.2 1 _ rfl).2; have c2 := (hB4.2 2 _ rfl).1; have f2 := (hB4.2 2 _ rfl).2; have c3 := (hB4.2 3 _ rfl).1; have f3 := (hB4.2 3 _ rfl).2; have c4 := (hB4.2 4 _ rfl).1; have f4 := (hB4.2 4 _ rfl).2; have c5 := (hB4.2 5 _ rfl).1; have f5 := (hB4.2 5 _ rfl).2; have c6 := (hB4.2 6 _ rfl).1; have f6 := (hB4.2 6 _ rfl).2; have z0 := (hD4.2 0 _ rfl).1; have y0 := (hD4.2 0 _ rfl).2; have z1 := (hD4.2 1 _ rfl).1; have y1 := (hD4.2 1 _ rfl).2; have z2 := (hD4.2 2 _ rfl).1; have y2 := (hD4.2 2 _ rfl).2; have z3 := (hD4.2 3 _ rfl).1; have y3 := (hD4.2 3 _ rfl).2; have z4 := (hD4.2 4 _ rfl).1; have y4 := (hD4.2 4 _ rfl).2; have z5 := (hD4.2 5 _ rfl).1; have y5 := (hD4.2 5 _ rfl).2; have z6 := (hD4.2 6 _ rfl).1; have y6 := (hD4.2 6 _ rfl).2))
  obtain ⟨X2, hX2⟩ : ∃ X, X = (u4.setCell ⟨B, 4, none⟩ (.int .u64 ((Q : Nat) : Int))).setCell ⟨B, 5, none⟩ (.int .i64 (V1.tk + 1)) := ⟨_, rfl⟩
  have tB : Turned [B] u4 X2 := by rw [hX2]; exact ((Turned.refl [B] u4).setCell (p := ⟨B, 4, none⟩) (.inl (by simp)) _).setCell (p := ⟨B, 5, none⟩) (.inl (by simp)) _
  have hB5 := (hB4.set (i := 4) (by simp [wvEnc]) (.int .u64 ((Q : Nat) : Int))).set (i := 5) (by simp [wvEnc]) (.int .i64 (V1.tk + 1))
  rw [← hX2] at hB5
  have hD5 := hD4.keep tB (by simpa using nDB)
  have ht9 : Turned (blk (.slice V1.ol V1.nl V1.cl)) X1 u4 := (ht2.trans ht3 (fun j hj _ => hj)).trans ht4 (fun j hj _ => hj)
  have hF4 := hF.turn hO4 ht9 hbX (.inl rfl) (st := Q) (tk := W.tick + 1) (sv := ((Q : Nat) : Int)) (tv := V1.tk + 1) rfl (by rw [HTK.out])
  have hF5 := hF4.keep tB (by intro j hj; simp at hj; omega)
  have HT9 : Turned [] w X2 := (HTX.trans (S' := blk (.slice V1.ol V1.nl V1.cl)) ht9 (fun j hj hl => by have := hF.gl j hj; omega)).trans (S' := [B]) tB (by intro j hj hl; simp at hj; omega)
  try rw [← hX2]
  clear hX2 c0 c1 c2 c3 c4 c5 c6 f0 f1 f2 f3 f4 f5 f6 z0 z1 z2 z3 z4 z5 z6 y0 y1 y2 y3 y4 y5 y6
  have c0 := (hB5.2 0 _ rfl).1
  have f0 := (hB5.2 0 _ rfl).2
  have c1 := (hB5.2 1 _ rfl).1
  have f1 := (hB5.2 1 _ rfl).2
  have c2 := (hB5.2 2 _ rfl).1
  have f2 := (hB5.2 2 _ rfl).2
  have c3 := (hB5.2 3 _ rfl).1
  have f3 := (hB5.2 3 _ rfl).2
  have c4 := (hB5.2 4 _ rfl).1
  have f4 := (hB5.2 4 _ rfl).2
  have c5 := (hB5.2 5 _ rfl).1
  have f5 := (hB5.2 5 _ rfl).2
  have c6 := (hB5.2 6 _ rfl).1
  have f6 := (hB5.2 6 _ rfl).2
  have z0 := (hD5.2 0 _ rfl).1
  have y0 := (hD5.2 0 _ rfl).2
  have z1 := (hD5.2 1 _ rfl).1
  have y1 := (hD5.2 1 _ rfl).2
  have z2 := (hD5.2 2 _ rfl).1
  have y2 := (hD5.2 2 _ rfl).2
  have z3 := (hD5.2 3 _ rfl).1
  have y3 := (hD5.2 3 _ rfl).2
  have z4 := (hD5.2 4 _ rfl).1
  have y4 := (hD5.2 4 _ rfl).2
  have z5 := (hD5.2 5 _ rfl).1
  have y5 := (hD5.2 5 _ rfl).2
  have z6 := (hD5.2 6 _ rfl).1
  have y6 := (hD5.2 6 _ rfl).2
  obtain ⟨X9, hX9⟩ : ∃ X, X = put7 X2 D ⟨V1.mw, V1.mh, V1.oa, V1.nw, V1.ca, V1.ob, V1.ns, V1.cb, ((Q : Nat) : Int), V1.tk + 1, V1.ol, V1.nl, V1.cl⟩ := ⟨_, rfl⟩
  have hS9 : Struct D (wvEnc ⟨V1.mw, V1.mh, V1.oa, V1.nw, V1.ca, V1.ob, V1.ns, V1.cb, ((Q : Nat) : Int), V1.tk + 1, V1.ol, V1.nl, V1.cl⟩) X9 := by rw [hX9]; exact set7 hD5 rfl _
  have hT9 : Turned [D] X2 X9 := by rw [hX9]; exact turned7 (Turned.refl _ _) (.inl (by simp)) _
  simp only [put7] at hX9
  rw [← hX9]
  clear hX9
  have e0 := (hS9.2 0 _ rfl).1
  have e1 := (hS9.2 1 _ rfl).1
  have e2 := (hS9.2 2 _ rfl).1
  have e3 := (hS9.2 3 _ rfl).1
  have e4 := (hS9.2 4 _ rfl).1
  have e5 := (hS9.2 5 _ rfl).1
  have e6 := (hS9.2 6 _ rfl).1
  go_wp2_with fail
  refine bodyPost_ret (v := wvVal ⟨V1.mw, V1.mh, V1.oa, V1.nw, V1.ca, V1.ob, V1.ns, V1.cb, ((Q : Nat) : Int), V1.tk + 1, V1.ol, V1.nl, V1.cl⟩) (by simp [results, Tryz.results13, go_sem, e0, e1, e2, e3, e4, e5, e6]) rfl ⟨_, rfl, ?_, fun k hk => .inr (Nat.le_trans hb0w (hF5.at_ge hk)), HT9.trans (S' := [D]) hT9 (by intro k hk hl; simp at hk; omega)⟩
  rw [HQ.out]; exact (hF5.keep hT9 (by intro k hk; simp at hk; omega)).tells
end WdW

end Go.Proofs.YtgabgkgokmeaeaaGreat


/- A world at its beginning: New of the program (WdW). -/
namespace Go.Proofs.YtgabgkgokmeaeaaGreat
open Go.RowKit
set_option linter.unusedVariables false
set_option linter.unusedSimpArgs false

theorem en_cells {w0 : World} {P : Nat} (x : En.E) (hP : w0.heap.size = P) : ∀ (j : Nat) (u : Value), ([x].flatMap enEnc)[j]? = some u → (w0.alloc (.cells #[.int .i64 x.id, .int .i64 x.kind, .int .i64 x.ax, .int .i64 x.ay, .int .i64 x.vx, .int .i64 x.vy, .int .i64 x.h, .int .i64 x.t] 51)).cell? ⟨P, 0 + j, none⟩ = some u := by
  subst hP
  intro j u hj
  rw [Nat.zero_add]
  exact ((Struct.new w0 (enEnc x) 51).2 j u (by simpa using hj)).1
namespace Wd
theorem steps_three (s k : Nat) : Ra.steps s (3 * (k + 1)) = Ra.nxt (Ra.nxt (Ra.nxt (Ra.steps s (3 * k)))) := by
  rw [show 3 * (k + 1) = 3 * k + 1 + 1 + 1 by omega]
  rfl
end Wd

namespace WdW
set_option maxRecDepth 20000 in
set_option maxHeartbeats 4000000 in
theorem new_any (m : Ti.M) (oa : Option Addr) (ca : Nat) (ob : Option Addr) (cb : Nat) (s : Nat) (n : Int) (hs : s < 18446744073709551616) (hn : En.I64 n) (w : World) (hM : MapAt m oa ob w) :
    Calls Tryz.prog 7 #[mapVal m oa ca ob cb, .int .u64 (s : Int), .int .i64 n] w fun e w' => ∃ V, e = .returned (.tuple #[wvVal V, .int .i64 (Wd.newE m n)]) ∧ Tells (Wd.newW m s n) V w' ∧ (∀ k, V.At k → (∃ a, oa = some a ∧ a.block = k) ∨ (∃ a, ob = some a ∧ a.block = k) ∨ w.heap.size ≤ k) ∧ Turned [] w w' := by
  obtain ⟨W0, hW0⟩ : ∃ W0, W0 = (w.alloc (.cells #[.int .i64 m.W, .int .i64 m.H, .slice oa m.ws.length ca, .slice ob m.sp.length cb] 25)).alloc (.cells #[.int .i64 0, .int .i64 0, .slice none 0 0, .slice none 0 0, .int .u64 0, .int .i64 0, .slice none 0 0] 34) := ⟨_, rfl⟩
  obtain ⟨M, hMM⟩ : ∃ b, b = w.heap.size := ⟨_, rfl⟩
  obtain ⟨D, hD⟩ : ∃ b, b = w.heap.size + 1 := ⟨_, rfl⟩
  have hT : Turned [] w W0 := by rw [hW0]; exact (((Turned.refl [] w).alloc _).alloc _)
  have hS : Struct M [.int .i64 m.W, .int .i64 m.H, .slice oa m.ws.length ca, .slice ob m.sp.length cb] W0 := by
    have h0 := Struct.new w [.int .i64 m.W, .int .i64 m.H, .slice oa m.ws.length ca, .slice ob m.sp.length cb] 25
    rw [← hMM] at h0
    rw [hW0]; exact h0.keep ((Turned.refl [] _).alloc _) (by simp)
  have hR : Struct D [.int .i64 0, .int .i64 0, .slice none 0 0, .slice none 0 0, .int .u64 0, .int .i64 0, .slice none 0 0] W0 := by
    have h0 := Struct.new (w.alloc (.cells #[.int .i64 m.W, .int .i64 m.H, .slice oa m.ws.length ca, .slice ob m.sp.length cb] 25)) [.int .i64 0, .int .i64 0, .slice none 0 0, .slice none 0 0, .int .u64 0, .int .i64 0, .slice none 0 0] 34
    rw [show (w.alloc (.cells #[.int .i64 m.W, .int .i64 m.H, .slice oa m.ws.length ca, .slice ob m.sp.length cb] 25)).heap.size = w.heap.size + 1 by simp, ← hD] at h0
    rw [hW0]; exact h0
  have hDw : w.heap.size ≤ D := by omega
  have kf := TiW.formed_any m oa ca ob cb W0 (hM.calm hT)
  have c0 := (hS.2 0 _ rfl).1
  have f0 := (hS.2 0 _ rfl).2
  have c1 := (hS.2 1 _ rfl).1
  have f1 := (hS.2 1 _ rfl).2
  have c2 := (hS.2 2 _ rfl).1
  have f2 := (hS.2 2 _ rfl).2
  have c3 := (hS.2 3 _ rfl).1
  have f3 := (hS.2 3 _ rfl).2
  have z0 := (hR.2 0 _ rfl).1
  have y0 := (hR.2 0 _ rfl).2
  have z1 := (hR.2 1 _ rfl).1
  have y1 := (hR.2 1 _ rfl).2
  have z2 := (hR.2 2 _ rfl).1
  have y2 := (hR.2 2 _ rfl).2
  have z3 := (hR.2 3 _ rfl).1
  have y3 := (hR.2 3 _ rfl).2
  have z4 := (hR.2 4 _ rfl).1
  have y4 := (hR.2 4 _ rfl).2
  have z5 := (hR.2 5 _ rfl).1
  have y5 := (hR.2 5 _ rfl).2
  have z6 := (hR.2 6 _ rfl).1
  have y6 := (hR.2 6 _ rfl).2
  by_cases hok : Wd.newOk m n = true
  · obtain ⟨hfm, hn0, hn8⟩ := Wd.newOk_iff.1 hok
    rw [Ti.formedB_iff.2 hfm] at kf
    obtain ⟨N, rfl⟩ : ∃ N : Nat, n = (N : Int) := ⟨n.toNat, by omega⟩
    have hnw : Wd.newW m s (N : Int) = ⟨m, Ra.steps s (3 * N), 0, Wd.balls m s N⟩ ∧ Wd.newE m (N : Int) = 0 := by
      unfold Wd.newW Wd.newE
      rw [if_pos hok, if_pos hok]
      exact ⟨by rw [Int.toNat_natCast]; rfl, rfl⟩
    have HL : Hid (Wd.newW m s (N : Int) = ⟨m, Ra.steps s (3 * N), 0, Wd.balls m s N⟩ ∧ Wd.newE m (N : Int) = 0) := hnw
    have hN : N ≤ 8 := by omega
    have n1 : ¬ (N : Int) < 0 := by omega
    have n2 : ¬ 8 < (N : Int) := by omega
    have hsp0 : 0 < m.sp.length := List.length_pos_iff.2 hfm.2.1
    have hspl : m.sp.length ≤ 1100 := hM.ls
    obtain ⟨b0, hb0⟩ : ∃ b, b = W0.heap.size := ⟨_, rfl⟩
    have hb0w : w.heap.size ≤ b0 := by rw [hb0]; exact hT.size
    have hbD : D < b0 := by rw [hb0]; exact hR.1
    have kc := fun u (h : Turned [] W0 u) => copied_any ⟨m, s, 0, []⟩ ⟨m.W, m.H, oa, m.ws.length, ca, ob, m.sp.length, cb, (s : Int), 0, none, 0, 0⟩ (by simp) u ⟨rfl, rfl, rfl, rfl, rfl, rfl, rfl, ((hM.calm hT).calm h), fun i a hi => by simp at hi⟩
    have HMM : Hid (MapAt m oa ob w) := hM
    have HFM : Hid (Ti.Formed m) := hfm
    clear hok hfm hnw hn hn0 hn8 hM
    go_enter Tryz.func7, Tryz.ntmps7
    go_wp2_with fail
    rw [← hW0, ← hD, ← hMM]
    clear hW0 hMM hD
    go_wp2_with (first
      | (go_at_call 14; (with_reducible refine kf.mono ?_); rintro r u0 ⟨rfl, HT0⟩; have hS0 := hS.keep HT0 (by simp); have hR0 := hR.keep HT0 (by simp); have c0 := (hS0.2 0 _ rfl).1; have f0 := (hS0.2 0 _ rfl).2; have c1 := (hS0.2 1 _ rfl).1; have f1 := (hS0.2 1 _ rfl).2; have c2 := (hS0.2 2 _ rfl).1; have f2 := (hS0.2 2 _ rfl).2; have c3 := (hS0.2 3 _ rfl).1; have f3 := (hS0.2 3 _ rfl).2; have z0 := (hR0.2 0 _ rfl).1; have y0 := (hR0.2 0 _ rfl).2; have z1 := (hR0.2 1 _ rfl).1; have y1 := (hR0.2 1 _ rfl).2; have z2 := (hR0.2 2 _ rfl).1; have y2 := (hR0.2 2 _ rfl).2; have z3 := (hR0.2 3 _ rfl).1; have y3 := (hR0.2 3 _ rfl).2; have z4 := (hR0.2 4 _ rfl).1; have y4 := (hR0.2 4 _ rfl).2; have z5 := (hR0.2 5 _ rfl).1; have y5 := (hR0.2 5 _ rfl).2; have z6 := (hR0.2 6 _ rfl).1; have y6 := (hR0.2 6 _ rfl).2)
      | (go_at_call 15; (with_reducible refine (kc _ HT0).mono ?_); rintro r u1 ⟨V1, rfl, hF1, HT1⟩; have hR1 := hR0.keep HT1 (by simp); have z0 := (hR1.2 0 _ rfl).1; have y0 := (hR1.2 0 _ rfl).2; have z1 := (hR1.2 1 _ rfl).1; have y1 := (hR1.2 1 _ rfl).2; have z2 := (hR1.2 2 _ rfl).1; have y2 := (hR1.2 2 _ rfl).2; have z3 := (hR1.2 3 _ rfl).1; have y3 := (hR1.2 3 _ rfl).2; have z4 := (hR1.2 4 _ rfl).1; have y4 := (hR1.2 4 _ rfl).2; have z5 := (hR1.2 5 _ rfl).1; have y5 := (hR1.2 5 _ rfl).2; have z6 := (hR1.2 6 _ rfl).1; have y6 := (hR1.2 6 _ rfl).2))
    obtain ⟨X1, hX1⟩ : ∃ X, X = u1.alloc (.cells #[.int .i64 V1.mw, .int .i64 V1.mh, .slice V1.oa V1.nw V1.ca, .slice V1.ob V1.ns V1.cb, .int .u64 V1.st, .int .i64 V1.tk, .slice V1.ol V1.nl V1.cl] 34) := ⟨_, rfl⟩
    obtain ⟨B, hB⟩ : ∃ b, b = u1.heap.size := ⟨_, rfl⟩
    have hBX : Struct B (wvEnc V1) X1 := by rw [hX1, hB]; exact Struct.new u1 (wvEnc V1) 34
    have tX1 : Turned [] u1 X1 := by rw [hX1]; exact (Turned.refl [] u1).alloc _
    have hF : Fresh ⟨m, s, 0, []⟩ V1 b0 X1 := by
      have h := hF1.calm tX1
      refine ⟨h.tells, h.own, ?_, ?_, ?_, h.la, h.lb, h.na, h.nb⟩
      · intro a ha; exact Nat.le_trans (by rw [hb0]; exact HT0.size) (h.ga a ha)
      · intro a ha; exact Nat.le_trans (by rw [hb0]; exact HT0.size) (h.gb a ha)
      · intro k hk; exact Nat.le_trans (by rw [hb0]; exact HT0.size) (h.gl k hk)
    have hDX := hR1.keep tX1 (by simp)
    have hbB : b0 ≤ B := by rw [hB, hb0]; exact (HT0.trans HT1 (by simp)).size
    have nDB : D ≠ B := by omega
    have HTX : Turned [] w X1 := (hT.trans (HT0.trans HT1 (by simp)) (by simp)).trans tX1 (by simp)
    have hq1 : ∀ a, V1.oa = some a → a.block ≠ B := fun a ha => by have := hF1.la a ha; omega
    have hq2 : ∀ a, V1.ob = some a → a.block ≠ B := fun a ha => by have := hF1.lb a ha; omega
    have hq3 : B ∉ blk (.slice V1.ol V1.nl V1.cl) := fun h => by have := hF1.own.lt _ h; omega
    rw [← hX1, ← hB]
    clear hX1 hB c0 c1 c2 c3 f0 f1 f2 f3 z0 z1 z2 z3 z4 z5 z6 y0 y1 y2 y3 y4 y5 y6 hb0
    go_loopw [28] (fun i wr => ∃ (k : Nat) (V : WV), k ≤ N ∧ i = .int .i64 (k : Int) ∧ Struct B (wvEnc V) wr ∧ Struct D [.int .i64 0, .int .i64 0, .slice none 0 0, .slice none 0 0, .int .u64 0, .int .i64 0, .slice none 0 0] wr ∧ Fresh ⟨m, Ra.steps s (3 * k), 0, Wd.balls m s k⟩ V b0 wr ∧ ((∀ a, V.oa = some a → a.block ≠ B) ∧ (∀ a, V.ob = some a → a.block ≠ B) ∧ B ∉ blk (.slice V.ol V.nl V.cl)) ∧ Turned [] w wr ∧ B < wr.heap.size) (fun i _ => N - (intOf i).toNat)
    case atStart => exact ⟨0, V1, by omega, rfl, hBX, hDX, hF, ⟨hq1, hq2, hq3⟩, HTX, hBX.1⟩
    case round =>
      clear hBX hDX hF hq1 hq2 hq3 HTX
      obtain ⟨k, V, hk, rfl, hB2, hD2, hF, ⟨hq1, hq2, hq3⟩, HTw, hBl⟩ := hrel
      have c0 := (hB2.2 0 _ rfl).1
      have f0 := (hB2.2 0 _ rfl).2
      have c1 := (hB2.2 1 _ rfl).1
      have f1 := (hB2.2 1 _ rfl).2
      have c2 := (hB2.2 2 _ rfl).1
      have f2 := (hB2.2 2 _ rfl).2
      have c3 := (hB2.2 3 _ rfl).1
      have f3 := (hB2.2 3 _ rfl).2
      have c4 := (hB2.2 4 _ rfl).1
      have f4 := (hB2.2 4 _ rfl).2
      have c5 := (hB2.2 5 _ rfl).1
      have f5 := (hB2.2 5 _ rfl).2
      have c6 := (hB2.2 6 _ rfl).1
      have f6 := (hB2.2 6 _ rfl).2
      have z0 := (hD2.2 0 _ rfl).1
      have y0 := (hD2.2 0 _ rfl).2
      have z1 := (hD2.2 1 _ rfl).1
      have y1 := (hD2.2 1 _ rfl).2
      have z2 := (hD2.2 2 _ rfl).1
      have y2 := (hD2.2 2 _ rfl).2
      have z3 := (hD2.2 3 _ rfl).1
      have y3 := (hD2.2 3 _ rfl).2
      have z4 := (hD2.2 4 _ rfl).1
      have y4 := (hD2.2 4 _ rfl).2
      have z5 := (hD2.2 5 _ rfl).1
      have y5 := (hD2.2 5 _ rfl).2
      have z6 := (hD2.2 6 _ rfl).1
      have y6 := (hD2.2 6 _ rfl).2
      by_cases hlt : (k : Int) < (N : Int)
      · have kn := fun u (h : Turned [] wr u) => newBall_any m (Ra.steps s (3 * k)) V.ob V.cb k (9 + (k : Int)) rfl hsp0 hspl u ((hF.calm h).tells.map.sp)
        obtain ⟨x, hx⟩ : ∃ x, x = Wd.ball m (Ra.steps s (3 * k)) k := ⟨_, rfl⟩
        obtain ⟨s1, hs1⟩ : ∃ x, x = Ra.nxt (Ra.nxt (Ra.nxt (Ra.steps s (3 * k)))) := ⟨_, rfl⟩
        rw [← hF.tells.ns, ← hx, ← hs1, ← hF.tells.st] at kn
        have hlen : (Wd.balls m s k).length = k := Wd.balls_len m s k
        have HX : Hid (Wd.balls m s k ++ [x] = Wd.balls m s (k + 1) ∧ s1 = Ra.steps s (3 * (k + 1)) ∧ (Wd.balls m s k).length = k) := ⟨by rw [hx]; rfl, by rw [hs1, Wd.steps_three], hlen⟩
        have hBE : B ≠ wr.heap.size := by omega
        have hBE' : B ∉ [wr.heap.size] := by simpa using hBE
        have hnB : ∀ j ∈ blk (.slice V.ol V.nl V.cl), j ∉ [B] := fun j hj hm => by simp at hm; subst hm; exact hq3 hj
        have h63 : (Wd.balls m s k).length + 1 ≤ maxLen := by rw [hlen]; unfold maxLen; omega
        have hby : ((Wd.balls m s k).length + 1) * 64 ≤ 140737488355328 := by rw [hlen]; omega
        have hw9 : ∀ y : Int, y = (k : Int) → wrap64 (9 + y) = 9 + y := fun y h => by unfold wrap64; omega
        have hBw : B < wr.heap.size := hBl
        have hDl : D < wr.heap.size := hD2.1
        clear hx hs1 hlen
        go_wp2_with (first
          | (go_at_call 16; (with_reducible refine (kn _ ((Turned.refl [] wr).alloc _)).mono ?_); rintro r u2 ⟨rfl, HT2⟩; have HTE : Turned [B] wr u2 := (((Turned.refl [] wr).alloc (.cells #[.int .i64 0, .int .i64 0, .int .i64 0, .int .i64 0, .int .i64 0, .int .i64 0, .int .i64 0, .int .i64 0] 51)).trans HT2 (by simp)).mono (by simp); have hE2 := (Struct.new wr [.int .i64 0, .int .i64 0, .int .i64 0, .int .i64 0, .int .i64 0, .int .i64 0, .int .i64 0, .int .i64 0] 51).keep HT2 (by simp); have hBu := hB2.keep (((Turned.refl [] wr).alloc (.cells #[.int .i64 0, .int .i64 0, .int .i64 0, .int .i64 0, .int .i64 0, .int .i64 0, .int .i64 0, .int .i64 0] 51)).trans HT2 (by simp)) (by simp); have hDu := hD2.keep HTE (by simpa using nDB); have c0 := (hBu.2 0 _ rfl).1; have f0 := (hBu.2 0 _ rfl).2; have c1 := (hBu.2 1 _ rfl).1; have f1 := (hBu.2 1 _ rfl).2; have c2 := (hBu.2 2 _ rfl).1; have f2 := (hBu.2 2 _ rfl).2; have c3 := (hBu.2 3 _ rfl).1; have f3 := (hBu.2 3 _ rfl).2; have c4 := (hBu.2 4 _ rfl).1; have f4 := (hBu.2 4 _ rfl).2; have c5 := (hBu.2 5 _ rfl).1; have f5 := (hBu.2 5 _ rfl).2; have c6 := (hBu.2 6 _ rfl).1; have f6 := (hBu.2 6 _ rfl).2; have d0 := (hE2.2 0 _ rfl).1; have j0 := (hE2.2 0 _ rfl).2; have d1 := (hE2.2 1 _ rfl).1; have j1 := (hE2.2 1 _ rfl).2; have d2 := (hE2.2 2 _ rfl).1; have j2 := (hE2.2 2 _ rfl).2; have d3 := (hE2.2 3 _ rfl).1; have j3 := (hE2.2 3 _ rfl).2; have d4 := (hE2.2 4 _ rfl).1; have j4 := (hE2.2 4 _ rfl).2; have d5 := (hE2.2 5 _ rfl).1; have j5 := (hE2.2 5 _ rfl).2; have d6 := (hE2.2 6 _ rfl).1; have j6 := (hE2.2 6 _ rfl).2; have d7 := (hE2.2 7 _ rfl).1; have j7 := (hE2.2 7 _ rfl).2)
          | (at_builtin; refine wp_push (v := .slice V.ol V.nl V.cl) elem_en rfl _ _ rfl rfl (l := Wd.balls m s k) (hF.own.keep ((MvR.turned8 (Turned.setCell (p := ⟨B, 4, none⟩) HTE (.inl (by simp)) (.int .u64 ((s1 : Nat) : Int))) (.inr (Nat.le_refl _)) x).alloc (.cells #[.int .i64 x.id, .int .i64 x.kind, .int .i64 x.ax, .int .i64 x.ay, .int .i64 x.vx, .int .i64 x.vy, .int .i64 x.h, .int .i64 x.t] 51)) hnB) _ 0 1 1 [x] rfl rfl enEnc_len enEnc_one (en_cells x (by simp)) h63 hby ?_; intro v8 w8 ho8 ht8 hb8; obtain ⟨o8, c8, hv8, _, _⟩ := ho8.form; obtain ⟨n8, hn8⟩ : ∃ n, n = (Wd.balls m s k ++ [x]).length := ⟨_, rfl⟩; rw [← hn8] at hv8; subst hv8; clear hn8; have hB8 : Struct B [.int .i64 V.mw, .int .i64 V.mh, .slice V.oa V.nw V.ca, .slice V.ob V.ns V.cb, .int .u64 ((s1 : Nat) : Int), .int .i64 V.tk, .slice V.ol V.nl V.cl] w8 := (((hBu.set (i := 4) (by simp [wvEnc]) (.int .u64 ((s1 : Nat) : Int))).keep (MvR.turned8 (Turned.refl [wr.heap.size] _) (.inl (by simp)) x) hBE').keep ((Turned.refl [] _).alloc (.cells #[.int .i64 x.id, .int .i64 x.kind, .int .i64 x.ax, .int .i64 x.ay, .int .i64 x.vx, .int .i64 x.vy, .int .i64 x.h, .int .i64 x.t] 51)) (by simp)).keep ht8 hq3; have c0 := (hB8.2 0 _ rfl).1; have f0 := (hB8.2 0 _ rfl).2; have c1 := (hB8.2 1 _ rfl).1; have f1 := (hB8.2 1 _ rfl).2; have c2 := (hB8.2 2 _ rfl).1; have f2 := (hB8.2 2 _ rfl).2; have c3 := (hB8.2 3 _ rfl).1; have f3 := (hB8.2 3 _ rfl).2; have c4 := (hB8.2 4 _ rfl).1; have f4 := (hB8.2 4 _ rfl).2; have c5 := (hB8.2 5 _ rfl).1; have f5 := (hB8.2 5 _ rfl).2; have c6 := (hB8.2 6 _ rfl).1; have f6 := (hB8.2 6 _ rfl).2))
        have tA := ((MvR.turned8 (Turned.setCell (p := ⟨B, 4, none⟩) HTE (.inl (by simp)) (.int .u64 ((s1 : Nat) : Int))) (.inr (Nat.le_refl _)) x).alloc (.cells #[.int .i64 x.id, .int .i64 x.kind, .int .i64 x.ax, .int .i64 x.ay, .int .i64 x.vx, .int .i64 x.vy, .int .i64 x.h, .int .i64 x.t] 51))
        have sA := tA.size
        simp at sA
        have hFa := hF.away tA (fun a ha hm => hq1 a ha (by simpa using hm)) (fun a ha hm => hq2 a ha (by simpa using hm)) hnB
        have hbr : b0 ≤ wr.heap.size := by omega
        have hnq : B ∉ blk (.slice o8 n8 c8) := fun hm => by
          rcases hb8 with h | h
          · rw [h] at hm; exact hq3 hm
          · rw [h] at hm; simp at hm; omega
        have hF8 := hFa.turn ho8 ht8 (Nat.le_trans hbr tA.size) (hb8.imp_right (fun h j hj => by rw [h, List.mem_singleton] at hj; exact Nat.le_of_eq hj.symm)) (st := s1) (tk := 0) (sv := ((s1 : Nat) : Int)) (tv := V.tk) rfl hF.tells.tk
        have hB9 := hB8.set (i := 6) (by simp) (.slice o8 n8 c8)
        obtain ⟨X2, hX2⟩ : ∃ X, X = w8.setCell ⟨B, 6, none⟩ (.slice o8 n8 c8) := ⟨_, rfl⟩
        have tB : Turned [B] w8 X2 := by rw [hX2]; exact (Turned.refl [B] w8).setCell (p := ⟨B, 6, none⟩) (.inl (by simp)) _
        rw [← hX2] at hB9
        have hF9 := hF8.away tB (fun a ha hm => hq1 a ha (by simpa using hm)) (fun a ha hm => hq2 a ha (by simpa using hm)) (fun j hj hm => by simp at hm; subst hm; exact hnq hj)
        have hD9 := ((hD2.keep tA (by simpa using nDB)).keep ht8 (fun h => by have := hF.gl D h; omega)).keep tB (by simpa using nDB)
        have HT9 : Turned [] w X2 := ((HTw.trans (S' := [B]) tA (by intro j hj hl; simp at hj; omega)).trans (S' := blk (.slice V.ol V.nl V.cl)) ht8 (fun j hj hl => by have := hF.gl j hj; omega)).trans (S' := [B]) tB (by intro j hj hl; simp at hj; omega)
        rw [← hX2]
        clear hX2
        go_roundw
        case rel => exact ⟨k + 1, ⟨V.mw, V.mh, V.oa, V.nw, V.ca, V.ob, V.ns, V.cb, ((s1 : Nat) : Int), V.tk, o8, n8, c8⟩, by omega, by go_num, hB9, hD9, by rw [← HX.out.1, ← HX.out.2.1]; exact hF9, ⟨hq1, hq2, hnq⟩, HT9, hB9.1⟩
        case measure => simp [intOf]; omega
      · have hkN : k = N := by omega
        subst hkN
        go_wp2_with fail
        obtain ⟨X9, hX9⟩ : ∃ X, X = put7 wr D V := ⟨_, rfl⟩
        have hS9 : Struct D (wvEnc V) X9 := by rw [hX9]; exact set7 hD2 rfl _
        have hT9 : Turned [D] wr X9 := by rw [hX9]; exact turned7 (Turned.refl _ _) (.inl (by simp)) _
        simp only [put7] at hX9
        rw [← hX9]
        clear hX9
        have e0 := (hS9.2 0 _ rfl).1
        have e1 := (hS9.2 1 _ rfl).1
        have e2 := (hS9.2 2 _ rfl).1
        have e3 := (hS9.2 3 _ rfl).1
        have e4 := (hS9.2 4 _ rfl).1
        have e5 := (hS9.2 5 _ rfl).1
        have e6 := (hS9.2 6 _ rfl).1
        go_wp2_with fail
        refine bodyPost_ret (v := .tuple #[wvVal V, .int .i64 0]) (by simp [results, Tryz.results7, go_sem, e0, e1, e2, e3, e4, e5, e6]) rfl ⟨V, by rw [HL.out.2], ?_, fun j hj => .inr (.inr (Nat.le_trans hb0w (hF.at_ge hj))), HTw.trans (S' := [D]) hT9 (by intro j hj hl; simp at hj; omega)⟩
        rw [HL.out.1]
        exact (hF.keep hT9 (by intro j hj; simp at hj; omega)).tells
  · have hnw : Wd.newW m s n = Wd.zero ∧ Wd.newE m n = 1 := by
      unfold Wd.newW Wd.newE
      rw [if_neg hok, if_neg hok]
      exact ⟨rfl, rfl⟩
    have HL : Hid (Wd.newW m s n = Wd.zero ∧ Wd.newE m n = 1) := hnw
    have hcase : (Ti.formedB m = false) ∨ (Ti.formedB m = true ∧ n < 0) ∨ (Ti.formedB m = true ∧ ¬ n < 0 ∧ 8 < n) := by
      cases hq : Ti.formedB m with
      | false => exact .inl rfl
      | true =>
        right
        by_cases h1 : n < 0
        · exact .inl ⟨rfl, h1⟩
        · by_cases h2 : 8 < n
          · exact .inr ⟨rfl, h1, h2⟩
          · exact absurd (Wd.newOk_iff.2 ⟨Ti.formedB_iff.1 hq, by omega, by omega⟩) hok
    clear hok hnw hn hs hM
    rcases hcase with h | ⟨h, h1⟩ | ⟨h, h1, h2⟩
    all_goals
      rw [h] at kf
      clear h
      go_enter Tryz.func7, Tryz.ntmps7
      go_wp2_with fail
      rw [← hW0, ← hD, ← hMM]
      clear hW0 hMM hD
      go_wp2_with (go_at_call 14; (with_reducible refine kf.mono ?_); rintro r u0 ⟨rfl, HT0⟩; have hS0 := hS.keep HT0 (by simp); have hR0 := hR.keep HT0 (by simp); have c0 := (hS0.2 0 _ rfl).1; have f0 := (hS0.2 0 _ rfl).2; have c1 := (hS0.2 1 _ rfl).1; have f1 := (hS0.2 1 _ rfl).2; have c2 := (hS0.2 2 _ rfl).1; have f2 := (hS0.2 2 _ rfl).2; have c3 := (hS0.2 3 _ rfl).1; have f3 := (hS0.2 3 _ rfl).2; have z0 := (hR0.2 0 _ rfl).1; have y0 := (hR0.2 0 _ rfl).2; have z1 := (hR0.2 1 _ rfl).1; have y1 := (hR0.2 1 _ rfl).2; have z2 := (hR0.2 2 _ rfl).1; have y2 := (hR0.2 2 _ rfl).2; have z3 := (hR0.2 3 _ rfl).1; have y3 := (hR0.2 3 _ rfl).2; have z4 := (hR0.2 4 _ rfl).1; have y4 := (hR0.2 4 _ rfl).2; have z5 := (hR0.2 5 _ rfl).1; have y5 := (hR0.2 5 _ rfl).2; have z6 := (hR0.2 6 _ rfl).1; have y6 := (hR0.2 6 _ rfl).2)
      obtain ⟨X9, hX9⟩ : ∃ X, X = put7 u0 D ⟨0, 0, none, 0, 0, none, 0, 0, 0, 0, none, 0, 0⟩ := ⟨_, rfl⟩
      have hS9 : Struct D (wvEnc ⟨0, 0, none, 0, 0, none, 0, 0, 0, 0, none, 0, 0⟩) X9 := by rw [hX9]; exact set7 hR0 rfl _
      have hT9 : Turned [] w X9 := by rw [hX9]; exact turned7 (hT.trans HT0 (by simp)) (.inr hDw) _
      simp only [put7] at hX9
      rw [← hX9]
      clear hX9
      have e0 := (hS9.2 0 _ rfl).1
      have e1 := (hS9.2 1 _ rfl).1
      have e2 := (hS9.2 2 _ rfl).1
      have e3 := (hS9.2 3 _ rfl).1
      have e4 := (hS9.2 4 _ rfl).1
      have e5 := (hS9.2 5 _ rfl).1
      have e6 := (hS9.2 6 _ rfl).1
      go_wp2_with fail
      refine bodyPost_ret (v := .tuple #[wvVal ⟨0, 0, none, 0, 0, none, 0, 0, 0, 0, none, 0, 0⟩, .int .i64 1]) (by simp [results, Tryz.results7, go_sem, e0, e1, e2, e3, e4, e5, e6]) rfl ⟨_, by rw [HL.out.2], by rw [HL.out.1]; exact Tells.zero _, fun j hj => ?_, hT9⟩
      exact absurd hj (by unfold WV.At; simp)
end WdW

end Go.Proofs.YtgabgkgokmeaeaaGreat


/- A region that draws its order, under a condition on the world: the condition may be strengthened on the way (BtL). -/
namespace Go.Proofs.YtgabgkgokmeaeaaGreat
set_option linter.unusedVariables false

namespace BtL
theorem held_mono {P : Program} {md : Region.Mode} {ops : Array Oper} {Q : Exit → Act → World → Prop} {S S' : World → Prop} (h : ∀ w, S' w → S w) :
    ∀ {fuel : Nat} {listed : Array Bool} {a : Act} {w : World}, wpAnyH P md ops Q S' fuel listed a w → wpAnyH P md ops Q S fuel listed a w
  | 0, _, _, _, hh => hh
  | fuel + 1, _, _, _, hh => ⟨hh.1, fun i hi => wpOp_mono (fun a' w' h' => ⟨h w' h'.1, held_mono h h'.2⟩) (hh.2 i hi)⟩
/-- 'wpAnyH_take', the temporary named -/
theorem take_d {P : Program} {md : Region.Mode} {ops : Array Oper} {Q : Exit → Act → World → Prop} {S : World → Prop} {i : Nat} {oi : Oper} {v : Value} {fuel : Nat} {listed : Array Bool} {a : Act} {w : World} (d : Option Tmp) (hi : ops[i]? = some oi) (hd : oi.dst = d)
    (hs : Region.noSelect ops = true) (hf : Region.free md ops listed i = true) (hr : (Region.ready md ops listed).contains i = true)
    (hQ : ∀ c a w, Q (.panic c) (a.put d v) w → Q (.panic c) a w) (hy : YieldsIf P ops S oi v a) (hS : S w)
    (h : wpAnyH P md ops Q S fuel (listed.setIfInBounds i true) (a.put d v) w) : wpAnyH P md ops Q S (fuel + 1) listed a w := by
  subst hd
  exact wpAnyH_take hi hs hf hr hQ hy hS h
/-- the one that may come up is a call: it comes up -/
theorem one_d {P : Program} {md : Region.Mode} {ops : Array Oper} {Q : Exit → Act → World → Prop} {S : World → Prop} {i : Nat} {oi : Oper} {fuel : Nat} {listed : Array Bool} {a : Act} {w : World} (d : Option Tmp) (hi : ops[i]? = some oi) (hd : oi.dst = d) (hr : Region.ready md ops listed = [i]) (hw : Region.wanted oi (yielded ops a.tmps) = true)
    (f : FuncId) (args : Array Value) (he : (execOp a.eval oi).run P w = .ok (.enter f args) w) (h : Calls P f args w fun e w' => ∃ v, e = .returned v ∧ S w' ∧ (S w' → wpAnyH P md ops Q S fuel (listed.setIfInBounds i true) (a.put d v) w')) : wpAnyH P md ops Q S (fuel + 1) listed a w := by
  subst hd
  refine wpAnyH_all hr (by simp) ?_
  intro j hj
  simp at hj
  subst hj
  unfold wpOp
  simp only [hi, hw, if_true]
  refine .inl ?_
  unfold Oper.wp
  rw [he]
  refine h.mono ?_
  rintro e w' ⟨v, rfl, h1, h2⟩
  exact ⟨h1, h2 h1⟩
end BtL
end Go.Proofs.YtgabgkgokmeaeaaGreat

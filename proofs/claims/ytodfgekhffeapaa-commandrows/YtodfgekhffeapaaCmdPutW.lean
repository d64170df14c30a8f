/- A row's bits are put: the program's (CmW). -/
import Derived.Test.YtodfgekhffeapaaCmdTrial
import Derived.Test.YtodfgekhffeapaaBitWr2
namespace Go.Proofs.Ytodfgekhffeapaa
open Go.RowKit
set_option linter.unusedVariables false
set_option linter.unusedSimpArgs false

namespace CmW
theorem int_ret {k : IntKind} {a b : Int} {p : Prop} (h : a = b) (hp : p) : Ending.returned (.int k a) = .returned (.int k b) ∧ p := by rw [h]; exact ⟨rfl, hp⟩
set_option maxHeartbeats 400000 in
theorem laidOn_any (x : Int) (h1 : -127 ≤ x) (h2 : x < 128) (w : World) :
    Calls Try.prog 39 #[.int .i8 x] w fun e w' => e = .returned (.int .u64 (x + 127)) ∧ w' = w := by
  go_enter Try.func39, Try.ntmps39
  go_wp2
  go_ret
  exact int_ret (by omega) rfl

set_option maxHeartbeats 2000000 in
theorem putOne_any (p : Nat) (M : List Bool) (F : List Nat) (c : Cm.C) (hfm : Cm.Formed c) (hcw : c.wf) (w : World) (h : PW p M F w ∧ M.length ≤ 300000000000) :
    Calls Try.prog 31 #[.pointer (some ⟨p, 0, none⟩), cmVal c] w fun e w' => e = .returned (.tuple #[]) ∧ ∃ F', PW p (M ++ Cm.one c) F' w' ∧ Moved F F' w w' := by
  have hlt := h.1.lt
  have hm : Moved F F w (w.alloc (.cells (cmEnc c).toArray 25)) := ⟨((Turned.refl [] w).alloc _).mono (by simp), fun k hk => .inl hk⟩
  have hS0 : ∀ u F', Moved F F' (w.alloc (.cells (cmEnc c).toArray 25)) u → Struct w.heap.size (cmEnc c) u := fun u F' hm => (Struct.new w (cmEnc c) _).keep hm.1 (fun hk => by have := hlt _ hk; omega)
  have hp : PW p M F (w.alloc (.cells (cmEnc c).toArray 25)) ∧ M.length ≤ 300000000000 := ⟨h.1.keep ((Turned.refl [] w).alloc _) (by simp), h.2⟩
  have hn : Moved F F (w.alloc (.cells (cmEnc c).toArray 25)) (w.alloc (.cells (cmEnc c).toArray 25)) := Moved.refl _ _
  have g3 := hfm.2.2.1
  have g4 := hfm.2.2.2.1
  have w3 := hcw.2.2.1
  have w5 := hcw.2.2.2.2.1
  have w6 : (c.v : Int) < 4294967296 := by have := hcw.2.2.2.2.2.1; omega
  have w7 : (c.q : Int) < 256 := by have := hcw.2.2.2.2.2.2; omega
  have kx := laidOn_any c.x g3 w3
  have ky := laidOn_any c.y g4 w5
  clear h hlt hfm hcw
  have key : ∀ f, c.f = f → Calls Try.prog 31 #[.pointer (some ⟨p, 0, none⟩), cmVal c] w fun e w' => e = .returned (.tuple #[]) ∧ ∃ F', PW p (M ++ Cm.one c) F' w' ∧ Moved F F' w w' := by
    intro f hf
    have HF : Hid (c.f = f) := hf
    simp only [cmEnc, hf] at hm hS0 hp hn
    unfold cmVal
    rw [hf]
    obtain ⟨W0, hW0⟩ : ∃ W0, W0 = w.alloc (.cells (cmEnc c).toArray 25) := ⟨_, rfl⟩
    simp only [cmEnc, hf] at hW0
    rw [← hW0] at hm hS0 hp hn
    have hs := hS0 _ _ hn
    have p1 := (hs.2 1 _ rfl).1
    have p2 := (hs.2 2 _ rfl).1
    have p3 := (hs.2 3 _ rfl).1
    have p4 := (hs.2 4 _ rfl).1
    have p5 := (hs.2 5 _ rfl).1
    clear hf hs
    go_enter Try.func31, Try.ntmps31
    go_wp2_with fail
    rw [← hW0]
    clear hW0
    (first | (go_at_call 39; (with_reducible refine (kx _).mono ?_); rintro e u2 ⟨rfl, rfl⟩))
    cases f
    · go_wp2_with (first | (go_at_call 39; (with_reducible refine (ky _).mono ?_); rintro e u2 ⟨rfl, hu⟩; subst hu) | (go_at_call 27; (with_reducible refine (BtW.put_b (by omega) (by omega) hp (by omega)).mono ?_); rintro e u1 ⟨rfl, F1, hp1, hm1⟩; have hp := hp1; have hn := hn.trans hm1; have hm := hm.trans hm1; have hs := hS0 _ _ hn; have p1 := (hs.2 1 _ rfl).1; have p2 := (hs.2 2 _ rfl).1; have p3 := (hs.2 3 _ rfl).1; have p4 := (hs.2 4 _ rfl).1; have p5 := (hs.2 5 _ rfl).1; clear hp1 hm1 hs))
      have hfin := hp.1
      rw [one_calm M HF.out] at hfin
      (try simp only [Exit.inBlock, Exit.then]); refine bodyPost_ret (results_none rfl _ _ _) rfl ?_
      exact BtW.end0 ⟨F1, hfin, hm⟩
    · go_wp2_with (first | (go_at_call 39; (with_reducible refine (ky _).mono ?_); rintro e u2 ⟨rfl, hu⟩; subst hu) | (go_at_call 27; (with_reducible refine (BtW.put_b (by omega) (by omega) hp (by omega)).mono ?_); rintro e u1 ⟨rfl, F1, hp1, hm1⟩; have hp := hp1; have hn := hn.trans hm1; have hm := hm.trans hm1; have hs := hS0 _ _ hn; have p1 := (hs.2 1 _ rfl).1; have p2 := (hs.2 2 _ rfl).1; have p3 := (hs.2 3 _ rfl).1; have p4 := (hs.2 4 _ rfl).1; have p5 := (hs.2 5 _ rfl).1; clear hp1 hm1 hs))
      have hfin := hp.1
      rw [one_fire M HF.out] at hfin
      go_end0
      exact BtW.end0 ⟨F1, hfin, hm⟩
  exact key _ rfl

set_option maxHeartbeats 2000000 in
theorem put_any (p : Nat) (L : List Bool) (F : List Nat) (oa : Option Addr) (cap : Nat) (l : List Cm.C) (hw : ∀ c ∈ l, c.wf) (w : World) (hp : PW p L F w) (hL : L.length ≤ 274877906944) (hr : RowOf 6 cmEnc oa l w) (hl : (l.length : Int) ≤ 9223372036854775807) (hd : ∀ a, oa = some a → 0 < l.length → a.block ∉ F) :
    Calls Try.prog 10 #[.pointer (some ⟨p, 0, none⟩), .slice oa l.length cap] w fun e w' => e = .returned (.bool (Cm.row l)) ∧ ∃ F', PW p (L ++ if Cm.row l then Cm.all l else []) F' w' ∧ Moved F F' w w' := by
  have kr := row_any oa cap l hw w hr hl
  obtain ⟨n, hn⟩ : ∃ n, n = l.length := ⟨_, rfl⟩
  rw [← hn] at hl kr ⊢
  have HN : Hid (n = l.length) := hn
  clear hn
  by_cases hrow : Cm.row l = true
  · rw [hrow] at kr ⊢
    rw [if_pos rfl]
    obtain ⟨h1, h8, hall⟩ := (Cm.row_iff l).1 hrow
    obtain ⟨c0, hc0⟩ : ∃ c, l[0]? = some c := ⟨_, List.getElem?_eq_getElem (by omega)⟩
    have hf0 : Cm.first l = c0.n := by
      cases l with
      | nil => simp at hc0
      | cons d t => simp at hc0; subst hc0; rfl
    have hg0 := hall 0 c0 hc0
    have hrw : ∀ u F', Moved F F' w u → RowOf 6 cmEnc oa l u := fun u F' hm => hr.turned hm.1 (fun a ha => hd a ha (by omega))
    obtain ⟨g, off, rfl, _, _⟩ := cm_at hr hc0
    have hq0 : ∀ u F', Moved F F' w u → u.cell? ⟨g, off, none⟩ = some (.int .u32 (c0.n : Int)) := by
      intro u F' hm
      obtain ⟨g', off', he, _, q0, _⟩ := cm_at (hrw u F' hm) hc0
      simp at he
      obtain ⟨rfl, rfl⟩ := he
      rwa [Nat.zero_mul, Nat.add_zero] at q0
    have n1 : 1 ≤ (n : Int) := by have := HN.out; omega
    have n8 : (n : Int) ≤ 8 := by have := HN.out; omega
    have b0 : (c0.n : Int) < 4294967296 := by have := hg0.1.2.1; omega
    have HALL : Hid (∀ i c, l[i]? = some c → Cm.Formed c ∧ c.n = Cm.first l + i) := hall
    have HF0 : Hid (Cm.first l = c0.n) := hf0
    have HL : Hid (L.length ≤ 274877906944) := hL
    have hpb : PW p L F w ∧ L.length ≤ 274877906944 := ⟨hp, hL⟩
    clear hall hf0 hg0 h1 h8 hrow hp hL hr hd
    go_enter Try.func10, Try.ntmps10
    go_wp2_with (first | (go_at_call 14; (with_reducible refine kr.mono ?_); rintro e u0 ⟨rfl, HT0⟩; have hp : PW p L F u0 ∧ L.length ≤ 274877906944 := ⟨hpb.1.keep HT0 (by simp), hpb.2⟩; have hm : Moved F F w u0 := ⟨HT0.mono (by simp), fun k hk => .inl hk⟩; clear hpb) | (go_at_call 27; (with_reducible refine (BtW.put_b (by omega) (by omega) hp (by omega)).mono ?_); rintro e u1 ⟨rfl, F1, hp1, hm1⟩; have hp := hp1; have hm := hm.trans hm1; have q0 := hq0 _ _ hm; clear hp1 hm1))
    have hst : PW p (L ++ (Bt.bits (n - 1) 3 ++ Bt.bits c0.n 32 ++ Cm.some_ (l.take 0))) F1 u1 := by
      rw [List.take_zero, show Cm.some_ [] = [] from rfl, List.append_nil, ← head_puts]; exact hp.1
    have hmS := hm
    clear hp hm kr q0 HT0
    go_loopw [25] (fun i wr => ∃ (k : Nat) (F' : List Nat), k ≤ n ∧ i = .int .i64 (k : Int) ∧ PW p (L ++ (Bt.bits (n - 1) 3 ++ Bt.bits c0.n 32 ++ Cm.some_ (l.take k))) F' wr ∧ Moved F F' w wr) (fun i _ => n - (intOf i).toNat)
    case atStart => exact ⟨0, F1, by omega, rfl, hst, hmS⟩
    case round =>
      clear hst hmS hq0
      obtain ⟨k, Fk, hk, rfl, hpk, hm⟩ := hrel
      by_cases hlt : (k : Int) < (n : Int)
      · obtain ⟨c, hc⟩ : ∃ c, l[k]? = some c := ⟨_, List.getElem?_eq_getElem (by have := HN.out; omega)⟩
        have hfm := (HALL.out k c hc).1
        have hcw := hw c (List.mem_of_getElem? hc)
        obtain ⟨g', off', he, hg', p0, p1, p2, p3, p4, p5⟩ := cm_at (hrw _ _ hm) hc
        simp at he
        obtain ⟨rfl, rfl⟩ := he
        have hlen : (L ++ (Bt.bits (n - 1) 3 ++ Bt.bits c0.n 32 ++ Cm.some_ (l.take k))).length ≤ 300000000000 := by
          have h1 := HL.out
          have h2 := Cm.size_le (l.take k)
          rw [List.length_append, List.length_append, List.length_append, Bt.bits_length, Bt.bits_length, Cm.some_length]
          rw [List.length_take] at h2
          omega
        have HE : Hid (L ++ (Bt.bits (n - 1) 3 ++ Bt.bits c0.n 32 ++ Cm.some_ (l.take (k + 1))) = (L ++ (Bt.bits (n - 1) 3 ++ Bt.bits c0.n 32 ++ Cm.some_ (l.take k))) ++ Cm.one c) := by
          show _ = _
          rw [Cm.some_take hc]; simp only [List.append_assoc]
        obtain ⟨M, hM⟩ : ∃ M, M = L ++ (Bt.bits (n - 1) 3 ++ Bt.bits c0.n 32 ++ Cm.some_ (l.take k)) := ⟨_, rfl⟩
        rw [← hM] at hpk hlen HE
        have kp := putOne_any p M Fk c hfm hcw (wr.alloc (.cells (cmEnc c).toArray 25)) ⟨hpk.keep ((Turned.refl [] wr).alloc _) (by simp), hlen⟩
        have hma : Moved Fk Fk wr (wr.alloc (.cells (cmEnc c).toArray 25)) := ⟨((Turned.refl [] wr).alloc _).mono (by simp), fun k hk => .inl hk⟩
        clear hM hpk hlen hfm hcw hc
        unfold cmEnc at kp hma
        go_wp2_with (go_at_call 31; (with_reducible refine kp.mono ?_); rintro e u1 ⟨rfl, F1, hp1, hm1⟩)
        go_roundw
        case rel => exact ⟨k + 1, F1, by omega, by go_num, by rw [HE.out]; exact hp1, (hm.trans hma).trans hm1⟩
        case measure => simp [intOf]; omega
      · have hk' : k = n := by omega
        subst hk'
        have hfin : PW p (L ++ Cm.all l) Fk wr := by
          have e1 := HN.out
          rw [e1, List.take_length, ← HF0.out] at hpk
          unfold Cm.all
          rw [← List.append_assoc (Bt.bits (l.length - 1) 3)]
          exact hpk
        clear hpk
        go_wp2_with fail
        go_ret
        exact ⟨rfl, Fk, hfin, hm⟩
  · have hrf : Cm.row l = false := by simpa using hrow
    rw [hrf] at kr ⊢
    rw [if_neg (by decide), List.append_nil]
    clear hrow hrf
    go_enter Try.func10, Try.ntmps10
    go_wp2_with (go_at_call 14; (with_reducible refine kr.mono ?_); rintro e u0 ⟨rfl, HT0⟩)
    go_ret
    exact ⟨rfl, F, hp.keep HT0 (by simp), HT0.mono (by simp), fun k hk => .inl hk⟩
end CmW
end Go.Proofs.Ytodfgekhffeapaa

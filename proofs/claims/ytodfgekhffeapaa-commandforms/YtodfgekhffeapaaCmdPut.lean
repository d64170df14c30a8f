/- A row's bits are put: the reference's (CmR). -/
import Derived.Test.YtodfgekhffeapaaCmdRef
import Derived.Test.YtodfgekhffeapaaBitPutB
namespace Go.Proofs.Ytodfgekhffeapaa
open Go.RowKit
set_option linter.unusedVariables false

/-- what is put of a command, one by one -/
theorem one_fire {c : Cm.C} (M : List Bool) (hf : c.f = true) : M ++ BtW.puts (c.x + 127).toNat 8 ++ BtW.puts (c.y + 127).toNat 8 ++ BtW.puts (1 : Int).toNat 1 ++ BtW.puts (c.v : Int).toNat 32 ++ BtW.puts (c.q : Int).toNat 8 = M ++ Cm.one c := by
  have e1 := puts_nat (c.x + 127).toNat 8 (by omega)
  have e2 := puts_nat (c.y + 127).toNat 8 (by omega)
  have e3 := puts_nat 1 1 (by omega)
  have e4 := puts_nat (c.v : Int).toNat 32 (by omega)
  have e5 := puts_nat (c.q : Int).toNat 8 (by omega)
  simp only [Int.cast_ofNat_Int] at e1 e2 e3 e4 e5
  unfold Cm.one
  rw [hf, if_pos rfl, e1, e2, e4, e5, show (1 : Int).toNat = 1 from rfl, e3]
  simp [Bt.bits]
theorem one_calm {c : Cm.C} (M : List Bool) (hf : c.f = false) : M ++ BtW.puts (c.x + 127).toNat 8 ++ BtW.puts (c.y + 127).toNat 8 ++ BtW.puts (0 : Int).toNat 1 = M ++ Cm.one c := by
  have e1 := puts_nat (c.x + 127).toNat 8 (by omega)
  have e2 := puts_nat (c.y + 127).toNat 8 (by omega)
  have e3 := puts_nat 0 1 (by omega)
  simp only [Int.cast_ofNat_Int] at e1 e2 e3
  unfold Cm.one
  rw [hf, if_neg (by decide), e1, e2, show (0 : Int).toNat = 0 from rfl, e3]
  simp [Bt.bits]
theorem head_puts {n m : Nat} (L : List Bool) : L ++ BtW.puts ((n : Int) - 1).toNat 3 ++ BtW.puts (m : Int).toNat 32 = L ++ (Bt.bits (n - 1) 3 ++ Bt.bits m 32) := by
  have e1 := puts_nat ((n : Int) - 1).toNat 3 (by omega)
  have e2 := puts_nat (m : Int).toNat 32 (by omega)
  simp only [Int.cast_ofNat_Int] at e1 e2
  rw [e1, e2, show ((n : Int) - 1).toNat = n - 1 by omega, Int.toNat_natCast, List.append_assoc]
namespace CmR
set_option maxHeartbeats 2000000 in
theorem put_any (p : Nat) (L : List Bool) (F : List Nat) (oa : Option Addr) (cap : Nat) (l : List Cm.C) (hw : ∀ c ∈ l, c.wf) (w : World) (hp : BtR.RB p L F w) (hL : L.length ≤ 274877906944) (hr : RowOf 6 cmEnc oa l w) (hl : (l.length : Int) ≤ 1099511627776) (hd : ∀ a, oa = some a → 0 < l.length → a.block ∉ F) :
    Calls Try.prog 11 #[.pointer (some ⟨p, 0, none⟩), .slice oa l.length cap] w fun e w' => e = .returned (.bool (Cm.row l)) ∧ ∃ F', BtR.RB p (L ++ if Cm.row l then Cm.all l else []) F' w' ∧ Moved F F' w w' := by
  have kr := row_any oa cap l hw w hr hl
  obtain ⟨n, hn⟩ : ∃ n, n = l.length := ⟨_, rfl⟩
  rw [← hn] at hl kr ⊢
  have HN : Hid (n = l.length) := hn
  clear hn
  by_cases hrow : Cm.row l = true
  · rw [hrow] at kr ⊢
    rw [if_pos rfl]
    obtain ⟨h1, h8, hall⟩ := (Cm.row_iff l).1 hrow
    obtain ⟨c0, hc0⟩ : ∃ c, l[0]? = some c := ⟨_, List.getElem?_eq_getElem (by omega)⟩
    have hf0 : Cm.first l = c0.n := by
      cases l with
      | nil => simp at hc0
      | cons d t => simp at hc0; subst hc0; rfl
    have hg0 := hall 0 c0 hc0
    have hrw : ∀ u F', Moved F F' w u → RowOf 6 cmEnc oa l u := fun u F' hm => hr.turned hm.1 (fun a ha => hd a ha (by omega))
    obtain ⟨g, off, rfl, _, _⟩ := cm_at hr hc0
    have hq0 : ∀ u F', Moved F F' w u → u.cell? ⟨g, off, none⟩ = some (.int .u32 (c0.n : Int)) := by
      intro u F' hm
      obtain ⟨g', off', he, _, q0, _⟩ := cm_at (hrw u F' hm) hc0
      simp at he
      obtain ⟨rfl, rfl⟩ := he
      rwa [Nat.zero_mul, Nat.add_zero] at q0
    have n1 : 1 ≤ (n : Int) := by have := HN.out; omega
    have n8 : (n : Int) ≤ 8 := by have := HN.out; omega
    have b0 : (c0.n : Int) < 4294967296 := by have := hg0.1.2.1; omega
    have HALL : Hid (∀ i c, l[i]? = some c → Cm.Formed c ∧ c.n = Cm.first l + i) := hall
    have HF0 : Hid (Cm.first l = c0.n) := hf0
    have HL : Hid (L.length ≤ 274877906944) := hL
    have hpb : BtR.RB p L F w ∧ L.length ≤ 274877906944 := ⟨hp, hL⟩
    clear hall hf0 hg0 h1 h8 hrow hp hL hr hd
    go_enter Try.func11, Try.ntmps11
    go_wp2_with (first | (go_at_call 15; (with_reducible refine kr.mono ?_); rintro e u0 ⟨rfl, HT0⟩; have hp : BtR.RB p L F u0 ∧ L.length ≤ 274877906944 := ⟨hpb.1.keep HT0 (by simp), hpb.2⟩; have hm : Moved F F w u0 := ⟨HT0.mono (by simp), fun k hk => .inl hk⟩; clear hpb) | (go_at_call 32; (with_reducible refine (BtR.put_b (by omega) (by omega) hp (by omega)).mono ?_); rintro e u1 ⟨rfl, F1, hp1, hm1⟩; have hp := hp1; have hm := hm.trans hm1; have q0 := hq0 _ _ hm; clear hp1 hm1))
    have hst : BtR.RB p (L ++ (Bt.bits (n - 1) 3 ++ Bt.bits c0.n 32 ++ Cm.some_ (l.take 0))) F1 u1 := by
      rw [List.take_zero, show Cm.some_ [] = [] from rfl, List.append_nil, ← head_puts]; exact hp.1
    have hmS := hm
    clear hp hm kr q0 HT0
    go_loopw [5] (fun i wr => ∃ (k : Nat) (F' : List Nat), k ≤ n ∧ i = .int .i64 (k : Int) ∧ BtR.RB p (L ++ (Bt.bits (n - 1) 3 ++ Bt.bits c0.n 32 ++ Cm.some_ (l.take k))) F' wr ∧ Moved F F' w wr) (fun i _ => n - (intOf i).toNat)
    case atStart => exact ⟨0, F1, by omega, rfl, hst, hmS⟩
    case round =>
      clear hst hmS hq0
      obtain ⟨k, Fk, hk, rfl, hpk, hm⟩ := hrel
      by_cases hlt : (k : Int) < (n : Int)
      · obtain ⟨c, hc⟩ : ∃ c, l[k]? = some c := ⟨_, List.getElem?_eq_getElem (by have := HN.out; omega)⟩
        have hfm := (HALL.out k c hc).1
        have hcw := hw c (List.mem_of_getElem? hc)
        have hcell : ∀ u F', Moved F F' w u → u.cell? ⟨g, off + k * 6 + 1, none⟩ = some (.int .i8 c.x) ∧ u.cell? ⟨g, off + k * 6 + 2, none⟩ = some (.int .i8 c.y) ∧ u.cell? ⟨g, off + k * 6 + 3, none⟩ = some (.bool c.f) ∧ u.cell? ⟨g, off + k * 6 + 4, none⟩ = some (.int .u32 (c.v : Int)) ∧ u.cell? ⟨g, off + k * 6 + 5, none⟩ = some (.int .u8 (c.q : Int)) := by
          intro u F' hm
          obtain ⟨g', off', he, _, _, q1, q2, q3, q4, q5⟩ := cm_at (hrw u F' hm) hc
          simp at he
          obtain ⟨rfl, rfl⟩ := he
          exact ⟨q1, q2, q3, q4, q5⟩
        have hlen : (L ++ (Bt.bits (n - 1) 3 ++ Bt.bits c0.n 32 ++ Cm.some_ (l.take k))).length ≤ 300000000000 := by
          have h1 := HL.out
          have h2 := Cm.size_le (l.take k)
          rw [List.length_append, List.length_append, List.length_append, Bt.bits_length, Bt.bits_length, Cm.some_length]
          rw [List.length_take] at h2
          omega
        have HE : Hid (L ++ (Bt.bits (n - 1) 3 ++ Bt.bits c0.n 32 ++ Cm.some_ (l.take (k + 1))) = (L ++ (Bt.bits (n - 1) 3 ++ Bt.bits c0.n 32 ++ Cm.some_ (l.take k))) ++ Cm.one c) := by
          show _ = _
          rw [Cm.some_take hc]; simp only [List.append_assoc]
        obtain ⟨M, hM⟩ : ∃ M, M = L ++ (Bt.bits (n - 1) 3 ++ Bt.bits c0.n 32 ++ Cm.some_ (l.take k)) := ⟨_, rfl⟩
        rw [← hM] at hpk hlen HE
        have hp : BtR.RB p M Fk wr ∧ M.length ≤ 300000000000 := ⟨hpk, hlen⟩
        obtain ⟨p1, p2, p3, p4, p5⟩ := hcell _ _ hm
        have g3 := hfm.2.2.1
        have g4 := hfm.2.2.2.1
        have w3 := hcw.2.2.1
        have w5 := hcw.2.2.2.2.1
        have w6 : (c.v : Int) < 4294967296 := by have := hcw.2.2.2.2.2.1; omega
        have w7 : (c.q : Int) < 256 := by have := hcw.2.2.2.2.2.2; omega
        clear hM hpk hlen hfm hcw hc
        cases hf : c.f with
        | true =>
          rw [hf] at p3 hcell
          have HF : Hid (c.f = true) := hf
          clear hf
          go_wp2_with (go_at_call 32; (with_reducible refine (BtR.put_b (by omega) (by omega) hp (by omega)).mono ?_); rintro e u1 ⟨rfl, F1, hp1, hm1⟩; have hp := hp1; have hm := hm.trans hm1; obtain ⟨p1, p2, p3, p4, p5⟩ := hcell _ _ hm; clear hp1 hm1)
          have hfin := hp.1
          rw [one_fire M HF.out] at hfin
          go_roundw
          case rel => exact ⟨k + 1, F1, by omega, by go_num, by rw [HE.out]; exact hfin, hm⟩
          case measure => simp [intOf]; omega
        | false =>
          rw [hf] at p3 hcell
          have HF : Hid (c.f = false) := hf
          clear hf
          go_wp2_with (go_at_call 32; (with_reducible refine (BtR.put_b (by omega) (by omega) hp (by omega)).mono ?_); rintro e u1 ⟨rfl, F1, hp1, hm1⟩; have hp := hp1; have hm := hm.trans hm1; obtain ⟨p1, p2, p3, p4, p5⟩ := hcell _ _ hm; clear hp1 hm1)
          have hfin := hp.1
          rw [one_calm M HF.out] at hfin
          go_roundw
          case rel => exact ⟨k + 1, F1, by omega, by go_num, by rw [HE.out]; exact hfin, hm⟩
          case measure => simp [intOf]; omega
      · have hk' : k = n := by omega
        subst hk'
        have hfin : BtR.RB p (L ++ Cm.all l) Fk wr := by
          have e1 := HN.out
          rw [e1, List.take_length, ← HF0.out] at hpk
          unfold Cm.all
          rw [← List.append_assoc (Bt.bits (l.length - 1) 3)]
          exact hpk
        clear hpk
        go_wp2_with fail
        go_ret
        exact ⟨rfl, Fk, hfin, hm⟩
  · have hrf : Cm.row l = false := by simpa using hrow
    rw [hrf] at kr ⊢
    rw [if_neg (by decide), List.append_nil]
    clear hrow hrf
    go_enter Try.func11, Try.ntmps11
    go_wp2_with (go_at_call 15; (with_reducible refine kr.mono ?_); rintro e u0 ⟨rfl, HT0⟩)
    go_ret
    exact ⟨rfl, F, hp.keep HT0 (by simp), HT0.mono (by simp), fun k hk => .inl hk⟩
end CmR
end Go.Proofs.Ytodfgekhffeapaa

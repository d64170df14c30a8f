/- What the program's Take does with a datagram that is new (ChW). -/
import Derived.Test.YtloobijdpchppaaChWTake
import Derived.Test.YtloobijdpchppaaChJoin
namespace Go.Proofs.Ytloobijdpchppaa
open Go.RowKit
set_option linter.unusedVariables false
set_option linter.unusedSimpArgs false

namespace ChW
set_option maxRecDepth 20000 in
set_option maxHeartbeats 4000000 in
theorem take_new (p : Nat) (F : List Nat) (s : Ch.S) (h : Ch.H) (w : World) (hc : CH p F s w) (hw : Ch.Wf s) (hh : Ch.HWf h) (ho : Ch.fresh s h = true) :
    Calls Try.prog 11 #[.pointer (some ⟨p, 0, none⟩), .agg #[.int .u16 h.n, .bool h.y, .int .u16 h.a, .int .u32 h.m]] w fun e w' => ∃ va F', e = .returned (.tuple #[va, .int .i64 0]) ∧ NumsAt va (Ch.acked s h) w' ∧ (∀ k ∈ blk va, w.heap.size ≤ k) ∧ CH p F' (Ch.took s h) w' ∧ Moved F F' w w' := by
  have hF := hc.at
  have hco := hw.o1
  obtain ⟨v, hs, ⟨oa, cap, rfl, hr, hd⟩, hFe, hnF⟩ := hc
  have hp := hs.1
  unfold Ch.fresh at ho
  have kt := fun (u : World) => SrW.take_any s.y s.l s.m h.n u hw.m0 hw.m1
  rw [ho] at kt
  obtain ⟨L, hL⟩ : ∃ L, L = Sr.last s.y s.l h.n := ⟨_, rfl⟩
  obtain ⟨M, hM⟩ : ∃ M, M = Sr.mask s.y s.l s.m h.n := ⟨_, rfl⟩
  rw [← hL, ← hM] at kt
  have HL : Hid (_ = _) := hL
  have HM : Hid (_ = _) := hM
  have HF : Hid (F = _) := hFe
  have HNF : Hid (p ∉ _) := hnF
  have HD : Hid (∀ a, oa = some a → a.block < w.heap.size) := hd
  clear hL hM ho hFe hnF hd
  go_enter Try.func11, Try.ntmps11
  go_wp2_with fail
  obtain ⟨wa, hwa⟩ : ∃ wa, wa = w.alloc (.cells #[.int .u16 h.n, .bool h.y, .int .u16 h.a, .int .u32 h.m] 38) := ⟨_, rfl⟩
  rw [← hwa]
  have hta : Turned [] w wa := by rw [hwa]; exact (Turned.refl [] w).alloc _
  have hsz : wa.heap.size = w.heap.size + 1 := by rw [hwa]; simp
  have hsa := hs.keep hta (by simp)
  have hha : Struct w.heap.size [.int .u16 h.n, .bool h.y, .int .u16 h.a, .int .u32 h.m] wa := by rw [hwa]; exact Struct.new w [_, _, _, _] _
  have hra := hr.turned hta (by simp)
  clear hwa hs hr
  have hne : ¬ p = w.heap.size := by omega
  have hne1 : ¬ p = w.heap.size + 1 := by omega
  obtain ⟨c1, f1⟩ := hsa.2 1 _ rfl
  obtain ⟨c2, f2⟩ := hsa.2 2 _ rfl
  obtain ⟨c3, f3⟩ := hsa.2 3 _ rfl
  obtain ⟨h0, _⟩ := hha.2 0 _ rfl
  have hp1 : p < wa.heap.size := by omega
  refine Code.wp_mono (Q := fun e a' W' => Normal e (∃ n : Nat, a' = ⟨#[.pointer (some ⟨p, 0, none⟩), .agg #[.int .u16 h.n, .bool h.y, .int .u16 h.a, .int .u32 h.m], undef, .pointer (some ⟨w.heap.size, 0, none⟩), .slice none 0 0, .int .i64 0, .pointer (some ⟨n, 0, none⟩), .bool true, undef, undef, .pointer (some ⟨p, 0, none⟩), .bool false,
    .tuple #[.agg #[.bool true, .int .u16 L, .int .u32 M], .bool true], .pointer (some ⟨p, 0, none⟩), .pointer (some ⟨p, 0, none⟩), .pointer (some ⟨p, 1, none⟩), .agg #[.bool s.y, .int .u16 s.l, .int .u32 s.m], .pointer (some ⟨w.heap.size, 0, none⟩), .int .u16 h.n, .tuple #[.agg #[.bool true, .int .u16 L, .int .u32 M], .bool true], .agg #[.bool true, .int .u16 L, .int .u32 M], .bool true,
    undef, undef, undef, undef, undef, undef, undef, undef, undef, undef, undef, undef, undef, undef, undef, undef, undef, undef, undef, undef, undef, undef, undef, undef], []⟩ ∧ Put3 wa n L M W')) ?tail ?walk
  case walk =>
    go_region_with (go_at_call 29; (with_reducible refine (kt _).mono ?_); rintro e2 u2 ⟨rfl, hb2⟩; obtain ⟨hc2, hf2⟩ := bcell hb2)
    all_goals exact ⟨_, rfl, by first | exact Put3.late (by repeat (first | exact Turned.refl [] _ | refine Turned.drew ?_ | refine Turned.alloc ?_ _)) hb2 | exact Put3.early (by omega) (by repeat (first | exact Turned.refl [] _ | refine Turned.drew ?_ | refine Turned.alloc ?_ _)) (by rw [← hsz]; first | exact Struct.new _ [_, _, _] _ | exact (Struct.new _ [_, _, _] _).keep (Turned.refl [] _).drew (by simp)) hb2⟩
  case tail =>
    intro e a' W3 hq
    obtain ⟨rfl, n, rfl, hT3, hN3, hn3⟩ := Normal.out hq
    clear hq kt
    clear c1 f1 c2 f2 c3 f3 h0
    have hs3 := hsa.keep hT3 (by simp)
    have hh3 := hha.keep hT3 (by simp)
    obtain ⟨c1, f1⟩ := hs3.2 1 _ rfl
    obtain ⟨c2, f2⟩ := hs3.2 2 _ rfl
    obtain ⟨c3, f3⟩ := hs3.2 3 _ rfl
    obtain ⟨h0, _⟩ := hh3.2 0 _ rfl
    obtain ⟨h1, _⟩ := hh3.2 1 _ rfl
    obtain ⟨h2, _⟩ := hh3.2 2 _ rfl
    obtain ⟨h3, _⟩ := hh3.2 3 _ rfl
    obtain ⟨n0, _⟩ := hN3.2 0 _ rfl
    obtain ⟨n1, _⟩ := hN3.2 1 _ rfl
    obtain ⟨n2, _⟩ := hN3.2 2 _ rfl
    have hpn : ¬ p = n := by omega
    have hnp : ¬ n = p := by omega
    go_wp2_with fail
    obtain ⟨W4, hW4⟩ : ∃ W4, W4 = ((W3.setCell ⟨p, 1, none⟩ (.bool true)).setCell ⟨p, 2, none⟩ (.int .u16 L)).setCell ⟨p, 3, none⟩ (.int .u32 M) := ⟨_, rfl⟩
    rw [← hW4]
    have hT4 : Turned [p] w W4 := by
      rw [hW4]
      exact ((((hta.trans hT3 (by simp)).mono (S' := [p]) (by simp)).setCell (p := ⟨p, 1, none⟩) (.inl (by simp)) _).setCell (p := ⟨p, 2, none⟩) (.inl (by simp)) _).setCell (p := ⟨p, 3, none⟩) (.inl (by simp)) _
    have hs4 : Struct p [.int .u16 s.x, .bool true, .int .u16 L, .int .u32 M, .slice oa s.o.length cap] W4 := by
      rw [hW4]; exact ((hs3.set (i := 1) (by simp) (.bool true)).set (i := 2) (by simp) (.int .u16 L)).set (i := 3) (by simp) (.int .u32 M)
    have HRB : Hid (∀ b, oa = some b → b.block ≠ p) := fun b hb e => by have := HNF.out; rw [hb] at this; simp [rblk, e] at this
    have hr4 : RowOf 1 nEnc oa s.o W4 := by
      have hr3 := hra.turned hT3 (by simp)
      rw [hW4]
      exact hr3.turned (((((Turned.refl [p] W3).setCell (p := ⟨p, 1, none⟩) (.inl (by simp)) _).setCell (p := ⟨p, 2, none⟩) (.inl (by simp)) _).setCell (p := ⟨p, 3, none⟩) (.inl (by simp)) _)) (fun b hb => by simpa using HRB.out b hb)
    clear hW4 c1 f1 c2 f2 c3 f3 h0 h1 h2 h3 n0 n1 n2 hs3 hh3 hN3 hT3 hra hsa hha
    refine (window_of _ _ _ _ _).mono ?_
    rintro e u3 ⟨rfl, ht3⟩
    have hs5 := hs4.keep ht3 (by simp)
    have hr5 := hr4.turned ht3 (by simp)
    have hT5 := hT4.trans ht3 (by simp)
    clear hs4 hr4 hT4 ht3
    have hpl : p < u3.heap.size := hs5.1
    have hpu : ¬ p = u3.heap.size := by omega
    obtain ⟨c4, f4⟩ := hs5.2 4 _ rfl
    go_wp2_with fail
    obtain ⟨W6, hW6⟩ : ∃ W6, W6 = u3.alloc (.cells #[.bool h.y, .int .u16 h.a, .int .u32 h.m] 28) := ⟨_, rfl⟩
    rw [← hW6]
    have ht6 : Turned [] u3 W6 := by rw [hW6]; exact (Turned.refl [] u3).alloc _
    have hN6 : Struct u3.heap.size [.bool h.y, .int .u16 h.a, .int .u32 h.m] W6 := by rw [hW6]; exact Struct.new u3 [_, _, _] _
    obtain ⟨B, hB⟩ : ∃ B, B = u3.heap.size := ⟨_, rfl⟩
    rw [← hB] at hN6
    rw [← hB]
    have hBw : w.heap.size ≤ B := by have := hT5.size; omega
    have hs6 := hs5.keep ht6 (by simp)
    have hr6 := hr5.turned ht6 (by simp)
    have hT6 := hT5.trans ht6 (by simp)
    clear hW6 hs5 hr5 hT5 ht6 c4 f4 hB hpu hpl
    refine (those1_any B (Ch.knows h) oa cap s.o W6 hr6 (by omega) (fun u q hu => isAcked q h.y h.a h.m B u (hN6.keep hu (by simp)) hh.m0 hh.m1)).mono ?_
    rintro e u7 ⟨va, rfl, hva, ht7, hb7⟩
    have hs7 := hs6.keep ht7 (by simp)
    have hr7 := hr6.turned ht7 (by simp)
    have hN7 := hN6.keep ht7 (by simp)
    have hT7 := hT6.trans ht7 (by simp)
    have HA7 : Hid (∀ k ∈ blk va, w.heap.size ≤ k) := fun k hk => Nat.le_trans hT6.size (hb7 k hk)
    clear hs6 hr6 hN6 hT6 ht7 hb7
    obtain ⟨c4, f4⟩ := hs7.2 4 _ rfl
    go_wp2_with fail
    refine (those2_any B (fun q => !Ch.knows h q) oa cap s.o u7 hr7 (by omega) (fun u q hu => notAcked q h.y h.a h.m B u (hN7.keep hu (by simp)) hh.m0 hh.m1)).mono ?_
    rintro e u8 ⟨vo, rfl, hvo, ht8, hb8⟩
    have hs8 := hs7.keep ht8 (by simp)
    have hT8 := hT7.trans ht8 (by simp)
    have hva8 : NumsAt va _ u8 := OwnL.keep hva ht8 (by simp)
    have HB8 : Hid (∀ k ∈ blk vo, w.heap.size ≤ k) := fun k hk => Nat.le_trans hT7.size (hb8 k hk)
    clear hs7 hr7 hN7 hT7 ht8 hb8 c4 f4 hva
    obtain ⟨ob, cb, hvf, _, _⟩ := OwnL.form hvo
    subst hvf
    obtain ⟨c4, f4⟩ := hs8.2 4 _ rfl
    have HS : Hid (Struct p _ u8) := hs8
    have HVO : Hid (NumsAt _ _ u8) := hvo
    have HVA : Hid (NumsAt va _ u8) := hva8
    have HT : Hid (Turned [p] w u8) := hT8
    clear hs8 hvo hva8 hT8
    obtain ⟨nl, hnl⟩ : ∃ nl, nl = (s.o.filter (fun q => !Ch.knows h q)).length := ⟨_, rfl⟩
    rw [← hnl] at HVO HB8 ⊢
    clear hnl
    go_wp2_with fail
    refine bodyPost_ret (v := .tuple #[va, .int .i64 0]) (by simp [results, Try.results11, go_sem]) rfl ?_
    have hvn : p ∉ blk (.slice ob nl cb) := fun hm => by have := HB8.out p hm; omega
    have tp : Turned [p] u8 (u8.setCell ⟨p, 4, none⟩ (.slice ob nl cb)) := (Turned.refl [p] u8).setCell (.inl (by simp)) _
    refine ⟨va, p :: blk (.slice ob nl cb), rfl, OwnL.keep HVA.out tp (fun k hk hm => ?_), HA7.out, CH.of ?_ (OwnL.keep HVO.out tp (fun k hk hm => ?_)) hvn, ?_, ?_⟩
    · simp at hm; subst hm; have := HA7.out k hk; omega
    · have := HS.out.set (i := 4) (by simp) (.slice ob nl cb)
      rw [HL.out, HM.out] at this
      exact this
    · simp at hm; subst hm; exact hvn hk
    · exact (HT.out.trans tp (fun k hk _ => hk)).mono fun k hk _ => by simp at hk; subst hk; exact hF
    · intro k hk
      rcases List.mem_cons.1 hk with rfl | hk
      · exact .inl hF
      · exact .inr (HB8.out k hk)
end ChW
end Go.Proofs.Ytloobijdpchppaa

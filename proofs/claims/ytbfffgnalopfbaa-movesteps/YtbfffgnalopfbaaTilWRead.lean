/- A text is read as a map: the program's Read (TiW). -/
import Derived.Test.YtbfffgnalopfbaaTilWTake3
namespace Go.Proofs.Ytbfffgnalopfbaa
open Go.RowKit
set_option linter.unusedVariables false
set_option linter.unusedSimpArgs false

namespace TiW
/-- behind some signs -/
structure AtP (B I : Nat) (s : ByteArray) (w : World) (a : Nat) (st : Ti.S) (va vb : Value) (wr : World) : Prop where
  le : a ≤ s.size
  run : Ti.run (from_ s a).length (from_ s a) a st = Ti.read s.data.toList
  inv : Ti.Inv a st
  xw : 0 < st.H → st.x ≤ st.W
  rp : RP B I (.stringIter s a) w st va vb wr
theorem AtP.bad {B I a : Nat} {s : ByteArray} {w wr : World} {st : Ti.S} {va vb : Value} (h : AtP B I s w a st va vb wr) (ha : a < s.size) (hb : Ti.bad (Ti.sg (from_ s a)) st) : Ti.read s.data.toList = (none, a) := by
  rw [← h.run]
  exact Ti.run_bad (by intro e; have := from_len s a; rw [e] at this; simp at this; omega) (Nat.le_refl _) hb
theorem AtP.next {B I a : Nat} {s : ByteArray} {w wr u : World} {st : Ti.S} {va vb va' vb' : Value} (h : AtP B I s w a st va vb wr) (ha : a < s.size) (hb : ¬ Ti.bad (Ti.sg (from_ s a)) st) (hr : RP B I (.stringIter s (a + (Ti.bs (Ti.sg (from_ s a))).length)) w (Ti.next (Ti.sg (from_ s a)) st) va' vb' u) : AtP B I s w (a + (Ti.bs (Ti.sg (from_ s a))).length) (Ti.next (Ti.sg (from_ s a)) st) va' vb' u := by
  have hne : from_ s a ≠ [] := by intro e; have := from_len s a; rw [e] at this; simp at this; omega
  have h0 : Ti.sg (from_ s a) ≠ 0 := by intro e; apply hb; unfold Ti.bad; rw [e, if_neg (by decide)]; exact .inl rfl
  have hp := Ti.bs_pos (k := Ti.sg (from_ s a)) (by omega) (Ti.sg_le _)
  have hl := Ti.len_sg (from_ s a)
  rw [from_len] at hl
  refine ⟨by omega, ?_, h.inv.next hb hp, ?_, hr⟩
  · rw [← h.run, Ti.run_step hne (Nat.le_refl _) hb, Ti.from_next]
    exact (Ti.run_any (by rw [from_len, from_len]; omega)).symm
  · unfold Ti.next
    split
    · intro _; exact Nat.zero_le _
    · rename_i hk
      intro hH
      have hH' : 0 < st.H := hH
      show st.x + 1 ≤ st.W
      unfold Ti.bad at hb
      rw [if_neg hk] at hb
      by_cases e : st.x < st.W
      · omega
      · exact absurd (.inr (.inr (.inr ⟨hH', by omega⟩))) hb
theorem AtP.fin {B I : Nat} {s : ByteArray} {w wr : World} {st : Ti.S} {va vb : Value} {a : Nat} (h : AtP B I s w a st va vb wr) (ha : ¬ a < s.size) : Ti.read s.data.toList = Ti.fin s.size st := by
  have : a = s.size := by have := h.le; omega
  rw [← h.run]
  have e : from_ s a = [] := List.length_eq_zero_iff.1 (by rw [from_len]; omega)
  rw [e, this]
  rfl

theorem few_of {m : Ti.M} (h : Ti.Dims m) : m.ws.length ≤ 1024 := by
  obtain ⟨h1, h2, h3, h4, h5⟩ := h
  have b2 : m.W * m.H ≤ 32 * 32 := Int.mul_le_mul (by omega) (by omega) (by omega) (by omega)
  omega

set_option maxRecDepth 20000 in
set_option maxHeartbeats 8000000 in
theorem read_any (s : ByteArray) (hs : (s.size : Int) ≤ 1000000) (w : World) :
    Calls Try.prog 17 #[.string s] w fun e w' => TiR.Answers s.data.toList w e w' := by
  go_enter Try.func17, Try.ntmps17
  go_wp2_with fail
  obtain ⟨W0, hW0⟩ : ∃ W0, W0 = ((w.alloc (.cells TiR.zeroCells.toArray 25)).alloc (.cells #[.int .i64 0, .int .i64 0, .slice none 0 0, .slice none 0 0, .int .i64 0] 66)).iter s 0 := ⟨_, rfl⟩
  obtain ⟨A, hA⟩ : ∃ A, A = w.heap.size := ⟨_, rfl⟩
  obtain ⟨B, hB⟩ : ∃ B, B = w.heap.size + 1 := ⟨_, rfl⟩
  obtain ⟨I, hI⟩ : ∃ I, I = w.heap.size + 1 + 1 := ⟨_, rfl⟩
  have hsz : W0.heap.size = w.heap.size + 3 := by rw [hW0]; simp [World.iter]
  have hT0 : Turned [] w W0 := by rw [hW0]; exact (((Turned.refl [] w).alloc _).alloc _).alloc _
  have hSA : Struct A TiR.zeroCells W0 := by rw [hW0, hA]; exact ((Struct.new w TiR.zeroCells _).keep ((Turned.refl [] _).alloc _) (by simp)).keep ((Turned.refl [] _).alloc _) (by simp)
  have hSB : Struct B [.int .i64 0, .int .i64 0, .slice none 0 0, .slice none 0 0, .int .i64 0] W0 := by
    have := Struct.new (w.alloc (.cells TiR.zeroCells.toArray 25)) [.int .i64 0, .int .i64 0, .slice none 0 0, .slice none 0 0, .int .i64 0] 66
    rw [show (w.alloc (.cells TiR.zeroCells.toArray 25)).heap.size = w.heap.size + 1 by simp, ← hB] at this
    rw [hW0]; exact this.keep ((Turned.refl [] _).alloc _) (by simp)
  have hIT : W0.heap[I]? = some (.stringIter s 0) := by
    have := World.iter_heap ((w.alloc (.cells TiR.zeroCells.toArray 25)).alloc (.cells #[.int .i64 0, .int .i64 0, .slice none 0 0, .slice none 0 0, .int .i64 0] 66)) s 0
    rw [show ((w.alloc (.cells TiR.zeroCells.toArray 25)).alloc (.cells #[.int .i64 0, .int .i64 0, .slice none 0 0, .slice none 0 0, .int .i64 0] 66)).heap.size = w.heap.size + 1 + 1 by simp, ← hI] at this
    rw [hW0]; exact this
  have hAt : AtP B I s W0 0 Ti.s0 (.slice none 0 0) (.slice none 0 0) W0 :=
    ⟨by omega, rfl, Ti.inv0, by simp [Ti.s0], hSB, hIT, OwnL.nil _ _ _ _, OwnL.nil _ _ _ _, by omega, by omega, by omega, by simp [blk, Value.ownBlock], by simp [blk, Value.ownBlock], by simp [blk, Value.ownBlock], Turned.refl _ _⟩
  have hAw : w.heap.size ≤ A := by omega
  have hAB : A ≠ B := by omega
  have hAI : A ≠ I := by omega
  have hA0 : A < W0.heap.size := by omega
  have hB0 : w.heap.size ≤ B := by omega
  have hI0 : w.heap.size ≤ I := by omega
  have hw0 : w.heap.size ≤ W0.heap.size := by omega
  unfold TiR.zeroCells at hW0
  rw [← hW0, ← hI, ← hB, ← hA]
  clear hW0 hA hB hI hSB hIT hsz
  go_loopw [6, 7] (fun p r wr => ∃ (a : Nat) (st : Ti.S) (va vb : Value), AtP B I s W0 a st va vb wr) (fun _ _ wr => s.size - wr.iterPos I)
  case atStart => exact ⟨0, Ti.s0, _, _, hAt⟩
  case round =>
    clear hAt
    obtain ⟨a, st, va, vb, hAt⟩ := hrel
    have hrp := hAt.rp
    have hTW : Turned [] w wr := hT0.trans hrp.turned (by intro k hk hl; simp at hk; omega)
    have hSA1 := hSA.keep hrp.turned (by simp; omega)
    have hit := hrp.it
    by_cases hlt : a < s.size
    · have hnx : ∀ ty, (Instr.next (.pointer (some ⟨I, 0, none⟩)) true ty).run Try.prog wr = _ := fun ty => Lib.run_next_any_at wr I s a ty hit hlt
      obtain ⟨k, hkk⟩ : ∃ k, k = Ti.sg (from_ s a) := ⟨_, rfl⟩
      obtain ⟨r, hr⟩ : ∃ r : Nat, r = (Utf8.decode s a).1 := ⟨_, rfl⟩
      obtain ⟨n, hn⟩ : ∃ n, n = (Utf8.decode s a).2 := ⟨_, rfl⟩
      have hst : Stands k (r : Int) ∧ (k ≠ 0 → n = (Ti.bs k).length) := by
        by_cases h0 : k = 0
        · have h1 := Ti.dec_none hlt (by rw [← hkk]; exact h0)
          rw [← hr] at h1
          exact ⟨.inr ⟨h0, by omega, by omega, by omega, by omega⟩, fun h => absurd h0 h⟩
        · have h1 := Ti.dec_sign hkk.symm h0
          have hk4 : k ≤ 4 := by rw [hkk]; exact Ti.sg_le _
          rw [h1] at hr hn
          refine ⟨.inl ⟨by omega, hk4, ?_⟩, fun _ => hn⟩
          have hc : k = 1 ∨ k = 2 ∨ k = 3 ∨ k = 4 := by omega
          rcases hc with e | e | e | e <;> (rw [hr, e]; rfl)
      have hrn := Ti.dec_bd s a
      have hit2 := Lib.iterAt_heap wr I s a (a + n) hit
      have hrp2 : RP B I (.stringIter s (a + n)) W0 st va vb (wr.iterAt I s (a + n)) := hrp.iter
      rw [← hr, ← hn] at hnx
      rw [← hr] at hrn
      obtain ⟨U, hU⟩ : ∃ U, U = wr.iterAt I s (a + n) := ⟨_, rfl⟩
      rw [← hU] at hrp2 hnx
      have hrU := hrp2.turned
      by_cases hb : Ti.bad k st
      · have HNO : Hid (Ti.read s.data.toList = (none, a)) := hAt.bad hlt (by rw [← hkk]; exact hb)
        have kt := take_bad hrp2 hAt.inv hAt.xw hst.1 hb
        clear hb hst hkk hr hn hU hrp hrp2 hAt hit hit2 hTW hSA1
        go_wp2_with (go_at_call 27; (with_reducible refine kt.mono ?_); rintro e u1 ⟨rfl, hT⟩; have hTB := hrU.trans hT (by simp); have hSu := hSA.keep hTB (by simp; omega); have hTu := hT0.trans hTB (by intro k hk hl; simp at hk; omega); have z0 := (hSu.2 0 _ rfl).1; have y0 := (hSu.2 0 _ rfl).2; have z1 := (hSu.2 1 _ rfl).1; have y1 := (hSu.2 1 _ rfl).2; have z2 := (hSu.2 2 _ rfl).1; have y2 := (hSu.2 2 _ rfl).2; have z3 := (hSu.2 3 _ rfl).1; have y3 := (hSu.2 3 _ rfl).2)
        obtain ⟨W9, hW9⟩ : ∃ W9, W9 = TiR.put4 u1 A (.int .i64 0) (.int .i64 0) (.slice none 0 0) (.slice none 0 0) := ⟨_, rfl⟩
        have hS9 := TiR.set4 rfl hSu (.int .i64 0) (.int .i64 0) (.slice none 0 0) (.slice none 0 0)
        rw [← hW9] at hS9
        have hT9 : Turned [] w W9 := by rw [hW9]; exact TiR.turned4 hTu (.inr hAw) _ _ _ _
        unfold TiR.put4 at hW9
        rw [← hW9]
        have g0 := (hS9.2 0 _ rfl).1
        have g1 := (hS9.2 1 _ rfl).1
        have g2 := (hS9.2 2 _ rfl).1
        have g3 := (hS9.2 3 _ rfl).1
        exact bodyPost_ret (v := .tuple #[.agg #[.int .i64 0, .int .i64 0, .slice none 0 0, .slice none 0 0], .int .i64 (a : Int), .int .i64 2]) (by simp [results, Try.results17, go_sem, g0, g1, g2, g3]) rfl (TiR.no_answer HNO.out hT9)
      · have hk0 : k ≠ 0 := by intro e; apply hb; unfold Ti.bad; rw [e, if_neg (by decide)]; exact .inl rfl
        have hn1 := hst.2 hk0
        have hpos := Ti.bs_pos (k := k) (by omega) (by rw [hkk]; exact Ti.sg_le _)
        have kt := take_any hrp2 hAt.inv (by omega) hst.1 hb
        have HNXT : Hid (∀ (va' vb' : Value) (u : World), RP B I (.stringIter s (a + n)) W0 (Ti.next k st) va' vb' u → AtP B I s W0 (a + n) (Ti.next k st) va' vb' u) := by
          rw [hn1, hkk]
          exact fun va' vb' u hq => hAt.next hlt (by rw [← hkk]; exact hb) hq
        have HPOS : Hid (0 < n) := by show 0 < n; omega
        have HM : Hid (s.size - (a + n) < s.size - a) := by show s.size - (a + n) < s.size - a; omega
        have HP0 : Hid (wr.iterPos I = a) := iterPos_of hit
        clear hb hst hkk hr hn hU hrp hrp2 hAt hit hit2 hTW hSA1 hn1 hpos
        go_wp2_with (go_at_call 27; (with_reducible refine kt.mono ?_); rintro e u1 ⟨rfl, va', vb', hR⟩)
        go_roundw
        case rel => exact ⟨a + n, Ti.next k st, va', vb', HNXT.out _ _ _ hR⟩
        case measure =>
          rw [iterPos_of hR.it, HP0.out]
          exact HM.out
    · have hnx : ∀ ty, (Instr.next (.pointer (some ⟨I, 0, none⟩)) true ty).run Try.prog wr = _ := fun ty => Lib.run_next_end_at wr I s a ty hit hlt
      have hfin := hAt.fin hlt
      have kw := whole_any hrp
      have hrU := hrp.turned
      by_cases hno : 0 < st.x ∨ st.sp = []
      · have HNO : Hid (Ti.read s.data.toList = (none, s.size)) := by show _ = _; rw [hfin]; unfold Ti.fin; rw [if_pos hno]
        rw [show (!decide (0 < st.x ∨ st.sp = [])) = false by simp only [hno, decide_true, Bool.not_true]] at kw
        clear hno hfin hAt hit hTW hSA1 hrp
        go_wp2_with (go_at_call 28; (with_reducible refine kw.mono ?_); rintro e u1 ⟨rfl, hT⟩; have hTB := hrU.trans hT (by simp); have hSu := hSA.keep hTB (by simp; omega); have hTu := hT0.trans hTB (by intro k hk hl; simp at hk; omega); have z0 := (hSu.2 0 _ rfl).1; have y0 := (hSu.2 0 _ rfl).2; have z1 := (hSu.2 1 _ rfl).1; have y1 := (hSu.2 1 _ rfl).2; have z2 := (hSu.2 2 _ rfl).1; have y2 := (hSu.2 2 _ rfl).2; have z3 := (hSu.2 3 _ rfl).1; have y3 := (hSu.2 3 _ rfl).2)
        obtain ⟨W9, hW9⟩ : ∃ W9, W9 = TiR.put4 u1 A (.int .i64 0) (.int .i64 0) (.slice none 0 0) (.slice none 0 0) := ⟨_, rfl⟩
        have hS9 := TiR.set4 rfl hSu (.int .i64 0) (.int .i64 0) (.slice none 0 0) (.slice none 0 0)
        rw [← hW9] at hS9
        have hT9 : Turned [] w W9 := by rw [hW9]; exact TiR.turned4 hTu (.inr hAw) _ _ _ _
        unfold TiR.put4 at hW9
        rw [← hW9]
        have g0 := (hS9.2 0 _ rfl).1
        have g1 := (hS9.2 1 _ rfl).1
        have g2 := (hS9.2 2 _ rfl).1
        have g3 := (hS9.2 3 _ rfl).1
        exact bodyPost_ret (v := .tuple #[.agg #[.int .i64 0, .int .i64 0, .slice none 0 0, .slice none 0 0], .int .i64 (s.size : Int), .int .i64 2]) (by simp [results, Try.results17, go_sem, g0, g1, g2, g3]) rfl (TiR.no_answer HNO.out hT9)
      · have HRD : Hid (Ti.read s.data.toList = (some st, 0)) := by show _ = _; rw [hfin]; unfold Ti.fin; rw [if_neg hno]
        rw [show (!decide (0 < st.x ∨ st.sp = [])) = true by simp only [hno, decide_false, Bool.not_false]] at kw
        have isp := hAt.inv.sp
        obtain ⟨oa, ca, rfl, hca, hcm⟩ := hAt.rp.ws.form
        obtain ⟨ob, cb, rfl, hcb, hcm2⟩ := hAt.rp.sp.form
        clear hno hfin hAt hit hTW hSA1
        go_wp2_with (go_at_call 28; (with_reducible refine kw.mono ?_); rintro e u1 ⟨rfl, hT⟩; have hTB := hrU.trans hT (by simp); have hSu := hSA.keep hTB (by simp; omega); have hTu := hT0.trans hTB (by intro k hk hl; simp at hk; omega); have z0 := (hSu.2 0 _ rfl).1; have y0 := (hSu.2 0 _ rfl).2; have z1 := (hSu.2 1 _ rfl).1; have y1 := (hSu.2 1 _ rfl).2; have z2 := (hSu.2 2 _ rfl).1; have y2 := (hSu.2 2 _ rfl).2; have z3 := (hSu.2 3 _ rfl).1; have y3 := (hSu.2 3 _ rfl).2; have hrp := hrp.keep hT; have d0 := (hrp.own.2 0 _ rfl).1; have d1 := (hrp.own.2 1 _ rfl).1; have d2 := (hrp.own.2 2 _ rfl).1; have d3 := (hrp.own.2 3 _ rfl).1)
        obtain ⟨W9, hW9⟩ : ∃ W9, W9 = TiR.put4 u1 A (.int .i64 (st.W : Int)) (.int .i64 (st.H : Int)) (.slice oa st.ws.length ca) (.slice ob st.sp.length cb) := ⟨_, rfl⟩
        have hS9 := TiR.set4 rfl hSu (.int .i64 (st.W : Int)) (.int .i64 (st.H : Int)) (.slice oa st.ws.length ca) (.slice ob st.sp.length cb)
        rw [← hW9] at hS9
        have hTA : Turned [A] u1 W9 := by rw [hW9]; exact TiR.turned4 (Turned.refl _ _) (.inl (by simp)) _ _ _ _
        have hT9 : Turned [] w W9 := by rw [hW9]; exact TiR.turned4 hTu (.inr hAw) _ _ _ _
        unfold TiR.put4 at hW9
        rw [← hW9]
        have g0 := (hS9.2 0 _ rfl).1
        have g1 := (hS9.2 1 _ rfl).1
        have g2 := (hS9.2 2 _ rfl).1
        have g3 := (hS9.2 3 _ rfl).1
        have hAns : TiR.Answers s.data.toList w (.returned (.tuple #[.agg #[.int .i64 (st.W : Int), .int .i64 (st.H : Int), .slice oa st.ws.length ca, .slice ob st.sp.length cb], .int .i64 0, .int .i64 0])) W9 := by
          unfold TiR.Answers
          have hF := Ti.read_formed HRD.out
          rw [HRD.out]
          obtain ⟨hd1, hd2, hd3, hd4, hd5⟩ := hF.1.1
          have hlw : st.ws.length ≤ 1024 := few_of hF.1.1
          have row1 := (hrp.ws.keep hTA (fun k hk => by have := hrp.na k hk; simp; omega)).rowOf tbEnc_len
          have row2 := (hrp.sp.keep hTA (fun k hk => by have := hrp.nb k hk; simp; omega)).rowOf tvEnc_len
          obtain ⟨oa', ca', ea, _, _, ra, _⟩ := row1
          obtain ⟨ob', cb', eb, _, _, rb, _⟩ := row2
          have ea' : oa = oa' := (Value.slice.inj ea).1
          have eb' : ob = ob' := (Value.slice.inj eb).1
          subst ea' eb'
          refine ⟨oa, ca, ob, cb, rfl, ⟨ra, rb, by show st.ws.length ≤ 1100; omega, by show st.sp.length ≤ 1100; omega, ⟨by show (-9223372036854775808 : Int) ≤ (st.W : Int); omega, by have e : (st.W : Int) ≤ 32 := hd2; show (st.W : Int) < 9223372036854775808; omega⟩, ⟨by show (-9223372036854775808 : Int) ≤ (st.H : Int); omega, by have e : (st.H : Int) ≤ 32 := hd4; show (st.H : Int) < 9223372036854775808; omega⟩⟩, ?_, ?_, hT9⟩
          · intro a ha
            have := hrp.na a.block (by rw [ha]; simp [blk, Value.ownBlock])
            omega
          · intro a ha
            have := hrp.nb a.block (by rw [ha]; simp [blk, Value.ownBlock])
            omega
        exact bodyPost_ret (v := .tuple #[.agg #[.int .i64 (st.W : Int), .int .i64 (st.H : Int), .slice oa st.ws.length ca, .slice ob st.sp.length cb], .int .i64 0, .int .i64 0]) (by simp [results, Try.results17, go_sem, g0, g1, g2, g3]) rfl hAns
end TiW
end Go.Proofs.Ytbfffgnalopfbaa

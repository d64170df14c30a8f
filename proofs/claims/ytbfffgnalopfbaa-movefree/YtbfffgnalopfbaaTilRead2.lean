/- A text is read as a map: the reference's Read (TiR). -/
import Derived.Test.YtbfffgnalopfbaaTilRead
namespace Go.Proofs.Ytbfffgnalopfbaa
open Go.RowKit
set_option linter.unusedVariables false
set_option linter.unusedSimpArgs false

namespace Ti
theorem from_zero (s : ByteArray) : from_ s 0 = s.data.toList := rfl
theorem from_next (s : ByteArray) (a n : Nat) : (from_ s a).drop n = from_ s (a + n) := by unfold from_; rw [List.drop_drop]
end Ti
namespace TiR
/-- behind some signs -/
structure At (A B : Nat) (s : ByteArray) (w : World) (a : Nat) (st : Ti.S) (va vb : Value) (wr : World) : Prop where
  le : a ≤ s.size
  run : Ti.run (from_ s a).length (from_ s a) a st = Ti.read s.data.toList
  inv : Ti.Inv a st
  rs : RS A B w st va vb wr
theorem At.bad {A B a : Nat} {s : ByteArray} {w wr : World} {st : Ti.S} {va vb : Value} (h : At A B s w a st va vb wr) (ha : a < s.size) (hb : Ti.bad (Ti.sg (from_ s a)) st) : Ti.read s.data.toList = (none, a) := by
  rw [← h.run]
  exact Ti.run_bad (by intro e; have := from_len s a; rw [e] at this; simp at this; omega) (Nat.le_refl _) hb
theorem At.next {A B a : Nat} {s : ByteArray} {w wr u : World} {st : Ti.S} {va vb va' vb' : Value} (h : At A B s w a st va vb wr) (ha : a < s.size) (hb : ¬ Ti.bad (Ti.sg (from_ s a)) st) (hr : RS A B w (Ti.next (Ti.sg (from_ s a)) st) va' vb' u) : At A B s w (a + (Ti.bs (Ti.sg (from_ s a))).length) (Ti.next (Ti.sg (from_ s a)) st) va' vb' u := by
  have hne : from_ s a ≠ [] := by intro e; have := from_len s a; rw [e] at this; simp at this; omega
  have h0 : Ti.sg (from_ s a) ≠ 0 := by intro e; apply hb; unfold Ti.bad; rw [e, if_neg (by decide)]; exact .inl rfl
  have hp := Ti.bs_pos (k := Ti.sg (from_ s a)) (by omega) (Ti.sg_le _)
  have hl := Ti.len_sg (from_ s a)
  rw [from_len] at hl
  refine ⟨by omega, ?_, h.inv.next hb hp, hr⟩
  rw [← h.run, Ti.run_step hne (Nat.le_refl _) hb, Ti.from_next]
  exact (Ti.run_any (by rw [from_len, from_len]; omega)).symm
theorem At.fin {A B : Nat} {s : ByteArray} {w wr : World} {st : Ti.S} {va vb : Value} {a : Nat} (h : At A B s w a st va vb wr) (ha : ¬ a < s.size) : Ti.read s.data.toList = Ti.fin s.size st := by
  have : a = s.size := by have := h.le; omega
  rw [← h.run]
  have e : from_ s a = [] := List.length_eq_zero_iff.1 (by rw [from_len]; omega)
  rw [e, this]
  rfl
/-- a refusal's answer -/
theorem no_answer {l : List UInt8} {n : Nat} {w w' : World} (h : Ti.read l = (none, n)) (ht : Turned [] w w') : Answers l w (.returned (.tuple #[.agg #[.int .i64 0, .int .i64 0, .slice none 0 0, .slice none 0 0], .int .i64 (n : Int), .int .i64 2])) w' := by
  unfold Answers
  rw [h]
  refine ⟨none, 0, none, 0, rfl, ⟨?_, ?_, Nat.zero_le _, Nat.zero_le _, ⟨by show (-9223372036854775808 : Int) ≤ 0; decide, by show (0 : Int) < 9223372036854775808; decide⟩, ⟨by show (-9223372036854775808 : Int) ≤ 0; decide, by show (0 : Int) < 9223372036854775808; decide⟩⟩, by simp, by simp, ht⟩
  · intro i a hi; simp [Ti.ansM, Ti.zeroM] at hi
  · intro i a hi; simp [Ti.ansM, Ti.zeroM] at hi

theorem two_cells {p : Int × Int} (w : World) (t : TypeId) : ∀ j u, ([p].flatMap tvEnc)[j]? = some u → (w.alloc (.cells #[.int .i64 p.1, .int .i64 p.2] t)).cell? ⟨w.heap.size, 0 + j, none⟩ = some u := by
  intro j u hj
  rw [Nat.zero_add]
  exact ((Struct.new w [.int .i64 p.1, .int .i64 p.2] t).2 j u (by simpa [tvEnc] using hj)).1

set_option maxRecDepth 20000 in
set_option maxHeartbeats 8000000 in
theorem read_any (s : ByteArray) (hs : (s.size : Int) ≤ 1000000) (w : World) :
    Calls Try.prog 82 #[.string s] w fun e w' => Answers s.data.toList w e w' := by
  have ksg := fun (a : Nat) (ha : a < s.size) (u : World) => sign_any s a ha (by omega) u
  go_enter Try.func82, Try.ntmps82
  go_wp2_with fail
  obtain ⟨W0, hW0⟩ : ∃ W0, W0 = (w.alloc (.cells zeroCells.toArray 35)).alloc (.cells zeroCells.toArray 35) := ⟨_, rfl⟩
  obtain ⟨A, hA⟩ : ∃ A, A = w.heap.size := ⟨_, rfl⟩
  obtain ⟨B, hB⟩ : ∃ B, B = w.heap.size + 1 := ⟨_, rfl⟩
  have hAt : At A B s w 0 Ti.s0 (.slice none 0 0) (.slice none 0 0) W0 := by
    refine ⟨by omega, rfl, Ti.inv0, ?_, ?_, OwnL.nil _ _ _ _, OwnL.nil _ _ _ _, by simp [blk, Value.ownBlock], by simp [blk, Value.ownBlock], by simp [blk, Value.ownBlock], by rw [hW0]; exact ((Turned.refl [] w).alloc _).alloc _⟩
    · rw [hW0, hA]; exact (Struct.new w zeroCells _).keep ((Turned.refl [] _).alloc _) (by simp)
    · have := Struct.new (w.alloc (.cells zeroCells.toArray 35)) zeroCells 35
      rw [show (w.alloc (.cells zeroCells.toArray 35)).heap.size = w.heap.size + 1 by simp, ← hB] at this
      rw [hW0]; exact this
  have hAw : w.heap.size ≤ A := by omega
  have hBw : w.heap.size ≤ B := by omega
  have hAB : A ≠ B := by omega
  unfold zeroCells at hW0
  rw [← hW0, ← hB, ← hA]
  clear hW0 hA hB
  go_loopw [6, 7] (fun x i wr => ∃ (a : Nat) (st : Ti.S) (va vb : Value), x = .int .i64 (st.x : Int) ∧ i = .int .i64 (a : Int) ∧ At A B s w a st va vb wr) (fun _ i _ => s.size - (intOf i).toNat)
  case atStart => exact ⟨0, Ti.s0, _, _, rfl, rfl, hAt⟩
  case round =>
    clear hAt
    obtain ⟨a, st, va, vb, rfl, rfl, hAt⟩ := hrel
    obtain ⟨oa, ca, rfl, hca, hcm⟩ := hAt.rs.ws.form
    obtain ⟨ob, cb, rfl, hcb, hcm2⟩ := hAt.rs.sp.form
    obtain ⟨ix, ih, ihx, iw, iws, isp⟩ := hAt.inv
    by_cases hlt : (a : Int) < (s.size : Int)
    · have hk := ksg a (by omega) wr
      obtain ⟨k, hkk⟩ : ∃ k, k = Ti.sg (from_ s a) := ⟨_, rfl⟩
      rw [← hkk] at hk
      have hk4 : k ≤ 4 := by rw [hkk]; exact Ti.sg_le _
      have HBAD : Hid (Ti.bad k st → Ti.read s.data.toList = (none, a)) := fun hb => hAt.bad (by omega) (by rw [← hkk]; exact hb)
      have HNXT : Hid (∀ (va' vb' : Value) (u : World), ¬ Ti.bad k st → RS A B w (Ti.next k st) va' vb' u → At A B s w (a + (Ti.bs k).length) (Ti.next k st) va' vb' u) := by
        rw [hkk]; exact fun va' vb' u hb hr => hAt.next (by omega) hb hr
      have hrs := hAt.rs
      clear hkk hAt ksg
      by_cases hk4' : k = 4
      · subst hk4'
        rw [show ((4 : Nat) : Int) = 4 from rfl, show (((Ti.bs 4).length : Nat) : Int) = 1 from rfl] at hk
        by_cases hx : st.x = 0
        · have i1 : ((st.x : Int) == 0) = true := by rw [beq_iff_eq]; omega
          have HNO : Hid (Ti.read s.data.toList = (none, a)) := HBAD.out (by unfold Ti.bad; rw [if_pos rfl]; exact .inl hx)
          go_wp2_with (go_at_call 84; (with_reducible refine hk.mono ?_); rintro e u1 ⟨rfl, hT1⟩; have hrs := hrs.keep hT1; have d0 := (hrs.own.2 0 _ rfl).1; have f0 := (hrs.own.2 0 _ rfl).2; have d1 := (hrs.own.2 1 _ rfl).1; have f1 := (hrs.own.2 1 _ rfl).2; have d2 := (hrs.own.2 2 _ rfl).1; have f2 := (hrs.own.2 2 _ rfl).2; have d3 := (hrs.own.2 3 _ rfl).1; have f3 := (hrs.own.2 3 _ rfl).2; have z0 := (hrs.res.2 0 _ rfl).1; have y0 := (hrs.res.2 0 _ rfl).2; have z1 := (hrs.res.2 1 _ rfl).1; have y1 := (hrs.res.2 1 _ rfl).2; have z2 := (hrs.res.2 2 _ rfl).1; have y2 := (hrs.res.2 2 _ rfl).2; have z3 := (hrs.res.2 3 _ rfl).1; have y3 := (hrs.res.2 3 _ rfl).2; clear hT1)
          obtain ⟨W9, hW9⟩ : ∃ W9, W9 = put4 u1 A (.int .i64 0) (.int .i64 0) (.slice none 0 0) (.slice none 0 0) := ⟨_, rfl⟩
          have hS9 := set4 rfl hrs.res (.int .i64 0) (.int .i64 0) (.slice none 0 0) (.slice none 0 0)
          rw [← hW9] at hS9
          have hT9 : Turned [] w W9 := by rw [hW9]; exact turned4 hrs.turned (.inr hAw) _ _ _ _
          unfold put4 at hW9
          rw [← hW9]
          have g0 := (hS9.2 0 _ rfl).1
          have g1 := (hS9.2 1 _ rfl).1
          have g2 := (hS9.2 2 _ rfl).1
          have g3 := (hS9.2 3 _ rfl).1
          exact bodyPost_ret (v := .tuple #[.agg #[.int .i64 0, .int .i64 0, .slice none 0 0, .slice none 0 0], .int .i64 (a : Int), .int .i64 2]) (by simp [results, Try.results82, go_sem, g0, g1, g2, g3]) rfl (no_answer HNO.out hT9)
        · have i1 : ((st.x : Int) == 0) = false := by rw [beq_eq_false_iff_ne]; omega
          by_cases hH : 0 < (st.H : Int)
          · by_cases hw : st.x = st.W
            · have i2 : ((st.x : Int) != (st.W : Int)) = false := by rw [bne_eq_false_iff_eq]; omega
              have HOK : Hid (¬ Ti.bad 4 st) := by unfold Ti.bad; rw [if_pos rfl]; rintro (h | h); exact hx h; exact h.2 hw
              clear hw
              go_wp2_with (go_at_call 84; (with_reducible refine hk.mono ?_); rintro e u1 ⟨rfl, hT1⟩; have hrs := hrs.keep hT1; have d0 := (hrs.own.2 0 _ rfl).1; have f0 := (hrs.own.2 0 _ rfl).2; have d1 := (hrs.own.2 1 _ rfl).1; have f1 := (hrs.own.2 1 _ rfl).2; have d2 := (hrs.own.2 2 _ rfl).1; have f2 := (hrs.own.2 2 _ rfl).2; have d3 := (hrs.own.2 3 _ rfl).1; have f3 := (hrs.own.2 3 _ rfl).2; have z0 := (hrs.res.2 0 _ rfl).1; have y0 := (hrs.res.2 0 _ rfl).2; have z1 := (hrs.res.2 1 _ rfl).1; have y1 := (hrs.res.2 1 _ rfl).2; have z2 := (hrs.res.2 2 _ rfl).1; have y2 := (hrs.res.2 2 _ rfl).2; have z3 := (hrs.res.2 3 _ rfl).1; have y3 := (hrs.res.2 3 _ rfl).2; clear hT1)
              have hL := hrs.line hAB hBw st.x (st.H + 1)
              rw [show ((st.H + 1 : Nat) : Int) = (st.H : Int) + 1 by omega] at hL
              go_roundw
              case rel => exact ⟨a + 1, Ti.next 4 st, _, _, rfl, by go_num, HNXT.out _ _ _ HOK.out hL⟩
              case measure => simp [intOf]; omega
            · have i2 : ((st.x : Int) != (st.W : Int)) = true := by rw [bne_iff_ne]; omega
              have HNO : Hid (Ti.read s.data.toList = (none, a)) := HBAD.out (by unfold Ti.bad; rw [if_pos rfl]; exact .inr ⟨by omega, hw⟩)
              go_wp2_with (go_at_call 84; (with_reducible refine hk.mono ?_); rintro e u1 ⟨rfl, hT1⟩; have hrs := hrs.keep hT1; have d0 := (hrs.own.2 0 _ rfl).1; have f0 := (hrs.own.2 0 _ rfl).2; have d1 := (hrs.own.2 1 _ rfl).1; have f1 := (hrs.own.2 1 _ rfl).2; have d2 := (hrs.own.2 2 _ rfl).1; have f2 := (hrs.own.2 2 _ rfl).2; have d3 := (hrs.own.2 3 _ rfl).1; have f3 := (hrs.own.2 3 _ rfl).2; have z0 := (hrs.res.2 0 _ rfl).1; have y0 := (hrs.res.2 0 _ rfl).2; have z1 := (hrs.res.2 1 _ rfl).1; have y1 := (hrs.res.2 1 _ rfl).2; have z2 := (hrs.res.2 2 _ rfl).1; have y2 := (hrs.res.2 2 _ rfl).2; have z3 := (hrs.res.2 3 _ rfl).1; have y3 := (hrs.res.2 3 _ rfl).2; clear hT1)
              obtain ⟨W9, hW9⟩ : ∃ W9, W9 = put4 u1 A (.int .i64 0) (.int .i64 0) (.slice none 0 0) (.slice none 0 0) := ⟨_, rfl⟩
              have hS9 := set4 rfl hrs.res (.int .i64 0) (.int .i64 0) (.slice none 0 0) (.slice none 0 0)
              rw [← hW9] at hS9
              have hT9 : Turned [] w W9 := by rw [hW9]; exact turned4 hrs.turned (.inr hAw) _ _ _ _
              unfold put4 at hW9
              rw [← hW9]
              have g0 := (hS9.2 0 _ rfl).1
              have g1 := (hS9.2 1 _ rfl).1
              have g2 := (hS9.2 2 _ rfl).1
              have g3 := (hS9.2 3 _ rfl).1
              exact bodyPost_ret (v := .tuple #[.agg #[.int .i64 0, .int .i64 0, .slice none 0 0, .slice none 0 0], .int .i64 (a : Int), .int .i64 2]) (by simp [results, Try.results82, go_sem, g0, g1, g2, g3]) rfl (no_answer HNO.out hT9)
          · skip
            have HOK : Hid (¬ Ti.bad 4 st) := by unfold Ti.bad; rw [if_pos rfl]; rintro (h | h); exact hx h; omega
            clear hx
            go_wp2_with (go_at_call 84; (with_reducible refine hk.mono ?_); rintro e u1 ⟨rfl, hT1⟩; have hrs := hrs.keep hT1; have d0 := (hrs.own.2 0 _ rfl).1; have f0 := (hrs.own.2 0 _ rfl).2; have d1 := (hrs.own.2 1 _ rfl).1; have f1 := (hrs.own.2 1 _ rfl).2; have d2 := (hrs.own.2 2 _ rfl).1; have f2 := (hrs.own.2 2 _ rfl).2; have d3 := (hrs.own.2 3 _ rfl).1; have f3 := (hrs.own.2 3 _ rfl).2; have z0 := (hrs.res.2 0 _ rfl).1; have y0 := (hrs.res.2 0 _ rfl).2; have z1 := (hrs.res.2 1 _ rfl).1; have y1 := (hrs.res.2 1 _ rfl).2; have z2 := (hrs.res.2 2 _ rfl).1; have y2 := (hrs.res.2 2 _ rfl).2; have z3 := (hrs.res.2 3 _ rfl).1; have y3 := (hrs.res.2 3 _ rfl).2; clear hT1)
            have hL := hrs.line hAB hBw st.x (st.H + 1)
            rw [show ((st.H + 1 : Nat) : Int) = (st.H : Int) + 1 by omega] at hL
            go_roundw
            case rel => exact ⟨a + 1, Ti.next 4 st, _, _, rfl, by go_num, HNXT.out _ _ _ HOK.out hL⟩
            case measure => simp [intOf]; omega
      · have hneg : ∀ p : Prop, (k = 0 ∨ 32 ≤ st.H ∨ 32 ≤ st.x ∨ (0 < st.H ∧ st.W ≤ st.x)) → Ti.bad k st := by intro _ h; unfold Ti.bad; rw [if_neg hk4']; exact h
        have hpos : ¬ (k = 0 ∨ 32 ≤ st.H ∨ 32 ≤ st.x ∨ (0 < st.H ∧ st.W ≤ st.x)) → ¬ Ti.bad k st := by intro h; unfold Ti.bad; rw [if_neg hk4']; exact h
        have HNEG : Hid ((k = 0 ∨ 32 ≤ st.H ∨ 32 ≤ st.x ∨ (0 < st.H ∧ st.W ≤ st.x)) → Ti.bad k st) := hneg True
        have HPOS : Hid (¬ (k = 0 ∨ 32 ≤ st.H ∨ 32 ≤ st.x ∨ (0 < st.H ∧ st.W ≤ st.x)) → ¬ Ti.bad k st) := hpos
        clear hneg hpos
        have j4 : ((k : Int) == 4) = false := by rw [beq_eq_false_iff_ne]; omega
        by_cases hk0 : k = 0
        · have j0 : ((k : Int) == 0) = true := by rw [beq_iff_eq]; omega
          have HNO : Hid (Ti.read s.data.toList = (none, a)) := HBAD.out (HNEG.out (.inl hk0))
          go_wp2_with (go_at_call 84; (with_reducible refine hk.mono ?_); rintro e u1 ⟨rfl, hT1⟩; have hrs := hrs.keep hT1; have d0 := (hrs.own.2 0 _ rfl).1; have f0 := (hrs.own.2 0 _ rfl).2; have d1 := (hrs.own.2 1 _ rfl).1; have f1 := (hrs.own.2 1 _ rfl).2; have d2 := (hrs.own.2 2 _ rfl).1; have f2 := (hrs.own.2 2 _ rfl).2; have d3 := (hrs.own.2 3 _ rfl).1; have f3 := (hrs.own.2 3 _ rfl).2; have z0 := (hrs.res.2 0 _ rfl).1; have y0 := (hrs.res.2 0 _ rfl).2; have z1 := (hrs.res.2 1 _ rfl).1; have y1 := (hrs.res.2 1 _ rfl).2; have z2 := (hrs.res.2 2 _ rfl).1; have y2 := (hrs.res.2 2 _ rfl).2; have z3 := (hrs.res.2 3 _ rfl).1; have y3 := (hrs.res.2 3 _ rfl).2; clear hT1)
          obtain ⟨W9, hW9⟩ : ∃ W9, W9 = put4 u1 A (.int .i64 0) (.int .i64 0) (.slice none 0 0) (.slice none 0 0) := ⟨_, rfl⟩
          have hS9 := set4 rfl hrs.res (.int .i64 0) (.int .i64 0) (.slice none 0 0) (.slice none 0 0)
          rw [← hW9] at hS9
          have hT9 : Turned [] w W9 := by rw [hW9]; exact turned4 hrs.turned (.inr hAw) _ _ _ _
          unfold put4 at hW9
          rw [← hW9]
          have g0 := (hS9.2 0 _ rfl).1
          have g1 := (hS9.2 1 _ rfl).1
          have g2 := (hS9.2 2 _ rfl).1
          have g3 := (hS9.2 3 _ rfl).1
          exact bodyPost_ret (v := .tuple #[.agg #[.int .i64 0, .int .i64 0, .slice none 0 0, .slice none 0 0], .int .i64 (a : Int), .int .i64 2]) (by simp [results, Try.results82, go_sem, g0, g1, g2, g3]) rfl (no_answer HNO.out hT9)
        · have j0 : ((k : Int) == 0) = false := by rw [beq_eq_false_iff_ne]; omega
          by_cases hH32 : 32 ≤ (st.H : Int)
          · skip
            have HNO : Hid (Ti.read s.data.toList = (none, a)) := HBAD.out (HNEG.out (.inr (.inl (by omega))))
            go_wp2_with (go_at_call 84; (with_reducible refine hk.mono ?_); rintro e u1 ⟨rfl, hT1⟩; have hrs := hrs.keep hT1; have d0 := (hrs.own.2 0 _ rfl).1; have f0 := (hrs.own.2 0 _ rfl).2; have d1 := (hrs.own.2 1 _ rfl).1; have f1 := (hrs.own.2 1 _ rfl).2; have d2 := (hrs.own.2 2 _ rfl).1; have f2 := (hrs.own.2 2 _ rfl).2; have d3 := (hrs.own.2 3 _ rfl).1; have f3 := (hrs.own.2 3 _ rfl).2; have z0 := (hrs.res.2 0 _ rfl).1; have y0 := (hrs.res.2 0 _ rfl).2; have z1 := (hrs.res.2 1 _ rfl).1; have y1 := (hrs.res.2 1 _ rfl).2; have z2 := (hrs.res.2 2 _ rfl).1; have y2 := (hrs.res.2 2 _ rfl).2; have z3 := (hrs.res.2 3 _ rfl).1; have y3 := (hrs.res.2 3 _ rfl).2; clear hT1)
            obtain ⟨W9, hW9⟩ : ∃ W9, W9 = put4 u1 A (.int .i64 0) (.int .i64 0) (.slice none 0 0) (.slice none 0 0) := ⟨_, rfl⟩
            have hS9 := set4 rfl hrs.res (.int .i64 0) (.int .i64 0) (.slice none 0 0) (.slice none 0 0)
            rw [← hW9] at hS9
            have hT9 : Turned [] w W9 := by rw [hW9]; exact turned4 hrs.turned (.inr hAw) _ _ _ _
            unfold put4 at hW9
            rw [← hW9]
            have g0 := (hS9.2 0 _ rfl).1
            have g1 := (hS9.2 1 _ rfl).1
            have g2 := (hS9.2 2 _ rfl).1
            have g3 := (hS9.2 3 _ rfl).1
            exact bodyPost_ret (v := .tuple #[.agg #[.int .i64 0, .int .i64 0, .slice none 0 0, .slice none 0 0], .int .i64 (a : Int), .int .i64 2]) (by simp [results, Try.results82, go_sem, g0, g1, g2, g3]) rfl (no_answer HNO.out hT9)
          · by_cases hx32 : 32 ≤ (st.x : Int)
            · skip
              have HNO : Hid (Ti.read s.data.toList = (none, a)) := HBAD.out (HNEG.out (.inr (.inr (.inl (by omega)))))
              go_wp2_with (go_at_call 84; (with_reducible refine hk.mono ?_); rintro e u1 ⟨rfl, hT1⟩; have hrs := hrs.keep hT1; have d0 := (hrs.own.2 0 _ rfl).1; have f0 := (hrs.own.2 0 _ rfl).2; have d1 := (hrs.own.2 1 _ rfl).1; have f1 := (hrs.own.2 1 _ rfl).2; have d2 := (hrs.own.2 2 _ rfl).1; have f2 := (hrs.own.2 2 _ rfl).2; have d3 := (hrs.own.2 3 _ rfl).1; have f3 := (hrs.own.2 3 _ rfl).2; have z0 := (hrs.res.2 0 _ rfl).1; have y0 := (hrs.res.2 0 _ rfl).2; have z1 := (hrs.res.2 1 _ rfl).1; have y1 := (hrs.res.2 1 _ rfl).2; have z2 := (hrs.res.2 2 _ rfl).1; have y2 := (hrs.res.2 2 _ rfl).2; have z3 := (hrs.res.2 3 _ rfl).1; have y3 := (hrs.res.2 3 _ rfl).2; clear hT1)
              obtain ⟨W9, hW9⟩ : ∃ W9, W9 = put4 u1 A (.int .i64 0) (.int .i64 0) (.slice none 0 0) (.slice none 0 0) := ⟨_, rfl⟩
              have hS9 := set4 rfl hrs.res (.int .i64 0) (.int .i64 0) (.slice none 0 0) (.slice none 0 0)
              rw [← hW9] at hS9
              have hT9 : Turned [] w W9 := by rw [hW9]; exact turned4 hrs.turned (.inr hAw) _ _ _ _
              unfold put4 at hW9
              rw [← hW9]
              have g0 := (hS9.2 0 _ rfl).1
              have g1 := (hS9.2 1 _ rfl).1
              have g2 := (hS9.2 2 _ rfl).1
              have g3 := (hS9.2 3 _ rfl).1
              exact bodyPost_ret (v := .tuple #[.agg #[.int .i64 0, .int .i64 0, .slice none 0 0, .slice none 0 0], .int .i64 (a : Int), .int .i64 2]) (by simp [results, Try.results82, go_sem, g0, g1, g2, g3]) rfl (no_answer HNO.out hT9)
            · by_cases hH : 0 < (st.H : Int)
              · by_cases hw : (st.W : Int) ≤ (st.x : Int)
                · skip
                  have HNO : Hid (Ti.read s.data.toList = (none, a)) := HBAD.out (HNEG.out (.inr (.inr (.inr ⟨by omega, by omega⟩))))
                  go_wp2_with (go_at_call 84; (with_reducible refine hk.mono ?_); rintro e u1 ⟨rfl, hT1⟩; have hrs := hrs.keep hT1; have d0 := (hrs.own.2 0 _ rfl).1; have f0 := (hrs.own.2 0 _ rfl).2; have d1 := (hrs.own.2 1 _ rfl).1; have f1 := (hrs.own.2 1 _ rfl).2; have d2 := (hrs.own.2 2 _ rfl).1; have f2 := (hrs.own.2 2 _ rfl).2; have d3 := (hrs.own.2 3 _ rfl).1; have f3 := (hrs.own.2 3 _ rfl).2; have z0 := (hrs.res.2 0 _ rfl).1; have y0 := (hrs.res.2 0 _ rfl).2; have z1 := (hrs.res.2 1 _ rfl).1; have y1 := (hrs.res.2 1 _ rfl).2; have z2 := (hrs.res.2 2 _ rfl).1; have y2 := (hrs.res.2 2 _ rfl).2; have z3 := (hrs.res.2 3 _ rfl).1; have y3 := (hrs.res.2 3 _ rfl).2; clear hT1)
                  obtain ⟨W9, hW9⟩ : ∃ W9, W9 = put4 u1 A (.int .i64 0) (.int .i64 0) (.slice none 0 0) (.slice none 0 0) := ⟨_, rfl⟩
                  have hS9 := set4 rfl hrs.res (.int .i64 0) (.int .i64 0) (.slice none 0 0) (.slice none 0 0)
                  rw [← hW9] at hS9
                  have hT9 : Turned [] w W9 := by rw [hW9]; exact turned4 hrs.turned (.inr hAw) _ _ _ _
                  unfold put4 at hW9
                  rw [← hW9]
                  have g0 := (hS9.2 0 _ rfl).1
                  have g1 := (hS9.2 1 _ rfl).1
                  have g2 := (hS9.2 2 _ rfl).1
                  have g3 := (hS9.2 3 _ rfl).1
                  exact bodyPost_ret (v := .tuple #[.agg #[.int .i64 0, .int .i64 0, .slice none 0 0, .slice none 0 0], .int .i64 (a : Int), .int .i64 2]) (by simp [results, Try.results82, go_sem, g0, g1, g2, g3]) rfl (no_answer HNO.out hT9)
                · have HOK : Hid (¬ Ti.bad k st) := HPOS.out (by omega)
                  clear HNEG HPOS HBAD j4 j0
                  obtain hk' | hk' | hk' : k = 1 ∨ k = 2 ∨ k = 3 := by omega
                  · subst hk'
                    rw [show ((1 : Nat) : Int) = 1 from rfl, show (((Ti.bs 1).length : Nat) : Int) = 3 from rfl] at hk
                    have b1 : st.ws.length + 1 ≤ maxLen := by unfold maxLen; omega
                    have b2 : (st.ws.length + 1) * 1 ≤ 140737488355328 := by omega
                    go_wp2_with (first | (go_at_call 84; (with_reducible refine hk.mono ?_); rintro e u1 ⟨rfl, hT1⟩; have hrs := hrs.keep hT1; have d0 := (hrs.own.2 0 _ rfl).1; have f0 := (hrs.own.2 0 _ rfl).2; have d1 := (hrs.own.2 1 _ rfl).1; have f1 := (hrs.own.2 1 _ rfl).2; have d2 := (hrs.own.2 2 _ rfl).1; have f2 := (hrs.own.2 2 _ rfl).2; have d3 := (hrs.own.2 3 _ rfl).1; have f3 := (hrs.own.2 3 _ rfl).2; have z0 := (hrs.res.2 0 _ rfl).1; have y0 := (hrs.res.2 0 _ rfl).2; have z1 := (hrs.res.2 1 _ rfl).1; have y1 := (hrs.res.2 1 _ rfl).2; have z2 := (hrs.res.2 2 _ rfl).1; have y2 := (hrs.res.2 2 _ rfl).2; have z3 := (hrs.res.2 3 _ rfl).1; have y3 := (hrs.res.2 3 _ rfl).2; clear hT1) | (at_builtin; refine wp_push (v := .slice oa st.ws.length ca) elem_tb rfl _ _ rfl rfl (hrs.ws.keep ((Turned.refl [] u1).alloc _) (by simp)) u1.heap.size 0 1 1 [true] rfl rfl tbEnc_len tbEnc_one (one_cell rfl u1 _) b1 b2 ?_; intro v' w1 ho1 ht1 hb1; obtain ⟨g, cap, hv, _⟩ := ho1.cell tbEnc_len (i := st.ws.length) (a := true) (by simp); rw [show (st.ws ++ [true]).length = st.ws.length + 1 by simp] at hv; subst hv; obtain ⟨m1, m2, m3, m4⟩ := hrs.mid ht1; have e2 := (m2.2 2 _ rfl).1; have g2 := (m2.2 2 _ rfl).2))
                    have hL := hrs.push (x := st.x + 1) hAB hBw ho1 ht1 hb1
                    go_roundw
                    case rel => exact ⟨a + 3, Ti.next 1 st, _, _, by go_num, by go_num, HNXT.out _ _ _ HOK.out hL⟩
                    case measure => simp [intOf]; omega
                  · subst hk'
                    rw [show ((2 : Nat) : Int) = 2 from rfl, show (((Ti.bs 2).length : Nat) : Int) = 2 from rfl] at hk
                    have b1 : st.ws.length + 1 ≤ maxLen := by unfold maxLen; omega
                    have b2 : (st.ws.length + 1) * 1 ≤ 140737488355328 := by omega
                    go_wp2_with (first | (go_at_call 84; (with_reducible refine hk.mono ?_); rintro e u1 ⟨rfl, hT1⟩; have hrs := hrs.keep hT1; have d0 := (hrs.own.2 0 _ rfl).1; have f0 := (hrs.own.2 0 _ rfl).2; have d1 := (hrs.own.2 1 _ rfl).1; have f1 := (hrs.own.2 1 _ rfl).2; have d2 := (hrs.own.2 2 _ rfl).1; have f2 := (hrs.own.2 2 _ rfl).2; have d3 := (hrs.own.2 3 _ rfl).1; have f3 := (hrs.own.2 3 _ rfl).2; have z0 := (hrs.res.2 0 _ rfl).1; have y0 := (hrs.res.2 0 _ rfl).2; have z1 := (hrs.res.2 1 _ rfl).1; have y1 := (hrs.res.2 1 _ rfl).2; have z2 := (hrs.res.2 2 _ rfl).1; have y2 := (hrs.res.2 2 _ rfl).2; have z3 := (hrs.res.2 3 _ rfl).1; have y3 := (hrs.res.2 3 _ rfl).2; clear hT1) | (at_builtin; refine wp_push (v := .slice oa st.ws.length ca) elem_tb rfl _ _ rfl rfl (hrs.ws.keep ((Turned.refl [] u1).alloc _) (by simp)) u1.heap.size 0 1 1 [false] rfl rfl tbEnc_len tbEnc_one (one_cell rfl u1 _) b1 b2 ?_; intro v' w1 ho1 ht1 hb1; obtain ⟨g, cap, hv, _⟩ := ho1.cell tbEnc_len (i := st.ws.length) (a := false) (by simp); rw [show (st.ws ++ [false]).length = st.ws.length + 1 by simp] at hv; subst hv; obtain ⟨m1, m2, m3, m4⟩ := hrs.mid ht1; have e2 := (m2.2 2 _ rfl).1; have g2 := (m2.2 2 _ rfl).2))
                    have hL := hrs.push (x := st.x + 1) hAB hBw ho1 ht1 hb1
                    go_roundw
                    case rel => exact ⟨a + 2, Ti.next 2 st, _, _, by go_num, by go_num, HNXT.out _ _ _ HOK.out hL⟩
                    case measure => simp [intOf]; omega
                  · subst hk'
                    rw [show ((3 : Nat) : Int) = 3 from rfl, show (((Ti.bs 3).length : Nat) : Int) = 3 from rfl] at hk
                    have b1 : st.ws.length + 1 ≤ maxLen := by unfold maxLen; omega
                    have b2 : (st.ws.length + 1) * 1 ≤ 140737488355328 := by omega
                    go_wp2_with (first | (go_at_call 84; (with_reducible refine hk.mono ?_); rintro e u1 ⟨rfl, hT1⟩; have hrs := hrs.keep hT1; have d0 := (hrs.own.2 0 _ rfl).1; have f0 := (hrs.own.2 0 _ rfl).2; have d1 := (hrs.own.2 1 _ rfl).1; have f1 := (hrs.own.2 1 _ rfl).2; have d2 := (hrs.own.2 2 _ rfl).1; have f2 := (hrs.own.2 2 _ rfl).2; have d3 := (hrs.own.2 3 _ rfl).1; have f3 := (hrs.own.2 3 _ rfl).2; have z0 := (hrs.res.2 0 _ rfl).1; have y0 := (hrs.res.2 0 _ rfl).2; have z1 := (hrs.res.2 1 _ rfl).1; have y1 := (hrs.res.2 1 _ rfl).2; have z2 := (hrs.res.2 2 _ rfl).1; have y2 := (hrs.res.2 2 _ rfl).2; have z3 := (hrs.res.2 3 _ rfl).1; have y3 := (hrs.res.2 3 _ rfl).2; clear hT1) | (at_builtin; refine wp_push (v := .slice oa st.ws.length ca) elem_tb rfl _ _ rfl rfl (hrs.ws.keep ((Turned.refl [] u1).alloc _) (by simp)) u1.heap.size 0 1 1 [false] rfl rfl tbEnc_len tbEnc_one (one_cell rfl u1 _) b1 b2 ?_; intro v' w1 ho1 ht1 hb1; obtain ⟨g, cap, hv, _⟩ := ho1.cell tbEnc_len (i := st.ws.length) (a := false) (by simp); rw [show (st.ws ++ [false]).length = st.ws.length + 1 by simp] at hv; subst hv; obtain ⟨m1, m2, m3, m4⟩ := hrs.mid ht1; have e2 := (m2.2 2 _ rfl).1; have g2 := (m2.2 2 _ rfl).2))
                    have hL := hrs.push (x := st.x + 1) hAB hBw ho1 ht1 hb1
                    obtain ⟨W2, hW2⟩ : ∃ W2, W2 = w1.setCell ⟨B, 2, none⟩ (.slice (some ⟨g, 0, none⟩) (st.ws.length + 1) cap) := ⟨_, rfl⟩
                    rw [← hW2] at hL ⊢
                    clear hW2 ho1 ht1 hb1 m1 m2 m3 m4 e2 g2 hrs d0 d1 d2 d3 f0 f1 f2 f3 z0 z1 z2 z3 y0 y1 y2 y3
                    have kmid := fun (u : World) => middle_any st.x st.H (by omega) (by omega) u
                    have b3 : st.sp.length + 1 ≤ maxLen := by unfold maxLen; omega
                    have b4 : (st.sp.length + 1) * 16 ≤ 140737488355328 := by omega
                    have hrs := hL
                    have d0 := (hrs.own.2 0 _ rfl).1
                    have f0 := (hrs.own.2 0 _ rfl).2
                    have d1 := (hrs.own.2 1 _ rfl).1
                    have f1 := (hrs.own.2 1 _ rfl).2
                    have d2 := (hrs.own.2 2 _ rfl).1
                    have f2 := (hrs.own.2 2 _ rfl).2
                    have d3 := (hrs.own.2 3 _ rfl).1
                    have f3 := (hrs.own.2 3 _ rfl).2
                    have HT5 : Turned [] W2 W2.drew := (Turned.refl [] W2).drew
                    go_region_law (first | (refine step_push (v := .slice ob st.sp.length cb) elem_tv rfl _ _ rfl rfl (hrs.sp.keep ((Turned.refl [] u5).alloc _) (by simp)) u5.heap.size 0 1 1 [Ti.mid st.x st.H] rfl rfl tvEnc_len tvEnc_one (two_cells u5 _) b3 b4 ?_; intro v2 w2 ho2 ht2 hb2; obtain ⟨g2, cap2, hv2, _⟩ := ho2.cell tvEnc_len (i := st.sp.length) (a := Ti.mid st.x st.H) (by simp); rw [show (st.sp ++ [Ti.mid st.x st.H]).length = st.sp.length + 1 by simp] at hv2; subst hv2; obtain ⟨q1, q2, q3, q4⟩ := hrs.mid2 ht2; have e3 := (q2.2 3 _ rfl).1; have g3 := (q2.2 3 _ rfl).2) | (rw [if_pos (by rfl)]; go_simp; go_at_call 81; (with_reducible refine (kmid _).mono ?_); rintro e5 u5 ⟨rfl, HT6⟩; have hrs := hrs.keep (HT5.trans HT6 (by simp)); have d3' := fun o => ((hrs.own.keep ((Turned.refl [] u5).alloc o) (by simp)).2 3 _ rfl).1; have d0 := (hrs.own.2 0 _ rfl).1; have f0 := (hrs.own.2 0 _ rfl).2; have d1 := (hrs.own.2 1 _ rfl).1; have f1 := (hrs.own.2 1 _ rfl).2; have d2 := (hrs.own.2 2 _ rfl).1; have f2 := (hrs.own.2 2 _ rfl).2; have d3 := (hrs.own.2 3 _ rfl).1; have f3 := (hrs.own.2 3 _ rfl).2; ))
                    all_goals
                      have hL2 := hrs.push2 (x := st.x + 1) hAB hBw ho2 ht2 hb2
                      go_wp2_with fail
                      go_roundw
                      case rel => exact ⟨a + 3, Ti.next 3 st, _, _, by go_num, by go_num, HNXT.out _ _ _ HOK.out hL2⟩
                      case measure => simp [intOf]; omega
              · have HOK : Hid (¬ Ti.bad k st) := HPOS.out (by omega)
                clear HNEG HPOS HBAD j4 j0
                obtain hk' | hk' | hk' : k = 1 ∨ k = 2 ∨ k = 3 := by omega
                · subst hk'
                  rw [show ((1 : Nat) : Int) = 1 from rfl, show (((Ti.bs 1).length : Nat) : Int) = 3 from rfl] at hk
                  have b1 : st.ws.length + 1 ≤ maxLen := by unfold maxLen; omega
                  have b2 : (st.ws.length + 1) * 1 ≤ 140737488355328 := by omega
                  go_wp2_with (first | (go_at_call 84; (with_reducible refine hk.mono ?_); rintro e u1 ⟨rfl, hT1⟩; have hrs := hrs.keep hT1; have d0 := (hrs.own.2 0 _ rfl).1; have f0 := (hrs.own.2 0 _ rfl).2; have d1 := (hrs.own.2 1 _ rfl).1; have f1 := (hrs.own.2 1 _ rfl).2; have d2 := (hrs.own.2 2 _ rfl).1; have f2 := (hrs.own.2 2 _ rfl).2; have d3 := (hrs.own.2 3 _ rfl).1; have f3 := (hrs.own.2 3 _ rfl).2; have z0 := (hrs.res.2 0 _ rfl).1; have y0 := (hrs.res.2 0 _ rfl).2; have z1 := (hrs.res.2 1 _ rfl).1; have y1 := (hrs.res.2 1 _ rfl).2; have z2 := (hrs.res.2 2 _ rfl).1; have y2 := (hrs.res.2 2 _ rfl).2; have z3 := (hrs.res.2 3 _ rfl).1; have y3 := (hrs.res.2 3 _ rfl).2; clear hT1) | (at_builtin; refine wp_push (v := .slice oa st.ws.length ca) elem_tb rfl _ _ rfl rfl (hrs.ws.keep ((Turned.refl [] u1).alloc _) (by simp)) u1.heap.size 0 1 1 [true] rfl rfl tbEnc_len tbEnc_one (one_cell rfl u1 _) b1 b2 ?_; intro v' w1 ho1 ht1 hb1; obtain ⟨g, cap, hv, _⟩ := ho1.cell tbEnc_len (i := st.ws.length) (a := true) (by simp); rw [show (st.ws ++ [true]).length = st.ws.length + 1 by simp] at hv; subst hv; obtain ⟨m1, m2, m3, m4⟩ := hrs.mid ht1; have e2 := (m2.2 2 _ rfl).1; have g2 := (m2.2 2 _ rfl).2))
                  have hL := hrs.push (x := st.x + 1) hAB hBw ho1 ht1 hb1
                  go_roundw
                  case rel => exact ⟨a + 3, Ti.next 1 st, _, _, by go_num, by go_num, HNXT.out _ _ _ HOK.out hL⟩
                  case measure => simp [intOf]; omega
                · subst hk'
                  rw [show ((2 : Nat) : Int) = 2 from rfl, show (((Ti.bs 2).length : Nat) : Int) = 2 from rfl] at hk
                  have b1 : st.ws.length + 1 ≤ maxLen := by unfold maxLen; omega
                  have b2 : (st.ws.length + 1) * 1 ≤ 140737488355328 := by omega
                  go_wp2_with (first | (go_at_call 84; (with_reducible refine hk.mono ?_); rintro e u1 ⟨rfl, hT1⟩; have hrs := hrs.keep hT1; have d0 := (hrs.own.2 0 _ rfl).1; have f0 := (hrs.own.2 0 _ rfl).2; have d1 := (hrs.own.2 1 _ rfl).1; have f1 := (hrs.own.2 1 _ rfl).2; have d2 := (hrs.own.2 2 _ rfl).1; have f2 := (hrs.own.2 2 _ rfl).2; have d3 := (hrs.own.2 3 _ rfl).1; have f3 := (hrs.own.2 3 _ rfl).2; have z0 := (hrs.res.2 0 _ rfl).1; have y0 := (hrs.res.2 0 _ rfl).2; have z1 := (hrs.res.2 1 _ rfl).1; have y1 := (hrs.res.2 1 _ rfl).2; have z2 := (hrs.res.2 2 _ rfl).1; have y2 := (hrs.res.2 2 _ rfl).2; have z3 := (hrs.res.2 3 _ rfl).1; have y3 := (hrs.res.2 3 _ rfl).2; clear hT1) | (at_builtin; refine wp_push (v := .slice oa st.ws.length ca) elem_tb rfl _ _ rfl rfl (hrs.ws.keep ((Turned.refl [] u1).alloc _) (by simp)) u1.heap.size 0 1 1 [false] rfl rfl tbEnc_len tbEnc_one (one_cell rfl u1 _) b1 b2 ?_; intro v' w1 ho1 ht1 hb1; obtain ⟨g, cap, hv, _⟩ := ho1.cell tbEnc_len (i := st.ws.length) (a := false) (by simp); rw [show (st.ws ++ [false]).length = st.ws.length + 1 by simp] at hv; subst hv; obtain ⟨m1, m2, m3, m4⟩ := hrs.mid ht1; have e2 := (m2.2 2 _ rfl).1; have g2 := (m2.2 2 _ rfl).2))
                  have hL := hrs.push (x := st.x + 1) hAB hBw ho1 ht1 hb1
                  go_roundw
                  case rel => exact ⟨a + 2, Ti.next 2 st, _, _, by go_num, by go_num, HNXT.out _ _ _ HOK.out hL⟩
                  case measure => simp [intOf]; omega
                · subst hk'
                  rw [show ((3 : Nat) : Int) = 3 from rfl, show (((Ti.bs 3).length : Nat) : Int) = 3 from rfl] at hk
                  have b1 : st.ws.length + 1 ≤ maxLen := by unfold maxLen; omega
                  have b2 : (st.ws.length + 1) * 1 ≤ 140737488355328 := by omega
                  go_wp2_with (first | (go_at_call 84; (with_reducible refine hk.mono ?_); rintro e u1 ⟨rfl, hT1⟩; have hrs := hrs.keep hT1; have d0 := (hrs.own.2 0 _ rfl).1; have f0 := (hrs.own.2 0 _ rfl).2; have d1 := (hrs.own.2 1 _ rfl).1; have f1 := (hrs.own.2 1 _ rfl).2; have d2 := (hrs.own.2 2 _ rfl).1; have f2 := (hrs.own.2 2 _ rfl).2; have d3 := (hrs.own.2 3 _ rfl).1; have f3 := (hrs.own.2 3 _ rfl).2; have z0 := (hrs.res.2 0 _ rfl).1; have y0 := (hrs.res.2 0 _ rfl).2; have z1 := (hrs.res.2 1 _ rfl).1; have y1 := (hrs.res.2 1 _ rfl).2; have z2 := (hrs.res.2 2 _ rfl).1; have y2 := (hrs.res.2 2 _ rfl).2; have z3 := (hrs.res.2 3 _ rfl).1; have y3 := (hrs.res.2 3 _ rfl).2; clear hT1) | (at_builtin; refine wp_push (v := .slice oa st.ws.length ca) elem_tb rfl _ _ rfl rfl (hrs.ws.keep ((Turned.refl [] u1).alloc _) (by simp)) u1.heap.size 0 1 1 [false] rfl rfl tbEnc_len tbEnc_one (one_cell rfl u1 _) b1 b2 ?_; intro v' w1 ho1 ht1 hb1; obtain ⟨g, cap, hv, _⟩ := ho1.cell tbEnc_len (i := st.ws.length) (a := false) (by simp); rw [show (st.ws ++ [false]).length = st.ws.length + 1 by simp] at hv; subst hv; obtain ⟨m1, m2, m3, m4⟩ := hrs.mid ht1; have e2 := (m2.2 2 _ rfl).1; have g2 := (m2.2 2 _ rfl).2))
                  have hL := hrs.push (x := st.x + 1) hAB hBw ho1 ht1 hb1
                  obtain ⟨W2, hW2⟩ : ∃ W2, W2 = w1.setCell ⟨B, 2, none⟩ (.slice (some ⟨g, 0, none⟩) (st.ws.length + 1) cap) := ⟨_, rfl⟩
                  rw [← hW2] at hL ⊢
                  clear hW2 ho1 ht1 hb1 m1 m2 m3 m4 e2 g2 hrs d0 d1 d2 d3 f0 f1 f2 f3 z0 z1 z2 z3 y0 y1 y2 y3
                  have kmid := fun (u : World) => middle_any st.x st.H (by omega) (by omega) u
                  have b3 : st.sp.length + 1 ≤ maxLen := by unfold maxLen; omega
                  have b4 : (st.sp.length + 1) * 16 ≤ 140737488355328 := by omega
                  have hrs := hL
                  have d0 := (hrs.own.2 0 _ rfl).1
                  have f0 := (hrs.own.2 0 _ rfl).2
                  have d1 := (hrs.own.2 1 _ rfl).1
                  have f1 := (hrs.own.2 1 _ rfl).2
                  have d2 := (hrs.own.2 2 _ rfl).1
                  have f2 := (hrs.own.2 2 _ rfl).2
                  have d3 := (hrs.own.2 3 _ rfl).1
                  have f3 := (hrs.own.2 3 _ rfl).2
                  have HT5 : Turned [] W2 W2.drew := (Turned.refl [] W2).drew
                  go_region_law (first | (refine step_push (v := .slice ob st.sp.length cb) elem_tv rfl _ _ rfl rfl (hrs.sp.keep ((Turned.refl [] u5).alloc _) (by simp)) u5.heap.size 0 1 1 [Ti.mid st.x st.H] rfl rfl tvEnc_len tvEnc_one (two_cells u5 _) b3 b4 ?_; intro v2 w2 ho2 ht2 hb2; obtain ⟨g2, cap2, hv2, _⟩ := ho2.cell tvEnc_len (i := st.sp.length) (a := Ti.mid st.x st.H) (by simp); rw [show (st.sp ++ [Ti.mid st.x st.H]).length = st.sp.length + 1 by simp] at hv2; subst hv2; obtain ⟨q1, q2, q3, q4⟩ := hrs.mid2 ht2; have e3 := (q2.2 3 _ rfl).1; have g3 := (q2.2 3 _ rfl).2) | (rw [if_pos (by rfl)]; go_simp; go_at_call 81; (with_reducible refine (kmid _).mono ?_); rintro e5 u5 ⟨rfl, HT6⟩; have hrs := hrs.keep (HT5.trans HT6 (by simp)); have d3' := fun o => ((hrs.own.keep ((Turned.refl [] u5).alloc o) (by simp)).2 3 _ rfl).1; have d0 := (hrs.own.2 0 _ rfl).1; have f0 := (hrs.own.2 0 _ rfl).2; have d1 := (hrs.own.2 1 _ rfl).1; have f1 := (hrs.own.2 1 _ rfl).2; have d2 := (hrs.own.2 2 _ rfl).1; have f2 := (hrs.own.2 2 _ rfl).2; have d3 := (hrs.own.2 3 _ rfl).1; have f3 := (hrs.own.2 3 _ rfl).2; ))
                  all_goals
                    have hL2 := hrs.push2 (x := st.x + 1) hAB hBw ho2 ht2 hb2
                    go_wp2_with fail
                    go_roundw
                    case rel => exact ⟨a + 3, Ti.next 3 st, _, _, by go_num, by go_num, HNXT.out _ _ _ HOK.out hL2⟩
                    case measure => simp [intOf]; omega
    · have hfin := hAt.fin (by omega)
      have hrs := hAt.rs
      have d0 := (hrs.own.2 0 _ rfl).1
      have d1 := (hrs.own.2 1 _ rfl).1
      have d2 := (hrs.own.2 2 _ rfl).1
      have d3 := (hrs.own.2 3 _ rfl).1
      have z0 := (hrs.res.2 0 _ rfl).1
      have y0 := (hrs.res.2 0 _ rfl).2
      have z1 := (hrs.res.2 1 _ rfl).1
      have y1 := (hrs.res.2 1 _ rfl).2
      have z2 := (hrs.res.2 2 _ rfl).1
      have y2 := (hrs.res.2 2 _ rfl).2
      have z3 := (hrs.res.2 3 _ rfl).1
      have y3 := (hrs.res.2 3 _ rfl).2
      clear ksg hAt
      by_cases hx : 0 < (st.x : Int)
      · have HNO : Hid (Ti.read s.data.toList = (none, s.size)) := by show _ = _; rw [hfin]; unfold Ti.fin; rw [if_pos (.inl (by omega))]
        clear hfin
        go_wp2_with fail
        obtain ⟨W9, hW9⟩ : ∃ W9, W9 = put4 wr A (.int .i64 0) (.int .i64 0) (.slice none 0 0) (.slice none 0 0) := ⟨_, rfl⟩
        have hS9 := set4 rfl hrs.res (.int .i64 0) (.int .i64 0) (.slice none 0 0) (.slice none 0 0)
        rw [← hW9] at hS9
        have hT9 : Turned [] w W9 := by rw [hW9]; exact turned4 hrs.turned (.inr hAw) _ _ _ _
        unfold put4 at hW9
        rw [← hW9]
        have g0 := (hS9.2 0 _ rfl).1
        have g1 := (hS9.2 1 _ rfl).1
        have g2 := (hS9.2 2 _ rfl).1
        have g3 := (hS9.2 3 _ rfl).1
        exact bodyPost_ret (v := .tuple #[.agg #[.int .i64 0, .int .i64 0, .slice none 0 0, .slice none 0 0], .int .i64 (s.size : Int), .int .i64 2]) (by simp [results, Try.results82, go_sem, g0, g1, g2, g3]) rfl (no_answer HNO.out hT9)
      · obtain ⟨nsp, hnsp⟩ : ∃ n, n = st.sp.length := ⟨_, rfl⟩
        by_cases hsp : st.sp = []
        · have HNO : Hid (Ti.read s.data.toList = (none, s.size)) := by show _ = _; rw [hfin]; unfold Ti.fin; rw [if_pos (.inr hsp)]
          rw [← hnsp] at d3
          have hn0 : ((nsp : Int) == 0) = true := by rw [beq_iff_eq, hnsp, hsp]; rfl
          clear hfin hsp hnsp
          go_wp2_with fail
          obtain ⟨W9, hW9⟩ : ∃ W9, W9 = put4 wr A (.int .i64 0) (.int .i64 0) (.slice none 0 0) (.slice none 0 0) := ⟨_, rfl⟩
          have hS9 := set4 rfl hrs.res (.int .i64 0) (.int .i64 0) (.slice none 0 0) (.slice none 0 0)
          rw [← hW9] at hS9
          have hT9 : Turned [] w W9 := by rw [hW9]; exact turned4 hrs.turned (.inr hAw) _ _ _ _
          unfold put4 at hW9
          rw [← hW9]
          have g0 := (hS9.2 0 _ rfl).1
          have g1 := (hS9.2 1 _ rfl).1
          have g2 := (hS9.2 2 _ rfl).1
          have g3 := (hS9.2 3 _ rfl).1
          exact bodyPost_ret (v := .tuple #[.agg #[.int .i64 0, .int .i64 0, .slice none 0 0, .slice none 0 0], .int .i64 (s.size : Int), .int .i64 2]) (by simp [results, Try.results82, go_sem, g0, g1, g2, g3]) rfl (no_answer HNO.out hT9)
        · have HRD : Hid (Ti.read s.data.toList = (some st, 0)) := by
            show _ = _
            rw [hfin]; unfold Ti.fin; rw [if_neg]
            rintro (h | h)
            · omega
            · exact hsp h
          have hl0 : st.sp.length ≠ 0 := by intro e; exact hsp (List.length_eq_zero_iff.1 e)
          rw [← hnsp] at d3
          have hn0 : ((nsp : Int) == 0) = false := by rw [beq_eq_false_iff_ne]; omega
          have HNS : Hid (nsp = st.sp.length) := hnsp
          clear hfin hsp hnsp hl0
          go_wp2_with fail
          obtain ⟨W9, hW9⟩ : ∃ W9, W9 = put4 wr A (.int .i64 (st.W : Int)) (.int .i64 (st.H : Int)) (.slice oa st.ws.length ca) (.slice ob nsp cb) := ⟨_, rfl⟩
          have hS9 := set4 rfl hrs.res (.int .i64 (st.W : Int)) (.int .i64 (st.H : Int)) (.slice oa st.ws.length ca) (.slice ob nsp cb)
          rw [← hW9] at hS9
          have hTA : Turned [A] wr W9 := by rw [hW9]; exact turned4 (Turned.refl _ _) (.inl (by simp)) _ _ _ _
          have hT9 : Turned [] w W9 := by rw [hW9]; exact turned4 hrs.turned (.inr hAw) _ _ _ _
          unfold put4 at hW9
          rw [← hW9]
          have g0 := (hS9.2 0 _ rfl).1
          have g1 := (hS9.2 1 _ rfl).1
          have g2 := (hS9.2 2 _ rfl).1
          have g3 := (hS9.2 3 _ rfl).1
          have hAns : Answers s.data.toList w (.returned (.tuple #[.agg #[.int .i64 (st.W : Int), .int .i64 (st.H : Int), .slice oa st.ws.length ca, .slice ob nsp cb], .int .i64 0, .int .i64 0])) W9 := by
            unfold Answers
            have hF := Ti.read_formed HRD.out
            rw [HRD.out, HNS.out]
            obtain ⟨hd1, hd2, hd3, hd4, hd5⟩ := hF.1.1
            have hlw : st.ws.length ≤ 1024 := by
              have e : (st.ws.length : Int) = (st.W : Int) * (st.H : Int) := hd5
              have e1 : (st.W : Int) ≤ 32 := hd2
              have e2 : (st.H : Int) ≤ 32 := hd4
              have e3 : st.ws.length = st.W * st.H := by rw [← Int.natCast_mul] at e; omega
              have e4 : st.W * st.H ≤ 32 * 32 := Nat.mul_le_mul (by omega) (by omega)
              omega
            have row1 := (hrs.ws.keep hTA (fun k hk => by simpa using (hrs.na k hk).2.1)).rowOf tbEnc_len
            have row2 := (hrs.sp.keep hTA (fun k hk => by simpa using (hrs.nb k hk).2.1)).rowOf tvEnc_len
            obtain ⟨oa', ca', ea, _, _, ra, _⟩ := row1
            obtain ⟨ob', cb', eb, _, _, rb, _⟩ := row2
            have ea' : oa = oa' := (Value.slice.inj ea).1
            have eb' : ob = ob' := (Value.slice.inj eb).1
            subst ea' eb'
            refine ⟨oa, ca, ob, cb, rfl, ⟨ra, rb, by show st.ws.length ≤ 1100; omega, by show st.sp.length ≤ 1100; omega, ⟨by show (-9223372036854775808 : Int) ≤ (st.W : Int); omega, by show (st.W : Int) < 9223372036854775808; omega⟩, ⟨by show (-9223372036854775808 : Int) ≤ (st.H : Int); omega, by show (st.H : Int) < 9223372036854775808; omega⟩⟩, ?_, ?_, hT9⟩
            · intro a ha
              exact (hrs.na a.block (by rw [ha]; simp [blk, Value.ownBlock])).1
            · intro a ha
              exact (hrs.nb a.block (by rw [ha]; simp [blk, Value.ownBlock])).1
          exact bodyPost_ret (v := .tuple #[.agg #[.int .i64 (st.W : Int), .int .i64 (st.H : Int), .slice oa st.ws.length ca, .slice ob nsp cb], .int .i64 0, .int .i64 0]) (by simp [results, Try.results82, go_sem, g0, g1, g2, g3]) rfl hAns
end TiR
end Go.Proofs.Ytbfffgnalopfbaa

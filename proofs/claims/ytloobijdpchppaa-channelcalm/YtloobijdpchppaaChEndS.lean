/- One end sends. -/
import Derived.Test.YtloobijdpchppaaChEnd
namespace Go.Proofs.Ytloobijdpchppaa
open Go.RowKit
set_option linter.unusedVariables false
set_option linter.unusedSimpArgs false

section
variable {P C : Nat} {F : List Nat} {vs va vc : Value} {e : Ch.E} {w : World}
theorem blk_new {v v' : Value} {n m : Nat} (hb : blk v' = blk v ∨ blk v' = [m]) (hn : n ≤ m) : ∀ k ∈ blk v', k ∈ blk v ∨ n ≤ k := by
  intro k hk
  rcases hb with h | h
  · rw [h] at hk; exact .inl hk
  · rw [h] at hk; simp at hk; exact .inr (by omega)
theorem Far.ap5 {A B D E G : List Nat} (h : [A, B, D, E, G].Pairwise Far) : Far A B ∧ Far A D ∧ Far A E ∧ Far A G ∧ Far B D ∧ Far B E ∧ Far B G ∧ Far D E ∧ Far D G ∧ Far E G := by
  simp only [List.pairwise_cons, List.mem_cons, List.not_mem_nil, or_false, forall_eq_or_imp, forall_eq, List.Pairwise.nil, and_true] at h
  obtain ⟨⟨a1, a2, a3, a4⟩, ⟨b1, b2, b3⟩, ⟨c1, c2⟩, d1, _⟩ := h
  exact ⟨a1, a2, a3, a4, b1, b2, b3, c1, c2, d1⟩
theorem far_one {k : Nat} {A : List Nat} (h : k ∉ A) : Far A [k] := fun q hq hm => by simp at hm; subst hm; exact h hq

/-- behind a call that turns the channel: all else lies as it lay -/
theorem EndAt.turn (h : EndAt P C F vs va vc e w) {F2 : List Nat} {s' : Ch.S} {u : World} (hc : CH C F2 s' u) (hm : Moved F F2 w u) :
    EndAt P C F2 vs va vc ⟨s', e.sent, e.ack, e.came⟩ u ∧ Moved (ends P F vs va vc) (ends P F2 vs va vc) w u := by
  obtain ⟨a1, a2, a3, a4, b1, b2, b3, c1, c2, d1⟩ := h.far
  refine ⟨⟨h.st.keep hm.1 a1, hc, h.se.keep hm.1 b1.symm, h.ak.keep hm.1 b2.symm, h.cm.keep hm.1 b3.symm, ?_⟩, ?_, ?_⟩
  · exact far_set (i := 1) h.ap h.lts rfl hm.2
  · exact hm.1.mono fun k hk _ => ends_mem.2 (.inr (.inl hk))
  · intro k hk
    rcases ends_mem.1 hk with rfl | hk | hk
    · exact .inl (ends_mem.2 (.inl rfl))
    · rcases hm.2 k hk with h1 | h1
      · exact .inl (ends_mem.2 (.inr (.inl h1)))
      · exact .inr h1
    · exact .inl (ends_mem.2 (.inr (.inr hk)))
/-- behind an append to what was sent, and its store -/
theorem EndAt.sent (h : EndAt P C F vs va vc e w) {o : Obj} {v3 : Value} {w3 : World} {x : Ch.H} (ho : OwnL 38 4 hEnc v3 (e.sent ++ [x]) w3) (ht : Turned (blk vs) (w.alloc o) w3) (hb : blk v3 = blk vs ∨ blk v3 = [(w.alloc o).heap.size]) :
    EndAt P C F v3 va vc ⟨e.s, e.sent ++ [x], e.ack, e.came⟩ (w3.setCell ⟨P, 1, none⟩ v3) ∧ Moved (ends P F vs va vc) (ends P F v3 va vc) w (w3.setCell ⟨P, 1, none⟩ v3) := by
  obtain ⟨a1, a2, a3, a4, b1, b2, b3, c1, c2, d1⟩ := h.far
  have t0 : Turned (blk vs) w w3 := ((Turned.refl (blk vs) w).alloc o).trans ht (fun k hk _ => hk)
  have hnew := blk_new (n := w.heap.size) hb (by simp)
  have hap := far_set (i := 2) (X' := blk v3) h.ap h.lts rfl hnew
  obtain ⟨e1, e2, e3, e4, g1, g2, g3, i1, i2, j1⟩ := Far.ap5 hap
  have t1 : Turned [P] w3 (w3.setCell ⟨P, 1, none⟩ v3) := (Turned.refl [P] w3).setCell (p := ⟨P, 1, none⟩) (.inl (by simp)) _
  refine ⟨⟨(h.st.keep t0 a2).set (i := 1) (by simp) v3, (h.ch.keep t0 b1).keep t1 (far_one a1), ho.keep t1 e2.symm, (h.ak.keep t0 c1.symm).keep t1 (far_one a3), (h.cm.keep t0 c2.symm).keep t1 (far_one a4), hap⟩, ?_, ?_⟩
  · exact (t0.mono (S' := ends P F vs va vc) fun k hk _ => ends_mem.2 (.inr (.inr (.inl hk)))).trans t1 (fun k hk _ => ends_mem.2 (.inl (by simpa using hk)))
  · intro k hk
    rcases ends_mem.1 hk with rfl | hk | hk | hk
    · exact .inl (ends_mem.2 (.inl rfl))
    · exact .inl (ends_mem.2 (.inr (.inl hk)))
    · rcases hnew k hk with h1 | h1
      · exact .inl (ends_mem.2 (.inr (.inr (.inl h1))))
      · exact .inr h1
    · exact .inl (ends_mem.2 (.inr (.inr (.inr hk))))
theorem EndAt.acked (h : EndAt P C F vs va vc e w) {o : Obj} {v3 : Value} {w3 : World} {x : Bool} (ho : OwnL 4 1 bEnc v3 (e.ack ++ [x]) w3) (ht : Turned (blk va) (w.alloc o) w3) (hb : blk v3 = blk va ∨ blk v3 = [(w.alloc o).heap.size]) :
    EndAt P C F vs v3 vc ⟨e.s, e.sent, e.ack ++ [x], e.came⟩ (w3.setCell ⟨P, 2, none⟩ v3) ∧ Moved (ends P F vs va vc) (ends P F vs v3 vc) w (w3.setCell ⟨P, 2, none⟩ v3) := by
  obtain ⟨a1, a2, a3, a4, b1, b2, b3, c1, c2, d1⟩ := h.far
  have t0 : Turned (blk va) w w3 := ((Turned.refl (blk va) w).alloc o).trans ht (fun k hk _ => hk)
  have hnew := blk_new (n := w.heap.size) hb (by simp)
  have hap := far_set (i := 3) (X' := blk v3) h.ap h.lts rfl hnew
  obtain ⟨e1, e2, e3, e4, g1, g2, g3, i1, i2, j1⟩ := Far.ap5 hap
  have t1 : Turned [P] w3 (w3.setCell ⟨P, 2, none⟩ v3) := (Turned.refl [P] w3).setCell (p := ⟨P, 2, none⟩) (.inl (by simp)) _
  refine ⟨⟨(h.st.keep t0 a3).set (i := 2) (by simp) v3, (h.ch.keep t0 b2).keep t1 (far_one a1), (h.se.keep t0 c1).keep t1 (far_one a2), ho.keep t1 e3.symm, (h.cm.keep t0 d1.symm).keep t1 (far_one a4), hap⟩, ?_, ?_⟩
  · exact (t0.mono (S' := ends P F vs va vc) fun k hk _ => ends_mem.2 (.inr (.inr (.inr (.inl hk))))).trans t1 (fun k hk _ => ends_mem.2 (.inl (by simpa using hk)))
  · intro k hk
    rcases ends_mem.1 hk with rfl | hk | hk | hk | hk
    · exact .inl (ends_mem.2 (.inl rfl))
    · exact .inl (ends_mem.2 (.inr (.inl hk)))
    · exact .inl (ends_mem.2 (.inr (.inr (.inl hk))))
    · rcases hnew k hk with h1 | h1
      · exact .inl (ends_mem.2 (.inr (.inr (.inr (.inl h1)))))
      · exact .inr h1
    · exact .inl (ends_mem.2 (.inr (.inr (.inr (.inr hk)))))
theorem EndAt.camed (h : EndAt P C F vs va vc e w) {o : Obj} {v3 : Value} {w3 : World} {x : Bool} (ho : OwnL 4 1 bEnc v3 (e.came ++ [x]) w3) (ht : Turned (blk vc) (w.alloc o) w3) (hb : blk v3 = blk vc ∨ blk v3 = [(w.alloc o).heap.size]) :
    EndAt P C F vs va v3 ⟨e.s, e.sent, e.ack, e.came ++ [x]⟩ (w3.setCell ⟨P, 3, none⟩ v3) ∧ Moved (ends P F vs va vc) (ends P F vs va v3) w (w3.setCell ⟨P, 3, none⟩ v3) := by
  obtain ⟨a1, a2, a3, a4, b1, b2, b3, c1, c2, d1⟩ := h.far
  have t0 : Turned (blk vc) w w3 := ((Turned.refl (blk vc) w).alloc o).trans ht (fun k hk _ => hk)
  have hnew := blk_new (n := w.heap.size) hb (by simp)
  have hap := far_set (i := 4) (X' := blk v3) h.ap h.lts rfl hnew
  obtain ⟨e1, e2, e3, e4, g1, g2, g3, i1, i2, j1⟩ := Far.ap5 hap
  have t1 : Turned [P] w3 (w3.setCell ⟨P, 3, none⟩ v3) := (Turned.refl [P] w3).setCell (p := ⟨P, 3, none⟩) (.inl (by simp)) _
  refine ⟨⟨(h.st.keep t0 a4).set (i := 3) (by simp) v3, (h.ch.keep t0 b3).keep t1 (far_one a1), (h.se.keep t0 c2).keep t1 (far_one a2), (h.ak.keep t0 d1).keep t1 (far_one a3), ho.keep t1 e4.symm, hap⟩, ?_, ?_⟩
  · exact (t0.mono (S' := ends P F vs va vc) fun k hk _ => ends_mem.2 (.inr (.inr (.inr (.inr hk))))).trans t1 (fun k hk _ => ends_mem.2 (.inl (by simpa using hk)))
  · intro k hk
    rcases ends_mem.1 hk with rfl | hk | hk | hk | hk
    · exact .inl (ends_mem.2 (.inl rfl))
    · exact .inl (ends_mem.2 (.inr (.inl hk)))
    · exact .inl (ends_mem.2 (.inr (.inr (.inl hk))))
    · exact .inl (ends_mem.2 (.inr (.inr (.inr (.inl hk)))))
    · rcases hnew k hk with h1 | h1
      · exact .inl (ends_mem.2 (.inr (.inr (.inr (.inr h1)))))
      · exact .inr h1
end
/-- a slice that the call built of one element more, as it is written -/
theorem grown_form {α : Type} {t : TypeId} {sz : Nat} {enc : α → List Value} {l : List α} {x : α} {v : Value} {w : World} (hl : ∀ a ∈ l ++ [x], (enc a).length = sz) (h : OwnL t sz enc v (l ++ [x]) w) : ∃ g cap, v = .slice (some ⟨g, 0, none⟩) (l.length + 1) cap := by
  obtain ⟨g, cap, hv, _⟩ := OwnL.cell h hl (i := l.length) (a := x) (by simp)
  exact ⟨g, cap, by rw [hv]; simp⟩

namespace ChL
set_option maxRecDepth 20000 in
set_option maxHeartbeats 4000000 in
theorem send_end (P C : Nat) (F : List Nat) (vs va vc : Value) (e : Ch.E) (w : World) (h : EndAt P C F vs va vc e w) (hw : Ch.Wf e.s) (h1 : e.sent.length ≤ 100000) (h2 : e.ack.length ≤ 100000) (h3 : e.came.length ≤ 100000) :
    Calls Try.prog 27 #[.pointer (some ⟨P, 0, none⟩)] w fun r w' => r = .returned (.tuple #[]) ∧ ∃ F' vs' va' vc', EndAt P C F' vs' va' vc' (Ch.sendE e) w' ∧ Moved (ends P F vs va vc) (ends P F' vs' va' vc') w w' := by
  obtain ⟨c0, f0⟩ := h.st.2 0 _ rfl
  obtain ⟨c1, f1⟩ := h.st.2 1 _ rfl
  have kS : ∀ (u : World), Turned [] w u → Calls Try.prog 9 #[.pointer (some ⟨C, 0, none⟩)] u fun r w' => r = .returned (.agg #[.int .u16 e.s.x, .bool e.s.y, .int .u16 e.s.l, .int .u32 e.s.m]) ∧ ∃ F', CH C F' (Ch.send e.s) w' ∧ Moved F F' w w' :=
    fun u hu => (ChW.send_any C F e.s u (h.ch.keep hu (by simp)) hw).mono fun r w' ⟨hr, F', hc, hm⟩ => ⟨hr, F', hc, (Turned.trans (hu.mono (S' := F) (by simp)) hm.1 (fun k hk _ => hk)), fun k hk => (hm.2 k hk).imp id (fun hg => Nat.le_trans hu.size hg)⟩
  have b1 : e.sent.length + 1 ≤ maxLen := by unfold maxLen; omega
  have b2 : (e.sent.length + 1) * 12 ≤ 140737488355328 := by omega
  have hwd : Turned [] w w.drew := (Turned.refl [] w).drew
  go_enter Try.func27, Try.ntmps27
  go_wp2_with fail
  refine Code.wp_mono (Q := fun x a' W' => Normal x (∃ n F2 v3, a' = ⟨#[.pointer (some ⟨P, 0, none⟩), undef, .pointer (some ⟨P, 0, none⟩), .pointer (some ⟨P, 0, none⟩), .pointer (some ⟨P, 0, none⟩), .pointer (some ⟨P, 1, none⟩), vs, .pointer (some ⟨P, 0, none⟩), .pointer (some ⟨P, 0, none⟩), .pointer (some ⟨P, 0, none⟩), .pointer (some ⟨C, 0, none⟩), .agg #[.int .u16 e.s.x, .bool e.s.y, .int .u16 e.s.l, .int .u32 e.s.m], .slice (some ⟨n, 0, none⟩) 1 1, v3, .pointer (some ⟨P, 0, none⟩), .pointer (some ⟨P, 1, none⟩),
    undef, undef, undef, undef, undef, undef, undef, undef, undef, undef, undef, undef, undef, undef, undef, undef, undef, undef], []⟩ ∧ EndAt P C F2 v3 va vc ⟨Ch.send e.s, e.sent ++ [Ch.head e.s], e.ack, e.came⟩ W' ∧ Moved (ends P F vs va vc) (ends P F2 v3 va vc) w W')) ?tail ?walk
  case walk =>
    go_region_law (first
      | (refine step_push (v := vs) elem_hd rfl _ _ rfl rfl (OwnL.keep hE2.se ((Turned.refl [] u2).alloc _) (by simp)) u2.heap.size 0 1 1 [Ch.head e.s] rfl rfl hEnc_len hEnc_one (four_cells (Ch.head e.s) u2 _) b1 b2 ?_; intro v3 w3 ho3 ht3 hb3; obtain ⟨hE3, hM3⟩ := hE2.sent ho3 ht3 hb3; have hs3 := (hE2.st.keep ((Turned.refl (blk vs) u2).alloc _) hE2.far.2.1).keep ht3 hE2.far.2.1; obtain ⟨d1, g1⟩ := hs3.2 1 _ rfl; obtain ⟨g, cap, hv3⟩ := grown_form hEnc_len ho3; subst hv3)
      | (rw [if_pos (by rfl)]; go_simp; go_at_call 9; (with_reducible refine (kS _ hwd).mono ?_); rintro e2 u2 ⟨rfl, F2, hc2, hm2⟩; obtain ⟨hE2, hM2⟩ := h.turn hc2 hm2; have d1 := (hE2.st.2 1 _ rfl).1; have hPl := hE2.st.1; have hPn : ¬ P = u2.heap.size := Nat.ne_of_lt hPl))
    all_goals exact ⟨_, _, _, rfl, hE3, hM2.trans hM3⟩
  case tail =>
    intro x a' W3 hq
    obtain ⟨rfl, n, F2, v3, rfl, hE3, hM3⟩ := Normal.out hq
    clear hq kS c0 f0 c1 f1 hwd
    have hPl := hE3.st.1
    have hPn : ¬ P = W3.heap.size := Nat.ne_of_lt hPl
    obtain ⟨c2, f2⟩ := hE3.st.2 2 _ rfl
    obtain ⟨c3, f3⟩ := hE3.st.2 3 _ rfl
    have b3 : e.ack.length + 1 ≤ maxLen := by unfold maxLen; omega
    have b4 : (e.ack.length + 1) * 1 ≤ 140737488355328 := by omega
    have b5 : e.came.length + 1 ≤ maxLen := by unfold maxLen; omega
    have b6 : (e.came.length + 1) * 1 ≤ 140737488355328 := by omega
    go_wp2_with (first
      | (at_builtin; refine wp_push (v := va) elem_bool14 rfl _ _ rfl rfl (OwnL.keep hE3.ak ((Turned.refl [] W3).alloc _) (by simp)) W3.heap.size 0 1 1 [false] rfl rfl bEnc_len bEnc_one (one_cell rfl W3 _) b3 b4 ?_; intro v4 w4 ho4 ht4 hb4; obtain ⟨hE4, hM4⟩ := hE3.acked ho4 ht4 hb4; have hs4 := (hE3.st.keep ((Turned.refl (blk va) W3).alloc _) hE3.far.2.2.1).keep ht4 hE3.far.2.2.1; obtain ⟨d2, g2⟩ := hs4.2 2 _ rfl; obtain ⟨d3, g3⟩ := hs4.2 3 _ rfl; have hPl4 := hs4.1; have hPn4 : ¬ P = w4.heap.size := Nat.ne_of_lt hPl4; obtain ⟨g, cap, hv4⟩ := grown_form bEnc_len ho4; subst hv4)
      | (at_builtin; refine wp_push (v := vc) elem_bool14 rfl _ _ rfl rfl (OwnL.keep hE4.cm ((Turned.refl [] _).alloc _) (by simp)) w4.heap.size 0 1 1 [false] rfl rfl bEnc_len bEnc_one (ChR.one_after rfl w4 _ _ _) b5 b6 ?_; intro v5 w5 ho5 ht5 hb5; obtain ⟨hE5, hM5⟩ := hE4.camed ho5 ht5 hb5; have hs5 := (hE4.st.keep ((Turned.refl (blk vc) _).alloc _) hE4.far.2.2.2.1).keep ht5 hE4.far.2.2.2.1; obtain ⟨d5, g5⟩ := hs5.2 3 _ rfl; obtain ⟨q, cap5, hv5⟩ := grown_form bEnc_len ho5; subst hv5))
    go_end0
    exact BtW.end0 ⟨_, _, _, _, hE5, (hM3.trans hM4).trans hM5⟩
end ChL
end Go.Proofs.Ytloobijdpchppaa

/- Two ends that send to each other: what holds of both, and their steps. -/
import Derived.Test.YtloobijdpchppaaChEndN
namespace Go.Proofs.Ytloobijdpchppaa
open Go.RowKit
set_option linter.unusedVariables false

namespace ChL
/-- blocks P and Q are two ends, a and b, of which all lies apart, and is of the blocks E or came since w0 -/
structure Two (w0 : World) (E : List Nat) (P C Q D : Nat) (a b : Ch.E) (w : World) : Prop where
  at_ : ∃ F vs va vc G us ua uc, EndAt P C F vs va vc a w ∧ EndAt Q D G us ua uc b w ∧ Far (ends P F vs va vc) (ends Q G us ua uc) ∧ (∀ k ∈ ends P F vs va vc, k ∈ E ∨ w0.heap.size ≤ k) ∧ (∀ k ∈ ends Q G us ua uc, k ∈ E ∨ w0.heap.size ≤ k)
  i : Ch.Inv a b
  j : Ch.Inv b a
  t : Turned E w0 w
section
variable {w0 w : World} {E : List Nat} {P C Q D : Nat} {a b : Ch.E}
theorem Two.symm (h : Two w0 E P C Q D a b w) : Two w0 E Q D P C b a w := by
  obtain ⟨⟨F, vs, va, vc, G, us, ua, uc, ha, hb, hd, hg, hk⟩, i, j, t⟩ := h
  exact ⟨⟨G, us, ua, uc, F, vs, va, vc, hb, ha, hd.symm, hk, hg⟩, j, i, t⟩
theorem Two.keep (h : Two w0 E P C Q D a b w) {w' : World} (ht : Turned [] w w') : Two w0 E P C Q D a b w' := by
  obtain ⟨⟨F, vs, va, vc, G, us, ua, uc, ha, hb, hd, hg, hk⟩, i, j, t⟩ := h
  exact ⟨⟨F, vs, va, vc, G, us, ua, uc, ha.keep ht (by simp), hb.keep ht (by simp), hd, hg, hk⟩, i, j, t.trans ht (by simp)⟩
/-- where the ends' channels lie, and how many they sent -/
theorem Two.cells (h : Two w0 E P C Q D a b w) : P < w.heap.size ∧ w.cell? ⟨P, 0, none⟩ = some (.pointer (some ⟨C, 0, none⟩)) ∧ (∃ F, CH C F a.s w) ∧ (∃ oa cap, w.cell? ⟨P, 1, none⟩ = some (.slice oa a.sent.length cap)) := by
  obtain ⟨⟨F, vs, va, vc, G, us, ua, uc, ha, hb, hd, hg, hk⟩, i, j, t⟩ := h
  obtain ⟨oa, cap, rfl, _, _⟩ := OwnL.form ha.se
  exact ⟨ha.st.1, (ha.st.2 0 _ rfl).1, ⟨F, ha.ch⟩, oa, cap, (ha.st.2 1 _ rfl).1⟩
/-- what is acked, where it lies -/
theorem Two.acks (h : Two w0 E P C Q D a b w) : ∃ oa cap, w.cell? ⟨P, 2, none⟩ = some (.slice oa a.sent.length cap) ∧ ∀ k, k < a.sent.length → ∃ g, oa = some ⟨g, 0, none⟩ ∧ w.cell? ⟨g, k, none⟩ = some (.bool (Ch.on a.ack k)) := by
  obtain ⟨⟨F, vs, va, vc, G, us, ua, uc, ha, hb, hd, hg, hk⟩, i, j, t⟩ := h
  obtain ⟨oa, cap, rfl, _, _⟩ := OwnL.form ha.ak
  refine ⟨oa, cap, ?_, fun k hk => ?_⟩
  · rw [← i.la]; exact (ha.st.2 2 _ rfl).1
  · obtain ⟨g, cap', hv, _, _, hc⟩ := OwnL.cell ha.ak bEnc_len (on_some (l := a.ack) (k := k) (by rw [i.la]; exact hk))
    simp at hv
    refine ⟨g, hv.1, ?_⟩
    have := (hc 0 _ rfl).1
    rw [Nat.mul_one, Nat.add_zero] at this
    exact this
/-- from this world on: what may turn is what the ends have -/
theorem Two.base (h : Two w0 E P C Q D a b w) (o : Obj) : ∃ E', Two (w.alloc o) E' P C Q D a b (w.alloc o) ∧ w.heap.size ∉ E' ∧ ∀ k ∈ E', k ∈ E ∨ w0.heap.size ≤ k := by
  obtain ⟨⟨F, vs, va, vc, G, us, ua, uc, ha, hb, hd, hg, hk⟩, i, j, t⟩ := h
  refine ⟨ends P F vs va vc ++ ends Q G us ua uc, ⟨⟨F, vs, va, vc, G, us, ua, uc, ha.keep ((Turned.refl [] w).alloc o) (by simp), hb.keep ((Turned.refl [] w).alloc o) (by simp), hd, fun k hk => .inl (List.mem_append_left _ hk), fun k hk => .inl (List.mem_append_right _ hk)⟩, i, j, Turned.refl _ _⟩, ?_, ?_⟩
  · intro hm
    rcases List.mem_append.1 hm with e | e
    · have := ha.lt _ e; omega
    · have := hb.lt _ e; omega
  · intro k hm
    rcases List.mem_append.1 hm with e | e
    · exact hg k e
    · exact hk k e
theorem Two.start (w0 : World) (t1 t2 : TypeId) :
    Two w0 [] (w0.heap.size + 1) w0.heap.size (w0.heap.size + 3) (w0.heap.size + 2) Ch.none Ch.none ((((w0.alloc (.cells #[.int .u16 0, .bool false, .int .u16 0, .int .u32 0, .slice none 0 0] t1)).alloc (.cells #[.pointer (some ⟨w0.heap.size, 0, none⟩), .slice none 0 0, .slice none 0 0, .slice none 0 0] t2)).alloc (.cells #[.int .u16 0, .bool false, .int .u16 0, .int .u32 0, .slice none 0 0] t1)).alloc (.cells #[.pointer (some ⟨w0.heap.size + 2, 0, none⟩), .slice none 0 0, .slice none 0 0, .slice none 0 0] t2)) := by
  have h1 := EndAt.new w0 t1 t2
  have h2 := EndAt.new ((w0.alloc (.cells #[.int .u16 0, .bool false, .int .u16 0, .int .u32 0, .slice none 0 0] t1)).alloc (.cells #[.pointer (some ⟨w0.heap.size, 0, none⟩), .slice none 0 0, .slice none 0 0, .slice none 0 0] t2)) t1 t2
  rw [show ((w0.alloc (.cells #[.int .u16 0, .bool false, .int .u16 0, .int .u32 0, .slice none 0 0] t1)).alloc (.cells #[.pointer (some ⟨w0.heap.size, 0, none⟩), .slice none 0 0, .slice none 0 0, .slice none 0 0] t2)).heap.size = w0.heap.size + 2 by simp] at h2
  refine ⟨⟨_, _, _, _, _, _, _, _, h1.keep (((Turned.refl [] _).alloc _).alloc _) (by simp), h2, ?_, ?_, ?_⟩, Ch.none_inv, Ch.none_inv, ((((Turned.refl [] _).alloc _).alloc _).alloc _).alloc _⟩
  · intro k hk hm
    simp [ends, blk, Value.ownBlock] at hk hm
    omega
  · intro k hk
    simp [ends, blk, Value.ownBlock] at hk
    exact .inr (by omega)
  · intro k hk
    simp [ends, blk, Value.ownBlock] at hk
    exact .inr (by omega)
theorem Two.room (h : Two w0 E P C Q D a b w) : a.s.o.length ≤ 64 := h.i.wf.o1
/-- the first one sends -/
theorem send_two (h : Two w0 E P C Q D a b w) (hn : a.sent.length < 1000) :
    Calls Try.prog 27 #[.pointer (some ⟨P, 0, none⟩)] w fun r w' => r = .returned (.tuple #[]) ∧ Two w0 E P C Q D (Ch.sendE a) b w' := by
  obtain ⟨⟨F, vs, va, vc, G, us, ua, uc, ha, hb, hd, hg, hk⟩, i, j, t⟩ := h
  have la := i.la
  have lc := i.lc
  refine (send_end P C F vs va vc a w ha i.wf (by omega) (by omega) (by omega)).mono ?_
  rintro r w' ⟨hr, F', vs', va', vc', ha', hm⟩
  refine ⟨hr, ⟨⟨F', vs', va', vc', G, us, ua, uc, ha', hb.keep hm.1 hd.symm, ?_, fun k hk => (hm.2 k hk).elim (fun h => hg k h) (fun h => .inr (Nat.le_trans t.size h)), hk⟩, i.send_it hn, j.send_other, ?_⟩⟩
  · exact Far.symm (hm.apart hb.lt hd.symm)
  · exact t.trans hm.1 (fun k hk hl => (hg k hk).elim id (fun h => by omega))
/-- the datagram number k of the second one's comes at the first one -/
theorem take_two (h : Two w0 E P C Q D a b w) (k : Int) (hn : b.sent.length ≤ 1000) :
    Calls Try.prog 28 #[.pointer (some ⟨P, 0, none⟩), .pointer (some ⟨Q, 0, none⟩), .int .i64 k] w fun r w' => r = .returned (.bool true) ∧ ∃ a' b', Two w0 E P C Q D a' b' w' ∧ a'.sent = a.sent ∧ b'.sent = b.sent ∧ (∀ (m : Nat) (hd : Ch.H), k = (m : Int) → b.sent[m]? = some hd → Ch.fresh a.s hd = true → a' = Ch.taker a hd ∧ b' = Ch.giver b m) := by
  have h0 := h
  obtain ⟨⟨F, vs, va, vc, G, us, ua, uc, ha, hb, hap, hg, hk⟩, i, j, t⟩ := h
  by_cases hout : k < 0 ∨ (b.sent.length : Int) ≤ k
  · refine (take_out P Q D G us ua uc b k w hb hout).mono ?_
    rintro r w' ⟨hr, ht⟩
    refine ⟨hr, a, b, h0.keep ht, rfl, rfl, fun m hd e1 e2 _ => ?_⟩
    have := (List.getElem?_eq_some_iff.1 e2).1
    omega
  · obtain ⟨m, rfl⟩ : ∃ m : Nat, k = (m : Int) := ⟨k.toNat, by omega⟩
    have hml : m < b.sent.length := by omega
    obtain ⟨hd, hhd⟩ : ∃ hd, b.sent[m]? = some hd := ⟨_, List.getElem?_eq_getElem hml⟩
    have hhw := j.hw hd (List.mem_of_getElem? hhd)
    cases hf : Ch.fresh a.s hd
    · refine (take_again P C Q D F vs va vc a G us ua uc b m hd w ha hb hhd hhw i.wf hf).mono ?_
      rintro r w' ⟨hr, ht⟩
      refine ⟨hr, a, b, h0.keep ht, rfl, rfl, fun m' hd' e1 e2 e3 => ?_⟩
      have : m' = m := by omega
      subst this
      rw [hhd] at e2
      cases e2
      rw [hf] at e3
      cases e3
    · have hnew := j.isnew hhd hn hf
      refine (take_fresh P C Q D F vs va vc a G us ua uc b m hd w ha hb hap hhd hhw i.wf hf (by rw [j.lc]; exact hml) hnew i.la i.lc (fun p r q e => i.good (List.mem_of_getElem? hhd) e)).mono ?_
      rintro r w' ⟨hr, F', ha', hb', ht, hF'⟩
      refine ⟨hr, Ch.taker a hd, Ch.giver b m, ⟨⟨F', vs, va, vc, G, us, ua, uc, ha', hb', ?_, ?_, hk⟩, i.took_other m hhw, j.took_it i.wf hhd hn hf, ?_⟩, rfl, rfl, fun m' hd' e1 e2 e3 => ?_⟩
      · intro x hx hm
        rcases ends_mem.1 hx with e | e | e
        · exact hap x (ends_mem.2 (.inl e)) hm
        · rcases hF' x e with e | e
          · exact hap x (ends_mem.2 (.inr (.inl e))) hm
          · have := hb.lt x hm; omega
        · exact hap x (ends_mem.2 (.inr (.inr e))) hm
      · intro x hx
        rcases ends_mem.1 hx with e | e | e
        · exact hg x (ends_mem.2 (.inl e))
        · rcases hF' x e with e | e
          · exact hg x (ends_mem.2 (.inr (.inl e)))
          · exact .inr (Nat.le_trans t.size e)
        · exact hg x (ends_mem.2 (.inr (.inr e)))
      · refine t.trans ht (fun x hx hl => ?_)
        rcases List.mem_append.1 hx with e | e
        · exact (hg x e).elim id (fun h => by omega)
        · exact (hk x e).elim id (fun h => by omega)
      · have : m' = m := by omega
        subst this
        rw [hhd] at e2
        cases e2
        exact ⟨rfl, rfl⟩
end
end ChL
end Go.Proofs.Ytloobijdpchppaa

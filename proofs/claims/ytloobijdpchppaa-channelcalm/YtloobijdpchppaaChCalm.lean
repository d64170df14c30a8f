/- Two channels of which nothing is lost: each pair of datagrams acks what was sent ahead. Plain. -/
import Derived.Test.YtloobijdpchppaaChPlain
namespace Go.Proofs.Ytloobijdpchppaa
set_option linter.unusedVariables false

namespace Ch
open Sr
theorem in_most (o : List Int) (x : Int) : x ∈ most (o ++ [x]) := by
  unfold most
  rw [List.mem_iff_getElem?]
  refine ⟨o.length - ((o ++ [x]).length - 64), ?_⟩
  rw [List.getElem?_drop, List.length_append, List.length_singleton, show o.length + 1 - 64 + (o.length - (o.length + 1 - 64)) = o.length by omega, List.getElem?_append_right (Nat.le_refl _), Nat.sub_self]
  rfl
variable {a b : E}
/-- the newest of a's numbers is new to b -/
theorem Inv.newest (i : Inv a b) (hn : a.sent.length < 1000) : ok b.s.y b.s.l b.s.m (a.sent.length : Int) = true ∧ last b.s.y b.s.l (a.sent.length : Int) = (a.sent.length : Int) := by
  cases hy : b.s.y
  · exact ⟨ok_none, last_none⟩
  · have ho := i.once
    rw [hy] at ho
    obtain ⟨t, ht, hl, _⟩ := ho.2.2.2 rfl
    rw [num_zero ht] at hl
    have hself := i.win b.s.l (by omega) (by omega) (by rw [hy]; exact has_self _ _)
    have hlt := on_lt hself
    rw [i.lc] at hlt
    have hs : 0 < steps b.s.l (a.sent.length : Int) := by rw [hl] at hlt ⊢; unfold steps; omega
    exact ⟨ok_on hs, last_on hs⟩
/-- a calm pair: a sends, b takes, b sends, a takes -/
def mid (a b : E) : E := taker b (head a.s)
def pairA (a b : E) : E := taker (giver (sendE a) a.sent.length) (head (mid a b).s)
def pairB (a b : E) : E := giver (sendE (mid a b)) b.sent.length
/-- behind calm pairs: all of a's from fa on are acked, all of b's from fb on but the last, which a knows -/
structure Calm (fa fb : Nat) (a b : E) : Prop where
  i : Inv a b
  j : Inv b a
  ca : ∀ k, fa ≤ k → k < a.sent.length → on a.ack k = true
  cb : ∀ k, fb ≤ k → k + 1 < b.sent.length → on b.ack k = true
  la : fb < b.sent.length → ∃ x, x ∈ b.s.o ∧ x = (b.sent.length : Int) - 1 ∧ has a.s.y a.s.l a.s.m x = true
theorem Calm.start (i : Inv a b) (j : Inv b a) : Calm a.sent.length b.sent.length a b :=
  ⟨i, j, fun k h1 h2 => by omega, fun k h1 h2 => by omega, fun h => by omega⟩
theorem get_new {α : Type} (l : List α) (x : α) : (l ++ [x])[l.length]? = some x := by
  rw [List.getElem?_append_right (Nat.le_refl _), Nat.sub_self]; rfl
theorem Calm.pair {fa fb : Nat} (c : Calm fa fb a b) (ha : a.sent.length < 1000) (hb : b.sent.length < 1000) :
    fresh b.s (head a.s) = true ∧ fresh (giver (sendE a) a.sent.length).s (head (mid a b).s) = true ∧ Calm fa fb (pairA a b) (pairB a b) ∧
      (Inv (sendE a) b ∧ Inv b (sendE a)) ∧ (Inv (giver (sendE a) a.sent.length) (sendE (mid a b)) ∧ Inv (sendE (mid a b)) (giver (sendE a) a.sent.length)) := by
  have i1 := c.i.send_it ha
  have j1 := c.j.send_other
  have hx := c.i.x
  obtain ⟨n1, n2⟩ := c.i.newest ha
  have f1 : fresh b.s (head a.s) = true := by
    show ok b.s.y b.s.l b.s.m a.s.x = true
    rw [hx]; exact n1
  have g1 : (sendE a).sent[a.sent.length]? = some (head a.s) := get_new _ _
  have hl1 : (sendE a).sent.length ≤ 1000 := by show (a.sent ++ [head a.s]).length ≤ 1000; rw [List.length_append, List.length_singleton]; omega
  have i2 : Inv (giver (sendE a) a.sent.length) (mid a b) := i1.took_it c.j.wf g1 hl1 f1
  have j2 : Inv (mid a b) (giver (sendE a) a.sent.length) := j1.took_other a.sent.length (head_wf c.i.wf)
  have hb2 : (mid a b).sent.length = b.sent.length := rfl
  have i3 := i2.send_other
  have j3 := j2.send_it (by rw [hb2]; exact hb)
  obtain ⟨m1, m2⟩ := j2.newest (by rw [hb2]; exact hb)
  have hy := j2.x
  have f2 : fresh (giver (sendE a) a.sent.length).s (head (mid a b).s) = true := by
    show ok _ _ _ (mid a b).s.x = true
    rw [hy]; exact m1
  have g3 : (sendE (mid a b)).sent[b.sent.length]? = some (head (mid a b).s) := get_new _ _
  have hl3 : (sendE (mid a b)).sent.length ≤ 1000 := by show (b.sent ++ [_]).length ≤ 1000; rw [List.length_append, List.length_singleton]; omega
  have j4 : Inv (pairB a b) (pairA a b) := j3.took_it i3.wf g3 hl3 f2
  have i4 : Inv (pairA a b) (pairB a b) := i3.took_other b.sent.length (head_wf j2.wf)
  refine ⟨f1, f2, ⟨i4, j4, ?_, ?_, ?_⟩, ⟨i1, j1⟩, ⟨i3, j3⟩⟩
  · -- a's: the newest is acked by what b has sent
    intro k h1 h2
    replace h2 : k < (a.sent ++ [head a.s]).length := h2
    rw [List.length_append, List.length_singleton] at h2
    show on (ackAll _ (a.ack ++ [false])) k = true
    by_cases hk : k < a.sent.length
    · refine ackAll_stay _ _ _ ?_
      rw [on_add]; exact c.ca k h1 hk
    · obtain rfl : k = a.sent.length := by omega
      have hin : (a.sent.length : Int) ∈ acked (giver (sendE a) a.sent.length).s (head (mid a b).s) := by
        refine List.mem_filter.mpr ⟨?_, ?_⟩
        · show (a.sent.length : Int) ∈ most (a.s.o ++ [a.s.x])
          rw [hx]; exact in_most _ _
        · show has true (last b.s.y b.s.l a.s.x) _ (a.sent.length : Int) = true
          rw [hx, n2]; exact has_self _ _
      have := ackAll_on _ (a.ack ++ [false]) _ hin (by rw [Int.toNat_natCast, List.length_append, c.i.la, List.length_singleton]; omega)
      rw [Int.toNat_natCast] at this
      exact this
  · -- b's: what was the last one is acked by what a has sent
    intro k h1 h2
    replace h2 : k + 1 < (b.sent ++ [_]).length := h2
    rw [List.length_append, List.length_singleton] at h2
    show on (ackAll (acked b.s (head a.s)) b.ack ++ [false]) k = true
    rw [on_add]
    by_cases hk : k + 1 < b.sent.length
    · exact ackAll_stay _ _ _ (c.cb k h1 hk)
    · obtain ⟨x, hx1, hx2, hx3⟩ := c.la (by omega)
      have hin : x ∈ acked b.s (head a.s) := List.mem_filter.mpr ⟨hx1, hx3⟩
      have e : x.toNat = k := by omega
      have := ackAll_on _ b.ack _ hin (by rw [e, c.j.la]; omega)
      rw [e] at this
      exact this
  · intro h
    have hl : ((pairB a b).sent.length : Int) = (b.sent.length : Int) + 1 := by
      show ((b.sent ++ [_]).length : Int) = _
      rw [List.length_append, List.length_singleton]; omega
    refine ⟨(b.sent.length : Int), ?_, by rw [hl]; omega, ?_⟩
    · show (b.sent.length : Int) ∈ most ((mid a b).s.o ++ [(mid a b).s.x])
      rw [hy, hb2]; exact in_most _ _
    · show has true (last a.s.y a.s.l (mid a b).s.x) _ (b.sent.length : Int) = true
      rw [hy, hb2]
      have : last a.s.y a.s.l (b.sent.length : Int) = (b.sent.length : Int) := m2
      rw [this]; exact has_self _ _
end Ch
end Go.Proofs.Ytloobijdpchppaa

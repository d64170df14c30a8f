/- What the laws of layer 7 ask: datagrams that were made longer, or of which four bytes are others (FrL). -/
import Derived.Test.YtdaedmbdoniaiaaFrRef
import Derived.Test.YtdaedmbdoniaiaaCrcTold
namespace Go.Proofs.Ytdaedmbdoniaiaa
open Go.RowKit
set_option linter.unusedVariables false

namespace FrL
/-- what was put onto a slice that came since -/
theorem push_below {B : Nat} {w0 w1 w2 : World} {v v' : Value} (h : Below B w0 w1) (hB : B ≤ w0.heap.size) (hv : ∀ k ∈ blk v, B ≤ k) (ht : Turned (blk v) w1 w2) (hb : blk v' = blk v ∨ blk v' = [w1.heap.size]) :
    Below B w0 w2 ∧ ∀ k ∈ blk v', B ≤ k := by
  have hs := h.size
  refine ⟨h.trans (ht.below (by omega) hv), ?_⟩
  intro k hk
  rcases hb with e | e
  · rw [e] at hk; exact hv k hk
  · rw [e] at hk; simp at hk; omega
theorem nil_ge (B : Nat) : ∀ k ∈ blk (.slice none 0 0), B ≤ k := by simp [blk_nil]
theorem fresh_blk {B n : Nat} (h : B ≤ n) : ∀ k ∈ blk (.slice (some ⟨n, 0, none⟩) 0 0), B ≤ k := by
  intro k hk
  have : k ∈ [n] := hk
  simp at this
  omega
theorem turned_below {B : Nat} {w0 w1 w2 : World} (h : Below B w0 w1) (hB : B ≤ w0.heap.size) (ht : Turned [] w1 w2) : Below B w0 w2 := by
  have hs := h.size
  exact h.trans (ht.below (by omega) (by simp))
/-- the first four bytes of a row of the call's own -/
theorem four_cells {v : Value} {L : List Nat} {w : World} (h : OwnL 5 1 byEnc v L w) {x0 x1 x2 x3 : Nat} {r : List Nat} (hL : L = [x0, x1, x2, x3] ++ r) :
    ∃ g cap, v = .slice (some ⟨g, 0, none⟩) L.length cap ∧ g < w.heap.size ∧ w.cell? ⟨g, 0, none⟩ = some (.int .u8 (x0 : Int)) ∧ w.cell? ⟨g, 1, none⟩ = some (.int .u8 (x1 : Int)) ∧ w.cell? ⟨g, 2, none⟩ = some (.int .u8 (x2 : Int)) ∧ w.cell? ⟨g, 3, none⟩ = some (.int .u8 (x3 : Int)) := by
  obtain ⟨g, cap, hv, _, hg, c0⟩ := h.cell byEnc_len (i := 0) (a := x0) (by rw [hL]; rfl)
  obtain ⟨g1, cap1, hv1, _, _, c1⟩ := h.cell byEnc_len (i := 1) (a := x1) (by rw [hL]; rfl)
  obtain ⟨g2, cap2, hv2, _, _, c2⟩ := h.cell byEnc_len (i := 2) (a := x2) (by rw [hL]; rfl)
  obtain ⟨g3, cap3, hv3, _, _, c3⟩ := h.cell byEnc_len (i := 3) (a := x3) (by rw [hL]; rfl)
  rw [hv] at hv1 hv2 hv3
  simp at hv1 hv2 hv3
  obtain ⟨rfl, _⟩ := hv1
  obtain ⟨rfl, _⟩ := hv2
  obtain ⟨rfl, _⟩ := hv3
  exact ⟨g, cap, hv, hg, (c0 0 _ rfl).1, (c1 0 _ rfl).1, (c2 0 _ rfl).1, (c3 0 _ rfl).1⟩
theorem take4 {a l : List Nat} (h : a.length = 4) : (a ++ l).take 4 = a := List.take_left' h
theorem drop4 {a l : List Nat} (h : a.length = 4) : (a ++ l).drop 4 = l := List.drop_left' h
theorem four_length (n : Nat) : (Cr.four4 n).length = 4 := rfl
theorem take_wrap (key : Nat) (l m : List Nat) : (Fr.wrap key l ++ m).take 4 = Cr.four4 (Fr.sum key l) := by
  unfold Fr.wrap
  rw [List.append_assoc, take4 (four_length _)]
theorem drop_wrap (key : Nat) (l m : List Nat) : (Fr.wrap key l ++ m).drop 4 = l ++ m := by
  unfold Fr.wrap
  rw [List.append_assoc, drop4 (four_length _)]
/-- a datagram that was made longer opens by a sum that is the same -/
theorem cuts_opens (key : Nat) (l m : List Nat) : Fr.opens key (Fr.wrap key l ++ m) = decide (Cr.four4 (Fr.sum key l) = Cr.four4 (Fr.sum key (l ++ m))) := by
  rw [FrW.opens_iff, take_wrap, drop_wrap]
theorem list4 {x0 x1 x2 x3 y0 y1 y2 y3 : Nat} : ([x0, x1, x2, x3] = [y0, y1, y2, y3]) ↔ (x0 = y0 ∧ x1 = y1 ∧ x2 = y2 ∧ x3 = y3) := by simp

theorem xor_self_iff {x b : Nat} : x ^^^ b = x ↔ b = 0 := by
  constructor
  · intro hx
    have : x ^^^ (x ^^^ b) = x ^^^ x := by rw [hx]
    rw [← Nat.xor_assoc, Nat.xor_self, Nat.zero_xor] at this
    exact this
  · rintro rfl
    simp
/-- four bytes of the sum are others -/
theorem told_sum (key : Nat) (l : List Nat) (b0 b1 b2 b3 : Nat) :
    Fr.opens key (Cr.upd (Fr.wrap key l) 0 [b0, b1, b2, b3] 4) = decide (b0 = 0 ∧ b1 = 0 ∧ b2 = 0 ∧ b3 = 0) := by
  obtain ⟨x0, x1, x2, x3, hx⟩ : ∃ x0 x1 x2 x3, Cr.four4 (Fr.sum key l) = [x0, x1, x2, x3] := ⟨_, _, _, _, rfl⟩
  have e : Cr.upd (Fr.wrap key l) 0 [b0, b1, b2, b3] 4 = [x0 ^^^ b0, x1 ^^^ b1, x2 ^^^ b2, x3 ^^^ b3] ++ l := by
    unfold Fr.wrap
    rw [hx]
    simp [Cr.upd]
  rw [e, FrW.opens_iff, take4 (show [x0 ^^^ b0, x1 ^^^ b1, x2 ^^^ b2, x3 ^^^ b3].length = 4 from rfl), drop4 (show [x0 ^^^ b0, x1 ^^^ b1, x2 ^^^ b2, x3 ^^^ b3].length = 4 from rfl), hx, decide_eq_decide, list4, xor_self_iff, xor_self_iff, xor_self_iff, xor_self_iff]
theorem upd_behind (a l : List Nat) (k : Nat) (bs : List Nat) : ∀ j, Cr.upd (a ++ l) (a.length + k) bs j = a ++ Cr.upd l k bs j
  | 0 => rfl
  | j + 1 => by
    show (Cr.upd (a ++ l) (a.length + k) bs j).set (a.length + k + j) _ = a ++ (Cr.upd l k bs j).set (k + j) _
    rw [upd_behind a l k bs j, List.set_append_right _ _ (by omega), show a.length + k + j - a.length = k + j by omega]
    congr 2
    simp [List.getD, List.getElem?_append_right (show a.length ≤ a.length + k + j by omega), show a.length + k + j - a.length = k + j by omega]
/-- four bytes of the payload are others -/
theorem told_payload {key : Nat} {l : List Nat} {k b0 b1 b2 b3 : Nat} (h : k + 4 ≤ l.length) (hl : ∀ x ∈ l, x < 256) (h0 : b0 < 256) (h1 : b1 < 256) (h2 : b2 < 256) (h3 : b3 < 256) :
    Fr.opens key (Cr.upd (Fr.wrap key l) (4 + k) [b0, b1, b2, b3] 4) = decide (b0 = 0 ∧ b1 = 0 ∧ b2 = 0 ∧ b3 = 0) := by
  have e : Cr.upd (Fr.wrap key l) (4 + k) [b0, b1, b2, b3] 4 = Cr.four4 (Fr.sum key l) ++ Cr.upd l k [b0, b1, b2, b3] 4 := upd_behind (Cr.four4 (Fr.sum key l)) l k [b0, b1, b2, b3] 4
  have hu := Cr.upd_four h hl h0 h1 h2 h3
  have hlen := Cr.upd_length l k [b0, b1, b2, b3] 4
  rw [e, FrW.opens_iff, take4 (four_length _), drop4 (four_length _), decide_eq_decide, ← hu]
  constructor
  · intro h4
    have hs := Fr.four4_inj (Fr.sum_lt _ _) (Fr.sum_lt _ _) h4
    by_cases hne : Cr.sum (Cr.upd l k [b0, b1, b2, b3] 4) = Cr.sum l
    · exact hne
    · exact absurd hs.symm (Fr.head_told hlen hne)
  · intro hs
    unfold Fr.sum
    rw [hs, hlen]
end FrL
end Go.Proofs.Ytdaedmbdoniaiaa

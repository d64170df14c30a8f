/- A string gone through rune by rune: which rune stands where a map's sign stands; a text that is being read, in memory. -/
import Derived.Test.YtbfffgnalopfbaaTilRead
import Derived.Lib.OthersKept
import Derived.Laws.RangeAny
namespace Go.Proofs.Ytbfffgnalopfbaa
open Go.RowKit
set_option linter.unusedVariables false
set_option linter.unusedSimpArgs false

namespace Ti
/-- the rune of a sign -/
def rune : Nat → Int
  | 1 => 9608
  | 2 => 183
  | 3 => 9678
  | 4 => 10
  | _ => 0
theorem get_from (s : ByteArray) (a k : Nat) : s.get! (a + k) = (from_ s a).getD k 0 := by
  unfold from_
  rw [List.getD_eq_getElem?_getD, List.getElem?_drop, Array.getElem?_toList]
  show s.data[a + k]! = _
  rw [getElem!_def]
  cases s.data[a + k]? <;> rfl
theorem size_from (s : ByteArray) (a k : Nat) : a + k < s.size ↔ k < (from_ s a).length := by rw [from_len]; omega
/-- the rune where a sign stands -/
theorem dec_sign {s : ByteArray} {a k : Nat} (hk : sg (from_ s a) = k) (h0 : k ≠ 0) : Utf8.decode s a = ((rune k).toNat, (bs k).length) := by
  have hb := bs_sg (l := from_ s a) (by rw [hk]; exact h0)
  rw [hk] at hb
  have hle : k ≤ 4 := by rw [← hk]; exact sg_le _
  have g0 := get_from s a 0
  have g1 := get_from s a 1
  have g2 := get_from s a 2
  have g3 := get_from s a 3
  have z1 := size_from s a 1
  have z2 := size_from s a 2
  generalize (from_ s a).drop (bs k).length = t at hb
  have hkk : k = 1 ∨ k = 2 ∨ k = 3 ∨ k = 4 := by omega
  rcases hkk with rfl | rfl | rfl | rfl
  · rw [show bs 1 = [226, 150, 136] from rfl] at hb
    rw [hb] at g0 g1 g2 g3 z1 z2
    simp at g0 g1 g2 z1 z2
    simp [Utf8.decode, g0, g1, g2, z1, z2, Utf8.valid, rune, bs]
  · rw [show bs 2 = [194, 183] from rfl] at hb
    rw [hb] at g0 g1 g2 g3 z1 z2
    simp at g0 g1 z1
    simp [Utf8.decode, g0, g1, z1, Utf8.valid, rune, bs]
  · rw [show bs 3 = [226, 151, 142] from rfl] at hb
    rw [hb] at g0 g1 g2 g3 z1 z2
    simp at g0 g1 g2 z1 z2
    simp [Utf8.decode, g0, g1, g2, z1, z2, Utf8.valid, rune, bs]
  · rw [show bs 4 = [10] from rfl] at hb
    rw [hb] at g0
    simp at g0
    simp [Utf8.decode, g0, rune, bs]
theorem u8_is {b : UInt8} {n : Nat} (hn : n < 256) (h : b.toNat = n) : b = UInt8.ofNat n := by
  rw [← h]; simp
/-- where none stands there is another rune -/
theorem dec_none {s : ByteArray} {a : Nat} (ha : a < s.size) (hk : sg (from_ s a) = 0) : (Utf8.decode s a).1 ≠ 9608 ∧ (Utf8.decode s a).1 ≠ 183 ∧ (Utf8.decode s a).1 ≠ 9678 ∧ (Utf8.decode s a).1 ≠ 10 := by
  have g0 := get_from s a 0
  have g1 := get_from s a 1
  have g2 := get_from s a 2
  have z0 := size_from s a 0
  have z1 := size_from s a 1
  have z2 := size_from s a 2
  have hb : ∀ k, (s.get! (a + k)).toNat < 256 := fun k => (s.get! (a + k)).toNat_lt
  have h0 := hb 0
  have h1 := hb 1
  have h2 := hb 2
  have h3 := hb 3
  have n1 : ¬ ((s.get! (a + 0)).toNat = 226 ∧ (s.get! (a + 1)).toNat = 150 ∧ (s.get! (a + 2)).toNat = 136 ∧ a + 2 < s.size) := by
    rintro ⟨e0, e1, e2, e3⟩
    rw [g0] at e0
    rw [g1] at e1
    rw [g2] at e2
    rw [z2] at e3
    revert hk e0 e1 e2 e3
    generalize from_ s a = l
    intro hk e0 e1 e2 e3
    match l, e3 with
    | x :: y :: z :: t, _ =>
      simp at e0 e1 e2
      have x0 : x = 226 := u8_is (by decide) e0
      have y0 : y = 150 := u8_is (by decide) e1
      have w0 : z = 136 := u8_is (by decide) e2
      subst x0 y0 w0
      simp [sg] at hk
  have n3 : ¬ ((s.get! (a + 0)).toNat = 226 ∧ (s.get! (a + 1)).toNat = 151 ∧ (s.get! (a + 2)).toNat = 142 ∧ a + 2 < s.size) := by
    rintro ⟨e0, e1, e2, e3⟩
    rw [g0] at e0
    rw [g1] at e1
    rw [g2] at e2
    rw [z2] at e3
    revert hk e0 e1 e2 e3
    generalize from_ s a = l
    intro hk e0 e1 e2 e3
    match l, e3 with
    | x :: y :: z :: t, _ =>
      simp at e0 e1 e2
      have x0 : x = 226 := u8_is (by decide) e0
      have y0 : y = 151 := u8_is (by decide) e1
      have w0 : z = 142 := u8_is (by decide) e2
      subst x0 y0 w0
      simp [sg] at hk
  have n2 : ¬ ((s.get! (a + 0)).toNat = 194 ∧ (s.get! (a + 1)).toNat = 183 ∧ a + 1 < s.size) := by
    rintro ⟨e0, e1, e3⟩
    rw [g0] at e0
    rw [g1] at e1
    rw [z1] at e3
    revert hk e0 e1 e3
    generalize from_ s a = l
    intro hk e0 e1 e3
    match l, e3 with
    | x :: y :: t, _ =>
      simp at e0 e1
      have x0 : x = 194 := u8_is (by decide) e0
      have y0 : y = 183 := u8_is (by decide) e1
      subst x0 y0
      simp [sg] at hk
  have n4 : ¬ ((s.get! (a + 0)).toNat = 10) := by
    intro e0
    rw [g0] at e0
    have e3 : 0 < (from_ s a).length := by rw [← z0]; omega
    revert hk e0 e3
    generalize from_ s a = l
    intro hk e0 e3
    match l, e3 with
    | x :: t, _ =>
      simp at e0
      have x0 : x = 10 := u8_is (by decide) e0
      subst x0
      simp [sg] at hk
  clear g0 g1 g2 z0 z1 z2 hb hk
  simp only [Utf8.decode]
  obtain ⟨b0, e0⟩ : ∃ b, b = (s.get! (a + 0)).toNat := ⟨_, rfl⟩
  obtain ⟨b1, e1⟩ : ∃ b, b = (s.get! (a + 1)).toNat := ⟨_, rfl⟩
  obtain ⟨b2, e2⟩ : ∃ b, b = (s.get! (a + 2)).toNat := ⟨_, rfl⟩
  obtain ⟨b3, e3⟩ : ∃ b, b = (s.get! (a + 3)).toNat := ⟨_, rfl⟩
  simp only [← e0, ← e1, ← e2, ← e3] at n1 n2 n3 n4 h0 h1 h2 h3 ⊢
  clear e0 e1 e2 e3
  by_cases c1 : b0 < 128
  · rw [if_pos c1]; exact ⟨by show b0 ≠ _; omega, by show b0 ≠ _; omega, by show b0 ≠ _; omega, by show b0 ≠ _; omega⟩
  rw [if_neg c1]
  by_cases c2 : b0 / 32 = 6 ∧ a + 1 < s.size ∧ b1 / 64 = 2
  · rw [if_pos (by simp [c2])]
    split
    · exact ⟨by show b0 % 32 * 64 + b1 % 64 ≠ _; omega, by show b0 % 32 * 64 + b1 % 64 ≠ _; omega, by show b0 % 32 * 64 + b1 % 64 ≠ _; omega, by show b0 % 32 * 64 + b1 % 64 ≠ _; omega⟩
    · exact ⟨by decide, by decide, by decide, by decide⟩
  rw [if_neg (by simpa using c2)]
  by_cases c3 : b0 / 16 = 14 ∧ (a + 1 < s.size ∧ b1 / 64 = 2) ∧ a + 2 < s.size ∧ b2 / 64 = 2
  · rw [if_pos (by simp [c3])]
    split
    · rename_i hv
      simp only [Bool.and_eq_true, decide_eq_true_eq] at hv
      have hv1 := hv.1
      clear hv
      exact ⟨by show b0 % 16 * 4096 + b1 % 64 * 64 + b2 % 64 ≠ _; omega, by show b0 % 16 * 4096 + b1 % 64 * 64 + b2 % 64 ≠ _; omega, by show b0 % 16 * 4096 + b1 % 64 * 64 + b2 % 64 ≠ _; omega, by show b0 % 16 * 4096 + b1 % 64 * 64 + b2 % 64 ≠ _; omega⟩
    · exact ⟨by decide, by decide, by decide, by decide⟩
  rw [if_neg (by simpa [and_assoc] using c3)]
  split
  · split
    · rename_i hv
      simp only [Bool.and_eq_true, decide_eq_true_eq] at hv
      have hv1 := hv.1
      clear hv
      refine ⟨?_, ?_, ?_, ?_⟩ <;> (intro he; have he' : b0 % 8 * 262144 + b1 % 64 * 4096 + b2 % 64 * 64 + b3 % 64 = _ := he; omega)
    · exact ⟨by decide, by decide, by decide, by decide⟩
  · exact ⟨by decide, by decide, by decide, by decide⟩
/-- every rune may be -/
theorem dec_bd (s : ByteArray) (a : Nat) : (0 : Int) ≤ ((Utf8.decode s a).1 : Int) ∧ ((Utf8.decode s a).1 : Int) ≤ 2147483647 := ⟨by omega, by have := decode_le s a; omega⟩
end Ti

namespace TiW
/-- a text that is being read: the block B of what was read, its rows; I holds the string's iterator -/
structure RP (B I : Nat) (o : Obj) (w : World) (st : Ti.S) (va vb : Value) (wr : World) : Prop where
  own : Struct B [.int .i64 (st.W : Int), .int .i64 (st.H : Int), va, vb, .int .i64 (st.x : Int)] wr
  it : wr.heap[I]? = some o
  ws : OwnL 4 1 tbEnc va st.ws wr
  sp : OwnL 28 2 tvEnc vb st.sp wr
  bw : B < w.heap.size
  iw : I < w.heap.size
  ne : I ≠ B
  na : ∀ k ∈ blk va, w.heap.size ≤ k
  nb : ∀ k ∈ blk vb, w.heap.size ≤ k
  dis : ∀ k ∈ blk va, k ∉ blk vb
  turned : Turned [B, I] w wr
section
variable {B I : Nat} {o : Obj} {w wr : World} {st : Ti.S} {va vb : Value}
theorem turned_iter {w : World} {I : Nat} {s : ByteArray} {p : Nat} : Turned [I] w (w.iterAt I s p) :=
  ⟨rfl, rfl, rfl, by rw [Lib.iterAt_size]; exact Nat.le_refl _, fun k _ hk => Lib.iterAt_other w I k s p (by simpa using hk)⟩
theorem RP.lt (h : RP B I o w st va vb wr) : w.heap.size ≤ wr.heap.size := h.turned.size
theorem RP.keep {u : World} (h : RP B I o w st va vb wr) (ht : Turned [] wr u) : RP B I o w st va vb u :=
  ⟨h.own.keep ht (by simp), (ht.block I (Nat.lt_of_lt_of_le h.iw h.lt) (by simp)).trans h.it, h.ws.keep ht (by simp), h.sp.keep ht (by simp), h.bw, h.iw, h.ne, h.na, h.nb, h.dis, h.turned.trans ht (by simp)⟩
/-- the iterator goes on -/
theorem RP.iter {s : ByteArray} {p q : Nat} (h : RP B I (.stringIter s p) w st va vb wr) : RP B I (.stringIter s q) w st va vb (wr.iterAt I s q) := by
  have ht : Turned [I] wr (wr.iterAt I s q) := turned_iter
  have hb := h.bw
  have hi := h.iw
  refine ⟨h.own.keep ht (by simpa using h.ne.symm), Lib.iterAt_heap wr I s p q h.it, h.ws.keep ht ?_, h.sp.keep ht ?_, h.bw, h.iw, h.ne, h.na, h.nb, h.dis, h.turned.trans ht (by simp)⟩
  · intro k hk; have := h.na k hk; simp; omega
  · intro k hk; have := h.nb k hk; simp; omega
/-- a cell of the block is written -/
theorem RP.cellB (h : RP B I o w st va vb wr) {i : Nat} (u : Value) : Turned [B] wr (wr.setCell ⟨B, i, none⟩ u) := (Turned.refl [B] wr).setCell (p := ⟨B, i, none⟩) (.inl (by simp)) _
theorem RP.putB {x W H : Nat} {u : World} (h : RP B I o w st va vb wr) (ht : Turned [B] wr u) (hs : Struct B [.int .i64 (W : Int), .int .i64 (H : Int), va, vb, .int .i64 (x : Int)] u) : RP B I o w ⟨x, W, H, st.ws, st.sp⟩ va vb u := by
  have hb := h.bw
  have hi := h.iw
  refine ⟨hs, (ht.block I (Nat.lt_of_lt_of_le h.iw h.lt) (by simpa using h.ne)).trans h.it, h.ws.keep ht ?_, h.sp.keep ht ?_, h.bw, h.iw, h.ne, h.na, h.nb, h.dis, h.turned.trans ht (by simp)⟩
  · intro k hk; have := h.na k hk; simp; omega
  · intro k hk; have := h.nb k hk; simp; omega
/-- a line has ended -/
theorem RP.line (h : RP B I o w st va vb wr) : RP B I o w (Ti.next 4 st) va vb (((wr.setCell ⟨B, 0, none⟩ (.int .i64 (st.x : Int))).setCell ⟨B, 4, none⟩ (.int .i64 0)).setCell ⟨B, 1, none⟩ (.int .i64 ((st.H : Int) + 1))) :=
  h.putB (((h.cellB _).setCell (p := ⟨B, 4, none⟩) (.inl (by simp)) _).setCell (p := ⟨B, 1, none⟩) (.inl (by simp)) _) (((h.own.set (i := 0) (by simp) _).set (i := 4) (by simp) _).set (i := 1) (by simp) _)
/-- one column further -/
theorem RP.col (h : RP B I o w st va vb wr) : RP B I o w ⟨st.x + 1, st.W, st.H, st.ws, st.sp⟩ va vb (wr.setCell ⟨B, 4, none⟩ (.int .i64 ((st.x : Int) + 1))) :=
  h.putB (h.cellB _) (h.own.set (i := 4) (by simp) _)
/-- behind an append of a wall, ahead of the store -/
theorem RP.mid {oo : Obj} {w1 : World} (h : RP B I o w st va vb wr) (ht : Turned (blk va) (wr.alloc oo) w1) : Struct B [.int .i64 (st.W : Int), .int .i64 (st.H : Int), va, vb, .int .i64 (st.x : Int)] w1 ∧ w1.heap[I]? = some o ∧ OwnL 28 2 tvEnc vb st.sp w1 ∧ Turned [B, I] w w1 := by
  have ha := (Turned.refl [] wr).alloc oo
  have hb := h.bw
  have hi := h.iw
  refine ⟨(h.own.keep ha (by simp)).keep ht (fun hk => by have := h.na B hk; omega), ?_, (h.sp.keep ha (by simp)).keep ht (fun k hk hm => h.dis k hm hk), ?_⟩
  · rw [ht.block I (by have := ha.size; have := h.lt; omega) (fun hk => by have := h.na I hk; omega), ha.block I (by have := h.lt; omega) (by simp)]
    exact h.it
  · exact (h.turned.trans ha (by simp)).trans ht (fun k hk hl => by have := h.na k hk; omega)
theorem RP.push {oo : Obj} {w1 : World} {b : Bool} {v' : Value} (h : RP B I o w st va vb wr) (ho1 : OwnL 4 1 tbEnc v' (st.ws ++ [b]) w1) (ht : Turned (blk va) (wr.alloc oo) w1) (hb : blk v' = blk va ∨ blk v' = [(wr.alloc oo).heap.size]) : RP B I o w ⟨st.x, st.W, st.H, st.ws ++ [b], st.sp⟩ v' vb (w1.setCell ⟨B, 2, none⟩ v') := by
  obtain ⟨m2, m1, m3, m4⟩ := h.mid ht
  have hB := h.bw
  have hI := h.iw
  have hs : (wr.alloc oo).heap.size = wr.heap.size + 1 := by simp
  have hna : ∀ k ∈ blk v', w.heap.size ≤ k := by
    intro k hk
    rcases hb with e | e
    · rw [e] at hk; exact h.na k hk
    · rw [e, hs] at hk; simp at hk; subst hk
      have := h.lt
      omega
  have hdis : ∀ k ∈ blk v', k ∉ blk vb := by
    intro k hk hm
    rcases hb with e | e
    · rw [e] at hk; exact h.dis k hk hm
    · rw [e, hs] at hk; simp at hk; subst hk
      have := h.sp.lt _ hm; omega
  have hT : Turned [B] w1 (w1.setCell ⟨B, 2, none⟩ v') := (Turned.refl [B] w1).setCell (p := ⟨B, 2, none⟩) (.inl (by simp)) _
  refine ⟨m2.set (i := 2) (by simp) _, (hT.block I (by have := m4.size; omega) (by simpa using h.ne)).trans m1, ho1.keep hT ?_, m3.keep hT ?_, h.bw, h.iw, h.ne, hna, h.nb, hdis, m4.trans hT (by simp)⟩
  · intro k hk; have := hna k hk; simp; omega
  · intro k hk; have := h.nb k hk; simp; omega
/-- behind an append of a place, ahead of the store -/
theorem RP.mid2 {oo : Obj} {w1 : World} (h : RP B I o w st va vb wr) (ht : Turned (blk vb) (wr.alloc oo) w1) : Struct B [.int .i64 (st.W : Int), .int .i64 (st.H : Int), va, vb, .int .i64 (st.x : Int)] w1 ∧ w1.heap[I]? = some o ∧ OwnL 4 1 tbEnc va st.ws w1 ∧ Turned [B, I] w w1 := by
  have ha := (Turned.refl [] wr).alloc oo
  have hb := h.bw
  have hi := h.iw
  refine ⟨(h.own.keep ha (by simp)).keep ht (fun hk => by have := h.nb B hk; omega), ?_, (h.ws.keep ha (by simp)).keep ht (fun k hk hm => h.dis k hk hm), ?_⟩
  · rw [ht.block I (by have := ha.size; have := h.lt; omega) (fun hk => by have := h.nb I hk; omega), ha.block I (by have := h.lt; omega) (by simp)]
    exact h.it
  · exact (h.turned.trans ha (by simp)).trans ht (fun k hk hl => by have := h.nb k hk; omega)
theorem RP.push2 {oo : Obj} {w1 : World} {b : Int × Int} {v' : Value} (h : RP B I o w st va vb wr) (ho1 : OwnL 28 2 tvEnc v' (st.sp ++ [b]) w1) (ht : Turned (blk vb) (wr.alloc oo) w1) (hb : blk v' = blk vb ∨ blk v' = [(wr.alloc oo).heap.size]) : RP B I o w ⟨st.x, st.W, st.H, st.ws, st.sp ++ [b]⟩ va v' (w1.setCell ⟨B, 3, none⟩ v') := by
  obtain ⟨m2, m1, m3, m4⟩ := h.mid2 ht
  have hB := h.bw
  have hI := h.iw
  have hs : (wr.alloc oo).heap.size = wr.heap.size + 1 := by simp
  have hnb : ∀ k ∈ blk v', w.heap.size ≤ k := by
    intro k hk
    rcases hb with e | e
    · rw [e] at hk; exact h.nb k hk
    · rw [e, hs] at hk; simp at hk; subst hk
      have := h.lt
      omega
  have hdis : ∀ k ∈ blk va, k ∉ blk v' := by
    intro k hk hm
    rcases hb with e | e
    · rw [e] at hm; exact h.dis k hk hm
    · rw [e, hs] at hm; simp at hm; subst hm
      have := h.ws.lt _ hk; omega
  have hT : Turned [B] w1 (w1.setCell ⟨B, 3, none⟩ v') := (Turned.refl [B] w1).setCell (p := ⟨B, 3, none⟩) (.inl (by simp)) _
  refine ⟨m2.set (i := 3) (by simp) _, (hT.block I (by have := m4.size; omega) (by simpa using h.ne)).trans m1, m3.keep hT ?_, ho1.keep hT ?_, h.bw, h.iw, h.ne, h.na, hnb, hdis, m4.trans hT (by simp)⟩
  · intro k hk; have := h.na k hk; simp; omega
  · intro k hk; have := hnb k hk; simp; omega
end
end TiW
end Go.Proofs.Ytbfffgnalopfbaa

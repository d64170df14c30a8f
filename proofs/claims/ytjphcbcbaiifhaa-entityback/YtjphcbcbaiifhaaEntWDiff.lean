/- Where an entity's fields are, by how much they differ, what is added to them: the program's (EnW). -/
import Derived.Test.YtjphcbcbaiifhaaEntMem
import Derived.Test.YtjphcbcbaiifhaaByteMem
namespace Go.Proofs.Ytjphcbcbaiifhaa
open Go.RowKit
set_option linter.unusedVariables false
set_option linter.unusedSimpArgs false

def ilEnc (x : Int) : List Value := [.int .i64 x]
theorem ilEnc_len {l : List Int} : ∀ a ∈ l, (ilEnc a).length = 1 := fun _ _ => rfl
theorem ilEnc_one {l : List Int} : ∀ a ∈ l, ∀ u ∈ ilEnc a, u.oneCell' = true := by
  intro a _ u hu
  simp [ilEnc] at hu
  subst hu
  rfl
theorem elem_il : ElemOk Try.prog 59 2 (.int .i64 0) 1 8 := ⟨by kernel_rfl, by kernel_rfl, rfl, by decide⟩
/-- n places, side by side, of the block p, from a on: told by pointers, in the block g -/
def Places (g n p a : Nat) (w : World) : Prop := g < w.heap.size ∧ ∀ i, i < n → w.cell? ⟨g, i, none⟩ = some (.pointer (some ⟨p, a + i, none⟩))
theorem Places.keep {g n p a : Nat} {S : List Nat} {w w' : World} (h : Places g n p a w) (ht : Turned S w w') (hd : g ∉ S) : Places g n p a w' :=
  ⟨Nat.lt_of_lt_of_le h.1 ht.size, fun i hi => (ht.cell (p := ⟨g, i, none⟩) h.1 hd).trans (h.2 i hi)⟩
/-- n numbers, side by side, in the block p, from a on -/
def Nums (p a : Nat) (l : List Int) (w : World) : Prop := p < w.heap.size ∧ ∀ i x, l[i]? = some x → w.cell? ⟨p, a + i, none⟩ = some (.int .i64 x) ∧ w.frozen? ⟨p, a + i, none⟩ = false
theorem Nums.keep {p a : Nat} {l : List Int} {S : List Nat} {w w' : World} (h : Nums p a l w) (ht : Turned S w w') (hd : p ∉ S) : Nums p a l w' :=
  ⟨Nat.lt_of_lt_of_le h.1 ht.size, fun i x hi => ⟨(ht.cell (p := ⟨p, a + i, none⟩) h.1 hd).trans (h.2 i x hi).1, (ht.frozen (p := ⟨p, a + i, none⟩) h.1 hd).trans (h.2 i x hi).2⟩⟩
theorem Nums.set {p a i : Nat} {l : List Int} {w : World} (h : Nums p a l w) (hi : i < l.length) (x : Int) : Nums p a (l.set i x) (w.setCell ⟨p, a + i, none⟩ (.int .i64 x)) := by
  refine ⟨by simpa using h.1, fun j y hj => ?_⟩
  have hjl : j < l.length := by have := (List.getElem?_eq_some_iff.1 hj).1; simpa using this
  have h0 := h.2 j l[j] (List.getElem?_eq_getElem hjl)
  refine ⟨?_, by rw [World.frozen?_setCell]; exact h0.2⟩
  by_cases e : i = j
  · subst e
    rw [List.getElem?_set_self hi] at hj
    simp at hj
    subst hj
    simp [World.cell?_setCell_same', h0.1]
  · rw [List.getElem?_set_ne e] at hj
    rw [World.cell?_setCell_other]
    · exact (h.2 j y hj).1
    · simp
      try omega
/-- what the fields have beyond base's -/
def apart (b e : List Int) : List Int := List.zipWith (fun x y => wrap64 (y - x)) b e
theorem wrap_i64 (z : Int) : IntKind.i64.wrap z = wrap64 z := by simp [wrap64, IntKind.wrap, IntKind.bits, IntKind.signed]; split <;> omega

namespace EnW

set_option maxHeartbeats 1000000 in
theorem fixFields_any (p : Nat) (w : World) :
    Calls Try.prog 36 #[.pointer (some ⟨p, 0, none⟩)] w fun r w' => ∃ g, w.heap.size ≤ g ∧ r = .returned (.slice (some ⟨g, 0, none⟩) 4 4) ∧ Places g 4 p 2 w' ∧ Turned [] w w' := by
  go_enter Try.func36, Try.ntmps36
  go_wp2_with fail
  go_region
  go_wp2_with fail
  go_ret
  refine ⟨_, Nat.le_refl _, rfl, ⟨by simp, fun i hi => ?_⟩, ((Turned.refl [] w).alloc _).drew⟩
  match i, hi with
  | 0, _ => simp [go_sem]
  | 1, _ => simp [go_sem]
  | 2, _ => simp [go_sem]
  | 3, _ => simp [go_sem]

set_option maxHeartbeats 1000000 in
theorem countFields_any (p : Nat) (w : World) :
    Calls Try.prog 38 #[.pointer (some ⟨p, 0, none⟩)] w fun r w' => ∃ g, w.heap.size ≤ g ∧ r = .returned (.slice (some ⟨g, 0, none⟩) 2 2) ∧ Places g 2 p 6 w' ∧ Turned [] w w' := by
  go_enter Try.func38, Try.ntmps38
  go_wp2_with fail
  go_region
  go_wp2_with fail
  go_ret
  refine ⟨_, Nat.le_refl _, rfl, ⟨by simp, fun i hi => ?_⟩, ((Turned.refl [] w).alloc _).drew⟩
  match i, hi with
  | 0, _ => simp [go_sem]
  | 1, _ => simp [go_sem]

set_option maxHeartbeats 2000000 in
theorem apartF_any (g1 g2 n p q a : Nat) (b e : List Int) (hb : b.length = n) (he : e.length = n) (hn : n ≤ 1000) (w : World) (h1 : Places g1 n p a w) (h2 : Places g2 n q a w) (hx : Nums p a b w) (hy : Nums q a e w) :
    Calls Try.prog 35 #[.slice (some ⟨g1, 0, none⟩) n n, .slice (some ⟨g2, 0, none⟩) n n] w fun r w' => ∃ v, r = .returned v ∧ OwnL 2 1 ilEnc v (apart b e) w' ∧ Turned [] w w' ∧ ∀ k ∈ blk v, w.heap.size ≤ k := by
  have HL : Hid ((apart b e).length = n) := by show _ = _; simp [apart, hb, he]
  have HB : Hid (b.length = n) := hb
  have HE : Hid (e.length = n) := he
  have hn1 : (n : Int) ≤ 1000 := by omega
  clear hb he
  go_enter Try.func35, Try.ntmps35
  go_wp2_with fail
  go_loopw [5, 10] (fun v i wr => ∃ k : Nat, k ≤ n ∧ i = .int .i64 (k : Int) ∧ OwnL 2 1 ilEnc v ((apart b e).take k) wr ∧ Turned [] w wr ∧ ∀ x ∈ blk v, w.heap.size ≤ x) (fun _ i _ => n - (intOf i).toNat)
  case atStart => exact ⟨0, by omega, rfl, OwnL.nil _ _ _ _, Turned.refl _ _, by simp [blk_nil]⟩
  case round =>
    obtain ⟨k, hk, rfl, ho, ht, hbk⟩ := hrel
    by_cases hlt : (k : Int) < (n : Int)
    · obtain ⟨x, hxk⟩ : ∃ x, b[k]? = some x := ⟨_, List.getElem?_eq_getElem (by have := HB.out; omega)⟩
      obtain ⟨y, hyk⟩ : ∃ y, e[k]? = some y := ⟨_, List.getElem?_eq_getElem (by have := HE.out; omega)⟩
      have c1 := (h1.keep ht (by simp)).2 k (by omega)
      have c2 := (h2.keep ht (by simp)).2 k (by omega)
      have c3 := ((hx.keep ht (by simp)).2 k x hxk).1
      have c4 := ((hy.keep ht (by simp)).2 k y hyk).1
      have HT : Hid ((apart b e).take (k + 1) = (apart b e).take k ++ [wrap64 (y - x)]) := by
        show _ = _
        rw [List.take_add_one]
        congr 1
        simp [apart, List.getElem?_zipWith, hxk, hyk]
      have hkl : ((apart b e).take k).length ≤ 1000 := by rw [List.length_take]; omega
      have b1 : ((apart b e).take k).length + 1 ≤ maxLen := by unfold maxLen; omega
      have b2 : (((apart b e).take k).length + 1) * 8 ≤ 140737488355328 := by omega
      have hav := fun o => ho.keep ((Turned.refl [] wr).alloc o) (by simp)
      clear hxk hyk hkl
      go_wp2_with fail
      go_region_law (refine step_push elem_il rfl _ _ rfl rfl (hav _) wr.heap.size 0 1 1 [IntKind.i64.wrap (y - x)] rfl rfl ilEnc_len ilEnc_one (fun j u hj => one_cell (enc := ilEnc) (a := IntKind.i64.wrap (y - x)) rfl wr 2 j u hj) b1 b2 ?_; intro v' w1 ho1 ht1 hb1)
      all_goals go_wp2_with fail
      all_goals go_roundw
      all_goals first
        | (refine ⟨k + 1, by omega, by go_num, ?_, ?_, ?_⟩
           · rw [HT.out, ← wrap_i64]; exact ho1
           · have ht2 : Turned [] w w1 := ((ht.alloc _).drew).trans ht1 (by intro z hz hl; have := hbk z hz; omega)
             exact ht2
           · intro z hz
             rcases hb1 with e1 | e1
             · rw [e1] at hz; exact hbk z hz
             · rw [e1] at hz; simp at hz; have := ht.size; omega)
        | (simp [intOf]; omega)
    · have hkn : k = n := by omega
      rw [hkn, List.take_of_length_le (by rw [HL.out]; omega)] at ho
      clear hkn
      go_wp2_with fail
      refine bodyPost_ret (v := u5) (by simp [results, Try.results35, go_sem]) rfl ?_
      exact ⟨_, rfl, ho, ht, hbk⟩

set_option maxHeartbeats 2000000 in
theorem apartI_any (g1 g2 n p q a : Nat) (b e : List Int) (hb : b.length = n) (he : e.length = n) (hn : n ≤ 1000) (w : World) (h1 : Places g1 n p a w) (h2 : Places g2 n q a w) (hx : Nums p a b w) (hy : Nums q a e w) :
    Calls Try.prog 37 #[.slice (some ⟨g1, 0, none⟩) n n, .slice (some ⟨g2, 0, none⟩) n n] w fun r w' => ∃ v, r = .returned v ∧ OwnL 2 1 ilEnc v (apart b e) w' ∧ Turned [] w w' ∧ ∀ k ∈ blk v, w.heap.size ≤ k := by
  have HL : Hid ((apart b e).length = n) := by show _ = _; simp [apart, hb, he]
  have HB : Hid (b.length = n) := hb
  have HE : Hid (e.length = n) := he
  have hn1 : (n : Int) ≤ 1000 := by omega
  clear hb he
  go_enter Try.func37, Try.ntmps37
  go_wp2_with fail
  go_loopw [5, 10] (fun v i wr => ∃ k : Nat, k ≤ n ∧ i = .int .i64 (k : Int) ∧ OwnL 2 1 ilEnc v ((apart b e).take k) wr ∧ Turned [] w wr ∧ ∀ x ∈ blk v, w.heap.size ≤ x) (fun _ i _ => n - (intOf i).toNat)
  case atStart => exact ⟨0, by omega, rfl, OwnL.nil _ _ _ _, Turned.refl _ _, by simp [blk_nil]⟩
  case round =>
    obtain ⟨k, hk, rfl, ho, ht, hbk⟩ := hrel
    by_cases hlt : (k : Int) < (n : Int)
    · obtain ⟨x, hxk⟩ : ∃ x, b[k]? = some x := ⟨_, List.getElem?_eq_getElem (by have := HB.out; omega)⟩
      obtain ⟨y, hyk⟩ : ∃ y, e[k]? = some y := ⟨_, List.getElem?_eq_getElem (by have := HE.out; omega)⟩
      have c1 := (h1.keep ht (by simp)).2 k (by omega)
      have c2 := (h2.keep ht (by simp)).2 k (by omega)
      have c3 := ((hx.keep ht (by simp)).2 k x hxk).1
      have c4 := ((hy.keep ht (by simp)).2 k y hyk).1
      have HT : Hid ((apart b e).take (k + 1) = (apart b e).take k ++ [wrap64 (y - x)]) := by
        show _ = _
        rw [List.take_add_one]
        congr 1
        simp [apart, List.getElem?_zipWith, hxk, hyk]
      have hkl : ((apart b e).take k).length ≤ 1000 := by rw [List.length_take]; omega
      have b1 : ((apart b e).take k).length + 1 ≤ maxLen := by unfold maxLen; omega
      have b2 : (((apart b e).take k).length + 1) * 8 ≤ 140737488355328 := by omega
      have hav := fun o => ho.keep ((Turned.refl [] wr).alloc o) (by simp)
      clear hxk hyk hkl
      go_wp2_with fail
      go_region_law (refine step_push elem_il rfl _ _ rfl rfl (hav _) wr.heap.size 0 1 1 [IntKind.i64.wrap (y - x)] rfl rfl ilEnc_len ilEnc_one (fun j u hj => one_cell (enc := ilEnc) (a := IntKind.i64.wrap (y - x)) rfl wr 2 j u hj) b1 b2 ?_; intro v' w1 ho1 ht1 hb1)
      all_goals go_wp2_with fail
      all_goals go_roundw
      all_goals first
        | (refine ⟨k + 1, by omega, by go_num, ?_, ?_, ?_⟩
           · rw [HT.out, ← wrap_i64]; exact ho1
           · have ht2 : Turned [] w w1 := ((ht.alloc _).drew).trans ht1 (by intro z hz hl; have := hbk z hz; omega)
             exact ht2
           · intro z hz
             rcases hb1 with e1 | e1
             · rw [e1] at hz; exact hbk z hz
             · rw [e1] at hz; simp at hz; have := ht.size; omega)
        | (simp [intOf]; omega)
    · have hkn : k = n := by omega
      rw [hkn, List.take_of_length_le (by rw [HL.out]; omega)] at ho
      clear hkn
      go_wp2_with fail
      refine bodyPost_ret (v := u5) (by simp [results, Try.results37, go_sem]) rfl ?_
      exact ⟨_, rfl, ho, ht, hbk⟩
end EnW
end Go.Proofs.Ytjphcbcbaiifhaa

/- What the reference's Send answers (ChR). -/
import Derived.Test.YtloobijdpchppaaChRef
import Derived.Deep.RegionHeld3
namespace Go.Proofs.Ytloobijdpchppaa
open Go.RowKit
set_option linter.unusedVariables false
set_option linter.unusedSimpArgs false

/-- behind an append of one element, laid in a block of its own, to the slice that is a struct's cell number i: the struct, the slice; and behind its store -/
theorem push_at {α : Type} {e : TypeId} {enc : α → List Value} {v v' : Value} {cs : List Value} {l : List α} {a : α} {p i : Nat} {w w1 : World} {o : Obj}
    (hlen : ∀ b ∈ l ++ [a], (enc b).length = 1) (hs : Struct p cs w) (hn : p ∉ blk v) (ho1 : OwnL e 1 enc v' (l ++ [a]) w1) (ht : Turned (blk v) (w.alloc o) w1) (hb : blk v' = blk v ∨ blk v' = [(w.alloc o).heap.size]) (hi : i < cs.length) :
    ∃ g cap, v' = .slice (some ⟨g, 0, none⟩) (l.length + 1) cap ∧ g ≠ p ∧ Struct p cs w1 ∧
      ∀ W2, W2 = w1.setCell ⟨p, i, none⟩ v' → Struct p (cs.set i v') W2 ∧ OwnL e 1 enc v' (l ++ [a]) W2 ∧ Turned (p :: blk v) w W2 ∧ blk v' = [g] ∧ (blk v = [g] ∨ w.heap.size ≤ g) := by
  have hs1 := (hs.keep ((Turned.refl [] w).alloc o) (by simp)).keep ht hn
  obtain ⟨g, cap, rfl, hbk, hg, hc⟩ := ho1.cell hlen (i := l.length) (a := a) (by simp)
  have hgp : g ≠ p := by
    rintro rfl
    rcases hb with h | h
    · rw [hbk] at h; exact hn (by rw [← h]; simp)
    · rw [hbk] at h; simp at h; have := hs.1; omega
  refine ⟨g, cap, by simp, hgp, hs1, ?_⟩
  rintro W2 rfl
  refine ⟨hs1.set hi _, ?_, ?_, hbk, ?_⟩
  · refine ho1.keep (S := [p]) ((Turned.refl [p] w1).setCell (.inl (by simp)) _) ?_
    intro k hk hm
    rw [hbk] at hk
    simp at hk hm
    omega
  · have h0 : Turned (blk v) w w1 := ((Turned.refl (blk v) w).alloc o).trans ht fun k hk _ => hk
    have h1 : Turned (p :: blk v) w w1 := h0.mono fun k hk _ => List.mem_cons_of_mem _ hk
    exact h1.setCell (p := ⟨p, i, none⟩) (.inl (by simp)) _
  · rcases hb with h | h
    · left; rw [← h, hbk]
    · right; rw [hbk] at h; simp at h; omega

namespace ChR
theorem at_take {l : List Bool} {j : Nat} {b : Bool} (h : l[j]? = some b) : (l.take (j + 1) ++ Ch.keep (l.drop (j + 1)))[j]? = some b := by
  have hj := (List.getElem?_eq_some_iff.1 h).1
  rw [List.getElem?_append_left (by rw [List.length_take]; omega), List.getElem?_take_of_lt (by omega), h]
theorem set_take {l : List Bool} {j : Nat} {b : Bool} (h : l[j]? = some b) :
    (l.take (j + 1) ++ Ch.keep (l.drop (j + 1))).set j (b && decide (Ch.count (l.drop j) ≤ 64)) = l.take j ++ Ch.keep (l.drop j) := by
  obtain ⟨hj, hb⟩ := List.getElem?_eq_some_iff.1 h
  have e : l.drop j = b :: l.drop (j + 1) := by rw [List.drop_eq_getElem_cons hj, hb]
  rw [List.take_add_one, h, e]
  show ((l.take j ++ [b]) ++ _).set j _ = l.take j ++ (_ :: _)
  rw [List.append_assoc, List.set_append_right j _ (by rw [List.length_take]; omega), List.length_take, Nat.min_eq_left (by omega), Nat.sub_self]
  rfl
theorem count_at {l : List Bool} {j : Nat} {b : Bool} (h : l[j]? = some b) : Ch.count (l.drop j) = if b = true then Ch.count (l.drop (j + 1)) + 1 else Ch.count (l.drop (j + 1)) := by
  obtain ⟨hj, hb⟩ := List.getElem?_eq_some_iff.1 h
  rw [List.drop_eq_getElem_cons hj, hb]; rfl
theorem count_le : ∀ l : List Bool, Ch.count l ≤ l.length
  | [] => Nat.le_refl _
  | b :: l => by
    have := count_le l
    unfold Ch.count
    split
    · rw [List.length_cons]; omega
    · rw [List.length_cons]; omega

set_option maxHeartbeats 2000000 in
set_option maxRecDepth 20000 in
theorem send_any (p : Nat) (y : Bool) (l m : Int) (f : List Bool) (v : Value) (w : World) (h : RChan p y l m f v w) (hf : f.length ≤ 60000) :
    Calls Try.prog 10 #[.pointer (some ⟨p, 0, none⟩)] w fun e w' => e = .returned (.agg #[.int .u16 (f.length : Int), .bool y, .int .u16 l, .int .u32 m]) ∧
      ∃ v', RChan p y l m (Ch.keep (f ++ [true])) v' w' ∧ Moved (p :: blk v) (p :: blk v') w w' := by
  obtain ⟨hs, ho, hn⟩ := h
  obtain ⟨c0, f0⟩ := hs.2 0 _ rfl
  obtain ⟨c1, f1⟩ := hs.2 1 _ rfl
  obtain ⟨c2, f2⟩ := hs.2 2 _ rfl
  obtain ⟨c3, f3⟩ := hs.2 3 _ rfl
  obtain ⟨c4, f4⟩ := hs.2 4 _ rfl
  have hp := hs.1
  go_enter Try.func10, Try.ntmps10
  go_wp2_with fail
  go_region
  have hmod : (f.length : Int) % 65536 = (f.length : Int) := by omega
  rw [hmod]
  obtain ⟨wa, hwa⟩ : ∃ wa, wa = ((w.alloc (.cells #[.int .u16 0, .bool false, .int .u16 0, .int .u32 0] 41)).alloc (.cells #[.int .u16 (f.length : Int), .bool y, .int .u16 l, .int .u32 m] 41)).drew := ⟨_, rfl⟩
  rw [← hwa]
  have hta : Turned [] w wa := by rw [hwa]; exact (((Turned.refl [] w).alloc _).alloc _).drew
  have hra : Struct w.heap.size [.int .u16 0, .bool false, .int .u16 0, .int .u32 0] wa := by
    rw [hwa]; exact (Struct.new w [.int .u16 0, .bool false, .int .u16 0, .int .u32 0] _).keep (((Turned.refl [] _).alloc _).drew) (by simp)
  have hha : Struct (w.heap.size + 1) [.int .u16 (f.length : Int), .bool y, .int .u16 l, .int .u32 m] wa := by
    rw [hwa]
    have := Struct.new (w.alloc (.cells #[.int .u16 0, .bool false, .int .u16 0, .int .u32 0] 41)) [.int .u16 (f.length : Int), .bool y, .int .u16 l, .int .u32 m] 41
    rw [show (w.alloc (.cells #[.int .u16 0, .bool false, .int .u16 0, .int .u32 0] 41)).heap.size = w.heap.size + 1 by simp] at this
    exact this.keep ((Turned.refl [] _).drew) (by simp)
  have HNA : Hid (wa.heap.size = w.heap.size + 2) := by show _ = _; rw [hwa]; simp
  clear hwa
  have hsa := hs.keep hta (by simp)
  have hoa := ho.keep hta (by simp)
  clear c0 f0 c1 f1 c2 f2 c3 f3 c4 f4
  obtain ⟨c0, f0⟩ := hsa.2 0 _ rfl
  obtain ⟨c4, f4⟩ := hsa.2 4 _ rfl
  have b1 : f.length + 1 ≤ maxLen := by unfold maxLen; omega
  have b2 : (f.length + 1) * 1 ≤ 140737488355328 := by omega
  go_wp2_with (at_builtin; refine wp_push (v := v) elem_bool14 rfl _ _ rfl rfl (hoa.keep ((Turned.refl [] wa).alloc _) (by simp)) wa.heap.size 0 1 1 [true] rfl rfl bEnc_len bEnc_one (one_cell rfl wa _) b1 b2 ?_; intro v' w1 ho1 ht1 hb1; obtain ⟨g, cap, rfl, hgp, hs1, hW⟩ := push_at (i := 4) bEnc_len hsa hn ho1 ht1 hb1 (by simp); clear c0 f0 c4 f4; obtain ⟨c0, f0⟩ := hs1.2 0 _ rfl; obtain ⟨c4, f4⟩ := hs1.2 4 _ rfl)
  obtain ⟨W3, hW3⟩ : ∃ W3, W3 = (w1.setCell ⟨p, 4, none⟩ (.slice (some ⟨g, 0, none⟩) (f.length + 1) cap)).setCell ⟨p, 0, none⟩ (.int .i64 ((f.length : Int) + 1)) := ⟨_, rfl⟩
  rw [← hW3]
  obtain ⟨hs2, ho2, ht2, hbk, hg⟩ := hW _ rfl
  have hs3 : Struct p [.int .i64 ((f.length : Int) + 1), .bool y, .int .u16 l, .int .u32 m, .slice (some ⟨g, 0, none⟩) (f.length + 1) cap] W3 := by
    rw [hW3]; exact hs2.set (i := 0) (by simp) _
  have ht3 : Turned (p :: blk v) wa W3 := by rw [hW3]; exact ht2.setCell (p := ⟨p, 0, none⟩) (.inl (by simp)) _
  have ho3 : OwnL 4 1 bEnc (.slice (some ⟨g, 0, none⟩) (f.length + 1) cap) (f ++ [true]) W3 := by
    rw [hW3]
    refine ho2.keep (S := [p]) ((Turned.refl [p] _).setCell (.inl (by simp)) _) ?_
    intro k hk hm
    rw [hbk] at hk
    simp at hk hm
    omega
  have hvl := ho.lt
  have HG : Hid (g ∈ blk v ∨ w.heap.size + 2 ≤ g) := by
    rcases hg with h | h
    · exact .inl (by rw [h]; simp)
    · exact .inr (by have := HNA.out; omega)
  have hgne : g ≠ w.heap.size ∧ g ≠ w.heap.size + 1 := by
    rcases HG.out with h | h
    · have := hvl g h; omega
    · omega
  have hra3 := hra.keep ht3 (by
    intro hm
    rcases List.mem_cons.1 hm with h | h
    · omega
    · have := hvl _ h; omega)
  have hha3 := hha.keep ht3 (by
    intro hm
    rcases List.mem_cons.1 hm with h | h
    · omega
    · have := hvl _ h; omega)
  clear hW3 hW hs2 ho2 ht2 hs1 c0 f0 c4 f4 ho1 ht1 hb1 hsa hoa hs ho b1 b2 hra hha hmod
  have HV : Hid (∀ k ∈ blk v, k < w.heap.size) := hvl
  have HT : Hid (Turned (p :: blk v) w W3) := (hta.mono (S' := p :: blk v) fun k hk _ => by simp at hk).trans ht3 fun k hk _ => hk
  clear hvl ht3 hta hg
  obtain ⟨F, hF⟩ : ∃ F, F = f ++ [true] := ⟨_, rfl⟩
  have hFl : F.length = f.length + 1 := by rw [hF]; simp
  rw [← hF] at ho3
  have HF : Hid (F.length = f.length + 1) := hFl
  have HFe : Hid (F = f ++ [true]) := hF
  clear hF hFl
  go_loopw [4, 5] (fun n i wr => ∃ j : Nat, j ≤ F.length ∧ i = .int .i64 ((j : Int) - 1) ∧ n = .int .i64 (Ch.count (F.drop j) : Int) ∧ OwnL 4 1 bEnc (.slice (some ⟨g, 0, none⟩) (f.length + 1) cap) (F.take j ++ Ch.keep (F.drop j)) wr ∧ Turned [g] W3 wr) (fun _ i _ => (intOf i + 1).toNat)
  case atStart => exact ⟨f.length + 1, by rw [HF.out]; exact Nat.le_refl _, by simp, by rw [List.drop_of_length_le (by rw [HF.out]; exact Nat.le_refl _)]; rfl, by rw [List.drop_of_length_le (by rw [HF.out]; exact Nat.le_refl _), List.take_of_length_le (by rw [HF.out]; exact Nat.le_refl _)]; simpa [Ch.keep] using ho3, Turned.refl _ _⟩
  case round =>
    obtain ⟨j, hj, rfl, rfl, hrow, ht⟩ := hrel
    have hsr := hs3.keep ht (by simp; omega)
    have c4 := (hsr.2 4 _ rfl).1
    by_cases hlt : 0 < j
    · obtain ⟨k, rfl⟩ : ∃ k, j = k + 1 := ⟨j - 1, by omega⟩
      obtain ⟨b, hb⟩ : ∃ b, F[k]? = some b := ⟨_, List.getElem?_eq_getElem (by omega)⟩
      have HS := set_take hb
      have HC := count_at hb
      have hat := at_take hb
      have hcl := count_le (F.drop (k + 1))
      rw [List.length_drop] at hcl
      obtain ⟨g', cap', hv, _, hgl, hc⟩ := hrow.cell bEnc_len hat
      simp at hv
      obtain ⟨rfl, hln, rfl⟩ := hv
      obtain ⟨e0, e1⟩ := hc 0 _ rfl
      rw [Nat.mul_one, Nat.add_zero] at e0 e1
      have hln' : (F.take (k + 1) ++ Ch.keep (F.drop (k + 1))).length = f.length + 1 := by rw [List.length_append, Ch.keep_len, List.length_take, List.length_drop, Nat.min_eq_left (by omega)]; have := HF.out; omega
      have hkl : (k : Int) < (f.length : Int) + 1 := by have := HF.out; omega
      rw [show ((k + 1 : Nat) : Int) - 1 = (k : Int) by omega]
      have hkr : k < (F.take (k + 1) ++ Ch.keep (F.drop (k + 1))).length := (List.getElem?_eq_some_iff.1 hat).1
      have HO : Hid (∀ x : Bool, OwnL 4 1 bEnc (.slice (some ⟨g, 0, none⟩) (f.length + 1) cap) ((F.take (k + 1) ++ Ch.keep (F.drop (k + 1))).set k x) (wr.setCell ⟨g, k, none⟩ (.bool x))) :=
        fun x => hrow.set (f := Value.bool) (oc := cap) (by rw [hln']) hkr x
      have HSH : Hid (_ = _) := HS
      have HCH : Hid (_ = _) := HC
      clear hc hat HS hb hrow hln hkr HC
      obtain ⟨n, hn⟩ : ∃ n, n = Ch.count (F.drop (k + 1)) := ⟨_, rfl⟩
      have HN : Hid (_ = _) := hn
      rw [← hn] at hcl ⊢
      clear hn
      have HWr : Hid (wrap64 ((n : Int) + 1) = (n : Int) + 1) := by show _ = _; have := HF.out; unfold wrap64; omega
      cases b
      · go_wp2_with fail
        go_region
        go_wp2_with fail
        have hcnt : Ch.count (F.drop k) = n := by rw [HN.out, HCH.out]; simp
        have ho5 := HO.out (false && decide (Ch.count (F.drop k) ≤ 64))
        rw [HSH.out] at ho5
        go_roundw
        case rel => exact ⟨k, by omega, rfl, by rw [hcnt], ho5.keep ((Turned.refl [] _).drew) (by simp), (ht.setCell (p := ⟨g, k, none⟩) (.inl (by simp)) _).drew⟩
        case measure => simp [intOf]
      · go_wp2_with fail
        go_region
        go_wp2_with fail
        have hcnt : Ch.count (F.drop k) = n + 1 := by rw [HN.out, HCH.out]; simp
        have ho5 := HO.out (true && decide (Ch.count (F.drop k) ≤ 64))
        rw [HSH.out, Bool.true_and, show decide (Ch.count (F.drop k) ≤ 64) = decide ((n : Int) + 1 ≤ 64) from decide_eq_decide.2 (by rw [hcnt]; omega)] at ho5
        rw [HWr.out]
        go_roundw
        case rel => exact ⟨k, by omega, rfl, by rw [hcnt]; rfl, ho5.keep ((Turned.refl [] _).drew) (by simp), (ht.setCell (p := ⟨g, k, none⟩) (.inl (by simp)) _).drew⟩
        case measure => simp [intOf]
    · obtain rfl : j = 0 := by omega
      have hhr := hha3.keep ht (by simp; omega)
      have hrr := hra3.keep ht (by simp; omega)
      obtain ⟨h0, i0⟩ := hhr.2 0 _ rfl
      obtain ⟨h1, i1⟩ := hhr.2 1 _ rfl
      obtain ⟨h2, i2⟩ := hhr.2 2 _ rfl
      obtain ⟨h3, i3⟩ := hhr.2 3 _ rfl
      obtain ⟨r0, q0⟩ := hrr.2 0 _ rfl
      obtain ⟨r1, q1⟩ := hrr.2 1 _ rfl
      obtain ⟨r2, q2⟩ := hrr.2 2 _ rfl
      obtain ⟨r3, q3⟩ := hrr.2 3 _ rfl
      have HRow : Hid _ := hrow
      have HS3 := hsr
      go_wp2_with fail
      have hTw : Turned [w.heap.size] wr ((((wr.setCell ⟨w.heap.size, 0, none⟩ (.int .u16 (f.length : Int))).setCell ⟨w.heap.size, 1, none⟩ (.bool y)).setCell ⟨w.heap.size, 2, none⟩ (.int .u16 l)).setCell ⟨w.heap.size, 3, none⟩ (.int .u32 m)) :=
        ((((Turned.refl [w.heap.size] wr).setCell (p := ⟨w.heap.size, 0, none⟩) (.inl (by simp)) _).setCell (p := ⟨w.heap.size, 1, none⟩) (.inl (by simp)) _).setCell (p := ⟨w.heap.size, 2, none⟩) (.inl (by simp)) _).setCell (p := ⟨w.heap.size, 3, none⟩) (.inl (by simp)) _
      have hfin : RChan p y l m (Ch.keep (f ++ [true])) (.slice (some ⟨g, 0, none⟩) (f.length + 1) cap) ((((wr.setCell ⟨w.heap.size, 0, none⟩ (.int .u16 (f.length : Int))).setCell ⟨w.heap.size, 1, none⟩ (.bool y)).setCell ⟨w.heap.size, 2, none⟩ (.int .u16 l)).setCell ⟨w.heap.size, 3, none⟩ (.int .u32 m)) := by
        have hr : OwnL 4 1 bEnc (.slice (some ⟨g, 0, none⟩) (f.length + 1) cap) (F.take 0 ++ Ch.keep (F.drop 0)) wr := HRow.out
        rw [List.take_zero, List.nil_append, List.drop_zero, HFe.out] at hr
        have hl : (Ch.keep (f ++ [true])).length = f.length + 1 := by rw [Ch.keep_len]; simp
        refine ⟨?_, hr.keep hTw (by rw [hbk]; intro k hk hm; simp at hk hm; omega), by rw [hbk]; simp; omega⟩
        rw [hl]
        exact hsr.keep hTw (by simp; omega)
      have hmov : Moved (p :: blk v) (p :: blk (.slice (some ⟨g, 0, none⟩) (f.length + 1) cap)) w ((((wr.setCell ⟨w.heap.size, 0, none⟩ (.int .u16 (f.length : Int))).setCell ⟨w.heap.size, 1, none⟩ (.bool y)).setCell ⟨w.heap.size, 2, none⟩ (.int .u16 l)).setCell ⟨w.heap.size, 3, none⟩ (.int .u32 m)) := by
        refine ⟨(HT.out.trans ht ?_).trans hTw ?_, ?_⟩
        · intro k hk hl
          simp at hk
          rcases HG.out with h | h
          · rw [hk]; exact List.mem_cons_of_mem _ h
          · omega
        · intro k hk hl
          simp at hk
          omega
        · rw [hbk]
          intro k hk
          simp at hk
          rcases hk with rfl | rfl
          · exact .inl (by simp)
          · rcases HG.out with h | h
            · exact .inl (List.mem_cons_of_mem _ h)
            · exact .inr (by omega)
      exact bodyPost_ret (v := .agg #[.int .u16 (f.length : Int), .bool y, .int .u16 l, .int .u32 m]) (by simp [results, Try.results10, go_sem, r0, r1, r2, r3]) rfl ⟨rfl, _, hfin, hmov⟩
end ChR
end Go.Proofs.Ytloobijdpchppaa

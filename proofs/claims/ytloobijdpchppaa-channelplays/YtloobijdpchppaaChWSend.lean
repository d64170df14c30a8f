/- What the program's Send does (ChW). -/
import Derived.Test.YtloobijdpchppaaChWMem
import Derived.BigRegion
namespace Go.Proofs.Ytloobijdpchppaa
open Go.RowKit
set_option linter.unusedVariables false
set_option linter.unusedSimpArgs false

namespace ChW
theorem most_short {o : List Int} {x : Int} (h : o.length < 64) : Ch.most (o ++ [x]) = o ++ [x] := by
  unfold Ch.most
  rw [List.length_append, List.length_singleton, show o.length + 1 - 64 = 0 by omega, List.drop_zero]
theorem most_long {o : List Int} {x : Int} (h : o.length = 64) : Ch.most (o ++ [x]) = (o ++ [x]).drop 1 := by
  unfold Ch.most
  rw [List.length_append, List.length_singleton, h]
/-- a row ahead of which one is left out -/
theorem row_drop {α : Type} {enc : α → List Value} {g off : Nat} {l : List α} {w : World} (h : RowOf 1 enc (some ⟨g, off, none⟩) l w) : RowOf 1 enc (some ⟨g, off + 1, none⟩) (l.drop 1) w := by
  intro i a hi
  rw [List.getElem?_drop] at hi
  obtain ⟨b, o, e, hl, hc⟩ := h _ _ hi
  cases e
  refine ⟨_, _, rfl, hl, fun j u hu => ?_⟩
  have := hc j u hu
  rw [show off + 1 + i * 1 + j = off + (1 + i) * 1 + j by omega]; exact this
/-- a header is stored whole -/
abbrev put4 (w : World) (b : Nat) (n : Int) (y : Bool) (a m : Int) : World := (((w.setCell ⟨b, 0, none⟩ (.int .u16 n)).setCell ⟨b, 1, none⟩ (.bool y)).setCell ⟨b, 2, none⟩ (.int .u16 a)).setCell ⟨b, 3, none⟩ (.int .u32 m)
theorem turned4 {S : List Nat} {w u : World} (h : Turned S w u) {b : Nat} (hb : b ∈ S ∨ w.heap.size ≤ b) (n : Int) (y : Bool) (a m : Int) : Turned S w (put4 u b n y a m) :=
  (((h.setCell (p := ⟨b, 0, none⟩) hb _).setCell (p := ⟨b, 1, none⟩) hb _).setCell (p := ⟨b, 2, none⟩) hb _).setCell (p := ⟨b, 3, none⟩) hb _

/-- behind the append: nothing is given up -/
theorem fin_short {p g cap R : Nat} {F : List Nat} {s : Ch.S} {v v' : Value} {w u W : World} {x' n : Int} {y : Bool} {a m : Int} (hx : x' = (s.x + 1) % 65536) (hl : s.o.length < 64)
    (hs : Struct p [.int .u16 x', .bool s.y, .int .u16 s.l, .int .u32 s.m, v] u) (hv : v' = .slice (some ⟨g, 0, none⟩) (s.o.length + 1) cap) (ho : NumsAt v' (s.o ++ [s.x]) u) (ht : Turned [p] w u) (hb : ∀ k ∈ blk v', w.heap.size ≤ k) (hp : p < w.heap.size) (hF : p ∈ F)
    (hR : w.heap.size ≤ R) (hgR : g ≠ R) (hW : W = put4 (u.setCell ⟨p, 4, none⟩ v') R n y a m) :
    ∃ F', CH p F' (Ch.send s) W ∧ Moved F F' w W := by
  have hpg : p ∉ blk v' := fun h => by have := hb p h; omega
  have hs1 := hs.set (i := 4) (by simp) v'
  have t1 : Turned [p] u (u.setCell ⟨p, 4, none⟩ v') := (Turned.refl [p] u).setCell (.inl (by simp)) _
  have ho1 : NumsAt v' (s.o ++ [s.x]) (u.setCell ⟨p, 4, none⟩ v') := OwnL.keep ho t1 (by intro k hk hm; simp at hm; subst hm; exact hpg hk)
  have t2 : Turned [R] (u.setCell ⟨p, 4, none⟩ v') W := by rw [hW]; exact turned4 (Turned.refl [R] _) (.inl (by simp)) n y a m
  have hs2 := hs1.keep t2 (by simp; omega)
  have ho2 : NumsAt v' (s.o ++ [s.x]) W := OwnL.keep ho1 t2 (by intro k hk hm; rw [hv] at hk; simp [blk, Value.ownBlock] at hk hm; omega)
  refine ⟨p :: blk v', CH.of (s := Ch.send s) ?_ ?_ hpg, ?_, ?_⟩
  · rw [hx] at hs2; exact hs2
  · show NumsAt v' (Ch.most (s.o ++ [s.x])) W; rw [most_short hl]; exact ho2
  · refine ((ht.trans t1 (fun k hk _ => hk)).trans t2 ?_).mono ?_
    · intro k hk h; simp at hk; omega
    · intro k hk _; simp at hk; subst hk; exact hF
  · intro k hk
    rcases List.mem_cons.1 hk with rfl | hk
    · exact .inl hF
    · exact .inr (hb k hk)
/-- behind the append: the one that was sent first is given up -/
theorem fin_long {p g cap R : Nat} {F : List Nat} {s : Ch.S} {v v' : Value} {w u W : World} {x' n : Int} {y : Bool} {a m : Int} (hx : x' = (s.x + 1) % 65536) (hl : s.o.length = 64)
    (hs : Struct p [.int .u16 x', .bool s.y, .int .u16 s.l, .int .u32 s.m, v] u) (hv : v' = .slice (some ⟨g, 0, none⟩) (s.o.length + 1) cap) (ho : NumsAt v' (s.o ++ [s.x]) u) (ht : Turned [p] w u) (hb : ∀ k ∈ blk v', w.heap.size ≤ k) (hp : p < w.heap.size) (hF : p ∈ F)
    (hR : w.heap.size ≤ R) (hgR : g ≠ R) (hW : W = put4 ((u.setCell ⟨p, 4, none⟩ v').setCell ⟨p, 4, none⟩ (.slice (some ⟨g, 1, none⟩) 64 (cap - 1))) R n y a m) :
    ∃ F', CH p F' (Ch.send s) W ∧ Moved F F' w W := by
  have hgb : g ∈ blk v' := by rw [hv]; simp [blk, Value.ownBlock]
  have hg := hb g hgb
  have hs1 := (hs.set (i := 4) (by simp) v').set (i := 4) (by simp) (.slice (some ⟨g, 1, none⟩) 64 (cap - 1))
  have t1 : Turned [p] u ((u.setCell ⟨p, 4, none⟩ v').setCell ⟨p, 4, none⟩ (.slice (some ⟨g, 1, none⟩) 64 (cap - 1))) := ((Turned.refl [p] u).setCell (p := ⟨p, 4, none⟩) (.inl (by simp)) _).setCell (p := ⟨p, 4, none⟩) (.inl (by simp)) _
  have t2 : Turned [R] ((u.setCell ⟨p, 4, none⟩ v').setCell ⟨p, 4, none⟩ (.slice (some ⟨g, 1, none⟩) 64 (cap - 1))) W := by rw [hW]; exact turned4 (Turned.refl [R] _) (.inl (by simp)) n y a m
  have hs2 := hs1.keep t2 (by simp; omega)
  obtain ⟨oa, cap', hv', hr, hd⟩ := ho.row
  rw [hv] at hv'
  simp at hv'
  obtain ⟨rfl, rfl⟩ := hv'
  have hgu := hd _ rfl
  have hr2 := (row_drop hr).turned ((t1.mono (S' := [p, R]) (fun k hk _ => (by simp at hk; simp [hk]))).trans t2 (fun k hk _ => (by simp at hk; simp [hk]))) (by intro a ha; cases ha; simp; omega)
  have hl2 : ((s.o ++ [s.x]).drop 1).length = 64 := by rw [List.length_drop, List.length_append, List.length_singleton, hl]
  refine ⟨p :: [g], ⟨.slice (some ⟨g, 1, none⟩) 64 (cap - 1), ?_, ⟨some ⟨g, 1, none⟩, cap - 1, ?_, ?_, ?_⟩, rfl, ?_⟩, ?_, ?_⟩
  · rw [hx] at hs2; exact hs2
  · show _ = Value.slice _ (Ch.most (s.o ++ [s.x])).length _
    rw [most_long hl, hl2]
  · show RowOf 1 nEnc _ (Ch.most (s.o ++ [s.x])) W
    rw [most_long hl]; exact hr2
  · intro a ha; cases ha
    exact Nat.lt_of_lt_of_le hgu (Nat.le_trans t1.size t2.size)
  · simp [rblk]; omega
  · refine ((ht.trans t1 (fun k hk _ => hk)).trans t2 ?_).mono ?_
    · intro k hk h; simp at hk; omega
    · intro k hk _; simp at hk; subst hk; exact hF
  · intro k hk
    rcases List.mem_cons.1 hk with rfl | hk
    · exact .inl hF
    · simp at hk; subst hk; exact .inr hg

theorem one_past {α : Type} {enc : α → List Value} {a : α} {x : Value} (he : enc a = [x]) (w : World) (t : TypeId) {u : World} (ht : Turned [] (w.alloc (.cells #[x] t)).drew u) : ∀ j y, ([a].flatMap enc)[j]? = some y → u.cell? ⟨w.heap.size, 0 + j, none⟩ = some y := by
  intro j y hj
  rw [ht.cell (by show w.heap.size < (w.alloc _).heap.size; simp) (by simp)]
  exact one_cell he w t j y hj
/-- behind an append to what a callee built -/
theorem push_mid {v v' : Value} {wa u u' w' : World} (hb : ∀ k ∈ blk v, wa.heap.size ≤ k) (h1 : Turned [] wa u) (h2 : Turned [] u u') (h3 : Turned (blk v) u' w') (hb' : blk v' = blk v ∨ blk v' = [u'.heap.size]) :
    Turned [] wa w' ∧ ∀ k ∈ blk v', wa.heap.size ≤ k := by
  have h12 := h1.trans h2 (by simp)
  refine ⟨h12.trans h3 (fun k hk hl => by have := hb k hk; omega), fun k hk => ?_⟩
  rcases hb' with h | h
  · rw [h] at hk; exact hb k hk
  · rw [h] at hk; simp at hk; have := h12.size; omega
theorem at_end {l : List Int} {x : Int} {v : Value} {w : World} (h : NumsAt v (l ++ [x]) w) : ∃ g cap, v = .slice (some ⟨g, 0, none⟩) (l.length + 1) cap ∧ blk v = [g] ∧ g < w.heap.size ∧ l.length + 1 ≤ cap ∧ cap ≤ maxLen := by
  obtain ⟨g, cap, hv, hb, hg, _⟩ := OwnL.cell h nEnc_len (i := l.length) (a := x) (by simp)
  obtain ⟨oa, cap', hv', h1, h2⟩ := OwnL.form h
  rw [hv] at hv'
  simp at hv' h1
  obtain ⟨_, rfl⟩ := hv'
  exact ⟨g, cap, by rw [hv]; simp, hb, hg, h1, h2⟩
theorem wrap16 {x : Int} : IntKind.u16.wrap x = x % 65536 := by
  simp [IntKind.wrap, IntKind.bits, IntKind.signed]

set_option maxRecDepth 20000 in
set_option maxHeartbeats 4000000 in
theorem send_any (p : Nat) (F : List Nat) (s : Ch.S) (w : World) (h : CH p F s w) (hw : Ch.Wf s) :
    Calls Try.prog 9 #[.pointer (some ⟨p, 0, none⟩)] w fun e w' => e = .returned (.agg #[.int .u16 s.x, .bool s.y, .int .u16 s.l, .int .u32 s.m]) ∧ ∃ F', CH p F' (Ch.send s) w' ∧ Moved F F' w w' := by
  have hF := h.at
  have hlt := h.lt
  have hp := hlt p hF
  have hco := hw.o1
  obtain ⟨v, hs, hrow, hFe, hn⟩ := h
  obtain ⟨c0, f0⟩ := hs.2 0 _ rfl
  obtain ⟨c1, f1⟩ := hs.2 1 _ rfl
  obtain ⟨c2, f2⟩ := hs.2 2 _ rfl
  obtain ⟨c3, f3⟩ := hs.2 3 _ rfl
  have hne : ¬ p = w.heap.size := by omega
  have hne1 : ¬ p = w.heap.size + 1 := by omega
  go_enter Try.func9, Try.ntmps9
  go_wp2_with fail
  go_region
  go_wp2_with fail
  obtain ⟨x', hx'⟩ : ∃ x', x' = IntKind.u16.wrap (s.x + 1) := ⟨_, rfl⟩
  rw [← hx']
  rw [wrap16] at hx'
  obtain ⟨wa, hwa⟩ : ∃ wa, wa = (((w.setCell ⟨p, 0, none⟩ (.int .u16 x')).alloc (.cells #[.int .u16 0, .bool false, .int .u16 0, .int .u32 0] 38)).alloc (.cells #[.int .u16 s.x, .bool s.y, .int .u16 s.l, .int .u32 s.m] 38)).drew := ⟨_, rfl⟩
  rw [← hwa]
  have hta : Turned [p] w wa := by rw [hwa]; exact ((((Turned.refl [p] w).setCell (p := ⟨p, 0, none⟩) (.inl (by simp)) _).alloc _).alloc _).drew
  have hsz : wa.heap.size = w.heap.size + 2 := by rw [hwa]; simp
  have hsa : Struct p [.int .u16 x', .bool s.y, .int .u16 s.l, .int .u32 s.m, v] wa := by
    rw [hwa]; exact (hs.set (i := 0) (by simp) _).keep ((((Turned.refl [] _).alloc _).alloc _).drew) (by simp)
  have hra : Struct w.heap.size [.int .u16 0, .bool false, .int .u16 0, .int .u32 0] wa := by
    rw [hwa]
    have := Struct.new (w.setCell ⟨p, 0, none⟩ (.int .u16 x')) [.int .u16 0, .bool false, .int .u16 0, .int .u32 0] 38
    rw [show (w.setCell ⟨p, 0, none⟩ (.int .u16 x')).heap.size = w.heap.size by simp] at this
    exact this.keep (((Turned.refl [] _).alloc _).drew) (by simp)
  have hha : Struct (w.heap.size + 1) [.int .u16 s.x, .bool s.y, .int .u16 s.l, .int .u32 s.m] wa := by
    rw [hwa]
    have := Struct.new ((w.setCell ⟨p, 0, none⟩ (.int .u16 x')).alloc (.cells #[.int .u16 0, .bool false, .int .u16 0, .int .u32 0] 38)) [.int .u16 s.x, .bool s.y, .int .u16 s.l, .int .u32 s.m] 38
    rw [show ((w.setCell ⟨p, 0, none⟩ (.int .u16 x')).alloc (.cells #[.int .u16 0, .bool false, .int .u16 0, .int .u32 0] 38)).heap.size = w.heap.size + 1 by simp] at this
    exact this.keep ((Turned.refl [] _).drew) (by simp)
  clear hwa
  obtain ⟨oa, cap0, rfl, hr, hd⟩ := hrow
  have hCa : CH p F ⟨x', s.y, s.l, s.m, s.o⟩ wa := ⟨_, hsa, ⟨oa, cap0, rfl, hr.turned hta (by intro a ha; subst ha; simpa [rblk] using fun e => hn (by simp [rblk, e])), fun a ha => Nat.lt_of_lt_of_le (hd a ha) hta.size⟩, hFe, hn⟩
  have kO : ∀ (u : World), Turned [] wa u → Calls Try.prog 14 #[.pointer (some ⟨p, 0, none⟩)] u fun e w' => ∃ v', e = .returned v' ∧ NumsAt v' s.o w' ∧ Turned [] u w' ∧ ∀ k ∈ blk v', u.heap.size ≤ k :=
    fun u hu => open_any p F ⟨x', s.y, s.l, s.m, s.o⟩ u (hCa.keep hu (by simp)) hco
  have hx0 : ∀ u, Turned [] wa u → u.cell? ⟨w.heap.size + 1, 0, none⟩ = some (.int .u16 s.x) := fun u hu => ((hha.keep hu (by simp)).2 0 _ rfl).1
  have e1 := hx0 wa.drew (Turned.refl [] _).drew
  have b1 : s.o.length + 1 ≤ maxLen := by unfold maxLen; omega
  have b2 : (s.o.length + 1) * 2 ≤ 140737488355328 := by omega
  clear c0 f0 c1 f1 c2 f2 c3 f3 hCa
  go_region_law (first
    | (refine step_push elem_u16 rfl _ _ rfl rfl (OwnL.keep ho2 ((Turned.refl [] u2).alloc _) (by simp)) u2.heap.size 0 1 1 [s.x] rfl rfl nEnc_len nEnc_one (one_cell rfl u2 _) b1 b2 ?_; intro v3 w3 ho3 ht3 hb3; obtain ⟨hT3, hB3⟩ := push_mid hb2 hu2 ((Turned.refl [] u2).alloc _) ht3 hb3; have hs3 := hsa.keep hT3 (by simp); obtain ⟨c4, f4⟩ := hs3.2 4 _ rfl; obtain ⟨g, cap, hv3, hbk, hgl⟩ := at_end ho3; subst hv3)
    | (refine step_push elem_u16 rfl _ _ rfl rfl ho2 (w.heap.size + 2) 0 1 1 [s.x] rfl rfl nEnc_len nEnc_one (by rw [← hsz]; exact one_past rfl wa _ ht2) b1 b2 ?_; intro v3 w3 ho3 ht3 hb3; obtain ⟨hT3, hB3⟩ := push_mid hb2 hu2 (Turned.refl [] u2) ht3 hb3; have hs3 := hsa.keep hT3 (by simp); obtain ⟨c4, f4⟩ := hs3.2 4 _ rfl; obtain ⟨g, cap, hv3, hbk, hgl⟩ := at_end ho3; subst hv3)
    | (rw [if_pos (by rfl)]; go_simp; go_at_call 14; (with_reducible refine (kO _ (by repeat (first | exact Turned.refl [] _ | refine Turned.drew ?_ | refine Turned.alloc ?_ _))).mono ?_); rintro e u2 ⟨v2, rfl, ho2, ht2, hb2⟩; have hu2 : Turned [] wa u2 := Turned.trans (by repeat (first | exact Turned.refl [] _ | refine Turned.drew ?_ | refine Turned.alloc ?_ _)) ht2 (by simp); replace hb2 : ∀ k ∈ blk v2, wa.heap.size ≤ k := fun k hk => Nat.le_trans (by simp) (hb2 k hk)))
  all_goals
    have hgB : w.heap.size + 2 ≤ g := by have := hB3 g (by rw [hbk]; simp); omega
    have hpg : ¬ p = g := by omega
    have hhe := hha.keep hT3 (by simp)
    have hre := hra.keep hT3 (by simp)
    obtain ⟨h0, i0⟩ := hhe.2 0 _ rfl
    obtain ⟨h1, i1⟩ := hhe.2 1 _ rfl
    obtain ⟨h2, i2⟩ := hhe.2 2 _ rfl
    obtain ⟨h3, i3⟩ := hhe.2 3 _ rfl
    obtain ⟨r0, q0⟩ := hre.2 0 _ rfl
    obtain ⟨r1, q1⟩ := hre.2 1 _ rfl
    obtain ⟨r2, q2⟩ := hre.2 2 _ rfl
    obtain ⟨r3, q3⟩ := hre.2 3 _ rfl
    have HT : Hid (Turned [p] w w3) := hta.trans hT3 (by simp)
    have HB : Hid (∀ k ∈ blk (.slice (some ⟨g, 0, none⟩) (s.o.length + 1) cap), w.heap.size ≤ k) := fun k hk => by have := hB3 k hk; omega
    have HS : Hid (Struct p _ w3) := hs3
    have HO : Hid (NumsAt _ (s.o ++ [s.x]) w3) := ho3
    have hcap : (s.o.length : Int) + 1 ≤ (cap : Int) := by omega
    clear hs3 ho3 hB3 hbk hhe hre hT3
    rcases (show s.o.length < 64 ∨ s.o.length = 64 by omega) with hl | hl
    · have hl' : ¬ (64 : Int) < (s.o.length : Int) + 1 := by omega
      have HL : Hid (s.o.length < 64) := hl
      clear hl
      go_wp2_with fail
      exact bodyPost_ret (v := .agg #[.int .u16 s.x, .bool s.y, .int .u16 s.l, .int .u32 s.m]) (by simp [results, Try.results9, go_sem, r0, r1, r2, r3]) rfl ⟨rfl, fin_short hx' HL.out HS.out rfl HO.out HT.out HB.out hp (by first | exact hF | simp) (Nat.le_refl _) (by omega) rfl⟩
    · have hcap' : (65 : Int) ≤ (cap : Int) := by omega
      have HL : Hid (s.o.length = 64) := hl
      go_wp2_with fail
      exact bodyPost_ret (v := .agg #[.int .u16 s.x, .bool s.y, .int .u16 s.l, .int .u32 s.m]) (by simp [results, Try.results9, go_sem, r0, r1, r2, r3]) rfl ⟨rfl, fin_long hx' HL.out HS.out rfl HO.out HT.out HB.out hp (by first | exact hF | simp) (Nat.le_refl _) (by omega) (by rw [HL.out])⟩
end ChW
end Go.Proofs.Ytloobijdpchppaa

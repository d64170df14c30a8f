/- Joined: WdCopy, RandWalks, EntWForm, EntWList, BoxAround, WdSmall, WdFind, WdIns, MvRef, WdCome, TilPlain5. -/
import Derived.Test.YtgabgkgokmeaeaaJ3
import Derived.Test.YtgabgkgokmeaeaaRows
import Derived.WalkKit
import Derived.WalkSpells
import Derived.WalkSmall
import Derived.Below
import Derived.Lib.Overlaps
/- A world's copy, of the call's own: its lists cloned; and what is so turned. The program's (WdW). -/
namespace Go.Proofs.Ytgabgkgokmeaeaa
open Go.RowKit
set_option linter.unusedVariables false
set_option linter.unusedSimpArgs false

namespace WdW
set_option maxRecDepth 20000 in
set_option maxHeartbeats 1000000 in
theorem cloneB_any (oa : Option Addr) (n cap : Nat) (bs : List Bool) (w : World) (hn : bs.length = n) (hr : RowOf 1 tbEnc oa bs w) (hl : n ≤ 1100) :
    Calls Try.prog 25 #[.slice oa n cap] w fun e w' => ∃ oa' cap', e = .returned (.slice oa' n cap') ∧ OwnL 4 1 tbEnc (.slice oa' n cap') bs w' ∧ Turned [] w w' ∧ ∀ k ∈ blk (.slice oa' n cap'), w.heap.size ≤ k := by
  have fin : ∀ (v' : Value) (e : Ending) (w' : World), e = .returned v' → OwnL 4 1 tbEnc v' bs w' → Turned [] w w' → (∀ k ∈ blk v', w.heap.size ≤ k) → ∃ oa' cap', e = .returned (.slice oa' n cap') ∧ OwnL 4 1 tbEnc (.slice oa' n cap') bs w' ∧ Turned [] w w' ∧ ∀ k ∈ blk (.slice oa' n cap'), w.heap.size ≤ k := by
    intro v' e w' he ho ht hb
    obtain ⟨oa', cap', hv, _, _⟩ := ho.form
    rw [hn] at hv
    subst hv
    exact ⟨oa', cap', he, ho, ht, hb⟩
  have hnil : ∀ (u : World) (a : Option Addr) (l c : Nat), (binOp .eql 22 (.slice a l c) (.slice none 0 0)).run Try.prog u = .ok (.bool a.isNone) u := fun u a l c => Lib.run_eql_slice_nil (P := Try.prog) u 22 4 a l c 0 0 (by kernel_rfl)
  cases oa with
  | none =>
    have hb : bs = [] := by
      cases bs with
      | nil => rfl
      | cons a r => obtain ⟨b, off, ho, _⟩ := hr 0 a rfl; cases ho
    subst hb
    go_enter Try.func25, Try.ntmps25
    go_wp2
    go_ret
    exact fin _ _ _ rfl (OwnL.nil _ _ _ _) (Turned.refl _ _) (by simp [blk, Value.ownBlock])
  | some a =>
    go_enter Try.func25, Try.ntmps25
    have h0 : OwnL 4 1 tbEnc (.slice (some ⟨w.heap.size, 0, none⟩) 0 0) ([] : List Bool) (w.alloc (.cells #[] 4)) := World.ownsRow_made (e := 4) (size := 1) w #[] 0 (Nat.zero_le _) (Nat.zero_le _) rfl
    go_wp2_with (at_builtin; refine wp_pushAll (v := .slice (some ⟨w.heap.size, 0, none⟩) 0 0) elem_tb rfl (.tmp 5) (.tmp 6) rfl rfl h0 (some a) n cap bs hn rfl (hr.turned ((Turned.refl [] w).alloc _) (by simp)) tbEnc_len tbEnc_one (by unfold maxLen; simp; omega) (by simp; omega) ?_; intro v' w1 ho1 ht1 hb1)
    go_ret
    refine fin v' _ _ rfl ?_ ?_ ?_
    · simpa using ho1
    · refine ((Turned.refl [] w).alloc _).trans ht1 ?_
      intro k hk hl
      simp [blk, Value.ownBlock] at hk
      omega
    · intro k hk
      rcases hb1 with h | h
      · rw [h] at hk; simp [blk, Value.ownBlock] at hk; omega
      · rw [h] at hk; simp at hk; omega
end WdW

namespace WdW
set_option maxRecDepth 20000 in
set_option maxHeartbeats 1000000 in
theorem cloneV_any (oa : Option Addr) (n cap : Nat) (bs : List (Int × Int)) (w : World) (hn : bs.length = n) (hr : RowOf 2 tvEnc oa bs w) (hl : n ≤ 1100) :
    Calls Try.prog 26 #[.slice oa n cap] w fun e w' => ∃ oa' cap', e = .returned (.slice oa' n cap') ∧ OwnL 47 2 tvEnc (.slice oa' n cap') bs w' ∧ Turned [] w w' ∧ ∀ k ∈ blk (.slice oa' n cap'), w.heap.size ≤ k := by
  have fin : ∀ (v' : Value) (e : Ending) (w' : World), e = .returned v' → OwnL 47 2 tvEnc v' bs w' → Turned [] w w' → (∀ k ∈ blk v', w.heap.size ≤ k) → ∃ oa' cap', e = .returned (.slice oa' n cap') ∧ OwnL 47 2 tvEnc (.slice oa' n cap') bs w' ∧ Turned [] w w' ∧ ∀ k ∈ blk (.slice oa' n cap'), w.heap.size ≤ k := by
    intro v' e w' he ho ht hb
    obtain ⟨oa', cap', hv, _, _⟩ := ho.form
    rw [hn] at hv
    subst hv
    exact ⟨oa', cap', he, ho, ht, hb⟩
  have hnil : ∀ (u : World) (a : Option Addr) (l c : Nat), (binOp .eql 23 (.slice a l c) (.slice none 0 0)).run Try.prog u = .ok (.bool a.isNone) u := fun u a l c => Lib.run_eql_slice_nil (P := Try.prog) u 23 47 a l c 0 0 (by kernel_rfl)
  cases oa with
  | none =>
    have hb : bs = [] := by
      cases bs with
      | nil => rfl
      | cons a r => obtain ⟨b, off, ho, _⟩ := hr 0 a rfl; cases ho
    subst hb
    go_enter Try.func26, Try.ntmps26
    go_wp2
    go_ret
    exact fin _ _ _ rfl (OwnL.nil _ _ _ _) (Turned.refl _ _) (by simp [blk, Value.ownBlock])
  | some a =>
    go_enter Try.func26, Try.ntmps26
    have h0 : OwnL 47 2 tvEnc (.slice (some ⟨w.heap.size, 0, none⟩) 0 0) ([] : List (Int × Int)) (w.alloc (.cells #[] 47)) := World.ownsRow_made (e := 47) (size := 2) w #[] 0 (Nat.zero_le _) (Nat.zero_le _) rfl
    go_wp2_with (at_builtin; refine wp_pushAll (v := .slice (some ⟨w.heap.size, 0, none⟩) 0 0) elem_tv rfl (.tmp 5) (.tmp 6) rfl rfl h0 (some a) n cap bs hn rfl (hr.turned ((Turned.refl [] w).alloc _) (by simp)) tvEnc_len tvEnc_one (by unfold maxLen; simp; omega) (by simp; omega) ?_; intro v' w1 ho1 ht1 hb1)
    go_ret
    refine fin v' _ _ rfl ?_ ?_ ?_
    · simpa using ho1
    · refine ((Turned.refl [] w).alloc _).trans ht1 ?_
      intro k hk hl
      simp [blk, Value.ownBlock] at hk
      omega
    · intro k hk
      rcases hb1 with h | h
      · rw [h] at hk; simp [blk, Value.ownBlock] at hk; omega
      · rw [h] at hk; simp at hk; omega
end WdW

namespace WdW
set_option maxRecDepth 20000 in
set_option maxHeartbeats 1000000 in
theorem cloneE_any (oa : Option Addr) (n cap : Nat) (bs : List En.E) (w : World) (hn : bs.length = n) (hr : RowOf 8 enEnc oa bs w) (hl : n ≤ 1100) :
    Calls Try.prog 27 #[.slice oa n cap] w fun e w' => ∃ oa' cap', e = .returned (.slice oa' n cap') ∧ OwnL 49 8 enEnc (.slice oa' n cap') bs w' ∧ Turned [] w w' ∧ ∀ k ∈ blk (.slice oa' n cap'), w.heap.size ≤ k := by
  have fin : ∀ (v' : Value) (e : Ending) (w' : World), e = .returned v' → OwnL 49 8 enEnc v' bs w' → Turned [] w w' → (∀ k ∈ blk v', w.heap.size ≤ k) → ∃ oa' cap', e = .returned (.slice oa' n cap') ∧ OwnL 49 8 enEnc (.slice oa' n cap') bs w' ∧ Turned [] w w' ∧ ∀ k ∈ blk (.slice oa' n cap'), w.heap.size ≤ k := by
    intro v' e w' he ho ht hb
    obtain ⟨oa', cap', hv, _, _⟩ := ho.form
    rw [hn] at hv
    subst hv
    exact ⟨oa', cap', he, ho, ht, hb⟩
  have hnil : ∀ (u : World) (a : Option Addr) (l c : Nat), (binOp .eql 32 (.slice a l c) (.slice none 0 0)).run Try.prog u = .ok (.bool a.isNone) u := fun u a l c => Lib.run_eql_slice_nil (P := Try.prog) u 32 49 a l c 0 0 (by kernel_rfl)
  cases oa with
  | none =>
    have hb : bs = [] := by
      cases bs with
      | nil => rfl
      | cons a r => obtain ⟨b, off, ho, _⟩ := hr 0 a rfl; cases ho
    subst hb
    go_enter Try.func27, Try.ntmps27
    go_wp2
    go_ret
    exact fin _ _ _ rfl (OwnL.nil _ _ _ _) (Turned.refl _ _) (by simp [blk, Value.ownBlock])
  | some a =>
    go_enter Try.func27, Try.ntmps27
    have h0 : OwnL 49 8 enEnc (.slice (some ⟨w.heap.size, 0, none⟩) 0 0) ([] : List En.E) (w.alloc (.cells #[] 49)) := World.ownsRow_made (e := 49) (size := 8) w #[] 0 (Nat.zero_le _) (Nat.zero_le _) rfl
    go_wp2_with (at_builtin; refine wp_pushAll (v := .slice (some ⟨w.heap.size, 0, none⟩) 0 0) elem_en rfl (.tmp 5) (.tmp 6) rfl rfl h0 (some a) n cap bs hn rfl (hr.turned ((Turned.refl [] w).alloc _) (by simp)) enEnc_len enEnc_one (by unfold maxLen; simp; omega) (by simp; omega) ?_; intro v' w1 ho1 ht1 hb1)
    go_ret
    refine fin v' _ _ rfl ?_ ?_ ?_
    · simpa using ho1
    · refine ((Turned.refl [] w).alloc _).trans ht1 ?_
      intro k hk hl
      simp [blk, Value.ownBlock] at hk
      omega
    · intro k hk
      rcases hb1 with h | h
      · rw [h] at hk; simp [blk, Value.ownBlock] at hk; omega
      · rw [h] at hk; simp at hk; omega
end WdW

/-- a world that the call made, above block B -/
structure Fresh (W : Wd.W) (V : WV) (B : Nat) (w : World) : Prop where
  tells : Tells W V w
  own : OwnL 49 8 enEnc (.slice V.ol V.nl V.cl) W.l w
  ga : ∀ a, V.oa = some a → B ≤ a.block
  gb : ∀ a, V.ob = some a → B ≤ a.block
  gl : ∀ k ∈ blk (.slice V.ol V.nl V.cl), B ≤ k
  la : ∀ a, V.oa = some a → a.block < w.heap.size
  lb : ∀ a, V.ob = some a → a.block < w.heap.size
  na : ∀ a, V.oa = some a → a.block ∉ blk (.slice V.ol V.nl V.cl)
  nb : ∀ a, V.ob = some a → a.block ∉ blk (.slice V.ol V.nl V.cl)
theorem mem_blk {ol : Option Addr} {n c : Nat} {k : Nat} : k ∈ blk (.slice ol n c) ↔ ∃ a, ol = some a ∧ a.block = k := by
  cases ol with
  | none => simp [blk, Value.ownBlock]
  | some a => simp [blk, Value.ownBlock, eq_comm]
theorem Fresh.at_ge {W : Wd.W} {V : WV} {B : Nat} {w : World} (h : Fresh W V B w) {k : Nat} (hk : V.At k) : B ≤ k := by
  rcases hk with ⟨_, a, ha, rfl⟩ | ⟨_, a, ha, rfl⟩ | ⟨_, a, ha, rfl⟩
  · exact h.ga a ha
  · exact h.gb a ha
  · exact h.gl _ (mem_blk.2 ⟨a, ha, rfl⟩)
theorem Fresh.calm {W : Wd.W} {V : WV} {B : Nat} {w w' : World} (h : Fresh W V B w) (ht : Turned [] w w') : Fresh W V B w' :=
  ⟨h.tells.calm ht, h.own.keep ht (by simp), h.ga, h.gb, h.gl, fun a ha => Nat.lt_of_lt_of_le (h.la a ha) ht.size, fun a ha => Nat.lt_of_lt_of_le (h.lb a ha) ht.size, h.na, h.nb⟩
/-- apart from what was turned -/
theorem Fresh.keep {W : Wd.W} {V : WV} {B : Nat} {w w' : World} {S : List Nat} (h : Fresh W V B w) (ht : Turned S w w') (hS : ∀ k ∈ S, k < B) : Fresh W V B w' := by
  have n1 : ∀ a, V.oa = some a → a.block ∉ S := fun a ha hm => by have := h.ga a ha; have := hS _ hm; omega
  have n2 : ∀ a, V.ob = some a → a.block ∉ S := fun a ha hm => by have := h.gb a ha; have := hS _ hm; omega
  have n3 : ∀ k ∈ blk (.slice V.ol V.nl V.cl), k ∉ S := fun k hk hm => by have := h.gl k hk; have := hS _ hm; omega
  refine ⟨⟨h.tells.mw, h.tells.mh, h.tells.nw, h.tells.ns, h.tells.st, h.tells.tk, h.tells.nl, h.tells.map.turned ht n1 n2, ?_⟩, h.own.keep ht n3, h.ga, h.gb, h.gl, fun a ha => Nat.lt_of_lt_of_le (h.la a ha) ht.size, fun a ha => Nat.lt_of_lt_of_le (h.lb a ha) ht.size, h.na, h.nb⟩
  exact h.tells.row.turned ht fun a ha => n3 _ (mem_blk.2 ⟨a, ha, rfl⟩)
theorem Fresh.away {W : Wd.W} {V : WV} {B : Nat} {w w' : World} {S : List Nat} (h : Fresh W V B w) (ht : Turned S w w') (n1 : ∀ a, V.oa = some a → a.block ∉ S) (n2 : ∀ a, V.ob = some a → a.block ∉ S) (n3 : ∀ k ∈ blk (.slice V.ol V.nl V.cl), k ∉ S) : Fresh W V B w' := by
  refine ⟨⟨h.tells.mw, h.tells.mh, h.tells.nw, h.tells.ns, h.tells.st, h.tells.tk, h.tells.nl, h.tells.map.turned ht n1 n2, ?_⟩, h.own.keep ht n3, h.ga, h.gb, h.gl, fun a ha => Nat.lt_of_lt_of_le (h.la a ha) ht.size, fun a ha => Nat.lt_of_lt_of_le (h.lb a ha) ht.size, h.na, h.nb⟩
  exact h.tells.row.turned ht fun a ha => n3 _ (mem_blk.2 ⟨a, ha, rfl⟩)
/-- its list, state and tick turned -/
theorem Fresh.turn {W : Wd.W} {V : WV} {B : Nat} {w w' : World} (h : Fresh W V B w) {l : List En.E} {ol : Option Addr} {nl cl : Nat} (ho : OwnL 49 8 enEnc (.slice ol nl cl) l w')
    (ht : Turned (blk (.slice V.ol V.nl V.cl)) w w') (hB : B ≤ w.heap.size) (hb : blk (.slice ol nl cl) = blk (.slice V.ol V.nl V.cl) ∨ ∀ k ∈ blk (.slice ol nl cl), w.heap.size ≤ k) {st : Nat} {tk sv tv : Int} (hs : sv = (st : Int)) (htk : tv = tk) :
    Fresh ⟨W.m, st, tk, l⟩ ⟨V.mw, V.mh, V.oa, V.nw, V.ca, V.ob, V.ns, V.cb, sv, tv, ol, nl, cl⟩ B w' := by
  obtain ⟨oa', cap', hv, _, _, hr, _⟩ := ho.rowOf enEnc_len
  simp at hv
  obtain ⟨rfl, hnl, rfl⟩ := hv
  have k1 : ∀ a, V.oa = some a → a.block ∉ blk (.slice ol nl cl) := fun a ha => by
    rcases hb with h1 | h1
    · rw [h1]; exact h.na a ha
    · intro hm; have := h1 _ hm; have := h.la a ha; omega
  have k2 : ∀ a, V.ob = some a → a.block ∉ blk (.slice ol nl cl) := fun a ha => by
    rcases hb with h1 | h1
    · rw [h1]; exact h.nb a ha
    · intro hm; have := h1 _ hm; have := h.lb a ha; omega
  have k3 : ∀ k ∈ blk (.slice ol nl cl), B ≤ k := fun k hk => by
    rcases hb with h1 | h1
    · rw [h1] at hk; exact h.gl k hk
    · exact Nat.le_trans hB (h1 k hk)
  exact ⟨⟨h.tells.mw, h.tells.mh, h.tells.nw, h.tells.ns, hs, htk, hnl, h.tells.map.turned ht h.na h.nb, hr⟩, ho, h.ga, h.gb, k3, fun a ha => Nat.lt_of_lt_of_le (h.la a ha) ht.size, fun a ha => Nat.lt_of_lt_of_le (h.lb a ha) ht.size, k1, k2⟩

namespace WdW
set_option maxRecDepth 20000 in
set_option maxHeartbeats 4000000 in
theorem copied_any (W : Wd.W) (V : WV) (hl : W.l.length ≤ 1100) (w : World) (hV : Tells W V w) :
    Calls Try.prog 12 #[wvVal V] w fun e w' => ∃ V', e = .returned (wvVal V') ∧ Fresh W V' w.heap.size w' ∧ Turned [] w w' := by
  obtain ⟨W0, hW0⟩ : ∃ W0, W0 = (w.alloc (.cells #[.int .i64 V.mw, .int .i64 V.mh, .slice V.oa V.nw V.ca, .slice V.ob V.ns V.cb, .int .u64 V.st, .int .i64 V.tk, .slice V.ol V.nl V.cl] 34)).alloc (.cells #[.int .i64 0, .int .i64 0, .slice none 0 0, .slice none 0 0, .int .u64 0, .int .i64 0, .slice none 0 0] 34) := ⟨_, rfl⟩
  obtain ⟨B, hB⟩ : ∃ b, b = w.heap.size := ⟨_, rfl⟩
  obtain ⟨D, hD⟩ : ∃ b, b = w.heap.size + 1 := ⟨_, rfl⟩
  have hT : Turned [] w W0 := by rw [hW0]; exact (((Turned.refl [] w).alloc _).alloc _)
  have hS : Struct B [.int .i64 V.mw, .int .i64 V.mh, .slice V.oa V.nw V.ca, .slice V.ob V.ns V.cb, .int .u64 V.st, .int .i64 V.tk, .slice V.ol V.nl V.cl] W0 := by
    have h0 := Struct.new w [.int .i64 V.mw, .int .i64 V.mh, .slice V.oa V.nw V.ca, .slice V.ob V.ns V.cb, .int .u64 V.st, .int .i64 V.tk, .slice V.ol V.nl V.cl] 34
    rw [← hB] at h0
    rw [hW0]; exact h0.keep ((Turned.refl [] _).alloc _) (by simp)
  have hR : Struct D [.int .i64 0, .int .i64 0, .slice none 0 0, .slice none 0 0, .int .u64 0, .int .i64 0, .slice none 0 0] W0 := by
    have h0 := Struct.new (w.alloc (.cells #[.int .i64 V.mw, .int .i64 V.mh, .slice V.oa V.nw V.ca, .slice V.ob V.ns V.cb, .int .u64 V.st, .int .i64 V.tk, .slice V.ol V.nl V.cl] 34)) [.int .i64 0, .int .i64 0, .slice none 0 0, .slice none 0 0, .int .u64 0, .int .i64 0, .slice none 0 0] 34
    rw [show (w.alloc (.cells #[.int .i64 V.mw, .int .i64 V.mh, .slice V.oa V.nw V.ca, .slice V.ob V.ns V.cb, .int .u64 V.st, .int .i64 V.tk, .slice V.ol V.nl V.cl] 34)).heap.size = w.heap.size + 1 by simp, ← hD] at h0
    rw [hW0]; exact h0
  have hBw : w.heap.size ≤ B := by omega
  have hDw : w.heap.size ≤ D := by omega
  have nBD : B ≠ D := by omega
  have nDB : D ≠ B := by omega
  have hM := hV.map.calm hT
  have hRow := hV.row.turned hT (by simp)
  have hWB : B < W0.heap.size := hS.1
  have kw : ∀ u, Turned [B] W0 u → RowOf 1 tbEnc V.oa W.m.ws u := fun u h => by
    refine row_turned hM.ws h fun hn a ha hm => ?_
    have h1 := row_block hV.map.ws hn ha
    simp at hm
    omega
  have ks : ∀ u, Turned [B] W0 u → RowOf 2 tvEnc V.ob W.m.sp u := fun u h => by
    refine row_turned hM.sp h fun hn a ha hm => ?_
    have h1 := row_block hV.map.sp hn ha
    simp at hm
    omega
  have kl : ∀ u, Turned [B] W0 u → RowOf 8 enEnc V.ol W.l u := fun u h => by
    refine row_turned hRow h fun hn a ha hm => ?_
    have h1 := row_block hV.row hn ha
    simp at hm
    omega
  have ka := fun u (h : Turned [B] W0 u) => cloneB_any V.oa V.nw V.ca W.m.ws u hV.nw.symm (kw u h) (by rw [hV.nw]; exact hV.map.lw)
  have kb := fun u (h : Turned [B] W0 u) => cloneV_any V.ob V.ns V.cb W.m.sp u hV.ns.symm (ks u h) (by rw [hV.ns]; exact hV.map.ls)
  have kc := fun u (h : Turned [B] W0 u) => cloneE_any V.ol V.nl V.cl W.l u hV.nl.symm (kl u h) (by rw [hV.nl]; exact hl)
  have HV : Hid (Tells W V w) := hV
  have c0 := (hS.2 0 _ rfl).1
  have f0 := (hS.2 0 _ rfl).2
  have c1 := (hS.2 1 _ rfl).1
  have f1 := (hS.2 1 _ rfl).2
  have c2 := (hS.2 2 _ rfl).1
  have f2 := (hS.2 2 _ rfl).2
  have c3 := (hS.2 3 _ rfl).1
  have f3 := (hS.2 3 _ rfl).2
  have c4 := (hS.2 4 _ rfl).1
  have f4 := (hS.2 4 _ rfl).2
  have c5 := (hS.2 5 _ rfl).1
  have f5 := (hS.2 5 _ rfl).2
  have c6 := (hS.2 6 _ rfl).1
  have f6 := (hS.2 6 _ rfl).2
  have z0 := (hR.2 0 _ rfl).1
  have y0 := (hR.2 0 _ rfl).2
  have z1 := (hR.2 1 _ rfl).1
  have y1 := (hR.2 1 _ rfl).2
  have z2 := (hR.2 2 _ rfl).1
  have y2 := (hR.2 2 _ rfl).2
  have z3 := (hR.2 3 _ rfl).1
  have y3 := (hR.2 3 _ rfl).2
  have z4 := (hR.2 4 _ rfl).1
  have y4 := (hR.2 4 _ rfl).2
  have z5 := (hR.2 5 _ rfl).1
  have y5 := (hR.2 5 _ rfl).2
  have z6 := (hR.2 6 _ rfl).1
  have y6 := (hR.2 6 _ rfl).2
  clear hM hRow kw ks kl hl hV
  go_enter Try.func12, Try.ntmps12
  go_wp2_with fail
  rw [← hW0, ← hD, ← hB]
  clear hW0 hB hD
  go_wp2_with (first
    | (go_at_call 25; (with_reducible refine (ka _ (Turned.refl _ _)).mono ?_); rintro r u1 ⟨pa, qa, rfl, ho1, ht1, hb1⟩; have HT1 : Turned [B] W0 u1 := ht1.mono (by simp); have hS1 := hS.keep ht1 (by simp); have hX1 := hS1.set (i := 2) (by simp) (.slice pa V.nw qa); have hR1 := hR.keep ht1 (by simp); have c0 := (hS1.2 0 _ rfl).1; have f0 := (hS1.2 0 _ rfl).2; have c1 := (hS1.2 1 _ rfl).1; have f1 := (hS1.2 1 _ rfl).2; have c2 := (hS1.2 2 _ rfl).1; have f2 := (hS1.2 2 _ rfl).2; have c3 := (hS1.2 3 _ rfl).1; have f3 := (hS1.2 3 _ rfl).2; have c4 := (hS1.2 4 _ rfl).1; have f4 := (hS1.2 4 _ rfl).2; have c5 := (hS1.2 5 _ rfl).1; have f5 := (hS1.2 5 _ rfl).2; have c6 := (hS1.2 6 _ rfl).1; have f6 := (hS1.2 6 _ rfl).2; have z0 := (hR1.2 0 _ rfl).1; have y0 := (hR1.2 0 _ rfl).2; have z1 := (hR1.2 1 _ rfl).1; have y1 := (hR1.2 1 _ rfl).2; have z2 := (hR1.2 2 _ rfl).1; have y2 := (hR1.2 2 _ rfl).2; have z3 := (hR1.2 3 _ rfl).1; have y3 := (hR1.2 3 _ rfl).2; have z4 := (hR1.2 4 _ rfl).1; have y4 := (hR1.2 4 _ rfl).2; have z5 := (hR1.2 5 _ rfl).1; have y5 := (hR1.2 5 _ rfl).2; have z6 := (hR1.2 6 _ rfl).1; have y6 := (hR1.2 6 _ rfl).2)
    | (go_at_call 26; (with_reducible refine (kb _ (HT1.setCell (p := ⟨B, 2, none⟩) (.inl (List.mem_singleton.2 rfl)) _)).mono ?_); rintro r u2 ⟨pb, qb, rfl, ho2, ht2, hb2⟩; have HT2 : Turned [B] W0 u2 := (HT1.setCell (p := ⟨B, 2, none⟩) (.inl (List.mem_singleton.2 rfl)) (.slice pa V.nw qa)).trans ht2 (by simp); have hS2 := hX1.keep ht2 (by simp); have hX2 := hS2.set (i := 3) (by simp) (.slice pb V.ns qb); have hR2 := (hR1.keep ((Turned.refl [B] u1).setCell (p := ⟨B, 2, none⟩) (.inl (List.mem_singleton.2 rfl)) (.slice pa V.nw qa)) (by simpa using nDB)).keep ht2 (by simp); have c0 := (hS2.2 0 _ rfl).1; have f0 := (hS2.2 0 _ rfl).2; have c1 := (hS2.2 1 _ rfl).1; have f1 := (hS2.2 1 _ rfl).2; have c2 := (hS2.2 2 _ rfl).1; have f2 := (hS2.2 2 _ rfl).2; have c3 := (hS2.2 3 _ rfl).1; have f3 := (hS2.2 3 _ rfl).2; have c4 := (hS2.2 4 _ rfl).1; have f4 := (hS2.2 4 _ rfl).2; have c5 := (hS2.2 5 _ rfl).1; have f5 := (hS2.2 5 _ rfl).2; have c6 := (hS2.2 6 _ rfl).1; have f6 := (hS2.2 6 _ rfl).2; have z0 := (hR2.2 0 _ rfl).1; have y0 := (hR2.2 0 _ rfl).2; have z1 := (hR2.2 1 _ rfl).1; have y1 := (hR2.2 1 _ rfl).2; have z2 := (hR2.2 2 _ rfl).1; have y2 := (hR2.2 2 _ rfl).2; have z3 := (hR2.2 3 _ rfl).1; have y3 := (hR2.2 3 _ rfl).2; have z4 := (hR2.2 4 _ rfl).1; have y4 := (hR2.2 4 _ rfl).2; have z5 := (hR2.2 5 _ rfl).1; have y5 := (hR2.2 5 _ rfl).2; have z6 := (hR2.2 6 _ rfl).1; have y6 := (hR2.2 6 _ rfl).2)
    | (go_at_call 27; (with_reducible refine (kc _ (HT2.setCell (p := ⟨B, 3, none⟩) (.inl (List.mem_singleton.2 rfl)) _)).mono ?_); rintro r u3 ⟨pl, ql, rfl, ho3, ht3, hb3⟩; have HT3 : Turned [B] W0 u3 := (HT2.setCell (p := ⟨B, 3, none⟩) (.inl (List.mem_singleton.2 rfl)) (.slice pb V.ns qb)).trans ht3 (by simp); have hS3 := hX2.keep ht3 (by simp); have hX3 := hS3.set (i := 6) (by simp) (.slice pl V.nl ql); have hR3 := (hR2.keep ((Turned.refl [B] u2).setCell (p := ⟨B, 3, none⟩) (.inl (List.mem_singleton.2 rfl)) (.slice pb V.ns qb)) (by simpa using nDB)).keep ht3 (by simp); have c0 := (hS3.2 0 _ rfl).1; have f0 := (hS3.2 0 _ rfl).2; have c1 := (hS3.2 1 _ rfl).1; have f1 := (hS3.2 1 _ rfl).2; have c2 := (hS3.2 2 _ rfl).1; have f2 := (hS3.2 2 _ rfl).2; have c3 := (hS3.2 3 _ rfl).1; have f3 := (hS3.2 3 _ rfl).2; have c4 := (hS3.2 4 _ rfl).1; have f4 := (hS3.2 4 _ rfl).2; have c5 := (hS3.2 5 _ rfl).1; have f5 := (hS3.2 5 _ rfl).2; have c6 := (hS3.2 6 _ rfl).1; have f6 := (hS3.2 6 _ rfl).2; have z0 := (hR3.2 0 _ rfl).1; have y0 := (hR3.2 0 _ rfl).2; have z1 := (hR3.2 1 _ rfl).1; have y1 := (hR3.2 1 _ rfl).2; have z2 := (hR3.2 2 _ rfl).1; have y2 := (hR3.2 2 _ rfl).2; have z3 := (hR3.2 3 _ rfl).1; have y3 := (hR3.2 3 _ rfl).2; have z4 := (hR3.2 4 _ rfl).1; have y4 := (hR3.2 4 _ rfl).2; have z5 := (hR3.2 5 _ rfl).1; have y5 := (hR3.2 5 _ rfl).2; have z6 := (hR3.2 6 _ rfl).1; have y6 := (hR3.2 6 _ rfl).2))
  obtain ⟨X, hX⟩ : ∃ X, X = put7 (u3.setCell ⟨B, 6, none⟩ (.slice pl V.nl ql)) D ⟨V.mw, V.mh, pa, V.nw, qa, pb, V.ns, qb, V.st, V.tk, pl, V.nl, ql⟩ := ⟨_, rfl⟩
  have hR4 := hR3.keep ((Turned.refl [B] u3).setCell (p := ⟨B, 6, none⟩) (.inl (List.mem_singleton.2 rfl)) (.slice pl V.nl ql)) (by simpa using nDB)
  have hS9 : Struct D (wvEnc ⟨V.mw, V.mh, pa, V.nw, qa, pb, V.ns, qb, V.st, V.tk, pl, V.nl, ql⟩) X := by rw [hX]; exact set7 hR4 rfl _
  have t1 : Turned [B, D] u1 X := by
    rw [hX]
    refine turned7 (Turned.setCell (Turned.trans (S' := [B, D]) ((Turned.refl [B, D] u1).setCell (p := ⟨B, 2, none⟩) (.inl (by simp)) (.slice pa V.nw qa)) ((ht2.mono (S' := [B, D]) (by simp)).trans (S' := [B, D]) (((Turned.refl [B, D] u2).setCell (p := ⟨B, 3, none⟩) (.inl (by simp)) (.slice pb V.ns qb)).trans (ht3.mono (S' := [B, D]) (by simp)) (fun k hk _ => hk)) (fun k hk _ => hk)) (fun k hk _ => hk)) (.inl (by simp)) _) (.inl (by simp)) _
  have t2 : Turned [B, D] u2 X := by
    rw [hX]
    refine turned7 (Turned.setCell (((Turned.refl [B, D] u2).setCell (p := ⟨B, 3, none⟩) (.inl (by simp)) (.slice pb V.ns qb)).trans (ht3.mono (S' := [B, D]) (by simp)) (fun k hk _ => hk)) (.inl (by simp)) _) (.inl (by simp)) _
  have t3 : Turned [B, D] u3 X := by
    rw [hX]
    exact turned7 (Turned.setCell (Turned.refl _ _) (.inl (by simp)) _) (.inl (by simp)) _
  have t9 : Turned [] w X := (Turned.trans (hT.mono (S' := [B, D]) (by simp)) (S' := [B, D]) ((ht1.mono (S' := [B, D]) (by simp)).trans t1 (fun k hk _ => hk)) (fun k hk _ => hk)).mono (by intro k hk hl; simp at hk; omega)
  simp only [put7] at hX
  rw [← hX]
  clear hX
  have e0 := (hS9.2 0 _ rfl).1
  have e1 := (hS9.2 1 _ rfl).1
  have e2 := (hS9.2 2 _ rfl).1
  have e3 := (hS9.2 3 _ rfl).1
  have e4 := (hS9.2 4 _ rfl).1
  have e5 := (hS9.2 5 _ rfl).1
  have e6 := (hS9.2 6 _ rfl).1
  refine bodyPost_ret (v := wvVal ⟨V.mw, V.mh, pa, V.nw, qa, pb, V.ns, qb, V.st, V.tk, pl, V.nl, ql⟩) (by simp [results, Try.results12, go_sem, e0, e1, e2, e3, e4, e5, e6]) rfl ⟨_, rfl, ?_, t9⟩
  have s1 := hT.size
  have s2 := HT1.size
  have s3 := HT2.size
  have g2 := Nat.le_trans s2 (((Turned.refl [B] u1).setCell (p := ⟨B, 2, none⟩) (.inl (List.mem_singleton.2 rfl)) (.slice pa V.nw qa)).size)
  have g3 := Nat.le_trans ht2.size (((Turned.refl [B] u2).setCell (p := ⟨B, 3, none⟩) (.inl (List.mem_singleton.2 rfl)) (.slice pb V.ns qb)).size)
  have hBD : ∀ k, k ∈ [B, D] → k < W0.heap.size := fun k hk => by
    have := hR.1
    simp at hk
    omega
  have hno : ∀ (v : Value) (n : Nat), W0.heap.size ≤ n → (∀ k ∈ blk v, n ≤ k) → ∀ k ∈ blk v, k ∉ [B, D] := fun v n hn h k hk hm => by
    have := h k hk
    have := hBD k hm
    omega
  have p1 := ho1.keep t1 (hno _ _ (Nat.le_refl _) hb1)
  have p2 := ho2.keep t2 (hno _ _ g2 hb2)
  have hs3 : W0.heap.size ≤ (u2.setCell ⟨B, 3, none⟩ (.slice pb V.ns qb)).heap.size := Nat.le_trans s3 (((Turned.refl [B] u2).setCell (p := ⟨B, 3, none⟩) (.inl (List.mem_singleton.2 rfl)) (.slice pb V.ns qb)).size)
  have p3 := ho3.keep t3 (hno _ _ hs3 hb3)
  obtain ⟨o1, d1, x1, _, _, r1, _⟩ := p1.rowOf tbEnc_len
  obtain ⟨o2, d2, x2, _, _, r2, _⟩ := p2.rowOf tvEnc_len
  obtain ⟨o3, d3, x3, _, _, r3, _⟩ := p3.rowOf enEnc_len
  simp at x1 x2 x3
  obtain ⟨rfl, _, rfl⟩ := x1
  obtain ⟨rfl, _, rfl⟩ := x2
  obtain ⟨rfl, _, rfl⟩ := x3
  have hV := HV.out
  refine ⟨⟨hV.mw, hV.mh, hV.nw, hV.ns, hV.st, hV.tk, hV.nl, ⟨r1, r2, hV.map.lw, hV.map.ls, hV.map.wW, hV.map.wH⟩, r3⟩, p3, ?_, ?_, ?_, ?_, ?_, ?_, ?_⟩
  · intro a ha; exact Nat.le_trans s1 (hb1 _ (mem_blk.2 ⟨a, ha, rfl⟩))
  · intro a ha; exact Nat.le_trans s1 (Nat.le_trans g2 (hb2 _ (mem_blk.2 ⟨a, ha, rfl⟩)))
  · intro k hk; exact Nat.le_trans s1 (Nat.le_trans hs3 (hb3 k hk))
  · intro a ha; exact p1.lt _ (mem_blk.2 ⟨a, ha, rfl⟩)
  · intro a ha; exact p2.lt _ (mem_blk.2 ⟨a, ha, rfl⟩)
  · intro a ha hm
    have h1 := ho1.lt _ (mem_blk.2 ⟨a, ha, rfl⟩)
    have h3 := hb3 _ hm
    have h4 := (HT1.size)
    have h5 : u1.heap.size ≤ (u2.setCell ⟨B, 3, none⟩ (.slice pb V.ns qb)).heap.size := Nat.le_trans (((Turned.refl [B] u1).setCell (p := ⟨B, 2, none⟩) (.inl (List.mem_singleton.2 rfl)) (.slice pa V.nw qa)).size) (Nat.le_trans ht2.size (((Turned.refl [B] u2).setCell (p := ⟨B, 3, none⟩) (.inl (List.mem_singleton.2 rfl)) (.slice pb V.ns qb)).size))
    omega
  · intro a ha hm
    have h1 := ho2.lt _ (mem_blk.2 ⟨a, ha, rfl⟩)
    have h3 := hb3 _ hm
    have h5 := ((Turned.refl [B] u2).setCell (p := ⟨B, 3, none⟩) (.inl (List.mem_singleton.2 rfl)) (.slice pb V.ns qb)).size
    omega
end WdW

end Go.Proofs.Ytgabgkgokmeaeaa


/- What the functions of layer 8 answer, as a call: the program's (RaW) and the reference's (RaR). Nothing turns in memory. -/
namespace Go.Proofs.Ytgabgkgokmeaeaa
open Go.RowKit
set_option linter.unusedVariables false

namespace Ra
theorem u64_ret {a b : Int} {p : Prop} (h : a = b) (hp : p) : Ending.returned (.int .u64 a) = .returned (.int .u64 b) ∧ p := by rw [h]; exact ⟨rfl, hp⟩
theorem two_ret {a b b' : Int} {p : Prop} (h : b = b') (hp : p) : Ending.returned (.tuple #[.int .u64 a, .int .i64 b]) = .returned (.tuple #[.int .u64 a, .int .i64 b']) ∧ p := by rw [h]; exact ⟨rfl, hp⟩
theorem nxt_raw (x : Nat) : IntKind.u64.wrap ((x : Int) + 11400714819323198485) = ((nxt x : Nat) : Int) := by
  rw [IntKind.wrap_u64]; unfold nxt; omega
theorem fold_raw (x d : Nat) (h : x < 18446744073709551616) : bits .xor .u64 (x : Int) ((x : Int) / (d : Int)) = ((x ^^^ x / d : Nat) : Int) :=
  u64_xor_nat x (x / d) h (Nat.lt_of_le_of_lt (Nat.div_le_self _ _) h)
theorem a_raw (x : Nat) (h : x < 18446744073709551616) : IntKind.u64.wrap (bits .xor .u64 (x : Int) ((x : Int) / 1073741824) * 13787848793156543929) = ((mixA x : Nat) : Int) := by
  have e := fold_raw x 1073741824 h
  rw [show (((1073741824 : Nat) : Int)) = 1073741824 from rfl] at e
  rw [e, IntKind.wrap_u64]; unfold mixA
  generalize x ^^^ x / 1073741824 = y
  omega
theorem b_raw (x : Nat) (h : x < 18446744073709551616) : IntKind.u64.wrap (bits .xor .u64 (x : Int) ((x : Int) / 134217728) * 10723151780598845931) = ((mixB x : Nat) : Int) := by
  have e := fold_raw x 134217728 h
  rw [show (((134217728 : Nat) : Int)) = 134217728 from rfl] at e
  rw [e, IntKind.wrap_u64]; unfold mixB
  generalize x ^^^ x / 134217728 = y
  omega
theorem down_raw (x : Nat) (d : Int) (h : x < 18446744073709551616) (hd : 0 < d) : IntKind.u64.wrap ((x : Int) / d) = (x : Int) / d := by
  have h1 : (0 : Int) ≤ (x : Int) / d := Int.ediv_nonneg (by omega) (by omega)
  have h2 : (x : Int) / d ≤ (x : Int) := Int.ediv_le_self _ (by omega)
  rw [IntKind.wrap_u64]; omega
theorem mod_raw (x : Nat) (n : Int) (h1 : 1 ≤ n) (hm : n < 9223372036854775808) : wrap64 ((x : Int) % n) = (x : Int) % n := by
  have a := Int.emod_nonneg (x : Int) (show n ≠ 0 by omega)
  have b := Int.emod_lt_of_pos (x : Int) (show 0 < n by omega)
  unfold wrap64; omega
theorem c_raw (x : Nat) (h : x < 18446744073709551616) : bits .xor .u64 (x : Int) ((x : Int) / 2147483648) = ((mixC x : Nat) : Int) := by
  have e := fold_raw x 2147483648 h
  rw [show (((2147483648 : Nat) : Int)) = 2147483648 from rfl] at e
  exact e
end Ra

namespace RaW
set_option maxHeartbeats 400000 in
theorem number_any (x : Nat) (h : x < 18446744073709551616) (w : World) :
    Calls Try.prog 80 #[.int .u64 (x : Int)] w fun e w' => e = .returned (.int .u64 ((Ra.mixC (Ra.mixB (Ra.mixA x)) : Nat) : Int)) ∧ w' = w := by
  have ha := Ra.a_raw x h
  have hb := Ra.b_raw _ (Ra.mixA_lt x)
  have hc := Ra.c_raw _ (Ra.mixB_lt (Ra.mixA x))
  go_enter Try.func80, Try.ntmps80
  go_wp2
  go_ret
  exact ⟨rfl, rfl⟩

set_option maxHeartbeats 400000 in
theorem next_any (s : Nat) (w : World) :
    Calls Try.prog 63 #[.int .u64 (s : Int)] w fun e w' => e = .returned (.tuple #[.int .u64 ((Ra.nxt s : Nat) : Int), .int .u64 ((Ra.num s : Nat) : Int)]) ∧ w' = w := by
  have hn := Ra.nxt_raw s
  go_enter Try.func63, Try.ntmps63
  go_wp2_with (go_at_call 80; refine (number_any _ (Ra.nxt_lt s) _).mono ?_; rintro e w' ⟨rfl, rfl⟩)
  go_ret2
  exact ⟨rfl, rfl⟩

set_option maxHeartbeats 400000 in
theorem below_no (s : Nat) (n : Int) (hn : n < 1) (w : World) :
    Calls Try.prog 46 #[.int .u64 (s : Int), .int .i64 n] w fun e w' => e = .returned (.tuple #[.int .u64 (s : Int), .int .i64 0]) ∧ w' = w := by
  go_enter Try.func46, Try.ntmps46
  go_wp2
  go_ret2
  exact ⟨rfl, rfl⟩

set_option maxHeartbeats 400000 in
theorem below_any (s : Nat) (n : Int) (h1 : 1 ≤ n) (hm : n < 9223372036854775808) (w : World) :
    Calls Try.prog 46 #[.int .u64 (s : Int), .int .i64 n] w fun e w' => e = .returned (.tuple #[.int .u64 ((Ra.nxt s : Nat) : Int), .int .i64 (((Ra.num s : Nat) : Int) % n)]) ∧ w' = w.drew := by
  have hz := Ra.mod_raw (Ra.num s) n h1 hm
  go_enter Try.func46, Try.ntmps46
  go_wp2_with (go_at_call 63; refine (next_any _ _).mono ?_; rintro e w' ⟨rfl, rfl⟩)
  go_region
  go_wp2
  go_ret2
  exact Ra.two_ret hz rfl

end RaW

namespace RaR

end RaR
end Go.Proofs.Ytgabgkgokmeaeaa


/- Whether an entity is formed: the program's (EnW). -/
namespace Go.Proofs.Ytgabgkgokmeaeaa
open Go.RowKit
set_option linter.unusedVariables false
set_option linter.unusedSimpArgs false

namespace EnW
set_option maxHeartbeats 400000 in
theorem slow_any (x : Int) (w : World) :
    Calls Try.prog 83 #[.int .i64 x] w fun e w' => e = .returned (.bool (decide (-65536 ≤ x ∧ x ≤ 65536))) ∧ w' = w := by
  by_cases h1 : -65536 ≤ x
  · go_enter Try.func83, Try.ntmps83
    go_wp2
    go_ret
    exact bool_ret (by simp [h1]) rfl
  · go_enter Try.func83, Try.ntmps83
    go_wp2
    go_ret
    exact bool_ret (by simp; omega) rfl

theorem vec_any (x y : Int) (w : World) :
    Calls Try.prog 82 #[.agg #[.int .i64 x, .int .i64 y]] w fun e w' => e = .returned (.bool (decide (-134217728 ≤ x ∧ x ≤ 134217728 ∧ -134217728 ≤ y ∧ y ≤ 134217728))) ∧ Turned [] w w' := by
  refine (VcW.formed_any x y w).mono ?_
  rintro e w' ⟨rfl, h⟩
  refine bool_ret ?_ (Turned.ofBelow h)
  unfold Vc.formedB Vc.inL
  rw [Bool.eq_iff_iff]
  simp
  omega

abbrev Pl (e : En.E) : Prop := 1 ≤ e.id ∧ e.id ≤ 8 ∧ ((e.t = 0 ∧ 1 ≤ e.h ∧ e.h ≤ 100) ∨ (e.h = 0 ∧ 1 ≤ e.t ∧ e.t ≤ 20))
abbrev Ba (e : En.E) : Prop := 9 ≤ e.id ∧ e.id ≤ 16 ∧ e.h = 100 ∧ e.t = 0

set_option maxHeartbeats 2000000 in
theorem player_any (e : En.E) (w : World) :
    Calls Try.prog 84 #[enVal e] w fun r w' => r = .returned (.bool (decide (Pl e))) ∧ Turned [] w w' := by
  obtain ⟨id, kind, ax, ay, vx, vy, h, t⟩ := e
  unfold enVal
  go_enter Try.func84, Try.ntmps84
  go_wp2
  all_goals go_ret
  all_goals refine bool_ret ?_ (by exact (Turned.refl _ _).alloc _)
  all_goals refine Bool.eq_iff_iff.2 ?_
  all_goals simp only [Pl, decide_eq_true_iff, Bool.and_eq_true, Bool.false_eq_true, false_iff, true_iff]
  all_goals (try simp only [beq_iff_eq, beq_eq_false_iff_ne, ne_eq, Bool.not_eq_true', Bool.not_eq_false', Bool.and_eq_true, Bool.or_eq_true, decide_eq_true_iff, decide_eq_false_iff_not] at *)
  all_goals omega

set_option maxHeartbeats 2000000 in
theorem ball_any (e : En.E) (w : World) :
    Calls Try.prog 85 #[enVal e] w fun r w' => r = .returned (.bool (decide (Ba e))) ∧ Turned [] w w' := by
  obtain ⟨id, kind, ax, ay, vx, vy, h, t⟩ := e
  unfold enVal
  go_enter Try.func85, Try.ntmps85
  go_wp2
  all_goals go_ret
  all_goals refine bool_ret ?_ (by exact (Turned.refl _ _).alloc _)
  all_goals refine Bool.eq_iff_iff.2 ?_
  all_goals simp only [Ba, decide_eq_true_iff, Bool.and_eq_true, Bool.false_eq_true, false_iff, true_iff]
  all_goals (try simp only [beq_iff_eq, beq_eq_false_iff_ne, ne_eq, Bool.not_eq_true', Bool.not_eq_false', Bool.and_eq_true, Bool.or_eq_true, decide_eq_true_iff, decide_eq_false_iff_not] at *)
  all_goals omega

set_option maxRecDepth 20000 in
set_option maxHeartbeats 8000000 in
theorem formed_any (e : En.E) (w : World) :
    Calls Try.prog 65 #[enVal e] w fun r w' => r = .returned (.bool (decide (En.Formed e))) ∧ Turned [] w w' := by
  have kl := player_any e
  have kb := ball_any e
  obtain ⟨id, kind, ax, ay, vx, vy, h, t⟩ := e
  have ks := fun x u => slow_any x u
  have kp := fun u => vec_any ax ay u
  unfold enVal at kl kb ⊢
  go_enter Try.func65, Try.ntmps65
  go_wp2_with (first | (go_at_call 83; (with_reducible refine (ks _ _).mono ?_); rintro e u ⟨rfl, rfl⟩) | (go_at_call 82; (with_reducible refine (kp _).mono ?_); rintro e u ⟨rfl, HT1⟩; have HT := ((Turned.refl [] w).alloc _).trans HT1 (by simp); have hS := (Struct.new w _ 49).keep HT1 (by simp); have c0 := (hS.2 0 _ rfl).1; have c1 := (hS.2 1 _ rfl).1; have c2 := (hS.2 2 _ rfl).1; have c3 := (hS.2 3 _ rfl).1; have c4 := (hS.2 4 _ rfl).1; have c5 := (hS.2 5 _ rfl).1; have c6 := (hS.2 6 _ rfl).1; have c7 := (hS.2 7 _ rfl).1) | (go_at_call 84; (with_reducible refine (kl _).mono ?_); rintro e u ⟨rfl, HT2⟩; have HT := HT.trans HT2 (by simp)) | (go_at_call 85; (with_reducible refine (kb _).mono ?_); rintro e u ⟨rfl, HT2⟩; have HT := HT.trans HT2 (by simp)))
  all_goals go_ret
  all_goals refine bool_ret ?_ (by assumption)
  all_goals refine Bool.eq_iff_iff.2 ?_
  all_goals simp only [En.Formed, Pl, Ba, decide_eq_true_iff, Bool.and_eq_true, Bool.false_eq_true, false_iff, true_iff]
  all_goals (try simp only [beq_iff_eq, beq_eq_false_iff_ne, ne_eq, Bool.not_eq_true', Bool.not_eq_false', Bool.and_eq_true, Bool.or_eq_true, decide_eq_true_iff, decide_eq_false_iff_not] at *)
  all_goals omega
end EnW
end Go.Proofs.Ytgabgkgokmeaeaa


/- Whether entities are a list, and where an ID stands: the program's (EnW). -/
namespace Go.Proofs.Ytgabgkgokmeaeaa
open Go.RowKit
set_option linter.unusedVariables false
set_option linter.unusedSimpArgs false

namespace EnW
theorem formed_kept {W : World} (e : En.E) (b : Bool) (hb : decide (En.Formed e) = b) (x : KeptW W) : Calls Try.prog 65 #[enVal e] x.u fun r w'' => r = .returned (.bool b) ∧ ∃ y : KeptW W, w'' = y.u :=
  kept_call ((formed_any e x.u).mono fun r w' ⟨he, ht⟩ => ⟨by rw [← hb]; exact he, ht.none⟩)
theorem nt_ret {k : IntKind} {a b : Int} {p : Prop} (h : a = b) (hp : p) : Ending.returned (.int k a) = .returned (.int k b) ∧ p := by rw [h]; exact ⟨rfl, hp⟩

set_option maxHeartbeats 1000000 in
theorem find_any (oa : Option Addr) (cap : Nat) (l : List En.E) (id : Int) (w : World) (hr : RowOf 8 enEnc oa l w) (hl : (l.length : Int) ≤ 9223372036854775807) :
    Calls Try.prog 30 #[.slice oa l.length cap, .int .i64 id] w fun r w' => r = .returned (.int .i64 (En.find l id)) ∧ Turned [] w w' := by
  obtain ⟨n, hn⟩ : ∃ n, n = l.length := ⟨_, rfl⟩
  rw [← hn] at hl ⊢
  have HN : Hid (n = l.length) := hn
  clear hn
  go_enter Try.func30, Try.ntmps30
  go_wp2_with fail
  go_loopw [9] (fun i wr => ∃ k : Nat, k ≤ n ∧ i = .int .i64 (k : Int) ∧ (∀ (j : Nat) (d : En.E), j < k → l[j]? = some d → d.id ≠ id) ∧ Turned [] w wr) (fun i _ => n - (intOf i).toNat)
  case atStart => exact ⟨0, by omega, rfl, fun j d h _ => absurd h (by omega), Turned.refl _ _⟩
  case round =>
    obtain ⟨k, hk, rfl, hno, ht⟩ := hrel
    by_cases hlt : (k : Int) < (n : Int)
    · obtain ⟨e, he⟩ : ∃ e, l[k]? = some e := ⟨_, List.getElem?_eq_getElem (by have := HN.out; omega)⟩
      have hrow := hr.turned ht (by simp)
      obtain ⟨g, off, rfl, hg, p0, p1, p2, p3, p4, p5, p6, p7⟩ := en_at hrow he
      by_cases hid : e.id = id
      · have HF : Hid (En.find l id = (k : Int)) := En.find_at he hid hno
        have i1 : (e.id == id) = true := by rw [beq_iff_eq]; exact hid
        have HID : Hid (e.id = id) := hid
        clear hno he hid hrow
        go_wp2_with fail
        go_ret
        exact nt_ret HF.out.symm (ht.alloc _)
      · have i1 : (e.id == id) = false := by rw [beq_eq_false_iff_ne]; exact hid
        have HNO : Hid (∀ (j : Nat) (d : En.E), j < k + 1 → l[j]? = some d → d.id ≠ id) := by
          intro j d hj hd
          by_cases hjk : j = k
          · subst hjk; rw [he] at hd; simp at hd; subst hd; exact hid
          · exact hno j d (by omega) hd
        clear hno he hid hrow
        go_wp2_with fail
        go_roundw
        case rel => exact ⟨k + 1, by omega, by go_num, HNO.out, ht.alloc _⟩
        case measure => simp [intOf]; omega
    · have HF : Hid (En.find l id = -1) := En.find_no fun j d hd => hno j d (by have := (List.getElem?_eq_some_iff.1 hd).1; have := HN.out; omega) hd
      clear hno
      go_wp2_with fail
      go_ret
      exact nt_ret HF.out.symm ht
end EnW
end Go.Proofs.Ytgabgkgokmeaeaa


/- What both Arounds answer, as a call. -/
namespace Go.Proofs.Ytgabgkgokmeaeaa
open Go.RowKit
set_option linter.unusedVariables false

namespace BxW

set_option maxHeartbeats 4000000 in
theorem around_any (x y h : Int) (w : World) :
    Calls Try.prog 75 #[.agg #[.int .i64 x, .int .i64 y], .int .i64 h] w fun e w' => e = .returned (.agg #[.int .i64 (Fx.sub x h), .int .i64 (Fx.sub y h), .int .i64 (Fx.add x h), .int .i64 (Fx.add y h)]) ∧ Below w.heap.size w w' := by
  go_enter Try.func75, Try.ntmps75
  go_wp2_with fail
  generalize hW : ((w.alloc (.cells #[.int .i64 x, .int .i64 y] 47)).alloc (.cells #[.int .i64 0, .int .i64 0, .int .i64 0, .int .i64 0] 98)).alloc (.cells #[.int .i64 h, .int .i64 h] 47) = W
  have hK : Keep w [(w.heap.size + 1, [.int .i64 0, .int .i64 0, .int .i64 0, .int .i64 0]), (w.heap.size, [.int .i64 x, .int .i64 y]), (w.heap.size + 2, [.int .i64 h, .int .i64 h])] W := by subst hW; exact ⟨by simp [Lie, LieAt, go_sem, World.cell?_alloc_past, World.frozen?_alloc_past], by simp; omega, (((Below.refl _ _).alloc (Nat.le_refl _) _).alloc (by simp) _).alloc (by simp; omega) _⟩
  clear hW
  go_region_held3 (fun u => ((u.cell? ⟨w.heap.size, 0, none⟩ = some (.int .i64 x) ∧ u.frozen? ⟨w.heap.size, 0, none⟩ = false ∧ u.cell? ⟨w.heap.size, 1, none⟩ = some (.int .i64 y) ∧ u.frozen? ⟨w.heap.size, 1, none⟩ = false ∧ w.heap.size < u.heap.size) ∧ (u.cell? ⟨w.heap.size + 2, 0, none⟩ = some (.int .i64 h) ∧ u.frozen? ⟨w.heap.size + 2, 0, none⟩ = false ∧ u.cell? ⟨w.heap.size + 2, 1, none⟩ = some (.int .i64 h) ∧ u.frozen? ⟨w.heap.size + 2, 1, none⟩ = false ∧ w.heap.size + 2 < u.heap.size) ∧ True) ∧ w.heap.size ≤ u.heap.size ∧ Below w.heap.size w u)
    ((show Keep w [(w.heap.size, [.int .i64 x, .int .i64 y]), (w.heap.size + 2, [.int .i64 h, .int .i64 h])] _; first | with_reducible exact Keep.less (by assumption) | with_reducible exact Keep.drew (Keep.less (by assumption)) | (with_reducible refine Keep.far4' (Keep.less (by assumption)) ?_ ?_; (omega); (simp; done))))
    (first | (go_at_call 91; refine (VcW.sub_any _ _ _ _ _).mono ?_; rintro e w' ⟨rfl, hb⟩; have hk : Keep w [(w.heap.size + 1, [.int .i64 0, .int .i64 0, .int .i64 0, .int .i64 0]), (w.heap.size, [.int .i64 x, .int .i64 y]), (w.heap.size + 2, [.int .i64 h, .int .i64 h])] w' := Keep.on (by first | with_reducible assumption | with_reducible exact Keep.drew (by assumption)) hb; have hz := hk; simp only [Keep, Lie, LieAt, Nat.reduceAdd] at hz) | (go_at_call 92; refine (VcW.add_any _ _ _ _ _).mono ?_; rintro e w' ⟨rfl, hb⟩; have hk : Keep w [(w.heap.size + 1, [.int .i64 0, .int .i64 0, .int .i64 0, .int .i64 0]), (w.heap.size, [.int .i64 x, .int .i64 y]), (w.heap.size + 2, [.int .i64 h, .int .i64 h])] w' := Keep.on (by first | with_reducible assumption | with_reducible exact Keep.drew (by assumption)) hb; have hz := hk; simp only [Keep, Lie, LieAt, Nat.reduceAdd] at hz))
  rename_i hH
  go_wp2_with fail
  refine bodyPost_ret (by simp [results, Try.results75, go_sem, *]) rfl (And.intro rfl ?_)
  repeat (first | exact hk.2.2 | refine Below.drew ?_ | refine Below.setCell ?_ (by simp <;> omega) _)
end BxW

namespace BxR

end BxR

end Go.Proofs.Ytgabgkgokmeaeaa


/- Small things of the world: who is dead, a hit, one comes in, a new ball, who a player is. The program's (WdW). -/
namespace Go.Proofs.Ytgabgkgokmeaeaa
open Go.RowKit
set_option linter.unusedVariables false
set_option linter.unusedSimpArgs false

theorem en_ret {a b : En.E} {p : Prop} (h : a = b) (hp : p) : Ending.returned (enVal a) = .returned (enVal b) ∧ p := by rw [h]; exact ⟨rfl, hp⟩

namespace WdW
set_option maxHeartbeats 400000 in
theorem dead_any (e : En.E) (w : World) :
    Calls Try.prog 35 #[enVal e] w fun r w' => r = .returned (.bool (decide (e.h = 0))) ∧ Turned [] w w' := by
  obtain ⟨id, kind, ax, ay, vx, vy, h, t⟩ := e
  have HT : ∀ o, Turned [] w (w.alloc o) := fun o => (Turned.refl _ _).alloc o
  go_enter Try.func35, Try.ntmps35
  go_wp2
  go_ret
  exact bool_ret (by rw [Bool.eq_iff_iff]; simp) (HT _)

set_option maxHeartbeats 1000000 in
theorem hit_any (e : En.E) (b : Int) (h0 : 0 ≤ e.h ∧ e.h ≤ 100) (hb : 1 ≤ b) (w : World) :
    Calls Try.prog 36 #[enVal e, .int .i64 b] w fun r w' => r = .returned (enVal (Wd.struck e b)) ∧ Turned [] w w' := by
  obtain ⟨id, kind, ax, ay, vx, vy, h, t⟩ := e
  simp only at h0
  by_cases hlt : h ≤ b
  · have HE : Hid (Wd.struck ⟨id, kind, ax, ay, vx, vy, h, t⟩ b = ⟨id, kind, ax, ay, 0, 0, 0, 20⟩) := by
      show Wd.struck _ _ = _
      unfold Wd.struck
      rw [if_neg (by simp only; omega)]
    go_enter Try.func36, Try.ntmps36
    go_wp2
    refine bodyPost_ret (v := enVal ⟨id, kind, ax, ay, 0, 0, 0, 20⟩) (by simp [results, Try.results36, go_sem]) rfl ⟨by rw [HE.out], ?_⟩
    repeat (first | exact Turned.refl _ _ | refine Turned.setCell ?_ (.inr (by simp)) _ | refine Turned.alloc ?_ _ | refine Turned.drew ?_)
  · have HE : Hid (Wd.struck ⟨id, kind, ax, ay, vx, vy, h, t⟩ b = ⟨id, kind, ax, ay, vx, vy, h - b, t⟩) := by
      show Wd.struck _ _ = _
      unfold Wd.struck
      rw [if_pos (by simp only; omega)]
    have hw : wrap64 (h - b) = h - b := by unfold wrap64; omega
    go_enter Try.func36, Try.ntmps36
    go_wp2
    refine bodyPost_ret (v := enVal ⟨id, kind, ax, ay, vx, vy, h - b, t⟩) (by simp [results, Try.results36, go_sem]) rfl ⟨by rw [HE.out], ?_⟩
    repeat (first | exact Turned.refl _ _ | refine Turned.setCell ?_ (.inr (by simp)) _ | refine Turned.alloc ?_ _ | refine Turned.drew ?_)

set_option maxHeartbeats 1000000 in
theorem around_any (e : En.E) (w : World) :
    Calls Try.prog 55 #[enVal e] w fun r w' => r = .returned (.agg #[.int .i64 (Fx.sub e.ax 24576), .int .i64 (Fx.sub e.ay 24576), .int .i64 (Fx.add e.ax 24576), .int .i64 (Fx.add e.ay 24576)]) ∧ Turned [] w w' := by
  obtain ⟨id, kind, ax, ay, vx, vy, h, t⟩ := e
  have ka := fun u => BxW.around_any ax ay 24576 u
  obtain ⟨a1, e1⟩ : ∃ x, x = Fx.sub ax 24576 := ⟨_, rfl⟩
  obtain ⟨a2, e2⟩ : ∃ x, x = Fx.sub ay 24576 := ⟨_, rfl⟩
  obtain ⟨a3, e3⟩ : ∃ x, x = Fx.add ax 24576 := ⟨_, rfl⟩
  obtain ⟨a4, e4⟩ : ∃ x, x = Fx.add ay 24576 := ⟨_, rfl⟩
  rw [← e1, ← e2, ← e3, ← e4] at ka
  simp only [← e1, ← e2, ← e3, ← e4]
  clear e1 e2 e3 e4
  obtain ⟨W0, hW0⟩ : ∃ W0, W0 = (w.alloc (.cells #[.int .i64 id, .int .i64 kind, .int .i64 ax, .int .i64 ay, .int .i64 vx, .int .i64 vy, .int .i64 h, .int .i64 t] 49)).alloc (.cells #[.int .i64 0, .int .i64 0, .int .i64 0, .int .i64 0] 98) := ⟨_, rfl⟩
  obtain ⟨D, hD⟩ : ∃ b, b = w.heap.size + 1 := ⟨_, rfl⟩
  have hT : Turned [] w W0 := by rw [hW0]; exact (((Turned.refl [] w).alloc _).alloc _)
  have hR : Struct D [.int .i64 0, .int .i64 0, .int .i64 0, .int .i64 0] W0 := by
    have h0 := Struct.new (w.alloc (.cells #[.int .i64 id, .int .i64 kind, .int .i64 ax, .int .i64 ay, .int .i64 vx, .int .i64 vy, .int .i64 h, .int .i64 t] 49)) [.int .i64 0, .int .i64 0, .int .i64 0, .int .i64 0] 98
    rw [show (w.alloc (.cells #[.int .i64 id, .int .i64 kind, .int .i64 ax, .int .i64 ay, .int .i64 vx, .int .i64 vy, .int .i64 h, .int .i64 t] 49)).heap.size = w.heap.size + 1 by simp, ← hD] at h0
    rw [hW0]; exact h0
  have hDw : w.heap.size ≤ D := by omega
  go_enter Try.func55, Try.ntmps55
  go_wp2_with fail
  rw [← hW0, ← hD]
  clear hW0 hD
  go_wp2_with (go_at_call 75; (with_reducible refine (ka _).mono ?_); rintro r u ⟨rfl, hb⟩; have ht := Turned.ofBelow hb; have hR1 := hR.keep ht (by simp); have z0 := (hR1.2 0 _ rfl).1; have y0 := (hR1.2 0 _ rfl).2; have z1 := (hR1.2 1 _ rfl).1; have y1 := (hR1.2 1 _ rfl).2; have z2 := (hR1.2 2 _ rfl).1; have y2 := (hR1.2 2 _ rfl).2; have z3 := (hR1.2 3 _ rfl).1; have y3 := (hR1.2 3 _ rfl).2)
  refine bodyPost_ret (v := .agg #[.int .i64 a1, .int .i64 a2, .int .i64 a3, .int .i64 a4]) (by simp [results, Try.results55, go_sem, z0, z1, z2, z3]) rfl ⟨rfl, ?_⟩
  exact ((((Turned.trans hT ht (by simp)).setCell (p := ⟨D, 0, none⟩) (.inr hDw) _).setCell (p := ⟨D, 1, none⟩) (.inr hDw) _).setCell (p := ⟨D, 2, none⟩) (.inr hDw) _).setCell (p := ⟨D, 3, none⟩) (.inr hDw) _

set_option maxHeartbeats 1000000 in
theorem speed_any (s : Nat) (w : World) :
    Calls Try.prog 29 #[.int .u64 (s : Int)] w fun r w' => r = .returned (.tuple #[.int .u64 ((Ra.nxt s : Nat) : Int), .int .i64 (Wd.speed s)]) ∧ Turned [] w w' := by
  have kb := fun u => RaW.below_any s 32769 (by omega) (by omega) u
  obtain ⟨k, hk⟩ : ∃ k : Nat, k = Ra.num s % 32769 := ⟨_, rfl⟩
  have hki : ((Ra.num s : Nat) : Int) % 32769 = (k : Int) := by omega
  have hk2 : k < 32769 := by rw [hk]; exact Nat.mod_lt _ (by omega)
  have HS : Hid (Wd.speed s = (k : Int) - 16384) := by show Wd.speed s = _; unfold Wd.speed; rw [← hk]
  rw [hki] at kb
  have hw : wrap64 ((k : Int) - 16384) = (k : Int) - 16384 := by unfold wrap64; omega
  clear hki hk
  go_enter Try.func29, Try.ntmps29
  go_wp2_with (go_at_call 46; (with_reducible refine (kb _).mono ?_); rintro r u ⟨rfl, rfl⟩)
  exact bodyPost_ret (v := .tuple #[.int .u64 ((Ra.nxt s : Nat) : Int), .int .i64 ((k : Int) - 16384)]) (by simp [results, Try.results29, go_sem]) rfl ⟨by rw [HS.out], (Turned.refl _ _).drew⟩
end WdW
end Go.Proofs.Ytgabgkgokmeaeaa


/- Who a player is, where one is to stand. The program's (WdW). -/
namespace Go.Proofs.Ytgabgkgokmeaeaa
open Go.RowKit
set_option linter.unusedVariables false
set_option linter.unusedSimpArgs false

namespace Wd
theorem Rise.lt {l : List En.E} (h : Rise l) {i j : Nat} {a b : En.E} (hi : l[i]? = some a) (hj : l[j]? = some b) (hij : i < j) : a.id < b.id := by
  unfold Rise at h
  rw [List.pairwise_iff_getElem] at h
  obtain ⟨h1, rfl⟩ := List.getElem?_eq_some_iff.1 hi
  obtain ⟨h2, rfl⟩ := List.getElem?_eq_some_iff.1 hj
  exact h i j h1 h2 hij
theorem find_rise {l : List En.E} (h : Rise l) {k : Nat} {e : En.E} (hk : l[k]? = some e) : En.find l e.id = (k : Int) :=
  En.find_at hk rfl fun j d hj hd he => by have := h.lt hd hk hj; omega
/-- how many stand ahead of who has a greater ID -/
def above (l : List En.E) (id : Int) : Nat := l.findIdx fun e => decide (id < e.id)
theorem above_at {l : List En.E} {id : Int} {k : Nat} {e : En.E} (hk : l[k]? = some e) (h1 : id < e.id) (h0 : ∀ (j : Nat) (d : En.E), j < k → l[j]? = some d → ¬ id < d.id) : above l id = k := by
  obtain ⟨hl, rfl⟩ := List.getElem?_eq_some_iff.1 hk
  unfold above
  rw [List.findIdx_eq hl]
  refine ⟨by simpa using h1, fun j hj => ?_⟩
  rw [decide_eq_false_iff_not]
  exact h0 j _ hj (List.getElem?_eq_getElem (by omega))
theorem above_no {l : List En.E} {id : Int} (h0 : ∀ (j : Nat) (d : En.E), l[j]? = some d → ¬ id < d.id) : above l id = l.length := by
  unfold above
  rw [List.findIdx_eq_length]
  intro d hd
  obtain ⟨j, hj⟩ := List.getElem?_of_mem hd
  rw [decide_eq_false_iff_not]
  exact h0 j d hj
theorem above_le (l : List En.E) (id : Int) : above l id ≤ l.length := List.findIdx_le_length
theorem ins_parts (e : En.E) : ∀ l : List En.E, ins e l = l.take (above l e.id) ++ e :: l.drop (above l e.id)
  | [] => rfl
  | d :: l => by
    unfold ins above
    rw [List.findIdx_cons]
    by_cases h : e.id < d.id
    · rw [if_pos h, decide_eq_true h]; rfl
    · rw [if_neg h, decide_eq_false h, ins_parts e l]
      rfl
end Wd

namespace WdW
set_option maxHeartbeats 1000000 in
theorem gt_any (e : En.E) (c : Nat) (id : Int) (w : World) (hlt : c < w.heap.size) (hc : w.cell? ⟨c, 0, none⟩ = some (.int .i64 id)) :
    Calls Try.prog 50 #[enVal e, .pointer (some ⟨c, 0, none⟩)] w fun r w' => r = .returned (.bool (decide (id < e.id))) ∧ Turned [] w w' := by
  obtain ⟨i, kind, ax, ay, vx, vy, h, t⟩ := e
  go_enter Try.func50, Try.ntmps50
  go_wp2_with fail
  go_ret
  exact bool_ret rfl ((Turned.refl [] w).alloc _)

set_option maxHeartbeats 4000000 in
theorem index_any (oa : Option Addr) (cap : Nat) (l : List En.E) (c : Nat) (id : Int) (w : World) (hlt : c < w.heap.size) (hc : w.cell? ⟨c, 0, none⟩ = some (.int .i64 id)) (hr : RowOf 8 enEnc oa l w) (hl : l.length ≤ 1100) :
    Calls Try.prog 49 #[.slice oa l.length cap, .func (.func 50) #[] #[.pointer (some ⟨c, 0, none⟩)]] w fun r w' => r = .returned (.int .i64 (if Wd.above l id < l.length then (Wd.above l id : Int) else -1)) ∧ Turned [] w w' := by
  obtain ⟨n, hn⟩ : ∃ n, n = l.length := ⟨_, rfl⟩
  rw [← hn] at hl ⊢
  have HN : Hid (n = l.length) := hn
  clear hn
  obtain ⟨z, hz⟩ : ∃ z, z = (if Wd.above l id < n then (Wd.above l id : Int) else -1) := ⟨_, rfl⟩
  rw [← hz]
  have HZ : Hid (z = (if Wd.above l id < n then (Wd.above l id : Int) else -1)) := hz
  clear hz
  go_enter Try.func49, Try.ntmps49
  go_wp2_with fail
  go_loopw [8] (fun i wr => ∃ k : Nat, k ≤ n ∧ i = .int .i64 (k : Int) ∧ (∀ (j : Nat) (d : En.E), j < k → l[j]? = some d → ¬ id < d.id) ∧ Turned [] w wr) (fun i _ => n - (intOf i).toNat)
  case atStart => exact ⟨0, by omega, rfl, fun j d h _ => absurd h (by omega), Turned.refl _ _⟩
  case round =>
    obtain ⟨k, hk, rfl, hno, ht⟩ := hrel
    by_cases hlt2 : (k : Int) < (n : Int)
    · obtain ⟨e, he⟩ : ∃ e, l[k]? = some e := ⟨_, List.getElem?_eq_getElem (by have := HN.out; omega)⟩
      have hrow := hr.turned ht (by simp)
      obtain ⟨g, off, rfl, hg, p0, p1, p2, p3, p4, p5, p6, p7⟩ := en_at hrow he
      have kg := gt_any e c id wr (Nat.lt_of_lt_of_le hlt ht.size) ((ht.cell (p := ⟨c, 0, none⟩) hlt (by simp)).trans hc)
      by_cases hid : id < e.id
      · have HF : Hid (z = (k : Int)) := by
          show _ = _
          rw [HZ.out, Wd.above_at he hid hno, if_pos (by omega)]
        have hd : decide (id < e.id) = true := by rw [decide_eq_true_iff]; exact hid
        rw [hd] at kg
        clear hno he hid hrow hr hc hd
        go_wp2_with (go_at_call 50; (with_reducible refine kg.mono ?_); rintro r u1 ⟨rfl, HT1⟩)
        go_ret
        exact EnW.nt_ret HF.out.symm (ht.trans HT1 (by simp))
      · have hd : decide (id < e.id) = false := by rw [decide_eq_false_iff_not]; exact hid
        rw [hd] at kg
        have HNO : Hid (∀ (j : Nat) (d : En.E), j < k + 1 → l[j]? = some d → ¬ id < d.id) := by
          intro j d hj hd
          by_cases hjk : j = k
          · subst hjk; rw [he] at hd; simp at hd; subst hd; exact hid
          · exact hno j d (by omega) hd
        clear hno he hid hrow hd
        go_wp2_with (go_at_call 50; (with_reducible refine kg.mono ?_); rintro r u1 ⟨rfl, HT1⟩)
        go_roundw
        case rel => exact ⟨k + 1, by omega, by go_num, fun j d hj hd => Int.not_lt.2 (HNO.out j d hj hd), ht.trans HT1 (by simp)⟩
        case measure => simp [intOf]; omega
    · have HF : Hid (z = -1) := by
        show _ = _
        rw [HZ.out, Wd.above_no fun j d hd => hno j d (by have := (List.getElem?_eq_some_iff.1 hd).1; have := HN.out; omega) hd, ← HN.out, if_neg (by omega)]
      clear hno
      go_wp2_with fail
      go_ret
      exact EnW.nt_ret HF.out.symm ht

set_option maxHeartbeats 2000000 in
theorem placeFor_any (oa : Option Addr) (cap : Nat) (l : List En.E) (id : Int) (w : World) (hr : RowOf 8 enEnc oa l w) (hl : l.length ≤ 1100) :
    Calls Try.prog 32 #[.slice oa l.length cap, .int .i64 id] w fun r w' => r = .returned (.int .i64 (Wd.above l id : Int)) ∧ Turned [] w w' := by
  obtain ⟨W0, hW0⟩ : ∃ W0, W0 = w.alloc (.cells #[.int .i64 id] 3) := ⟨_, rfl⟩
  obtain ⟨B, hB⟩ : ∃ b, b = w.heap.size := ⟨_, rfl⟩
  have hT : Turned [] w W0 := by rw [hW0]; exact (Turned.refl [] w).alloc _
  have hS : Struct B [.int .i64 id] W0 := by rw [hW0, hB]; exact Struct.new w [.int .i64 id] 3
  have ki := index_any oa cap l B id W0 hS.1 (hS.2 0 _ rfl).1 (hr.turned hT (by simp)) hl
  obtain ⟨n, hn⟩ : ∃ n, n = l.length := ⟨_, rfl⟩
  have hle := Wd.above_le l id
  obtain ⟨z, hz⟩ : ∃ z, z = Wd.above l id := ⟨_, rfl⟩
  rw [← hz, ← hn] at hle
  rw [← hz, ← hn] at ki
  rw [← hz, ← hn]
  have hmf : ∀ (fn : Fn) (first cap : Array Value) (u : World), (Instr.makeFunc fn first cap).run Try.prog u = .ok (.func fn first cap) u := fun _ _ _ _ => rfl
  clear hn hz hr hl
  go_enter Try.func32, Try.ntmps32
  go_wp2_with fail
  rw [← hW0, ← hB]
  clear hW0 hB
  by_cases hlt : z < n
  · rw [if_pos hlt] at ki
    have h0 : ¬ (z : Int) < 0 := by omega
    go_wp2_with (go_at_call 49; (with_reducible refine ki.mono ?_); rintro r u1 ⟨rfl, HT1⟩)
    go_ret
    exact EnW.nt_ret rfl (hT.trans HT1 (by simp))
  · rw [if_neg hlt] at ki
    have hzn : (n : Int) = (z : Int) := by omega
    go_wp2_with (go_at_call 49; (with_reducible refine ki.mono ?_); rintro r u1 ⟨rfl, HT1⟩)
    go_ret
    exact EnW.nt_ret rfl (hT.trans HT1 (by simp))

set_option maxHeartbeats 2000000 in
theorem findPlayer_yes (oa : Option Addr) (cap : Nat) (l : List En.E) (k : Nat) (e : En.E) (id : Int) (hR : Wd.Rise l) (hk : l[k]? = some e) (hp : Wd.isP id e = true) (w : World) (hr : RowOf 8 enEnc oa l w) (hl : l.length ≤ 1100) :
    Calls Try.prog 33 #[.slice oa l.length cap, .int .i64 id] w fun r w' => r = .returned (.int .i64 (k : Int)) ∧ Turned [] w w' := by
  obtain ⟨h1, h2⟩ := Wd.isP_iff.1 hp
  have kf := fun u (h : Turned [] w u) => EnW.find_any oa cap l id u (hr.turned h (by simp)) (by omega)
  have hf := Wd.find_rise hR hk
  rw [h1] at hf
  rw [hf] at kf
  have kf := kf w (Turned.refl _ _)
  obtain ⟨g, off, rfl, hg, p0, p1, _⟩ := en_at hr hk
  rw [h2] at p1
  have hkl := (List.getElem?_eq_some_iff.1 hk).1
  obtain ⟨n, hn⟩ : ∃ n, n = l.length := ⟨_, rfl⟩
  have hkn : (k : Int) < (n : Int) := by omega
  rw [← hn] at kf ⊢
  have hne : ¬ (k : Int) = -1 := by omega
  clear hn hkl hf hk hp hR hr hl h1 h2
  go_enter Try.func33, Try.ntmps33
  go_wp2_with (go_at_call 30; (with_reducible refine kf.mono ?_); rintro r u1 ⟨rfl, HT1⟩; have p1 := (HT1.cell (p := ⟨g, off + k * 8 + 1, none⟩) hg (by simp)).trans p1)
  go_ret
  exact EnW.nt_ret rfl HT1

set_option maxHeartbeats 2000000 in
theorem findPlayer_no (oa : Option Addr) (cap : Nat) (l : List En.E) (id : Int) (hR : Wd.Rise l) (hno : ∀ e ∈ l, Wd.isP id e = false) (w : World) (hr : RowOf 8 enEnc oa l w) (hl : l.length ≤ 1100) :
    Calls Try.prog 33 #[.slice oa l.length cap, .int .i64 id] w fun r w' => r = .returned (.int .i64 (-1)) ∧ Turned [] w w' := by
  have kf := EnW.find_any oa cap l id w hr (by omega)
  by_cases hex : ∃ (k : Nat) (e : En.E), l[k]? = some e ∧ e.id = id
  · obtain ⟨k, e, hk, hid⟩ := hex
    have hf := Wd.find_rise hR hk
    rw [hid] at hf
    rw [hf] at kf
    have hkd : ¬ e.kind = 1 := fun h => by
      have := hno e (List.mem_of_getElem? hk)
      rw [Wd.isP_iff.2 ⟨hid, h⟩] at this
      cases this
    obtain ⟨g, off, rfl, hg, p0, p1, _⟩ := en_at hr hk
    have hkl := (List.getElem?_eq_some_iff.1 hk).1
    obtain ⟨n, hn⟩ : ∃ n, n = l.length := ⟨_, rfl⟩
    have hkn : (k : Int) < (n : Int) := by omega
    rw [← hn] at kf ⊢
    have hne : ¬ (k : Int) = -1 := by omega
    have hkb : (e.kind != 1) = true := by rw [bne_iff_ne]; exact hkd
    clear hn hkl hf hk hR hr hl hid hno hkd
    go_enter Try.func33, Try.ntmps33
    go_wp2_with (go_at_call 30; (with_reducible refine kf.mono ?_); rintro r u1 ⟨rfl, HT1⟩; have p1 := (HT1.cell (p := ⟨g, off + k * 8 + 1, none⟩) hg (by simp)).trans p1)
    go_ret
    exact EnW.nt_ret rfl HT1
  · have hf : En.find l id = -1 := En.find_no fun j d hd he => hex ⟨j, d, hd, he⟩
    rw [hf] at kf
    obtain ⟨n, hn⟩ : ∃ n, n = l.length := ⟨_, rfl⟩
    rw [← hn] at kf ⊢
    clear hn hf hex hno hR hr hl
    go_enter Try.func33, Try.ntmps33
    go_wp2_with (go_at_call 30; (with_reducible refine kf.mono ?_); rintro r u1 ⟨rfl, HT1⟩)
    go_ret
    exact EnW.nt_ret rfl HT1
end WdW
end Go.Proofs.Ytgabgkgokmeaeaa


/- An entity put into a list of the call's own, and one taken out: slices.Insert, slices.Delete at entities (WdW). -/
namespace Go.Proofs.Ytgabgkgokmeaeaa
open Go.RowKit
set_option linter.unusedVariables false
set_option linter.unusedSimpArgs false

theorem w64 {x : Int} (h : -9223372036854775808 ≤ x ∧ x ≤ 9223372036854775807) : wrap64 x = x := by unfold wrap64; omega
namespace WdW
theorem one_flat {l : List En.E} : ∀ u ∈ l.flatMap enEnc, u.oneCell' = true := by
  intro u hu
  obtain ⟨a, ha, hu⟩ := List.mem_flatMap.1 hu
  exact enEnc_one (l := [a]) a (by simp) u hu

set_option maxRecDepth 20000 in
set_option maxHeartbeats 1000000 in
theorem insert_room (g p n k q cap : Nat) (LA LB R1 R2 : List Value) (x : En.E) (w : World) (hn : n = k + q) (hq : 0 < q) (hl : n ≤ 1000) (hc : n + 1 ≤ cap) (hcm : cap ≤ maxLen)
    (hg : w.heap[g]? = some (.cells (LA ++ (LB ++ (R1 ++ R2))).toArray 49 (0, 0))) (hA : LA.length = k * 8) (hB : LB.length = q * 8) (hR1 : R1.length = 8) (h1 : ∀ u ∈ LB, u.oneCell' = true)
    (hp : w.heap[p]? = some (.cells (enEnc x).toArray 49 (0, 0))) (hpg : p ≠ g) :
    Calls Try.prog 31 #[.slice (some ⟨g, 0, none⟩) n cap, .int .i64 (k : Int), .slice (some ⟨p, 0, none⟩) 1 1] w fun e w' => e = .returned (.slice (some ⟨g, 0, none⟩) (n + 1) cap) ∧ w'.heap[g]? = some (.cells (LA ++ (enEnc x ++ (LB ++ R2))).toArray 49 (0, 0)) ∧ Turned [g] w w' := by
  have hov : ∀ (u : World) (o lb cb : Nat), u.heap[g]? = w.heap[g]? → u.heap[p]? = w.heap[p]? → (callFunc 47 #[.slice (some ⟨p, 0, none⟩) 1 1, .slice (some ⟨g, o, none⟩) lb cb]).run Try.prog u = .ok (.value (.bool false)) u := fun u o lb cb hug hup => by
    obtain ⟨i0, hi, hz0, hz1, hz2⟩ := info_parts elem_en.info
    rw [hg] at hug
    rw [hp] at hup
    rw [run_callFunc_extern Try.func47 (by kernel_rfl) (by kernel_rfl) (by kernel_rfl) (e := Extern.SlicesOverlaps.overlaps #[32, 32] #[4]) (by kernel_rfl),
      Lib.run_overlaps_apart u 32 4 49 elem_en.und 8 (fun w => by simp [Go.sizeOf, typeInfo, hi, hz1]) ⟨p, 0, none⟩ ⟨g, o, none⟩ 1 1 lb cb hpg 49 49 8 (LA ++ (LB ++ (R1 ++ R2))).length (by simp [World.shape?, hup, enEnc]) (by simp [World.shape?, hug]) (by rw [List.length_append, List.length_append]; omega) (by simp [World.frozen?, hup]) (by simp [World.frozen?, hup])]
    rfl
  have hx1 : ∀ u ∈ enEnc x, u.oneCell' = true := fun u hu => enEnc_one (l := [x]) x (by simp) u hu
  have hglt : g < w.heap.size := (Array.getElem?_eq_some_iff.1 hg).1
  have hplt : p < w.heap.size := (Array.getElem?_eq_some_iff.1 hp).1
  have hpc : ∀ (w' : World), w'.heap[p]? = some (.cells (enEnc x).toArray 49 (0, 0)) → ∀ (j : Nat) (u : Value), (enEnc x)[j]? = some u → w'.cell? ((⟨p, 0, none⟩ : Addr).add j) = some u := fun w' hw' => by
    have e0 : enEnc x = [] ++ (enEnc x ++ []) := by simp
    rw [e0] at hw'
    have := cells_of_heap (o := 0) hw' rfl
    simpa using this
  obtain ⟨B1, B2, hB12, hB1⟩ : ∃ B1 B2, LB = B1 ++ B2 ∧ B1.length = 8 := ⟨LB.take 8, LB.drop 8, by rw [List.take_append_drop], by rw [List.length_take]; omega⟩
  have k1 : (k : Int) < (n : Int) := by omega
  have k2 : ¬ (k : Int) = (n : Int) := by omega
  have k3 : ¬ cap = k := by omega
  have k4 : ¬ cap = k + 1 := by omega
  have k5 : (k : Int) ≤ (n : Int) := by omega
  have k6 : (n : Int) ≤ (cap : Int) := by omega
  have k7 : ¬ (cap : Int) < (n : Int) + 1 := by omega
  have k8 : (n : Int) + 1 ≤ (cap : Int) := by omega
  have k9 : (k : Int) + 1 ≤ (n : Int) + 1 := by omega
  have k10 : (k : Int) ≤ (n : Int) + 1 := by omega
  have k11 : (0 : Int) ≤ (k : Int) + 1 := by omega
  have k12 : (0 : Int) ≤ (n : Int) + 1 := by omega
  have w1 : (n : Int) ≤ 1000 := by omega
  have w2 : (k : Int) ≤ 1000 := by omega
  have hw : ∀ x : Int, 0 ≤ x → x ≤ 1000 → wrap64 (x + 1) = x + 1 := fun x h1 h2 => w64 (by omega)
  have hwi : ∀ x : Int, 0 ≤ x → x ≤ 1000 → IntKind.i64.wrap (x + 1) = x + 1 := fun x h1 h2 => by rw [IntKind.wrap_i64]; omega
  have htn : ((k : Int) + 1).toNat = k + 1 := by omega
  have hov := fun o lb cb => hov w o lb cb rfl rfl
  have HG : Hid (w.heap[g]? = some (.cells (LA ++ (LB ++ (R1 ++ R2))).toArray 49 (0, 0))) := hg
  have HP : Hid (w.heap[p]? = some (.cells (enEnc x).toArray 49 (0, 0))) := hp
  have HC : Hid (∀ (w' : World), w'.heap[p]? = some (.cells (enEnc x).toArray 49 (0, 0)) → ∀ (j : Nat) (u : Value), (enEnc x)[j]? = some u → w'.cell? ((⟨p, 0, none⟩ : Addr).add j) = some u) := hpc
  have HX : Hid (∀ u ∈ enEnc x, u.oneCell' = true) := hx1
  have HB1 : Hid (∀ u ∈ LB, u.oneCell' = true) := h1
  have HG1 : Hid (w.heap[g]? = some (.cells ((LA ++ B1) ++ ((B2 ++ R1) ++ R2)).toArray 49 (0, 0))) := by
    show _ = _
    rw [hg, hB12]
    simp only [List.append_assoc]
  have hA1 : (LA ++ B1).length = (k + 1) * 8 := by rw [List.length_append]; omega
  have hB2 : (B2 ++ R1).length = q * 8 := by
    have := congrArg List.length hB12
    rw [List.length_append] at this
    rw [List.length_append]; omega
  have hmin : q = Nat.min (n + 1 - k) (n + 1 - (k + 1)) := by simp only [Nat.min_def]; split <;> omega
  have hmin1 : 1 = Nat.min 1 (n + 1 - k) := by simp only [Nat.min_def]; split <;> omega
  have HS : Hid (∀ (j : Nat) (u : Value), LB[j]? = some u → w.cell? ((⟨g, k * 8, none⟩ : Addr).add j) = some u) := cells_of_heap hg hA
  have HL : Hid ((LA ++ B1).length = (k + 1) * 8 ∧ (B2 ++ R1).length = q * 8 ∧ q = Nat.min (n + 1 - k) (n + 1 - (k + 1)) ∧ 1 = Nat.min 1 (n + 1 - k) ∧ LA.length = k * 8 ∧ LB.length = q * 8 ∧ B1.length = 8) := ⟨hA1, hB2, hmin, hmin1, hA, hB, hB1⟩
  have HN : Hid (n = k + q ∧ 0 < q) := ⟨hn, hq⟩
  clear hn hq hl hc hcm hg hp hpc hx1 h1 hB12 hA1 hB2 hmin hmin1 hA hB hB1 hR1
  go_enter Try.func31, Try.ntmps31
  go_wp2_with (simp only [hov])
  go_region_law (refine step_copyRow elem_en rfl _ _ rfl g ((k + 1) * 8) (n - k) (cap - (k + 1)) ⟨g, k * 8, none⟩ (n + 1 - k) (cap - k) q (by simp [Act.eval, Act.put]) (by simp [Act.eval, Act.put]) (LA ++ B1) (B2 ++ R1) R2 LB (by exact HG1.out) (by exact HL.out.1) (by have := HN.out; simp only [Nat.min_def]; split <;> omega) (by exact HL.out.2.2.2.2.2.1) (by exact HL.out.2.1) (by exact HS.out) (by exact HB1.out) ?_; intro w2 hg2 ht2)
  have HG2 : Hid (w2.heap[g]? = some (.cells (LA ++ (B1 ++ (LB ++ R2))).toArray 49 (0, 0))) := by
    show _ = _
    rw [hg2.out]
    simp only [List.append_assoc]
  have ht3 : Turned [g] w w2 := ((Turned.refl [g] w).drew).trans ht2 (fun k hk _ => hk)
  have HP2 : Hid (∀ (j : Nat) (u : Value), (enEnc x)[j]? = some u → w2.cell? ((⟨p, 0, none⟩ : Addr).add j) = some u) := HC.out w2 (by rw [ht3.block p hplt (by simpa using hpg)]; exact HP.out)
  clear hov HG1
  go_wp2_with ((with_reducible show wpList _ _ _ (_ :: _) _ _); refine wp_copyRow elem_en rfl _ _ rfl g (k * 8) _ _ ⟨p, 0, none⟩ 1 1 1 rfl rfl LA B1 (LB ++ R2) (enEnc x) (by exact HG2.out) (by exact HL.out.2.2.2.2.1) (by have := HN.out; simp only [Nat.min_def]; split <;> omega) rfl (by exact HL.out.2.2.2.2.2.2) (by exact HP2.out) (by exact HX.out) ?_; intro w3 hg3 ht4)
  exact bodyPost_ret (v := .slice (some ⟨g, 0, none⟩) (n + 1) cap) (by simp [results, Try.results31, go_sem]) rfl ⟨rfl, hg3.out, ht3.trans ht4 (fun k hk _ => hk)⟩

set_option maxRecDepth 20000 in
set_option maxHeartbeats 1000000 in
theorem insert_grow (g p n k q cap : Nat) (LA LB R : List Value) (x : En.E) (w : World) (hn : n = k + q) (hq : 0 < q) (hl : n ≤ 1000) (hc : cap = n)
    (hg : w.heap[g]? = some (.cells (LA ++ (LB ++ R)).toArray 49 (0, 0))) (hA : LA.length = k * 8) (hB : LB.length = q * 8) (h1 : ∀ u ∈ LB, u.oneCell' = true)
    (hp : w.heap[p]? = some (.cells (enEnc x).toArray 49 (0, 0))) (hpg : p ≠ g) :
    Calls Try.prog 31 #[.slice (some ⟨g, 0, none⟩) n cap, .int .i64 (k : Int), .slice (some ⟨p, 0, none⟩) 1 1] w fun e w' => ∃ G cap' R', e = .returned (.slice (some ⟨G, 0, none⟩) (n + 1) cap') ∧ w.heap.size ≤ G ∧ n + 1 ≤ cap' ∧ cap' ≤ maxLen ∧ R'.length = (cap' - (n + 1)) * 8 ∧ w'.heap[G]? = some (.cells (LA ++ (enEnc x ++ (LB ++ R'))).toArray 49 (0, 0)) ∧ Turned [] w w' := by
  have hx1 : ∀ u ∈ enEnc x, u.oneCell' = true := fun u hu => enEnc_one (l := [x]) x (by simp) u hu
  have hglt : g < w.heap.size := (Array.getElem?_eq_some_iff.1 hg).1
  have hplt : p < w.heap.size := (Array.getElem?_eq_some_iff.1 hp).1
  have hpc : ∀ (w' : World), w'.heap[p]? = some (.cells (enEnc x).toArray 49 (0, 0)) → ∀ (j : Nat) (u : Value), (enEnc x)[j]? = some u → w'.cell? ((⟨p, 0, none⟩ : Addr).add j) = some u := fun w' hw' => by
    have e0 : enEnc x = [] ++ (enEnc x ++ []) := by simp
    rw [e0] at hw'
    have := cells_of_heap (o := 0) hw' rfl
    simpa using this
  have HA : Hid (∀ (j : Nat) (u : Value), LA[j]? = some u → w.cell? ((⟨g, 0, none⟩ : Addr).add j) = some u) := cells_of_heap (A := []) (B := LA) hg rfl
  have HGB : Hid (∀ w' : World, w'.heap[g]? = w.heap[g]? → ∀ (j : Nat) (u : Value), LB[j]? = some u → w'.cell? ((⟨g, k * 8, none⟩ : Addr).add j) = some u) := fun w' hw' => by
    rw [hg] at hw'
    exact cells_of_heap hw' hA
  obtain ⟨q1, hq1⟩ : ∃ q1, q1 = q + 1 := ⟨_, rfl⟩
  have k1 : (k : Int) < (n : Int) := by omega
  have k2 : ¬ (k : Int) = (n : Int) := by omega
  have k3 : ¬ cap = k := by omega
  have k5 : (k : Int) ≤ (n : Int) := by omega
  have k6 : (n : Int) ≤ (cap : Int) := by omega
  have k7 : (cap : Int) < (n : Int) + 1 := by omega
  have k9 : (k : Int) + 1 ≤ (n : Int) + 1 := by omega
  have k10 : (k : Int) ≤ (n : Int) + 1 := by omega
  have k11 : (0 : Int) ≤ (k : Int) + 1 := by omega
  have k12 : (0 : Int) ≤ (n : Int) + 1 := by omega
  have k13 : (k : Int) ≤ (cap : Int) := by omega
  have w1 : (n : Int) ≤ 1000 := by omega
  have w2 : (k : Int) ≤ 1000 := by omega
  have hw : ∀ x : Int, 0 ≤ x → x ≤ 1000 → wrap64 (x + 1) = x + 1 := fun x h1 h2 => w64 (by omega)
  have hwi : ∀ x : Int, 0 ≤ x → x ≤ 1000 → IntKind.i64.wrap (x + 1) = x + 1 := fun x h1 h2 => by rw [IntKind.wrap_i64]; omega
  have hws : ∀ x : Int, x = (n : Int) + 1 → wrap64 (x - (k : Int)) = (q1 : Int) := fun x h => by rw [w64 (by omega)]; omega
  have hwt : (n : Int) + 1 - (k : Int) = (q1 : Int) := by omega
  have htn : ((k : Int) + 1).toNat = k + 1 := by omega
  have HG : Hid (w.heap[g]? = some (.cells (LA ++ (LB ++ R)).toArray 49 (0, 0))) := hg
  have HP : Hid (w.heap[p]? = some (.cells (enEnc x).toArray 49 (0, 0))) := hp
  have HC : Hid (∀ (w' : World), w'.heap[p]? = some (.cells (enEnc x).toArray 49 (0, 0)) → ∀ (j : Nat) (u : Value), (enEnc x)[j]? = some u → w'.cell? ((⟨p, 0, none⟩ : Addr).add j) = some u) := hpc
  have HX : Hid (∀ u ∈ enEnc x, u.oneCell' = true) := hx1
  have HB1 : Hid (∀ u ∈ LB, u.oneCell' = true) := h1
  have HN : Hid (n = k + q ∧ 0 < q ∧ q1 = q + 1 ∧ cap = n ∧ n ≤ 1000) := ⟨hn, hq, hq1, hc, hl⟩
  have HL : Hid (LA.length = k * 8 ∧ LB.length = q * 8) := ⟨hA, hB⟩
  clear hn hq hl hc hg hp hpc hx1 h1 hA hB hq1
  go_enter Try.func31, Try.ntmps31
  go_wp2_with (first | (at_builtin; refine wp_appendZeros elem_en rfl _ _ 3 .i64 rfl (by kernel_rfl) ⟨g, 0, none⟩ k cap rfl q1 (n + 1) (by have := HN.out; omega) rfl LA (by exact HL.out.1) (by exact HA.out) (by have := HN.out; omega) (by have := HN.out; omega) (by have := HN.out; omega) (by decide) ?_; intro cap2 Z u1 G hG hg1 hc1 hc2 hZ ht1; have c1 : ¬ cap2 = k := (by have := HN.out; omega); have c2 : ¬ cap2 = k + 1 := (by have := HN.out; omega); have c3 : (n : Int) + 1 ≤ (cap2 : Int) := (by have := HN.out; omega); obtain ⟨Z1, Z2, Z3, rfl, hz1, hz2⟩ := three_parts Z 8 (q * 8) (by have := HN.out; omega); have hZ3 : Z3.length = (cap2 - (n + 1)) * 8 := (by rw [List.length_append, List.length_append] at hZ; have := HN.out; omega); have HZ : Hid (Z1.length = 8 ∧ Z2.length = q * 8 ∧ Z3.length = (cap2 - (n + 1)) * 8 ∧ w.heap.size = G) := ⟨hz1, hz2, hZ3, hG.symm⟩; have hGw : w.heap.size ≤ G := (by omega); have hpG : p ≠ G := (by omega); have hgG : g ≠ G := (by omega); have HP1 : Hid (∀ (j : Nat) (u : Value), (enEnc x)[j]? = some u → u1.cell? ((⟨p, 0, none⟩ : Addr).add j) = some u) := HC.out u1 (by rw [ht1.block p hplt (by simp)]; exact HP.out); clear hz1 hz2 hZ3 hZ hG) | ((with_reducible show wpList _ _ _ (_ :: _) _ _); refine wp_copyRow elem_en rfl _ _ rfl G (k * 8) (n + 1 - k) (cap2 - k) ⟨p, 0, none⟩ 1 1 1 rfl rfl LA Z1 (Z2 ++ Z3) (enEnc x) (by exact hg1.out) (by exact HL.out.1) (by have := HN.out; simp only [Nat.min_def]; split <;> omega) rfl (by exact HZ.out.1) (by exact HP1.out) (by exact HX.out) ?_; intro u2 hg2 ht2))
  have HG2 : Hid (u2.heap[G]? = some (.cells ((LA ++ enEnc x) ++ (Z2 ++ Z3)).toArray 49 (0, 0))) := by
    show _ = _
    rw [hg2.out]
    simp only [List.append_assoc]
  have HS2 : Hid (∀ (j : Nat) (u : Value), LB[j]? = some u → u2.cell? ((⟨g, k * 8, none⟩ : Addr).add j) = some u) := HGB.out u2 (by rw [ht2.block g (Nat.lt_of_lt_of_le hglt ht1.size) (by simpa using hgG), ht1.block g hglt (by simp)])
  have HL2 : Hid ((LA ++ enEnc x).length = (k + 1) * 8) := by
    show _ = _
    rw [List.length_append, HL.out.1]
    show k * 8 + 8 = _
    omega
  go_region_law (refine step_copyRow elem_en rfl _ _ rfl G ((k + 1) * 8) (n - k) (cap2 - (k + 1)) ⟨g, k * 8, none⟩ (n - k) (cap - k) q (by simp [Act.eval, Act.put]) (by simp [Act.eval, Act.put]) (LA ++ enEnc x) Z2 Z3 LB (by exact HG2.out) (by exact HL2.out) (by have := HN.out; simp only [Nat.min_def]; split <;> omega) (by exact HL.out.2) (by exact HZ.out.2.1) (by exact HS2.out) (by exact HB1.out) ?_; intro u3 hg3 ht3)
  go_wp2_with fail
  refine bodyPost_ret (v := .slice (some ⟨G, 0, none⟩) (n + 1) cap2) (by simp [results, Try.results31, go_sem]) rfl ⟨G, cap2, Z3, rfl, hGw, hc1, hc2, HZ.out.2.2.1, by rw [hg3.out]; simp only [List.append_assoc], ?_⟩
  refine Turned.mono (S := [G]) ((ht1.mono (by simp)).trans (S' := [G]) (ht2.trans (S' := [G]) (((Turned.refl [G] u2).drew).trans ht3 (fun k hk _ => hk)) (fun k hk _ => hk)) (fun k hk _ => hk)) ?_
  intro j hj hl
  simp at hj
  omega

set_option maxRecDepth 20000 in
set_option maxHeartbeats 1000000 in
theorem insert_any (v : Value) (l : List En.E) (k p : Nat) (x : En.E) (w : World) (h : OwnL 49 8 enEnc v l w) (hk : k ≤ l.length) (hl : l.length ≤ 1000) (hp : w.heap[p]? = some (.cells (enEnc x).toArray 49 (0, 0))) (hpb : p ∉ blk v) :
    Calls Try.prog 31 #[v, .int .i64 (k : Int), .slice (some ⟨p, 0, none⟩) 1 1] w fun e w' => ∃ v', e = .returned v' ∧ OwnL 49 8 enEnc v' (l.take k ++ x :: l.drop k) w' ∧ Turned (blk v) w w' ∧ (blk v' = blk v ∨ ∀ b ∈ blk v', w.heap.size ≤ b) := by
  have hplt : p < w.heap.size := (Array.getElem?_eq_some_iff.1 hp).1
  have hpc : ∀ (w' : World), w'.heap[p]? = some (.cells (enEnc x).toArray 49 (0, 0)) → ∀ (j : Nat) (u : Value), (enEnc x)[j]? = some u → w'.cell? ((⟨p, 0, none⟩ : Addr).add j) = some u := fun w' hw' => by
    have e0 : enEnc x = [] ++ (enEnc x ++ []) := by simp
    rw [e0] at hw'
    have := cells_of_heap (o := 0) hw' rfl
    simpa using this
  by_cases hkn : k = l.length
  · have hb1 : (l.length + 1) * 64 ≤ 140737488355328 := by omega
    have hb2 : l.length + 1 ≤ maxLen := by unfold maxLen; omega
    have hfull : l.take k ++ x :: l.drop k = l ++ [x] := by rw [hkn, List.take_length, List.drop_length]
    rw [hfull]
    have HP := hpc w hp
    have hsrc : ∀ (j : Nat) (u : Value), ([x].flatMap enEnc)[j]? = some u → w.cell? ⟨p, 0 + j, none⟩ = some u := by
      intro j u hj
      have := HP j u (by simpa using hj)
      rw [Addr.add_lit] at this
      exact this
    have hfin : ∀ (v' : Value) (w' : World), (blk v' = blk v ∨ blk v' = [w.heap.size]) → (blk v' = blk v ∨ ∀ b ∈ blk v', w.heap.size ≤ b) := fun v' w' hb => by
      rcases hb with h1 | h1
      · exact .inl h1
      · exact .inr (by rw [h1]; simp)
    have hv := h.2
    obtain ⟨n, hn⟩ : ∃ n, n = l.length := ⟨_, rfl⟩
    rw [← hn] at hv hkn hb1 hb2
    have HN : Hid (n = l.length) := hn
    clear hfull hpc hp HP hpb hk hl hn
    subst hkn
    rcases hv with ⟨rfl, h0⟩ | ⟨g, cap, cur, rfl, _, _, h1, h2, _⟩
    · subst h0
      go_enter Try.func31, Try.ntmps31
      go_wp2_with (at_builtin; refine wp_push elem_en rfl _ _ rfl rfl h p 0 1 1 [x] rfl rfl enEnc_len enEnc_one hsrc (by rw [← HN.out]; exact hb2) (by rw [← HN.out]; exact hb1) ?_; intro v' w1 ho1 ht1 hb1)
      go_ret
      exact ⟨v', rfl, ho1, ht1, hfin _ w hb1⟩
    · have hk0 : (0 : Int) ≤ (k : Int) := by omega
      have hk1 : (k : Int) ≤ (cap : Int) := by omega
      clear h1 h2
      go_enter Try.func31, Try.ntmps31
      go_wp2_with (at_builtin; refine wp_push elem_en rfl _ _ rfl rfl h p 0 1 1 [x] rfl rfl enEnc_len enEnc_one hsrc (by rw [← HN.out]; exact hb2) (by rw [← HN.out]; exact hb1) ?_; intro v' w1 ho1 ht1 hb1)
      all_goals go_ret
      all_goals exact ⟨v', rfl, ho1, ht1, hfin _ w hb1⟩
  · have hlt' : k < l.length := by omega
    obtain ⟨g, cap, R, rfl, hnc, hcm, hg, hRl⟩ := h.block (by omega)
    have hA : ((l.take k).flatMap enEnc).length = k * 8 := by
      rw [flat_len (enc := enEnc) (sz := 8) enEnc_len, List.length_take, Nat.min_eq_left (by omega)]
    have hB : ((l.drop k).flatMap enEnc).length = (l.length - k) * 8 := by
      rw [flat_len (enc := enEnc) (sz := 8) enEnc_len, List.length_drop]
    rw [flat_parts l k, List.append_assoc] at hg
    have hpg : p ≠ g := by simpa [blk, Value.ownBlock] using hpb
    have hres : (l.take k ++ x :: l.drop k).flatMap enEnc = (l.take k).flatMap enEnc ++ (enEnc x ++ (l.drop k).flatMap enEnc) := by rw [List.flatMap_append, List.flatMap_cons]
    have hlen : (l.take k ++ x :: l.drop k).length = l.length + 1 := by rw [List.length_append, List.length_take, List.length_cons, List.length_drop]; omega
    have hown : ∀ (g' cap' : Nat) (R' : List Value) (w' : World), w'.heap[g']? = some (.cells ((l.take k).flatMap enEnc ++ (enEnc x ++ ((l.drop k).flatMap enEnc ++ R'))).toArray 49 (0, 0)) → l.length + 1 ≤ cap' → cap' ≤ maxLen → R'.length = (cap' - (l.length + 1)) * 8 → OwnL 49 8 enEnc (.slice (some ⟨g', 0, none⟩) (l.length + 1) cap') (l.take k ++ x :: l.drop k) w' := fun g' cap' R' w' h1 h2 h3 h4 =>
      OwnL.ofBlock (R := R') (by rw [hres]; simpa only [List.append_assoc] using h1) enEnc_len hlen h2 h3 h4
    by_cases hroom : l.length + 1 ≤ cap
    · obtain ⟨R1, R2, R3, rfl, hR1, _⟩ := three_parts R 8 0 (by omega)
      have hR2 : (R2 ++ R3).length = (cap - (l.length + 1)) * 8 := by
        rw [List.length_append] at hRl
        omega
      refine (insert_room g p l.length k (l.length - k) cap _ _ R1 (R2 ++ R3) x w (by omega) (by omega) hl hroom hcm hg hA hB hR1 one_flat hp hpg).mono ?_
      rintro e w' ⟨rfl, h1, h2⟩
      exact ⟨_, rfl, hown _ _ _ _ h1 hroom hcm hR2, by simpa [blk, Value.ownBlock] using h2, .inl (by simp [blk, Value.ownBlock])⟩
    · refine (insert_grow g p l.length k (l.length - k) cap _ _ R x w (by omega) (by omega) hl (by omega) hg hA hB one_flat hp hpg).mono ?_
      rintro e w' ⟨G, cap', R', rfl, h1, h2, h3, h4, h5, h6⟩
      exact ⟨_, rfl, hown _ _ _ _ h5 h2 h3 h4, h6.mono (by simp), .inr (by simpa [blk, Value.ownBlock] using h1)⟩

set_option maxRecDepth 20000 in
set_option maxHeartbeats 1000000 in
theorem delete_any (v : Value) (l : List En.E) (k : Nat) (w : World) (h : OwnL 49 8 enEnc v l w) (hk : k < l.length) (hl : l.length ≤ 1000) :
    Calls Try.prog 34 #[v, .int .i64 (k : Int), .int .i64 ((k + 1 : Nat) : Int)] w fun e w' => ∃ v', e = .returned v' ∧ OwnL 49 8 enEnc v' (l.take k ++ l.drop (k + 1)) w' ∧ Turned (blk v) w w' ∧ blk v' = blk v := by
  obtain ⟨g, cap, R, rfl, hnc, hcm, hg, hRl⟩ := h.block (by omega)
  have hA : ((l.take k).flatMap enEnc).length = k * 8 := by
    rw [flat_len (enc := enEnc) (sz := 8) enEnc_len, List.length_take, Nat.min_eq_left (by omega)]
  have hB : ((l.drop (k + 1)).flatMap enEnc).length = (l.length - (k + 1)) * 8 := by
    rw [flat_len (enc := enEnc) (sz := 8) enEnc_len, List.length_drop]
  have hres : (l.take k ++ l.drop (k + 1)).flatMap enEnc = (l.take k).flatMap enEnc ++ (l.drop (k + 1)).flatMap enEnc := by rw [List.flatMap_append]
  have hlen : (l.take k ++ l.drop (k + 1)).length = l.length - 1 := by rw [List.length_append, List.length_take, List.length_drop]; omega
  rw [flat_at_k (enc := enEnc) (List.getElem?_eq_getElem hk), List.append_assoc, List.append_assoc] at hg
  have hX : (enEnc l[k]).length = 8 := rfl
  have h1 : ∀ u ∈ (l.drop (k + 1)).flatMap enEnc, u.oneCell' = true := one_flat
  obtain ⟨LA, hLA⟩ : ∃ A, A = (l.take k).flatMap enEnc := ⟨_, rfl⟩
  obtain ⟨LB, hLB⟩ : ∃ A, A = (l.drop (k + 1)).flatMap enEnc := ⟨_, rfl⟩
  obtain ⟨X, hXX⟩ : ∃ A, A = enEnc l[k] := ⟨_, rfl⟩
  rw [← hLA] at hA hg hres
  rw [← hLB] at hB hg hres h1
  rw [← hXX] at hX hg
  obtain ⟨n, hn⟩ : ∃ n, n = l.length := ⟨_, rfl⟩
  have hown : ∀ (R' : List Value) (w' : World), w'.heap[g]? = some (.cells (LA ++ (LB ++ R')).toArray 49 (0, 0)) → R'.length = (cap - (n - 1)) * 8 → OwnL 49 8 enEnc (.slice (some ⟨g, 0, none⟩) (n - 1) cap) (l.take k ++ l.drop (k + 1)) w' := fun R' w' h1 h2 =>
    OwnL.ofBlock (R := R') (by rw [hres]; simpa only [List.append_assoc] using h1) enEnc_len (by rw [hlen, hn]) (by omega) hcm h2
  rw [← hn] at hk hl hnc hRl hB ⊢
  obtain ⟨q, hq⟩ : ∃ q, n = k + 1 + q := ⟨n - (k + 1), by omega⟩
  have hBq : LB.length = q * 8 := by rw [hB]; congr 1; omega
  obtain ⟨Y1, Y2, Y3, hY, hY1, hY2⟩ := three_parts (X ++ LB) (q * 8) 8 (by rw [List.length_append]; omega)
  have hY3 : Y3 = [] := by
    have := congrArg List.length hY
    rw [List.length_append, List.length_append, List.length_append] at this
    exact List.eq_nil_of_length_eq_zero (by omega)
  subst hY3
  rw [List.append_nil] at hY
  have HG0 : Hid (w.heap[g]? = some (.cells (LA ++ (Y1 ++ (Y2 ++ R))).toArray 49 (0, 0))) := by
    show _ = _
    rw [hg, ← List.append_assoc X LB R, hY, List.append_assoc]
  have HS : Hid (∀ (a : Addr), (0 < q → a = ⟨g, (k + 1) * 8, none⟩) → ∀ (j : Nat) (u : Value), LB[j]? = some u → w.cell? (a.add j) = some u) := fun a ha j u hj => by
    have hjl := (List.getElem?_eq_some_iff.1 hj).1
    rw [ha (by omega)]
    have e : LA ++ (X ++ (LB ++ R)) = (LA ++ X) ++ (LB ++ R) := by simp only [List.append_assoc]
    rw [e] at hg
    exact cells_of_heap hg (by rw [List.length_append]; omega) j u hj
  have HO : Hid (∀ (R' : List Value) (w' : World), w'.heap[g]? = some (.cells (LA ++ (LB ++ R')).toArray 49 (0, 0)) → R'.length = (cap - (n - 1)) * 8 → OwnL 49 8 enEnc (.slice (some ⟨g, 0, none⟩) (n - 1) cap) (l.take k ++ l.drop (k + 1)) w') := hown
  have HN : Hid (n = k + 1 + q ∧ n ≤ 1000 ∧ n ≤ cap ∧ cap ≤ maxLen) := ⟨hq, hl, hnc, hcm⟩
  have HL : Hid (LA.length = k * 8 ∧ LB.length = q * 8 ∧ Y1.length = q * 8 ∧ Y2.length = 8 ∧ R.length = (cap - n) * 8 ∧ n - 1 + 1 = n) := ⟨hA, hBq, hY1, hY2, hRl, by omega⟩
  have H1 : Hid (∀ u ∈ LB, u.oneCell' = true) := h1
  obtain ⟨k', hk'⟩ : ∃ k' : Nat, k' = k + 1 := ⟨_, rfl⟩
  obtain ⟨m, hm⟩ : ∃ m : Nat, m = n - 1 := ⟨_, rfl⟩
  have HK : Hid (k' = k + 1 ∧ m = n - 1) := ⟨hk', hm⟩
  have k1 : (k : Int) ≤ (k' : Int) := by omega
  have k2 : ¬ (k : Int) = (k' : Int) := by omega
  have k3 : (k' : Int) ≤ (n : Int) := by omega
  have k4 : (n : Int) ≤ (cap : Int) := by omega
  have k5 : (k : Int) ≤ (cap : Int) := by omega
  have k6 : ¬ cap = m := by omega
  have k7 : (m : Int) ≤ (n : Int) := by omega
  have k8 : ¬ cap = k := by omega
  have hqq : n - k' = q := by omega
  have hfull : cap = k' → q = 0 := fun h => by omega
  rw [← hk']
  clear hq hown h h1 hBq hY hY1 hY2 hg hA hB hRl hX hXX hLA hLB hres hlen hk hl hnc hcm hn hk' hm
  by_cases hcap : cap = k'
  · have hq0 : q = 0 := hfull hcap
    clear hfull
    subst hcap
    subst hq0
    go_enter Try.func34, Try.ntmps34
    go_wp2_with fail
    go_region_law (refine step_appendRow elem_en rfl _ _ rfl g k cap ⟨g, 0, none⟩ 0 (cap - cap) (by simp [Act.eval, Act.put]) (by simp [Act.eval, Act.put, hqq]) LA Y1 (Y2 ++ R) LB m (by have := HN.out; have := HK.out; omega) (by exact HG0.out) (by exact HL.out.1) (by exact HL.out.2.1) (by exact HL.out.2.2.1) (by have := HN.out; omega) (by exact HS.out ⟨g, 0, none⟩ (fun h => absurd h (by omega))) (by exact H1.out) ?_; intro w2 hg2 ht2)
    have HG2 : Hid (w2.heap[g]? = some (.cells ((LA ++ LB) ++ (Y2 ++ R)).toArray 49 (0, 0))) := by
      show _ = _
      rw [hg2.out]
      simp only [List.append_assoc]
    have ht3 : Turned [g] w w2 := ((Turned.refl [g] w).drew).trans ht2 (fun k hk _ => hk)
    go_wp2_with ((with_reducible show wpList _ _ _ (_ :: _) _ _); refine wp_clearRow elem_en (by decide) rfl _ rfl g (m * 8) (n - m) (cap - m) rfl (by have := HN.out; have := HK.out; omega) (LA ++ LB) Y2 R (by exact HG2.out) (by have := HN.out; have := HK.out; have := HL.out; rw [List.length_append]; omega) (by have := HN.out; have := HK.out; have := HL.out; omega) ?_; intro w3 Z hg3 hZ ht4)
    refine bodyPost_ret (v := .slice (some ⟨g, 0, none⟩) m cap) (by simp [results, Try.results34, go_sem]) rfl ⟨_, rfl, ?_, ?_, ?_⟩
    · rw [HK.out.2, show List.drop cap l = List.drop (k + 1) l from congrArg (fun x => List.drop x l) HK.out.1]
      refine HO.out (Z ++ R) w3 (by rw [hg3.out]; simp only [List.append_assoc]) ?_
      have := HN.out; have := HK.out; have := HL.out
      rw [List.length_append]
      omega
    · exact (ht3.trans ht4 (fun k hk _ => hk)).mono (by simp [blk, Value.ownBlock])
    · simp [blk, Value.ownBlock]
  · clear hfull
    go_enter Try.func34, Try.ntmps34
    go_wp2_with fail
    go_region_law (refine step_appendRow elem_en rfl _ _ rfl g k cap ⟨g, k' * 8, none⟩ q (cap - k') (by simp [Act.eval, Act.put]) (by simp [Act.eval, Act.put, hqq, hcap]) LA Y1 (Y2 ++ R) LB m (by have := HN.out; have := HK.out; omega) (by exact HG0.out) (by exact HL.out.1) (by exact HL.out.2.1) (by exact HL.out.2.2.1) (by have := HN.out; omega) (by exact HS.out ⟨g, k' * 8, none⟩ (fun _ => by rw [HK.out.1])) (by exact H1.out) ?_; intro w2 hg2 ht2)
    have HG2 : Hid (w2.heap[g]? = some (.cells ((LA ++ LB) ++ (Y2 ++ R)).toArray 49 (0, 0))) := by
      show _ = _
      rw [hg2.out]
      simp only [List.append_assoc]
    have ht3 : Turned [g] w w2 := ((Turned.refl [g] w).drew).trans ht2 (fun k hk _ => hk)
    go_wp2_with ((with_reducible show wpList _ _ _ (_ :: _) _ _); refine wp_clearRow elem_en (by decide) rfl _ rfl g (m * 8) (n - m) (cap - m) rfl (by have := HN.out; have := HK.out; omega) (LA ++ LB) Y2 R (by exact HG2.out) (by have := HN.out; have := HK.out; have := HL.out; rw [List.length_append]; omega) (by have := HN.out; have := HK.out; have := HL.out; omega) ?_; intro w3 Z hg3 hZ ht4)
    refine bodyPost_ret (v := .slice (some ⟨g, 0, none⟩) m cap) (by simp [results, Try.results34, go_sem]) rfl ⟨_, rfl, ?_, ?_, ?_⟩
    · rw [HK.out.2, HK.out.1]
      refine HO.out (Z ++ R) w3 (by rw [hg3.out]; simp only [List.append_assoc]) ?_
      have := HN.out; have := HK.out; have := HL.out
      rw [List.length_append]
      omega
    · exact (ht3.trans ht4 (fun k hk _ => hk)).mono (by simp [blk, Value.ownBlock])
    · simp [blk, Value.ownBlock]

end WdW

end Go.Proofs.Ytgabgkgokmeaeaa


/- How one moves: the reference's (MvR). -/
namespace Go.Proofs.Ytgabgkgokmeaeaa
open Go.RowKit
set_option linter.unusedVariables false
set_option linter.unusedSimpArgs false

namespace MvR
abbrev zeroE : En.E := ⟨0, 0, 0, 0, 0, 0, 0, 0⟩
/-- an entity's cells are stored whole -/
abbrev put8 (w : World) (p : Nat) (x : En.E) : World := ((((((((w.setCell ⟨p, 0, none⟩ (.int .i64 x.id)).setCell ⟨p, 1, none⟩ (.int .i64 x.kind)).setCell ⟨p, 2, none⟩ (.int .i64 x.ax)).setCell ⟨p, 3, none⟩ (.int .i64 x.ay)).setCell ⟨p, 4, none⟩ (.int .i64 x.vx)).setCell ⟨p, 5, none⟩ (.int .i64 x.vy)).setCell ⟨p, 6, none⟩ (.int .i64 x.h)).setCell ⟨p, 7, none⟩ (.int .i64 x.t))
theorem set8 {p : Nat} {e : En.E} {w : World} (h : Struct p (enEnc e) w) (x : En.E) : Struct p (enEnc x) (put8 w p x) :=
  (((((((h.set (i := 0) (by simp [enEnc]) _).set (i := 1) (by simp [enEnc]) _).set (i := 2) (by simp [enEnc]) _).set (i := 3) (by simp [enEnc]) _).set (i := 4) (by simp [enEnc]) _).set (i := 5) (by simp [enEnc]) _).set (i := 6) (by simp [enEnc]) _).set (i := 7) (by simp [enEnc]) _
theorem turned8 {S : List Nat} {w w' : World} {p : Nat} (h : Turned S w w') (hp : p ∈ S ∨ w.heap.size ≤ p) (x : En.E) : Turned S w (put8 w' p x) :=
  (((((((h.setCell (p := ⟨p, 0, none⟩) hp _).setCell (p := ⟨p, 1, none⟩) hp _).setCell (p := ⟨p, 2, none⟩) hp _).setCell (p := ⟨p, 3, none⟩) hp _).setCell (p := ⟨p, 4, none⟩) hp _).setCell (p := ⟨p, 5, none⟩) hp _).setCell (p := ⟨p, 6, none⟩) hp _).setCell (p := ⟨p, 7, none⟩) hp _

end MvR
end Go.Proofs.Ytgabgkgokmeaeaa

/- One comes in; a new ball. The program's (WdW). -/
namespace Go.Proofs.Ytgabgkgokmeaeaa
open Go.RowKit
set_option linter.unusedVariables false
set_option linter.unusedSimpArgs false

namespace Wd
/-- who comes in, where she was another one -/
def comes (m : Ti.M) (s : Nat) (e : En.E) : En.E := ⟨e.id, e.kind, (place m s).1, (place m s).2, 0, 0, 100, e.t⟩
end Wd
namespace WdW
set_option maxRecDepth 20000 in
set_option maxHeartbeats 4000000 in
theorem comeIn_any (m : Ti.M) (s : Nat) (ob : Option Addr) (cb : Nat) (e : En.E) (h0 : 0 < m.sp.length) (h1 : m.sp.length ≤ 1100) (w : World) (hr : RowOf 2 tvEnc ob m.sp w) :
    Calls Try.prog 28 #[.int .u64 (s : Int), .slice ob m.sp.length cb, enVal e] w fun r w' => r = .returned (.tuple #[.int .u64 ((Ra.nxt s : Nat) : Int), enVal (Wd.comes m s e)]) ∧ Turned [] w w' := by
  obtain ⟨id, kind, ax, ay, vx, vy, h, t⟩ := e
  obtain ⟨n, hn⟩ : ∃ n, n = m.sp.length := ⟨_, rfl⟩
  have kb : ∀ u, Calls Try.prog 46 #[.int .u64 (s : Int), .int .i64 (n : Int)] u fun r w' => r = .returned (.tuple #[.int .u64 ((Ra.nxt s : Nat) : Int), .int .i64 (((Ra.num s : Nat) : Int) % (n : Int))]) ∧ Turned [] u w' := fun u => (RaW.below_any s (n : Int) (by omega) (by omega) u).mono fun r w' h => ⟨h.1, by rw [h.2]; exact (Turned.refl [] u).drew⟩
  obtain ⟨k, hk⟩ : ∃ k : Nat, k = Ra.num s % m.sp.length := ⟨_, rfl⟩
  have hki : ((Ra.num s : Nat) : Int) % (n : Int) = (k : Int) := by rw [hk, hn]; exact (Int.natCast_emod _ _).symm
  have hkl : k < m.sp.length := by rw [hk]; exact Nat.mod_lt _ h0
  have hkn : (k : Int) < (n : Int) := by omega
  have hn0 : (0 : Int) < (n : Int) := by omega
  rw [hki] at kb
  clear hki
  obtain ⟨⟨px, py⟩, hp⟩ : ∃ p, m.sp[k]? = some p := ⟨_, List.getElem?_eq_getElem hkl⟩
  have HE : Hid (Wd.comes m s ⟨id, kind, ax, ay, vx, vy, h, t⟩ = ⟨id, kind, px, py, 0, 0, 100, t⟩) := by
    show Wd.comes _ _ _ = _
    have : Wd.place m s = (px, py) := by unfold Wd.place; rw [← hk, hp]; rfl
    unfold Wd.comes
    rw [this]
  obtain ⟨g, off, rfl, hg, q0, q1⟩ := place_at hr hp
  obtain ⟨W0, hW0⟩ : ∃ W0, W0 = (w.alloc (.cells #[.int .i64 id, .int .i64 kind, .int .i64 ax, .int .i64 ay, .int .i64 vx, .int .i64 vy, .int .i64 h, .int .i64 t] 49)).alloc (.cells #[.int .i64 0, .int .i64 0, .int .i64 0, .int .i64 0, .int .i64 0, .int .i64 0, .int .i64 0, .int .i64 0] 49) := ⟨_, rfl⟩
  obtain ⟨B, hB⟩ : ∃ b, b = w.heap.size := ⟨_, rfl⟩
  obtain ⟨D, hD⟩ : ∃ b, b = w.heap.size + 1 := ⟨_, rfl⟩
  have hT : Turned [] w W0 := by rw [hW0]; exact (((Turned.refl [] w).alloc _).alloc _)
  have hS : Struct B [.int .i64 id, .int .i64 kind, .int .i64 ax, .int .i64 ay, .int .i64 vx, .int .i64 vy, .int .i64 h, .int .i64 t] W0 := by
    have h0 := Struct.new w [.int .i64 id, .int .i64 kind, .int .i64 ax, .int .i64 ay, .int .i64 vx, .int .i64 vy, .int .i64 h, .int .i64 t] 49
    rw [← hB] at h0
    rw [hW0]; exact h0.keep ((Turned.refl [] _).alloc _) (by simp)
  have hR : Struct D [.int .i64 0, .int .i64 0, .int .i64 0, .int .i64 0, .int .i64 0, .int .i64 0, .int .i64 0, .int .i64 0] W0 := by
    have h0 := Struct.new (w.alloc (.cells #[.int .i64 id, .int .i64 kind, .int .i64 ax, .int .i64 ay, .int .i64 vx, .int .i64 vy, .int .i64 h, .int .i64 t] 49)) [.int .i64 0, .int .i64 0, .int .i64 0, .int .i64 0, .int .i64 0, .int .i64 0, .int .i64 0, .int .i64 0] 49
    rw [show (w.alloc (.cells #[.int .i64 id, .int .i64 kind, .int .i64 ax, .int .i64 ay, .int .i64 vx, .int .i64 vy, .int .i64 h, .int .i64 t] 49)).heap.size = w.heap.size + 1 by simp, ← hD] at h0
    rw [hW0]; exact h0
  have hBw : w.heap.size ≤ B := by omega
  have hDw : w.heap.size ≤ D := by omega
  have nBD : B ≠ D := by omega
  have nDB : D ≠ B := by omega
  have p0 := (hT.cell (p := ⟨g, off + k * 2, none⟩) hg (by simp)).trans q0
  have p1 := (hT.cell (p := ⟨g, off + k * 2 + 1, none⟩) hg (by simp)).trans q1
  have hg0 := Nat.lt_of_lt_of_le hg hT.size
  rw [← hn] at *
  clear hn hk hkl hp q0 q1 hr h0 h1
  go_enter Try.func28, Try.ntmps28
  go_wp2_with fail
  rw [← hW0, ← hD, ← hB]
  clear hW0 hB hD
  go_wp2_with (go_at_call 46; (with_reducible refine (kb _).mono ?_); rintro r u1 ⟨rfl, HT1⟩; have hS1 := hS.keep HT1 (by simp); have hR1 := hR.keep HT1 (by simp); have c0 := (hS1.2 0 _ rfl).1; have f0 := (hS1.2 0 _ rfl).2; have c1 := (hS1.2 1 _ rfl).1; have f1 := (hS1.2 1 _ rfl).2; have c2 := (hS1.2 2 _ rfl).1; have f2 := (hS1.2 2 _ rfl).2; have c3 := (hS1.2 3 _ rfl).1; have f3 := (hS1.2 3 _ rfl).2; have c4 := (hS1.2 4 _ rfl).1; have f4 := (hS1.2 4 _ rfl).2; have c5 := (hS1.2 5 _ rfl).1; have f5 := (hS1.2 5 _ rfl).2; have c6 := (hS1.2 6 _ rfl).1; have f6 := (hS1.2 6 _ rfl).2; have c7 := (hS1.2 7 _ rfl).1; have f7 := (hS1.2 7 _ rfl).2; have z0 := (hR1.2 0 _ rfl).1; have y0 := (hR1.2 0 _ rfl).2; have z1 := (hR1.2 1 _ rfl).1; have y1 := (hR1.2 1 _ rfl).2; have z2 := (hR1.2 2 _ rfl).1; have y2 := (hR1.2 2 _ rfl).2; have z3 := (hR1.2 3 _ rfl).1; have y3 := (hR1.2 3 _ rfl).2; have z4 := (hR1.2 4 _ rfl).1; have y4 := (hR1.2 4 _ rfl).2; have z5 := (hR1.2 5 _ rfl).1; have y5 := (hR1.2 5 _ rfl).2; have z6 := (hR1.2 6 _ rfl).1; have y6 := (hR1.2 6 _ rfl).2; have z7 := (hR1.2 7 _ rfl).1; have y7 := (hR1.2 7 _ rfl).2; have p0 := (HT1.cell (p := ⟨g, off + k * 2, none⟩) hg0 (by simp)).trans p0; have p1 := (HT1.cell (p := ⟨g, off + k * 2 + 1, none⟩) hg0 (by simp)).trans p1)
  have hTd := hT.trans HT1 (by simp)
  obtain ⟨X, hX⟩ : ∃ X, X = ((((u1.setCell ⟨B, 2, none⟩ (.int .i64 px)).setCell ⟨B, 3, none⟩ (.int .i64 py)).setCell ⟨B, 4, none⟩ (.int .i64 0)).setCell ⟨B, 5, none⟩ (.int .i64 0)).setCell ⟨B, 6, none⟩ (.int .i64 100) := ⟨_, rfl⟩
  have hSX : Struct B [.int .i64 id, .int .i64 kind, .int .i64 px, .int .i64 py, .int .i64 0, .int .i64 0, .int .i64 100, .int .i64 t] X := by
    rw [hX]
    exact ((((hS1.set (i := 2) (by simp) _).set (i := 3) (by simp) _).set (i := 4) (by simp) _).set (i := 5) (by simp) _).set (i := 6) (by simp) _
  have hTX : Turned [B] u1 X := by
    rw [hX]
    exact (((((Turned.refl [B] u1).setCell (p := ⟨B, 2, none⟩) (.inl (by simp)) _).setCell (p := ⟨B, 3, none⟩) (.inl (by simp)) _).setCell (p := ⟨B, 4, none⟩) (.inl (by simp)) _).setCell (p := ⟨B, 5, none⟩) (.inl (by simp)) _).setCell (p := ⟨B, 6, none⟩) (.inl (by simp)) _
  have hRX := hR1.keep hTX (by simpa using nDB)
  rw [← hX]
  clear hX
  have c0 := (hSX.2 0 _ rfl).1
  have f0 := (hSX.2 0 _ rfl).2
  have c1 := (hSX.2 1 _ rfl).1
  have f1 := (hSX.2 1 _ rfl).2
  have c2 := (hSX.2 2 _ rfl).1
  have f2 := (hSX.2 2 _ rfl).2
  have c3 := (hSX.2 3 _ rfl).1
  have f3 := (hSX.2 3 _ rfl).2
  have c4 := (hSX.2 4 _ rfl).1
  have f4 := (hSX.2 4 _ rfl).2
  have c5 := (hSX.2 5 _ rfl).1
  have f5 := (hSX.2 5 _ rfl).2
  have c6 := (hSX.2 6 _ rfl).1
  have f6 := (hSX.2 6 _ rfl).2
  have c7 := (hSX.2 7 _ rfl).1
  have f7 := (hSX.2 7 _ rfl).2
  have z0 := (hRX.2 0 _ rfl).1
  have y0 := (hRX.2 0 _ rfl).2
  have z1 := (hRX.2 1 _ rfl).1
  have y1 := (hRX.2 1 _ rfl).2
  have z2 := (hRX.2 2 _ rfl).1
  have y2 := (hRX.2 2 _ rfl).2
  have z3 := (hRX.2 3 _ rfl).1
  have y3 := (hRX.2 3 _ rfl).2
  have z4 := (hRX.2 4 _ rfl).1
  have y4 := (hRX.2 4 _ rfl).2
  have z5 := (hRX.2 5 _ rfl).1
  have y5 := (hRX.2 5 _ rfl).2
  have z6 := (hRX.2 6 _ rfl).1
  have y6 := (hRX.2 6 _ rfl).2
  have z7 := (hRX.2 7 _ rfl).1
  have y7 := (hRX.2 7 _ rfl).2
  go_region
  obtain ⟨W9, hW9⟩ : ∃ W9, W9 = (MvR.put8 X D ⟨id, kind, px, py, 0, 0, 100, t⟩).drew := ⟨_, rfl⟩
  have hS9 : Struct D (enEnc ⟨id, kind, px, py, 0, 0, 100, t⟩) W9 := by rw [hW9]; exact (MvR.set8 (e := ⟨0, 0, 0, 0, 0, 0, 0, 0⟩) hRX _).keep ((Turned.refl [] _).drew) (by simp)
  have hT9 : Turned [] w W9 := by rw [hW9]; exact (MvR.turned8 (hTd.trans (S' := [B]) hTX (by intro j hj hl; simp at hj; omega)) (.inr hDw) _).drew
  simp only [MvR.put8] at hW9
  rw [← hW9]
  clear hW9
  have e0 := (hS9.2 0 _ rfl).1
  have e1 := (hS9.2 1 _ rfl).1
  have e2 := (hS9.2 2 _ rfl).1
  have e3 := (hS9.2 3 _ rfl).1
  have e4 := (hS9.2 4 _ rfl).1
  have e5 := (hS9.2 5 _ rfl).1
  have e6 := (hS9.2 6 _ rfl).1
  have e7 := (hS9.2 7 _ rfl).1
  go_wp2_with fail
  exact bodyPost_ret (v := .tuple #[.int .u64 ((Ra.nxt s : Nat) : Int), enVal ⟨id, kind, px, py, 0, 0, 100, t⟩]) (by simp [results, Try.results28, go_sem, e0, e1, e2, e3, e4, e5, e6, e7]) rfl ⟨by rw [HE.out], hT9⟩
end WdW

namespace WdW
set_option maxRecDepth 20000 in
set_option maxHeartbeats 4000000 in
theorem newBall_any (m : Ti.M) (s : Nat) (ob : Option Addr) (cb : Nat) (i : Nat) (id : Int) (hid : id = 9 + (i : Int)) (h0 : 0 < m.sp.length) (h1 : m.sp.length ≤ 1100) (w : World) (hr : RowOf 2 tvEnc ob m.sp w) :
    Calls Try.prog 13 #[.int .u64 (s : Int), .slice ob m.sp.length cb, .int .i64 id] w fun r w' => r = .returned (.tuple #[.int .u64 ((Ra.nxt (Ra.nxt (Ra.nxt s)) : Nat) : Int), enVal (Wd.ball m s i)]) ∧ Turned [] w w' := by
  obtain ⟨W0, hW0⟩ : ∃ W0, W0 = w.alloc (.cells #[.int .i64 0, .int .i64 0, .int .i64 0, .int .i64 0, .int .i64 0, .int .i64 0, .int .i64 0, .int .i64 0] 49) := ⟨_, rfl⟩
  obtain ⟨D, hD⟩ : ∃ b, b = w.heap.size := ⟨_, rfl⟩
  have hT : Turned [] w W0 := by rw [hW0]; exact (Turned.refl [] w).alloc _
  have hR : Struct D [.int .i64 0, .int .i64 0, .int .i64 0, .int .i64 0, .int .i64 0, .int .i64 0, .int .i64 0, .int .i64 0] W0 := by
    rw [hW0, hD]
    exact Struct.new w [.int .i64 0, .int .i64 0, .int .i64 0, .int .i64 0, .int .i64 0, .int .i64 0, .int .i64 0, .int .i64 0] 49
  have hDw : w.heap.size ≤ D := by omega
  have kc := comeIn_any m s ob cb ⟨id, 2, 0, 0, 0, 0, 0, 0⟩ h0 h1 W0 (hr.turned hT (by simp))
  obtain ⟨px, hpx⟩ : ∃ x, x = (Wd.place m s).1 := ⟨_, rfl⟩
  obtain ⟨py, hpy⟩ : ∃ x, x = (Wd.place m s).2 := ⟨_, rfl⟩
  obtain ⟨s1, hs1⟩ : ∃ x, x = Ra.nxt s := ⟨_, rfl⟩
  have k2 := fun u => speed_any s1 u
  obtain ⟨s2, hs2⟩ : ∃ x, x = Ra.nxt s1 := ⟨_, rfl⟩
  have k3 := fun u => speed_any s2 u
  obtain ⟨s3, hs3⟩ : ∃ x, x = Ra.nxt s2 := ⟨_, rfl⟩
  obtain ⟨vx, hvx⟩ : ∃ x, x = Wd.speed s1 := ⟨_, rfl⟩
  obtain ⟨vy, hvy⟩ : ∃ x, x = Wd.speed s2 := ⟨_, rfl⟩
  have HE : Hid (Wd.ball m s i = ⟨id, 2, px, py, vx, vy, 100, 0⟩ ∧ Ra.nxt (Ra.nxt (Ra.nxt s)) = s3) := by
    show _ ∧ _
    rw [hs3, hs2, hs1]
    refine ⟨?_, rfl⟩
    unfold Wd.ball
    rw [hpx, hpy, hvx, hvy, hs2, hs1, hid]
  have hce : Wd.comes m s ⟨id, 2, 0, 0, 0, 0, 0, 0⟩ = ⟨id, 2, px, py, 0, 0, 100, 0⟩ := by unfold Wd.comes; rw [hpx, hpy]
  rw [hce, ← hs1] at kc
  rw [← hs2, ← hvx] at k2
  rw [← hs3, ← hvy] at k3
  clear hce hpx hpy hs1 hs2 hs3 hvx hvy hid h0 h1 hr
  obtain ⟨n, hn⟩ : ∃ n, n = m.sp.length := ⟨_, rfl⟩
  rw [← hn] at kc ⊢
  clear hn
  go_enter Try.func13, Try.ntmps13
  go_wp2_with fail
  rw [← hW0, ← hD]
  clear hW0 hD
  go_wp2_with (go_at_call 28; (with_reducible refine kc.mono ?_); rintro r u1 ⟨rfl, HT1⟩)
  obtain ⟨X1, hX1⟩ : ∃ X, X = u1.alloc (.cells #[.int .i64 id, .int .i64 2, .int .i64 px, .int .i64 py, .int .i64 0, .int .i64 0, .int .i64 100, .int .i64 0] 49) := ⟨_, rfl⟩
  obtain ⟨B, hB⟩ : ∃ b, b = u1.heap.size := ⟨_, rfl⟩
  have hS1 : Struct B [.int .i64 id, .int .i64 2, .int .i64 px, .int .i64 py, .int .i64 0, .int .i64 0, .int .i64 100, .int .i64 0] X1 := by
    rw [hX1, hB]
    exact Struct.new u1 [.int .i64 id, .int .i64 2, .int .i64 px, .int .i64 py, .int .i64 0, .int .i64 0, .int .i64 100, .int .i64 0] 49
  have HTX : Turned [] W0 X1 := by rw [hX1]; exact HT1.alloc _
  have hR1 := hR.keep HTX (by simp)
  have hBw : w.heap.size ≤ B := by rw [hB]; exact (hT.trans HT1 (by simp)).size
  have nDB : D ≠ B := by have := (hR.keep HT1 (by simp)).1; omega
  rw [← hX1, ← hB]
  clear hX1 hB
  have HTB : Turned [B] w X1 := (hT.trans HTX (by simp)).mono (by simp)
  go_wp2_with (first
    | (go_at_call 29; (with_reducible refine (k2 _).mono ?_); rintro r u2 ⟨rfl, HT2⟩; have hS2 := hS1.keep HT2 (by simp); have hR2 := hR1.keep HT2 (by simp); have HTB2 : Turned [B] w u2 := HTB.trans HT2 (by simp); have c0 := (hS2.2 0 _ rfl).1; have f0 := (hS2.2 0 _ rfl).2; have c1 := (hS2.2 1 _ rfl).1; have f1 := (hS2.2 1 _ rfl).2; have c2 := (hS2.2 2 _ rfl).1; have f2 := (hS2.2 2 _ rfl).2; have c3 := (hS2.2 3 _ rfl).1; have f3 := (hS2.2 3 _ rfl).2; have c4 := (hS2.2 4 _ rfl).1; have f4 := (hS2.2 4 _ rfl).2; have c5 := (hS2.2 5 _ rfl).1; have f5 := (hS2.2 5 _ rfl).2; have c6 := (hS2.2 6 _ rfl).1; have f6 := (hS2.2 6 _ rfl).2; have c7 := (hS2.2 7 _ rfl).1; have f7 := (hS2.2 7 _ rfl).2)
    | (go_at_call 29; (with_reducible refine (k3 _).mono ?_); rintro r u3 ⟨rfl, HT3⟩; have hS3 := (hS2.set (i := 4) (by simp) (.int .i64 vx)).keep HT3 (by simp); have hR3 := (hR2.keep ((Turned.refl [B] u2).setCell (p := ⟨B, 4, none⟩) (.inl (by simp)) (.int .i64 vx)) (by simpa using nDB)).keep HT3 (by simp); have HTB3 : Turned [B] w u3 := (HTB2.setCell (p := ⟨B, 4, none⟩) (.inl (by simp)) (.int .i64 vx)).trans HT3 (by simp); have c0 := (hS3.2 0 _ rfl).1; have f0 := (hS3.2 0 _ rfl).2; have c1 := (hS3.2 1 _ rfl).1; have f1 := (hS3.2 1 _ rfl).2; have c2 := (hS3.2 2 _ rfl).1; have f2 := (hS3.2 2 _ rfl).2; have c3 := (hS3.2 3 _ rfl).1; have f3 := (hS3.2 3 _ rfl).2; have c4 := (hS3.2 4 _ rfl).1; have f4 := (hS3.2 4 _ rfl).2; have c5 := (hS3.2 5 _ rfl).1; have f5 := (hS3.2 5 _ rfl).2; have c6 := (hS3.2 6 _ rfl).1; have f6 := (hS3.2 6 _ rfl).2; have c7 := (hS3.2 7 _ rfl).1; have f7 := (hS3.2 7 _ rfl).2))
  obtain ⟨X, hX⟩ : ∃ X, X = u3.setCell ⟨B, 5, none⟩ (.int .i64 vy) := ⟨_, rfl⟩
  have hSX : Struct B [.int .i64 id, .int .i64 2, .int .i64 px, .int .i64 py, .int .i64 vx, .int .i64 vy, .int .i64 100, .int .i64 0] X := by
    rw [hX]
    exact hS3.set (i := 5) (by simp) _
  have hTX : Turned [B] u3 X := by
    rw [hX]
    exact (Turned.refl [B] u3).setCell (p := ⟨B, 5, none⟩) (.inl (by simp)) _
  have hRX := hR3.keep hTX (by simpa using nDB)
  rw [← hX]
  clear hX
  have c0 := (hSX.2 0 _ rfl).1
  have f0 := (hSX.2 0 _ rfl).2
  have c1 := (hSX.2 1 _ rfl).1
  have f1 := (hSX.2 1 _ rfl).2
  have c2 := (hSX.2 2 _ rfl).1
  have f2 := (hSX.2 2 _ rfl).2
  have c3 := (hSX.2 3 _ rfl).1
  have f3 := (hSX.2 3 _ rfl).2
  have c4 := (hSX.2 4 _ rfl).1
  have f4 := (hSX.2 4 _ rfl).2
  have c5 := (hSX.2 5 _ rfl).1
  have f5 := (hSX.2 5 _ rfl).2
  have c6 := (hSX.2 6 _ rfl).1
  have f6 := (hSX.2 6 _ rfl).2
  have c7 := (hSX.2 7 _ rfl).1
  have f7 := (hSX.2 7 _ rfl).2
  have z0 := (hRX.2 0 _ rfl).1
  have y0 := (hRX.2 0 _ rfl).2
  have z1 := (hRX.2 1 _ rfl).1
  have y1 := (hRX.2 1 _ rfl).2
  have z2 := (hRX.2 2 _ rfl).1
  have y2 := (hRX.2 2 _ rfl).2
  have z3 := (hRX.2 3 _ rfl).1
  have y3 := (hRX.2 3 _ rfl).2
  have z4 := (hRX.2 4 _ rfl).1
  have y4 := (hRX.2 4 _ rfl).2
  have z5 := (hRX.2 5 _ rfl).1
  have y5 := (hRX.2 5 _ rfl).2
  have z6 := (hRX.2 6 _ rfl).1
  have y6 := (hRX.2 6 _ rfl).2
  have z7 := (hRX.2 7 _ rfl).1
  have y7 := (hRX.2 7 _ rfl).2
  go_region
  obtain ⟨W9, hW9⟩ : ∃ W9, W9 = (MvR.put8 X D ⟨id, 2, px, py, vx, vy, 100, 0⟩).drew := ⟨_, rfl⟩
  have hS9 : Struct D (enEnc ⟨id, 2, px, py, vx, vy, 100, 0⟩) W9 := by rw [hW9]; exact (MvR.set8 (e := ⟨0, 0, 0, 0, 0, 0, 0, 0⟩) hRX _).keep ((Turned.refl [] _).drew) (by simp)
  have hT9 : Turned [] w W9 := by rw [hW9]; exact ((MvR.turned8 (HTB3.trans hTX (fun k hk _ => hk)) (.inr hDw) _).drew).mono (by intro j hj hl; simp at hj; omega)
  simp only [MvR.put8] at hW9
  rw [← hW9]
  clear hW9
  have e0 := (hS9.2 0 _ rfl).1
  have e1 := (hS9.2 1 _ rfl).1
  have e2 := (hS9.2 2 _ rfl).1
  have e3 := (hS9.2 3 _ rfl).1
  have e4 := (hS9.2 4 _ rfl).1
  have e5 := (hS9.2 5 _ rfl).1
  have e6 := (hS9.2 6 _ rfl).1
  have e7 := (hS9.2 7 _ rfl).1
  go_wp2_with fail
  exact bodyPost_ret (v := .tuple #[.int .u64 ((s3 : Nat) : Int), enVal ⟨id, 2, px, py, vx, vy, 100, 0⟩]) (by simp [results, Try.results13, go_sem, e0, e1, e2, e3, e4, e5, e6, e7]) rfl ⟨by rw [HE.out.1, HE.out.2], hT9⟩
end WdW

end Go.Proofs.Ytgabgkgokmeaeaa


/- Where a place lies in a map, the order of its spawns, the signs of its tiles. -/
namespace Go.Proofs.Ytgabgkgokmeaeaa
set_option linter.unusedVariables false

namespace Ti
/-- where among the walls the tile lies whose middle this is -/
def spotOf (m : M) (p : Int × Int) : Option Nat :=
  if 0 ≤ p.1 / 65536 ∧ p.1 / 65536 < m.W ∧ 0 ≤ p.2 / 65536 ∧ p.2 / 65536 < m.H ∧ p = mid (p.1 / 65536).toNat (p.2 / 65536).toNat then some ((p.2 / 65536).toNat * m.W.toNat + (p.1 / 65536).toNat) else none
theorem mid_div (x y : Nat) : (mid x y).1 / 65536 = (x : Int) ∧ (mid x y).2 / 65536 = (y : Int) := by
  unfold mid
  exact ⟨by show ((x : Int) * 65536 + 32768) / 65536 = x; omega, by show ((y : Int) * 65536 + 32768) / 65536 = y; omega⟩
theorem spot_mid {m : M} {x y : Nat} (hx : x < m.W.toNat) (hy : y < m.H.toNat) : spotOf m (mid x y) = some (y * m.W.toNat + x) := by
  obtain ⟨e1, e2⟩ := mid_div x y
  unfold spotOf
  rw [e1, e2, if_pos ⟨by omega, by omega, by omega, by omega, by simp⟩]
  simp
theorem spot_some {m : M} {p : Int × Int} {i : Nat} (h : spotOf m p = some i) : ∃ x y, x < m.W.toNat ∧ y < m.H.toNat ∧ p = mid x y ∧ i = y * m.W.toNat + x := by
  unfold spotOf at h
  split at h
  · rename_i hc
    exact ⟨(p.1 / 65536).toNat, (p.2 / 65536).toNat, by omega, by omega, hc.2.2.2.2, by simpa using h.symm⟩
  · simp at h
/-- the spawns, one by one: each a floor's middle, behind the last one -/
def scan (m : M) : Int → List (Int × Int) → Option Int
  | last, [] => some last
  | last, p :: t => match spotOf m p with
    | some i => if last < (i : Int) ∧ m.ws.getD i false = false then scan m i t else none
    | none => none
def key (m : M) (p : Int × Int) : Nat := (spotOf m p).getD 0
theorem scan_of {m : M} : ∀ (l : List (Int × Int)) (last z : Int), scan m last l = some z → (∀ p ∈ l, ∃ i, spotOf m p = some i ∧ last < (i : Int) ∧ m.ws.getD i false = false) ∧ l.Pairwise (fun p q => key m p < key m q) ∧ ((l = [] ∧ z = last) ∨ (l ≠ [] ∧ 0 ≤ z))
  | [], last, z, h => by
    simp [scan] at h
    exact ⟨by simp, List.Pairwise.nil, .inl ⟨rfl, h.symm⟩⟩
  | p :: t, last, z, h => by
    unfold scan at h
    cases hs : spotOf m p with
    | none => rw [hs] at h; simp at h
    | some i =>
      rw [hs] at h
      simp only at h
      split at h
      · rename_i hc
        obtain ⟨h1, h2, h3⟩ := scan_of t i z h
        refine ⟨?_, ?_, .inr ⟨by simp, ?_⟩⟩
        · intro q hq
          rcases List.mem_cons.1 hq with rfl | hq
          · exact ⟨i, hs, hc.1, hc.2⟩
          · obtain ⟨j, e1, e2, e3⟩ := h1 q hq
            exact ⟨j, e1, by omega, e3⟩
        · refine List.Pairwise.cons ?_ h2
          intro q hq
          obtain ⟨j, e1, e2, e3⟩ := h1 q hq
          unfold key
          rw [hs, e1]
          show i < j
          omega
        · rcases h3 with ⟨_, rfl⟩ | ⟨_, h⟩
          · omega
          · exact h
      · simp at h
theorem scan_to {m : M} : ∀ (l : List (Int × Int)) (last : Int), (∀ p ∈ l, ∃ i, spotOf m p = some i ∧ last < (i : Int) ∧ m.ws.getD i false = false) → l.Pairwise (fun p q => key m p < key m q) → ∃ z, scan m last l = some z
  | [], last, _, _ => ⟨last, rfl⟩
  | p :: t, last, h1, h2 => by
    obtain ⟨i, e1, e2, e3⟩ := h1 p (by simp)
    unfold scan
    rw [e1]
    simp only
    rw [if_pos ⟨e2, e3⟩]
    refine scan_to t i ?_ (List.pairwise_cons.1 h2).2
    intro q hq
    obtain ⟨j, f1, f2, f3⟩ := h1 q (List.mem_cons_of_mem _ hq)
    refine ⟨j, f1, ?_, f3⟩
    have := (List.pairwise_cons.1 h2).1 q hq
    unfold key at this
    rw [e1, f1] at this
    have : i < j := this
    omega
theorem sorted_ext {α : Type} {k : α → Nat} : ∀ {l l' : List α}, l.Pairwise (fun a b => k a < k b) → l'.Pairwise (fun a b => k a < k b) → (∀ a, a ∈ l ↔ a ∈ l') → l = l'
  | [], l', _, _, h => by
    cases l' with
    | nil => rfl
    | cons b t => exact absurd ((h b).2 (by simp)) (by simp)
  | a :: t, l', h1, h2, h => by
    cases l' with
    | nil => exact absurd ((h a).1 (by simp)) (by simp)
    | cons b t' =>
      have p1 := List.pairwise_cons.1 h1
      have p2 := List.pairwise_cons.1 h2
      have hab : a = b := by
        rcases List.mem_cons.1 ((h a).1 (by simp)) with e | e
        · exact e
        · rcases List.mem_cons.1 ((h b).2 (by simp)) with e' | e'
          · exact e'.symm
          · have := p2.1 a e; have := p1.1 b e'; omega
      subst hab
      congr 1
      refine sorted_ext p1.2 p2.2 ?_
      intro c
      constructor
      · intro hc
        rcases List.mem_cons.1 ((h c).1 (List.mem_cons_of_mem _ hc)) with e | e
        · subst e; have := p1.1 c hc; omega
        · exact e
      · intro hc
        rcases List.mem_cons.1 ((h c).2 (List.mem_cons_of_mem _ hc)) with e | e
        · subst e; have := p2.1 c hc; omega
        · exact e
theorem spL_sorted {m : M} {y : Nat} (hy : y < m.H.toNat) : ∀ (c : List Nat) (x : Nat), x + c.length ≤ m.W.toNat → (spL y x c).Pairwise (fun p q => key m p < key m q)
  | [], x, _ => List.Pairwise.nil
  | k :: c, x, h => by
    have h' : x + (c.length + 1) ≤ m.W.toNat := h
    have ih := spL_sorted hy c (x + 1) (by omega)
    show ((if k = 3 then [mid x y] else []) ++ spL y (x + 1) c).Pairwise _
    by_cases hk : k = 3
    · rw [if_pos hk]
      refine List.Pairwise.cons ?_ ih
      intro q hq
      obtain ⟨j, hj, rfl⟩ := mem_spL.1 hq
      have hjl := (List.getElem?_eq_some_iff.1 hj).1
      unfold key
      rw [spot_mid (by omega) hy, spot_mid (by omega) hy]
      show y * m.W.toNat + x < y * m.W.toNat + (x + 1 + j)
      omega
    · rw [if_neg hk]; exact ih
theorem spA_sorted {m : M} : ∀ (K : List (List Nat)) (y : Nat), (∀ c ∈ K, c.length = m.W.toNat) → y + K.length ≤ m.H.toNat → (spA y K).Pairwise (fun p q => key m p < key m q)
  | [], y, _, _ => List.Pairwise.nil
  | c :: K, y, h, hl => by
    have hl' : y + (K.length + 1) ≤ m.H.toNat := hl
    have hc := h c (by simp)
    have ih := spA_sorted K (y + 1) (fun c hc => h c (List.mem_cons_of_mem _ hc)) (by omega)
    show (spL y 0 c ++ spA (y + 1) K).Pairwise _
    refine List.pairwise_append.2 ⟨spL_sorted (by omega) c 0 (by omega), ih, ?_⟩
    intro p hp q hq
    obtain ⟨j, hj, rfl⟩ := mem_spL.1 hp
    obtain ⟨i, d, x, hd, hx, rfl⟩ := mem_spA.1 hq
    have hjl := (List.getElem?_eq_some_iff.1 hj).1
    have hil := (List.getElem?_eq_some_iff.1 hd).1
    have hxl := (List.getElem?_eq_some_iff.1 hx).1
    have hdl := h d (List.mem_cons_of_mem _ (List.mem_of_getElem? hd))
    unfold key
    rw [spot_mid (by omega) (by omega), spot_mid (by omega) (by omega)]
    show y * m.W.toNat + (0 + j) < (y + 1 + i) * m.W.toNat + x
    have e : (y + 1) * m.W.toNat ≤ (y + 1 + i) * m.W.toNat := Nat.mul_le_mul_right _ (by omega)
    rw [Nat.add_mul, Nat.one_mul] at e
    omega
theorem lines_sorted (m : M) : (spA 0 (linesOf m)).Pairwise (fun p q => key m p < key m q) :=
  spA_sorted (linesOf m) 0 (fun c hc => (lines_lines m).len c hc) (by rw [lines_len]; omega)
theorem mem_lines {m : M} {p : Int × Int} : p ∈ spA 0 (linesOf m) ↔ ∃ x y, x < m.W.toNat ∧ y < m.H.toNat ∧ p = mid x y ∧ wall m x y = false ∧ p ∈ m.sp := by
  rw [mem_spA]
  constructor
  · rintro ⟨j, c, x, hj, hx, rfl⟩
    have hjl : j < m.H.toNat := by have := (List.getElem?_eq_some_iff.1 hj).1; rwa [lines_len] at this
    rw [lines_at hjl] at hj
    obtain rfl := Option.some.inj hj
    have hxl : x < m.W.toNat := by have := (List.getElem?_eq_some_iff.1 hx).1; rwa [line_len] at this
    rw [line_at hxl] at hx
    have hc := Option.some.inj hx
    unfold code at hc
    rw [Nat.zero_add]
    refine ⟨x, j, hxl, hjl, rfl, ?_⟩
    split at hc
    · omega
    · rename_i hw
      split at hc
      · rename_i hm
        exact ⟨by simpa using hw, hm⟩
      · omega
  · rintro ⟨x, y, hx, hy, rfl, hw, hm⟩
    exact ⟨y, lineOf m y, x, lines_at hy, by rw [line_at hx, code_in hw hm], by rw [Nat.zero_add]⟩
theorem scan_formed {m : M} (hD : Dims m) : (∃ z, scan m (-1) m.sp = some z ∧ z ≠ -1) ↔ Formed m := by
  constructor
  · rintro ⟨z, hz, hn⟩
    obtain ⟨h1, h2, h3⟩ := scan_of _ _ _ hz
    refine ⟨hD, ?_, ?_⟩
    · rcases h3 with ⟨_, e⟩ | ⟨h, _⟩
      · exact absurd e hn
      · exact h
    · refine sorted_ext (lines_sorted m) h2 ?_
      intro p
      rw [mem_lines]
      constructor
      · rintro ⟨_, _, _, _, _, _, h⟩; exact h
      · intro hp
        obtain ⟨i, e1, e2, e3⟩ := h1 p hp
        obtain ⟨x, y, hx, hy, rfl, rfl⟩ := spot_some e1
        exact ⟨x, y, hx, hy, rfl, e3, hp⟩
  · rintro ⟨_, hne, he⟩
    have hs := lines_sorted m
    rw [he] at hs
    obtain ⟨z, hz⟩ := scan_to m.sp (-1) (by
      intro p hp
      rw [← he] at hp
      obtain ⟨x, y, hx, hy, rfl, hw, _⟩ := mem_lines.1 hp
      exact ⟨_, spot_mid hx hy, by omega, hw⟩) hs
    refine ⟨z, hz, ?_⟩
    obtain ⟨_, _, h3⟩ := scan_of _ _ _ hz
    rcases h3 with ⟨h, _⟩ | ⟨_, h⟩
    · exact absurd h hne
    · omega
/-- the rune of a sign -/
def rn : Nat → Int
  | 1 => 9608
  | 3 => 9678
  | _ => 183
def base (m : M) : List Int := m.ws.map fun b => if b then 9608 else 183
def mark (m : M) (l : List Int) (p : Int × Int) : List Int := match spotOf m p with
  | some i => l.set i 9678
  | none => l
def marks (m : M) (ps : List (Int × Int)) : List Int := ps.foldl (mark m) (base m)
theorem mark_len (m : M) (l : List Int) (p : Int × Int) : (mark m l p).length = l.length := by
  unfold mark; split <;> simp
theorem marks_next (m : M) (ps : List (Int × Int)) (p : Int × Int) : marks m (ps ++ [p]) = mark m (marks m ps) p := by
  unfold marks; rw [List.foldl_append]; rfl
theorem fold_len (m : M) : ∀ (ps : List (Int × Int)) (l : List Int), (ps.foldl (mark m) l).length = l.length
  | [], l => rfl
  | p :: t, l => by show (t.foldl (mark m) (mark m l p)).length = _; rw [fold_len m t, mark_len]
theorem marks_len (m : M) (ps : List (Int × Int)) : (marks m ps).length = m.ws.length := by
  unfold marks; rw [fold_len]; simp [base]
theorem fold_at (m : M) (i : Nat) : ∀ (ps : List (Int × Int)) (l : List Int), i < l.length → (ps.foldl (mark m) l)[i]? = if ∃ p ∈ ps, spotOf m p = some i then some 9678 else l[i]?
  | [], l, _ => by simp
  | p :: t, l, hi => by
    show (t.foldl (mark m) (mark m l p))[i]? = _
    rw [fold_at m i t _ (by rw [mark_len]; exact hi)]
    by_cases h1 : ∃ q ∈ t, spotOf m q = some i
    · obtain ⟨q, hq, e⟩ := h1
      rw [if_pos ⟨q, hq, e⟩, if_pos ⟨q, List.mem_cons_of_mem _ hq, e⟩]
    · rw [if_neg h1]
      unfold mark
      cases hs : spotOf m p with
      | none =>
        rw [if_neg]
        rintro ⟨q, hq, e⟩
        rcases List.mem_cons.1 hq with rfl | hq
        · rw [hs] at e; cases e
        · exact h1 ⟨q, hq, e⟩
      | some j =>
        simp only
        by_cases hj : j = i
        · subst hj
          rw [if_pos ⟨p, by simp, hs⟩]
          simp [hi]
        · rw [List.getElem?_set_ne hj, if_neg]
          rintro ⟨q, hq, e⟩
          rcases List.mem_cons.1 hq with rfl | hq
          · rw [hs] at e; exact hj (Option.some.inj e)
          · exact h1 ⟨q, hq, e⟩
/-- the signs of a map that can be read -/
theorem marks_lines {m : M} (h : Formed m) : marks m m.sp = (linesOf m).flatten.map rn := by
  have hlen : (linesOf m).flatten.length = m.H.toNat * m.W.toNat := by rw [flatten_len (lines_lines m).len, lines_len]
  obtain ⟨d1, d2, d3, d4, d5⟩ := h.1
  have hwl : m.ws.length = m.H.toNat * m.W.toNat := by
    have e : (m.ws.length : Int) = ((m.H.toNat * m.W.toNat : Nat) : Int) := by
      rw [d5, Int.natCast_mul, Int.toNat_of_nonneg (by omega), Int.toNat_of_nonneg (by omega), Int.mul_comm]
    omega
  apply List.ext_getElem?
  intro i
  by_cases hi : i < m.ws.length
  · have hW : 0 < m.W.toNat := by omega
    obtain ⟨x, y, hx, hy, rfl⟩ : ∃ x y, x < m.W.toNat ∧ y < m.H.toNat ∧ i = y * m.W.toNat + x := by
      refine ⟨i % m.W.toNat, i / m.W.toNat, Nat.mod_lt _ hW, ?_, ?_⟩
      · exact Nat.div_lt_of_lt_mul (by rw [Nat.mul_comm]; omega)
      · have := Nat.div_add_mod i m.W.toNat; rw [Nat.mul_comm] at this; omega
    unfold marks
    rw [fold_at m _ _ _ (by simp [base]; omega), List.getElem?_map, flatten_at (lines_lines m).len (lines_at hy) hx, line_at hx]
    have hb : (base m)[y * m.W.toNat + x]? = some (if wall m x y then 9608 else 183) := by
      unfold base
      rw [List.getElem?_map, (dims_ws h.1 hx hy).2]
      rfl
    by_cases hs : mid x y ∈ m.sp
    · have hw : wall m x y = false := by
        have := hs
        rw [← h.2.2] at this
        obtain ⟨x', y', _, _, e, hw, _⟩ := mem_lines.1 this
        obtain ⟨rfl, rfl⟩ := mid_inj e
        exact hw
      rw [if_pos ⟨mid x y, hs, spot_mid hx hy⟩, code_in hw hs]
      rfl
    · rw [if_neg, hb]
      · cases hw : wall m x y with
        | true => rw [code_wall hw]; rfl
        | false => rw [code_floor hw hs]; rfl
      · rintro ⟨p, hp, e⟩
        obtain ⟨x', y', hx', hy', rfl, e'⟩ := spot_some e
        have e1 : mid x' y' = mid x y := by
          have q1 : (y * m.W.toNat + x) % m.W.toNat = x := by rw [Nat.add_comm, Nat.add_mul_mod_self_right, Nat.mod_eq_of_lt hx]
          have q2 : (y' * m.W.toNat + x') % m.W.toNat = x' := by rw [Nat.add_comm, Nat.add_mul_mod_self_right, Nat.mod_eq_of_lt hx']
          have q3 : (y * m.W.toNat + x) / m.W.toNat = y := by rw [Nat.add_comm, Nat.add_mul_div_right _ _ hW, Nat.div_eq_of_lt hx, Nat.zero_add]
          have q4 : (y' * m.W.toNat + x') / m.W.toNat = y' := by rw [Nat.add_comm, Nat.add_mul_div_right _ _ hW, Nat.div_eq_of_lt hx', Nat.zero_add]
          rw [e'] at q1 q3
          rw [q2] at q1
          rw [q4] at q3
          rw [q1, q3]
        rw [e1] at hp
        exact hs hp
  · rw [List.getElem?_eq_none (by rw [marks_len]; omega), List.getElem?_eq_none (by rw [List.length_map, hlen]; omega)]
end Ti
end Go.Proofs.Ytgabgkgokmeaeaa

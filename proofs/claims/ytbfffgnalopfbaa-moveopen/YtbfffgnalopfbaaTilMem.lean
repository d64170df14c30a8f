/- Maps of tiles in memory: their cells, rows of walls and of places. -/
import Derived.Test.YtbfffgnalopfbaaTilPlain3
import Derived.Test.YtbfffgnalopfbaaPush
import Derived.Test.YtbfffgnalopfbaaKept
import Derived.WalkKit
import Derived.WalkSpells
import Derived.WalkSmall
import Derived.BigQuiet
import Derived.BigRegion
import Derived.Deep.QuietTactic
import Derived.Deep.RegionWith
import Derived.Deep.RegionLaw
import Derived.Laws.StructEq
namespace Go.Proofs.Ytbfffgnalopfbaa
open Go.RowKit
set_option linter.unusedVariables false

def tbEnc (b : Bool) : List Value := [.bool b]
def tvEnc (p : Int × Int) : List Value := [.int .i64 p.1, .int .i64 p.2]
theorem tbEnc_len {l : List Bool} : ∀ a ∈ l, (tbEnc a).length = 1 := fun _ _ => rfl
theorem tvEnc_len {l : List (Int × Int)} : ∀ a ∈ l, (tvEnc a).length = 2 := fun _ _ => rfl
theorem tbEnc_one {l : List Bool} : ∀ a ∈ l, ∀ u ∈ tbEnc a, u.oneCell' = true := by
  intro a _ u hu
  simp [tbEnc] at hu
  subst hu
  rfl
theorem tvEnc_one {l : List (Int × Int)} : ∀ a ∈ l, ∀ u ∈ tvEnc a, u.oneCell' = true := by
  intro a _ u hu
  simp [tvEnc] at hu
  rcases hu with rfl | rfl <;> rfl
/-- a map's cells -/
abbrev mapEnc (m : Ti.M) (oa : Option Addr) (ca : Nat) (ob : Option Addr) (cb : Nat) : List Value := [.int .i64 m.W, .int .i64 m.H, .slice oa m.ws.length ca, .slice ob m.sp.length cb]
abbrev mapVal (m : Ti.M) (oa : Option Addr) (ca : Nat) (ob : Option Addr) (cb : Nat) : Value := .agg #[.int .i64 m.W, .int .i64 m.H, .slice oa m.ws.length ca, .slice ob m.sp.length cb]
/-- a map whose rows lie there -/
structure MapAt (m : Ti.M) (oa ob : Option Addr) (w : World) : Prop where
  ws : RowOf 1 tbEnc oa m.ws w
  sp : RowOf 2 tvEnc ob m.sp w
  lw : m.ws.length ≤ 1100
  ls : m.sp.length ≤ 1100
  wW : -9223372036854775808 ≤ m.W ∧ m.W < 9223372036854775808
  wH : -9223372036854775808 ≤ m.H ∧ m.H < 9223372036854775808
theorem MapAt.turned {m : Ti.M} {oa ob : Option Addr} {w w' : World} {S : List Nat} (h : MapAt m oa ob w) (ht : Turned S w w') (ha : ∀ a, oa = some a → a.block ∉ S) (hb : ∀ a, ob = some a → a.block ∉ S) : MapAt m oa ob w' :=
  ⟨h.ws.turned ht ha, h.sp.turned ht hb, h.lw, h.ls, h.wW, h.wH⟩
theorem MapAt.calm {m : Ti.M} {oa ob : Option Addr} {w w' : World} (h : MapAt m oa ob w) (ht : Turned [] w w') : MapAt m oa ob w' := h.turned ht (by simp) (by simp)
theorem wall_at {oa : Option Addr} {l : List Bool} {w : World} (h : RowOf 1 tbEnc oa l w) {k : Nat} {b : Bool} (hk : l[k]? = some b) :
    ∃ g off, oa = some ⟨g, off, none⟩ ∧ g < w.heap.size ∧ w.cell? ⟨g, off + k, none⟩ = some (.bool b) := by
  obtain ⟨g, off, ho, hlt, hc⟩ := h k _ hk
  have := hc 0 _ rfl
  rw [Nat.mul_one, Nat.add_zero] at this
  exact ⟨g, off, ho, hlt, this⟩
theorem place_at {oa : Option Addr} {l : List (Int × Int)} {w : World} (h : RowOf 2 tvEnc oa l w) {k : Nat} {b : Int × Int} (hk : l[k]? = some b) :
    ∃ g off, oa = some ⟨g, off, none⟩ ∧ g < w.heap.size ∧ w.cell? ⟨g, off + k * 2, none⟩ = some (.int .i64 b.1) ∧ w.cell? ⟨g, off + k * 2 + 1, none⟩ = some (.int .i64 b.2) := by
  obtain ⟨g, off, ho, hlt, hc⟩ := h k _ hk
  exact ⟨g, off, ho, hlt, hc 0 _ rfl, hc 1 _ rfl⟩
theorem ti_bool {a b : Bool} {p : Prop} (h : a = b) (hp : p) : Ending.returned (.bool a) = .returned (.bool b) ∧ p := by rw [h]; exact ⟨rfl, hp⟩
/-- a string's bytes from a place on -/
def from_ (s : ByteArray) (k : Nat) : List UInt8 := s.data.toList.drop k
theorem from_len (s : ByteArray) (k : Nat) : (from_ s k).length = s.size - k := by unfold from_; rw [List.length_drop]; rfl
theorem cut_eq (s : ByteArray) (k n : Nat) : (s.extract k (k + n)).toList = (from_ s k).take n := by
  rw [ByteArray.toList_eq, ByteArray.data_extract, Array.toList_extract]
  unfold from_
  rw [List.extract_eq_take_drop]
  congr 1
  omega

namespace Ti
theorem sg_of {l : List UInt8} {k : Nat} (h0 : 1 ≤ k) (h4 : k ≤ 4) (hno : ∀ j, 1 ≤ j → j < k → ¬ l.take (bs j).length = bs j) (hm : l.take (bs k).length = bs k) : sg l = k := by
  unfold sg
  have n1 : 1 < k → ¬ l.take 3 = [226, 150, 136] := fun h => hno 1 (by omega) h
  have n2 : 2 < k → ¬ l.take 2 = [194, 183] := fun h => hno 2 (by omega) h
  have n3 : 3 < k → ¬ l.take 3 = [226, 151, 142] := fun h => hno 3 (by omega) h
  match k, h0, h4 with
  | 1, _, _ => exact if_pos hm
  | 2, _, _ => rw [if_neg (n1 (by omega))]; exact if_pos hm
  | 3, _, _ => rw [if_neg (n1 (by omega)), if_neg (n2 (by omega))]; exact if_pos hm
  | 4, _, _ => rw [if_neg (n1 (by omega)), if_neg (n2 (by omega)), if_neg (n3 (by omega))]; exact if_pos hm
theorem sg_no {l : List UInt8} (hno : ∀ j, 1 ≤ j → j ≤ 4 → ¬ l.take (bs j).length = bs j) : sg l = 0 := by
  unfold sg
  have n1 : ¬ l.take 3 = [226, 150, 136] := hno 1 (by omega) (by omega)
  have n2 : ¬ l.take 2 = [194, 183] := hno 2 (by omega) (by omega)
  have n3 : ¬ l.take 3 = [226, 151, 142] := hno 3 (by omega) (by omega)
  have n4 : ¬ l.take 1 = [10] := hno 4 (by omega) (by omega)
  rw [if_neg n1, if_neg n2, if_neg n3, if_neg n4]
theorem no_more {l : List UInt8} {k : Nat} (hno : ∀ j, 1 ≤ j → j ≤ k → ¬ l.take (bs j).length = bs j) (h : ¬ l.take (bs (k + 1)).length = bs (k + 1)) : ∀ j, 1 ≤ j → j ≤ k + 1 → ¬ l.take (bs j).length = bs j := by
  intro j h1 h2
  by_cases e : j = k + 1
  · rw [e]; exact h
  · exact hno j h1 (by omega)
end Ti

namespace TiR
set_option maxHeartbeats 4000000 in
theorem sign_any (s : ByteArray) (a : Nat) (ha : a < s.size) (hs : (s.size : Int) ≤ 1099511627776) (w : World) :
    Calls Try.prog 84 #[.string s, .int .i64 (a : Int)] w fun e w' => e = .returned (.tuple #[.int .i64 ((Ti.sg (from_ s a) : Nat) : Int), .int .i64 (((Ti.bs (Ti.sg (from_ s a))).length : Nat) : Int)]) ∧ Turned [] w w' := by
  go_enter Try.func84, Try.ntmps84
  go_wp2_with fail
  obtain ⟨W0, hW0⟩ : ∃ W0, W0 = w.alloc (.cells #[.string ⟨#[226, 150, 136]⟩, .string ⟨#[194, 183]⟩, .string ⟨#[226, 151, 142]⟩, .string ⟨#[10]⟩] 107) := ⟨_, rfl⟩
  obtain ⟨B, hB⟩ : ∃ B, B = w.heap.size := ⟨_, rfl⟩
  rw [← hW0, ← hB]
  have hS : Struct B [.string ⟨#[226, 150, 136]⟩, .string ⟨#[194, 183]⟩, .string ⟨#[226, 151, 142]⟩, .string ⟨#[10]⟩] W0 := by rw [hW0, hB]; exact Struct.new w _ _
  have hT : Turned [] w W0 := by rw [hW0]; exact (Turned.refl [] w).alloc _
  clear hW0 hB
  go_loopw [7] (fun i wr => ∃ k : Nat, k ≤ 4 ∧ i = .int .i64 (k : Int) ∧ (∀ j, 1 ≤ j → j ≤ k → ¬ (from_ s a).take (Ti.bs j).length = Ti.bs j) ∧ Struct B [.string ⟨#[226, 150, 136]⟩, .string ⟨#[194, 183]⟩, .string ⟨#[226, 151, 142]⟩, .string ⟨#[10]⟩] wr ∧ Turned [] w wr) (fun i _ => 4 - (intOf i).toNat)
  case atStart => exact ⟨0, by omega, rfl, fun j h1 h2 => absurd h1 (by omega), hS, hT⟩
  case round =>
    clear hS hT
    obtain ⟨k, hk, rfl, hno, hS, hT⟩ := hrel
    have c0 := (hS.2 0 _ rfl).1
    have c1 := (hS.2 1 _ rfl).1
    have c2 := (hS.2 2 _ rfl).1
    have c3 := (hS.2 3 _ rfl).1
    have HNO : Hid (∀ j, 1 ≤ j → j ≤ k → ¬ (from_ s a).take (Ti.bs j).length = Ti.bs j) := hno
    clear hno
    by_cases h0 : k = 0
    · subst h0
      rw [show ((0 : Nat) : Int) = 0 from rfl]
      by_cases hf : (a : Int) + 3 ≤ (s.size : Int)
      · have l3 := cut_eq s a 3
        by_cases hq : (from_ s a).take 3 = [226, 150, 136]
        · have HSG : Hid (Ti.sg (from_ s a) = 1) := Ti.sg_of (by omega) (by omega) (fun j h1 h2 => HNO.out j h1 (by omega)) hq
          have hq' : ((from_ s a).take 3 == [226, 150, 136]) = true := by rw [beq_iff_eq]; exact hq
          clear hq
          go_wp2_with fail
          go_region
          go_wp2_with fail
          go_ret2
          rw [HSG.out]
          exact ⟨rfl, hT.drew⟩
        · have HSN : Hid (∀ j, 1 ≤ j → j ≤ 1 → ¬ (from_ s a).take (Ti.bs j).length = Ti.bs j) := Ti.no_more HNO.out hq
          have hq' : ((from_ s a).take 3 == [226, 150, 136]) = false := by rw [beq_eq_false_iff_ne]; exact hq
          clear hq
          go_wp2_with fail
          go_region
          go_wp2_with fail
          go_roundw
          case rel => exact ⟨1, by omega, by go_num, HSN.out, hS.keep (Turned.refl [] _).drew (by simp), hT.drew⟩
          case measure => simp [intOf]
      · have hq : ¬ (from_ s a).take 3 = [226, 150, 136] := by
          intro h
          have h1 := congrArg List.length h
          rw [List.length_take, from_len] at h1
          simp at h1
          omega
        have HSN : Hid (∀ j, 1 ≤ j → j ≤ 1 → ¬ (from_ s a).take (Ti.bs j).length = Ti.bs j) := Ti.no_more HNO.out hq
        have hf' : decide ((a : Int) + 3 ≤ (s.size : Int)) = false := by simpa using hf
        clear hq
        go_wp2_with fail
        have ne : Nonempty (KeptW wr) := KeptW.one wr
        refine wp_region_kept (by kernel_rfl) (by kernel_rfl) ?_
        repeat (go_big_quiet_step (fail))
        refine wpQuiet_nil ?_
        rintro _ ⟨y, rfl⟩
        go_wp2_with fail
        go_roundw
        case rel => exact ⟨1, by omega, by go_num, HSN.out, hS.keep (Turned.ofBelow y.h) (by simp), hT.trans (Turned.ofBelow y.h) (by simp)⟩
        case measure => simp [intOf]
    by_cases h1 : k = 1
    · subst h1
      rw [show ((1 : Nat) : Int) = 1 from rfl]
      by_cases hf : (a : Int) + 2 ≤ (s.size : Int)
      · have l3 := cut_eq s a 2
        by_cases hq : (from_ s a).take 2 = [194, 183]
        · have HSG : Hid (Ti.sg (from_ s a) = 2) := Ti.sg_of (by omega) (by omega) (fun j h1 h2 => HNO.out j h1 (by omega)) hq
          have hq' : ((from_ s a).take 2 == [194, 183]) = true := by rw [beq_iff_eq]; exact hq
          clear hq
          go_wp2_with fail
          go_region
          go_wp2_with fail
          go_ret2
          rw [HSG.out]
          exact ⟨rfl, hT.drew⟩
        · have HSN : Hid (∀ j, 1 ≤ j → j ≤ 2 → ¬ (from_ s a).take (Ti.bs j).length = Ti.bs j) := Ti.no_more HNO.out hq
          have hq' : ((from_ s a).take 2 == [194, 183]) = false := by rw [beq_eq_false_iff_ne]; exact hq
          clear hq
          go_wp2_with fail
          go_region
          go_wp2_with fail
          go_roundw
          case rel => exact ⟨2, by omega, by go_num, HSN.out, hS.keep (Turned.refl [] _).drew (by simp), hT.drew⟩
          case measure => simp [intOf]
      · have hq : ¬ (from_ s a).take 2 = [194, 183] := by
          intro h
          have h1 := congrArg List.length h
          rw [List.length_take, from_len] at h1
          simp at h1
          omega
        have HSN : Hid (∀ j, 1 ≤ j → j ≤ 2 → ¬ (from_ s a).take (Ti.bs j).length = Ti.bs j) := Ti.no_more HNO.out hq
        have hf' : decide ((a : Int) + 2 ≤ (s.size : Int)) = false := by simpa using hf
        clear hq
        go_wp2_with fail
        have ne : Nonempty (KeptW wr) := KeptW.one wr
        refine wp_region_kept (by kernel_rfl) (by kernel_rfl) ?_
        repeat (go_big_quiet_step (fail))
        refine wpQuiet_nil ?_
        rintro _ ⟨y, rfl⟩
        go_wp2_with fail
        go_roundw
        case rel => exact ⟨2, by omega, by go_num, HSN.out, hS.keep (Turned.ofBelow y.h) (by simp), hT.trans (Turned.ofBelow y.h) (by simp)⟩
        case measure => simp [intOf]
    by_cases h2 : k = 2
    · subst h2
      rw [show ((2 : Nat) : Int) = 2 from rfl]
      by_cases hf : (a : Int) + 3 ≤ (s.size : Int)
      · have l3 := cut_eq s a 3
        by_cases hq : (from_ s a).take 3 = [226, 151, 142]
        · have HSG : Hid (Ti.sg (from_ s a) = 3) := Ti.sg_of (by omega) (by omega) (fun j h1 h2 => HNO.out j h1 (by omega)) hq
          have hq' : ((from_ s a).take 3 == [226, 151, 142]) = true := by rw [beq_iff_eq]; exact hq
          clear hq
          go_wp2_with fail
          go_region
          go_wp2_with fail
          go_ret2
          rw [HSG.out]
          exact ⟨rfl, hT.drew⟩
        · have HSN : Hid (∀ j, 1 ≤ j → j ≤ 3 → ¬ (from_ s a).take (Ti.bs j).length = Ti.bs j) := Ti.no_more HNO.out hq
          have hq' : ((from_ s a).take 3 == [226, 151, 142]) = false := by rw [beq_eq_false_iff_ne]; exact hq
          clear hq
          go_wp2_with fail
          go_region
          go_wp2_with fail
          go_roundw
          case rel => exact ⟨3, by omega, by go_num, HSN.out, hS.keep (Turned.refl [] _).drew (by simp), hT.drew⟩
          case measure => simp [intOf]
      · have hq : ¬ (from_ s a).take 3 = [226, 151, 142] := by
          intro h
          have h1 := congrArg List.length h
          rw [List.length_take, from_len] at h1
          simp at h1
          omega
        have HSN : Hid (∀ j, 1 ≤ j → j ≤ 3 → ¬ (from_ s a).take (Ti.bs j).length = Ti.bs j) := Ti.no_more HNO.out hq
        have hf' : decide ((a : Int) + 3 ≤ (s.size : Int)) = false := by simpa using hf
        clear hq
        go_wp2_with fail
        have ne : Nonempty (KeptW wr) := KeptW.one wr
        refine wp_region_kept (by kernel_rfl) (by kernel_rfl) ?_
        repeat (go_big_quiet_step (fail))
        refine wpQuiet_nil ?_
        rintro _ ⟨y, rfl⟩
        go_wp2_with fail
        go_roundw
        case rel => exact ⟨3, by omega, by go_num, HSN.out, hS.keep (Turned.ofBelow y.h) (by simp), hT.trans (Turned.ofBelow y.h) (by simp)⟩
        case measure => simp [intOf]
    by_cases h3 : k = 3
    · subst h3
      rw [show ((3 : Nat) : Int) = 3 from rfl]
      by_cases hf : (a : Int) + 1 ≤ (s.size : Int)
      · have l3 := cut_eq s a 1
        by_cases hq : (from_ s a).take 1 = [10]
        · have HSG : Hid (Ti.sg (from_ s a) = 4) := Ti.sg_of (by omega) (by omega) (fun j h1 h2 => HNO.out j h1 (by omega)) hq
          have hq' : ((from_ s a).take 1 == [10]) = true := by rw [beq_iff_eq]; exact hq
          clear hq
          go_wp2_with fail
          go_region
          go_wp2_with fail
          go_ret2
          rw [HSG.out]
          exact ⟨rfl, hT.drew⟩
        · have HSN : Hid (∀ j, 1 ≤ j → j ≤ 4 → ¬ (from_ s a).take (Ti.bs j).length = Ti.bs j) := Ti.no_more HNO.out hq
          have hq' : ((from_ s a).take 1 == [10]) = false := by rw [beq_eq_false_iff_ne]; exact hq
          clear hq
          go_wp2_with fail
          go_region
          go_wp2_with fail
          go_roundw
          case rel => exact ⟨4, by omega, by go_num, HSN.out, hS.keep (Turned.refl [] _).drew (by simp), hT.drew⟩
          case measure => simp [intOf]
      · have hq : ¬ (from_ s a).take 1 = [10] := by
          intro h
          have h1 := congrArg List.length h
          rw [List.length_take, from_len] at h1
          simp at h1
          omega
        have HSN : Hid (∀ j, 1 ≤ j → j ≤ 4 → ¬ (from_ s a).take (Ti.bs j).length = Ti.bs j) := Ti.no_more HNO.out hq
        have hf' : decide ((a : Int) + 1 ≤ (s.size : Int)) = false := by simpa using hf
        clear hq
        go_wp2_with fail
        have ne : Nonempty (KeptW wr) := KeptW.one wr
        refine wp_region_kept (by kernel_rfl) (by kernel_rfl) ?_
        repeat (go_big_quiet_step (fail))
        refine wpQuiet_nil ?_
        rintro _ ⟨y, rfl⟩
        go_wp2_with fail
        go_roundw
        case rel => exact ⟨4, by omega, by go_num, HSN.out, hS.keep (Turned.ofBelow y.h) (by simp), hT.trans (Turned.ofBelow y.h) (by simp)⟩
        case measure => simp [intOf]
    have hk4 : k = 4 := by omega
    subst hk4
    have HSG : Hid (Ti.sg (from_ s a) = 0) := Ti.sg_no HNO.out
    go_wp2_with fail
    go_ret2
    rw [HSG.out]
    exact ⟨rfl, hT⟩
end TiR
end Go.Proofs.Ytbfffgnalopfbaa

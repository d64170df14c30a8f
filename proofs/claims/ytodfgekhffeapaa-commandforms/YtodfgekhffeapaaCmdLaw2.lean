/- Rows that are put and taken, in the laws of layer 9 (CmL). -/
import Derived.Test.YtodfgekhffeapaaCmdLaw
import Derived.Test.YtodfgekhffeapaaCmdSame
import Derived.Test.YtodfgekhffeapaaBitWr2
import Derived.Test.YtodfgekhffeapaaBitRd2
namespace Go.Proofs.Ytodfgekhffeapaa
open Go.RowKit
set_option linter.unusedVariables false

namespace CmW.Contracts
theorem take_next (K : CmW.Contracts) {p : Nat} {v : Value} {bs : List Nat} {r : Bt.Rd} {w : World} {l : List Cm.C} (h : PRd p v bs r w) (hn : Cm.Next r l) :
    Calls Try.prog 21 #[.pointer (some ⟨p, 0, none⟩)] w fun e w' => ∃ (oa : Option Addr) (cap : Nat), e = .returned (.tuple #[.slice oa l.length cap, .bool true]) ∧ RowOf 6 cmEnc oa l w' ∧ (∀ a, oa = some a → w.heap.size ≤ a.block) ∧ PRd p v bs ⟨r.l, r.at_ + (Cm.all l).length, false⟩ w' ∧ Turned [p] w w' := by
  refine (K.take p v bs r w h).mono ?_
  rintro e w' (⟨l', oa, cap, hn', he, h1, h2, h3, h4⟩ | ⟨hno, _⟩)
  · obtain rfl := Cm.next_uniq hn hn'
    exact ⟨oa, cap, he, h1, h2, h3, h4⟩
  · exact absurd hn (hno l)
theorem take_none (K : CmW.Contracts) {p : Nat} {v : Value} {bs : List Nat} {r : Bt.Rd} {w : World} (h : PRd p v bs r w) (hn : ∀ l, ¬ Cm.Next r l) :
    Calls Try.prog 21 #[.pointer (some ⟨p, 0, none⟩)] w fun e w' => ∃ (oa : Option Addr) (cap : Nat), e = .returned (.tuple #[.slice oa 0 cap, .bool false]) ∧ (∃ r', PRd p v bs r' w' ∧ ∀ l s, Cm.Next (r.on s) l → r.rest.length < (Cm.all l).length → r'.fail = true) ∧ Turned [p] w w' := by
  refine (K.take p v bs r w h).mono ?_
  rintro e w' (⟨l', oa, cap, hn', _⟩ | ⟨_, ⟨oa, cap, he⟩, h1, h2⟩)
  · exact absurd hn' (hn l')
  · exact ⟨oa, cap, he, h1, h2⟩
end CmW.Contracts

namespace CmL
theorem pad_lt (L : List Bool) : ∃ m, m < 8 ∧ Bt.unpack (Bt.pack L) = L ++ List.replicate m false :=
  ⟨_, by omega, Bt.unpack_pack L⟩
/-- what was put behind the bits P, read from there on -/
theorem back_next {P : List Bool} {l : List Cm.C} (hr : Cm.row l = true) (hw : ∀ c ∈ l, c.wf) : Cm.Next ⟨Bt.unpack (Bt.pack (P ++ Cm.all l)), P.length, false⟩ l := by
  obtain ⟨m, _, hm⟩ := pad_lt (P ++ Cm.all l)
  refine ⟨rfl, hr, hw, List.replicate m false, ?_⟩
  unfold Bt.Rd.rest
  show (Bt.unpack (Bt.pack (P ++ Cm.all l))).drop P.length = _
  rw [hm, List.append_assoc, List.drop_left]
theorem back_done {P : List Bool} {l : List Cm.C} : (⟨Bt.unpack (Bt.pack (P ++ Cm.all l)), P.length + (Cm.all l).length, false⟩ : Bt.Rd).done = true := by
  obtain ⟨m, hm8, hm⟩ := pad_lt (P ++ Cm.all l)
  have e : (⟨Bt.unpack (Bt.pack (P ++ Cm.all l)), P.length + (Cm.all l).length, false⟩ : Bt.Rd).rest = List.replicate m false := by
    unfold Bt.Rd.rest
    show (Bt.unpack (Bt.pack (P ++ Cm.all l))).drop (P.length + (Cm.all l).length) = _
    rw [hm, ← List.length_append, List.drop_left]
  have hl := Bt.Rd.rest_length (⟨Bt.unpack (Bt.pack (P ++ Cm.all l)), P.length + (Cm.all l).length, false⟩ : Bt.Rd)
  rw [e, List.length_replicate] at hl
  unfold Bt.Rd.done
  rw [e, ← hl]
  have : decide (m < 8) = true := by simpa using hm8
  rw [this]
  simp
theorem back_take {P : List Bool} {l : List Cm.C} (h : P.length ≤ 64) : (⟨Bt.unpack (Bt.pack (P ++ Cm.all l)), 0, false⟩ : Bt.Rd).take (P.length : Int) = ⟨Bt.unpack (Bt.pack (P ++ Cm.all l)), P.length, false⟩ := by
  obtain ⟨m, _, hm⟩ := pad_lt (P ++ Cm.all l)
  have hc : (⟨Bt.unpack (Bt.pack (P ++ Cm.all l)), 0, false⟩ : Bt.Rd).can (P.length : Int) = true := by
    rw [Bt.Rd.can_iff]
    refine ⟨rfl, by omega, by omega, ?_⟩
    unfold Bt.Rd.left
    show (P.length : Int) ≤ (((Bt.unpack (Bt.pack (P ++ Cm.all l))).length - 0 : Nat) : Int)
    rw [hm]; simp; omega
  unfold Bt.Rd.take
  rw [if_pos hc]
  show (⟨_, 0 + (P.length : Int).toNat, false⟩ : Bt.Rd) = _
  rw [Int.toNat_natCast, Nat.zero_add]
theorem all_le {l : List Cm.C} (h : Cm.row l = true) : (Cm.all l).length ≤ 491 := by
  have h1 := Cm.size_le l
  have h2 := ((Cm.row_iff l).1 h).2.1
  rw [Cm.all_length]; omega
theorem row_take {α : Type} {sz : Nat} {enc : α → List Value} {o : Option Addr} {l : List α} {w : World} (h : RowOf sz enc o l w) (k : Nat) : RowOf sz enc o (l.take k) w := by
  intro i a hi
  have hl := (List.getElem?_eq_some_iff.1 hi).1
  rw [List.length_take] at hl
  rw [List.getElem?_take_of_lt (by omega)] at hi
  exact h i a hi
theorem unpack_append (a b : List Nat) : Bt.unpack (a ++ b) = Bt.unpack a ++ Bt.unpack b := by unfold Bt.unpack; exact List.flatMap_append
/-- a row's bytes without the last one: bits of the row that end within it -/
theorem cut_bits (l : List Cm.C) : ∃ s, Bt.unpack ((Bt.pack (Cm.all l)).take ((Bt.pack (Cm.all l)).length - 1)) ++ s = Cm.all l ∧ (Bt.unpack ((Bt.pack (Cm.all l)).take ((Bt.pack (Cm.all l)).length - 1))).length < (Cm.all l).length := by
  obtain ⟨L, hL⟩ : ∃ L, L = Cm.all l := ⟨_, rfl⟩
  have h35 : 35 ≤ L.length := by rw [hL, Cm.all_length]; omega
  rw [← hL]
  have hp := Bt.pack_length L
  obtain ⟨n, hn⟩ : ∃ n, n = (Bt.pack L).length := ⟨_, rfl⟩
  rw [← hn] at hp ⊢
  have hu : (Bt.unpack ((Bt.pack L).take (n - 1))).length = 8 * (n - 1) := by rw [Bt.unpack_length, List.length_take, ← hn]; omega
  have e := Bt.unpack_pack L
  rw [← List.take_append_drop (n - 1) (Bt.pack L), unpack_append] at e
  have e2 := congrArg (List.take (8 * (n - 1))) e
  rw [List.take_append_of_le_length (by omega), List.take_of_length_le (by omega), List.take_append_of_le_length (by omega)] at e2
  refine ⟨L.drop (8 * (n - 1)), ?_, by omega⟩
  rw [e2, List.take_append_drop]
theorem cut_next {l : List Cm.C} (hr : Cm.row l = true) (hw : ∀ c ∈ l, c.wf) : ∃ r : Bt.Rd, r = ⟨Bt.unpack ((Bt.pack (Cm.all l)).take ((Bt.pack (Cm.all l)).length - 1)), 0, false⟩ ∧ (∀ l', ¬ Cm.Next r l') ∧ ∃ s, Cm.Next (r.on s) l ∧ r.rest.length < (Cm.all l).length := by
  obtain ⟨s, h1, h2⟩ := cut_bits l
  obtain ⟨b, hb⟩ : ∃ b, b = Bt.unpack ((Bt.pack (Cm.all l)).take ((Bt.pack (Cm.all l)).length - 1)) := ⟨_, rfl⟩
  rw [← hb] at h1 h2 ⊢
  have hrest : (⟨b, 0, false⟩ : Bt.Rd).rest = b := rfl
  have hon : ((⟨b, 0, false⟩ : Bt.Rd).on s).rest = Cm.all l := by show (b ++ s).drop 0 = _; rw [List.drop_zero, h1]
  have hnx : Cm.Next ((⟨b, 0, false⟩ : Bt.Rd).on s) l := ⟨rfl, hr, hw, [], by rw [hon, List.append_nil]⟩
  refine ⟨⟨b, 0, false⟩, rfl, ?_, s, hnx, by rw [hrest]; exact h2⟩
  rintro l' ⟨_, hr', hw', t, ht⟩
  have h' : Cm.Next ((⟨b, 0, false⟩ : Bt.Rd).on s) l' := ⟨rfl, hr', hw', t ++ s, by
    rw [hrest] at ht
    show (b ++ s).drop 0 = _
    rw [List.drop_zero, ht, List.append_assoc]⟩
  obtain rfl := Cm.next_uniq hnx h'
  rw [hrest] at ht
  have := congrArg List.length ht
  rw [List.length_append] at this
  omega
/-- where a row's cells lie -/
theorem row_block {o : Option Addr} {l : List Cm.C} {w : World} (h : RowOf 6 cmEnc o l w) (hl : 0 < l.length) : ∀ a, o = some a → a.block < w.heap.size := by
  intro a ha
  obtain ⟨b, off, ho, hlt, _⟩ := h 0 _ (List.getElem?_eq_getElem hl)
  rw [ho] at ha
  simp at ha
  subst ha
  exact hlt
end CmL
end Go.Proofs.Ytodfgekhffeapaa

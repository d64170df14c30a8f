/- What the functions of layer 7 answer, whatever comes in (FrW), and that the program is awake (FrL). -/
import Derived.Test.YtdaedmbdoniaiaaFrWalks
namespace Go.Proofs.Ytdaedmbdoniaiaa
open Go.RowKit
set_option linter.unusedVariables false

namespace Fr
/-- what Wrap answers: the number, the bytes -/
def wrapC (l : List Nat) : Int := if l.length ≤ 1400 then 0 else 3
def wrapL (key : Nat) (l : List Nat) : List Nat := if l.length ≤ 1400 then wrap key l else []
theorem wrapC_ok {l : List Nat} (h : l.length ≤ 1400) : wrapC l = 0 := if_pos h
theorem wrapL_ok {key : Nat} {l : List Nat} (h : l.length ≤ 1400) : wrapL key l = wrap key l := if_pos h
theorem wrapC_long {l : List Nat} (h : ¬ l.length ≤ 1400) : wrapC l = 3 := if_neg h
theorem wrapL_long {key : Nat} {l : List Nat} (h : ¬ l.length ≤ 1400) : wrapL key l = [] := if_neg h
theorem wrapL_length (key : Nat) (l : List Nat) : (wrapL key l).length ≤ 2000 := by
  unfold wrapL
  split
  · rw [wrap_length]; omega
  · simp
/-- what Open answers: the number, the bytes -/
def openC (key : Nat) (l : List Nat) : Int := if l.length < 4 then 4 else if 1404 < l.length then 3 else if opens key l = true then 0 else 5
def openL (key : Nat) (l : List Nat) : List Nat := if openC key l = 0 then l.drop 4 else []
theorem openC_short {key : Nat} {l : List Nat} (h : l.length < 4) : openC key l = 4 := if_pos h
theorem openC_long {key : Nat} {l : List Nat} (h : 1404 < l.length) : openC key l = 3 := by unfold openC; rw [if_neg (by omega), if_pos h]
theorem openC_in {key : Nat} {l : List Nat} (h : 4 ≤ l.length) (h' : l.length ≤ 1404) : openC key l = if opens key l = true then 0 else 5 := by unfold openC; rw [if_neg (by omega), if_neg (by omega)]
theorem openL_of {key : Nat} {l : List Nat} {c : Int} (h : openC key l = c) (hc : c ≠ 0) : openL key l = [] := by unfold openL; rw [h, if_neg hc]
theorem openL_ok {key : Nat} {l : List Nat} (h : openC key l = 0) : openL key l = l.drop 4 := by unfold openL; rw [if_pos h]
theorem openL_length (key : Nat) (l : List Nat) : (openL key l).length ≤ l.length := by
  unfold openL
  split
  · rw [List.length_drop]; omega
  · simp
end Fr

namespace FrW
theorem wrap_all (key : Nat) (hk : key < 4294967296) (oa : Option Addr) (l : List Nat) (len cap : Nat) (w : World) (hlen : l.length = len) (hm : (len : Int) ≤ 1000000) (hr : RowOf 1 byEnc oa l w) (hb : ∀ x ∈ l, x < 256) :
    Calls Try.prog 9 #[.int .u32 (key : Int), .slice oa len cap] w fun e w' => ∃ v, e = .returned (.tuple #[v, .int .i64 (Fr.wrapC l)]) ∧ OwnL 5 1 byEnc v (Fr.wrapL key l) w' ∧ Turned [] w w' ∧ ∀ k ∈ blk v, w.heap.size ≤ k := by
  by_cases h : l.length ≤ 1400
  · rw [Fr.wrapC_ok h, Fr.wrapL_ok h]
    exact wrap_any key hk oa l len cap w hlen (by omega) hr hb
  · rw [Fr.wrapC_long h, Fr.wrapL_long h]
    refine (wrap_long _ oa len cap w (by omega) (by omega)).mono ?_
    rintro e w' ⟨rfl, rfl⟩
    exact ⟨_, rfl, OwnL.nil _ _ _ _, Turned.refl _ _, by simp [blk_nil]⟩

theorem open_all (key : Nat) (hk : key < 4294967296) (oa : Option Addr) (l : List Nat) (len cap : Nat) (w : World) (hlen : l.length = len) (hm : (len : Int) ≤ 1000000) (hc : (len : Int) ≤ (cap : Int)) (hr : RowOf 1 byEnc oa l w) (hb : ∀ x ∈ l, x < 256) :
    Calls Try.prog 11 #[.int .u32 (key : Int), .slice oa len cap] w fun e w' => ∃ v, e = .returned (.tuple #[v, .int .i64 (Fr.openC key l)]) ∧ OwnL 5 1 byEnc v (Fr.openL key l) w' ∧ Turned [] w w' ∧ ∀ k ∈ blk v, w.heap.size ≤ k := by
  by_cases h4 : l.length < 4
  · rw [Fr.openL_of (Fr.openC_short h4) (by decide), Fr.openC_short h4]
    refine (open_short _ oa len cap w (by omega)).mono ?_
    rintro e w' ⟨rfl, rfl⟩
    exact ⟨_, rfl, OwnL.nil _ _ _ _, Turned.refl _ _, by simp [blk_nil]⟩
  · by_cases h : 1404 < l.length
    · rw [Fr.openL_of (Fr.openC_long h) (by decide), Fr.openC_long h]
      refine (open_long _ oa len cap w (by omega) (by omega)).mono ?_
      rintro e w' ⟨rfl, rfl⟩
      exact ⟨_, rfl, OwnL.nil _ _ _ _, Turned.refl _ _, by simp [blk_nil]⟩
    · obtain ⟨g, off, rfl⟩ := hr.addr (by omega)
      refine (open_in key hk g off l len cap w hlen (by omega) (by omega) hc hr hb).mono ?_
      rintro e w' ⟨h1, h2, h3⟩
      have hC := Fr.openC_in (key := key) (l := l) (by omega) (by omega)
      cases ho : Fr.opens key l with
      | false =>
        rw [ho, if_neg (by simp)] at hC
        rw [Fr.openL_of hC (by decide), hC, h2 ho]
        exact ⟨_, rfl, OwnL.nil _ _ _ _, h3, by simp [blk_nil]⟩
      | true =>
        rw [ho, if_pos rfl] at hC
        obtain ⟨v, rfl, h5, h6⟩ := h1 ho
        rw [Fr.openL_ok hC, hC]
        exact ⟨v, rfl, h5, h3, h6⟩
end FrW

namespace FrL
set_option maxHeartbeats 400000 in
theorem awake_any (w : World) : Calls Try.prog 8 #[] w fun e w' => e = .returned (.bool true) ∧ Turned [] w w' := by
  have k1 := FrW.wrap_any 0 (by omega) none [] 0 0 w rfl (by decide) (fun i a hi => by simp at hi) (by simp)
  have hl : (Fr.wrap 0 []).length = 4 := Fr.wrap_length 0 []
  go_enter Try.func8, Try.ntmps8
  go_wp2_with (go_at_call 9; refine k1.mono ?_; rintro e w1 ⟨v, rfl, ho, ht, _⟩; obtain ⟨oa, cap, hv, _, _, _, _⟩ := ho.rowOf byEnc_len; rw [hl] at hv; subst hv)
  go_ret
  exact BtL.bool_ret rfl ht
theorem u32_nat {a : Int} (h : (Lit.int .u32 a).wf = true) : ∃ n : Nat, a = (n : Int) ∧ n < 4294967296 := by
  simp [Lit.wf, IntKind.min, IntKind.max, IntKind.bits, IntKind.signed] at h
  exact ⟨a.toNat, by omega, by omega⟩
end FrL
end Go.Proofs.Ytdaedmbdoniaiaa

/- Bytes that were built; package bytes' Equal, as a call. -/
import Derived.Test.YtdaedmbdoniaiaaBytes
import Derived.Test.YtdaedmbdoniaiaaSameRow
import Derived.Laws.BytesArg
namespace Go.Proofs.Ytdaedmbdoniaiaa
open Go.RowKit
set_option linter.unusedVariables false

/-- a row of bytes that was built -/
theorem OwnL.fresh (l : List Nat) (w : World) (hl : l.length ≤ maxLen) : OwnL 5 1 byEnc (.slice (some ⟨w.heap.size, 0, none⟩) l.length l.length) l (w.alloc (.cells (l.flatMap byEnc).toArray 5)) := by
  have e : (l.flatMap byEnc).length = l.length := by
    have : l.flatMap byEnc = l.map bv := flat_one bv l
    rw [this, List.length_map]
  refine ⟨by rw [e, Nat.mul_one], .inr ⟨w.heap.size, l.length, (l.flatMap byEnc).toArray, rfl, Nat.zero_le _, (by show (w.heap.push _)[w.heap.size]? = some _; simp), Nat.le_refl _, hl, by simp [e], ?_⟩⟩
  rw [Nat.mul_one]
  exact List.take_of_length_le (by simp [e])

namespace Fr
/-- bytes as a string -/
def str (bs : List Nat) : ByteArray := strOfNums (bs.map fun b : Nat => (b : Int))
theorem u8_inj {a b : Nat} (ha : a < 256) (hb : b < 256) (h : UInt8.ofNat a = UInt8.ofNat b) : a = b := by
  have := congrArg UInt8.toNat h
  simp at this
  omega
theorem map_inj : ∀ {a b : List Nat}, (∀ x ∈ a, x < 256) → (∀ x ∈ b, x < 256) → a.map UInt8.ofNat = b.map UInt8.ofNat → a = b
  | [], [], _, _, _ => rfl
  | [], _ :: _, _, _, h => by simp at h
  | _ :: _, [], _, _, h => by simp at h
  | x :: a, y :: b, ha, hb, h => by
    rw [List.map_cons, List.map_cons] at h
    injection h with h1 h2
    rw [u8_inj (ha x (List.mem_cons_self ..)) (hb y (List.mem_cons_self ..)) h1, map_inj (fun z hz => ha z (List.mem_cons_of_mem _ hz)) (fun z hz => hb z (List.mem_cons_of_mem _ hz)) h2]
theorem conv_row {oa : Option Addr} {bs : List Nat} {n cap : Nat} {w : World} (hn : bs.length = n) (hr : RowOf 1 byEnc oa bs w) :
    (convert 23 9 (.slice oa n cap)).run Try.prog w = .ok (.string (str bs)) w := by
  subst hn
  by_cases h0 : 0 < bs.length
  · obtain ⟨g, off, rfl⟩ := hr.addr h0
    refine run_convert_bytes_arg (P := Try.prog) w 23 5 (by kernel_rfl) (by kernel_rfl) g off bs.length cap (bs.map fun b : Nat => (b : Int)) (by simp) ?_ 9 (by kernel_rfl)
    intro i hi
    rw [hr.byte hi]
    simp [List.getD, List.getElem?_eq_getElem hi]
  · have hb : bs = [] := List.eq_nil_of_length_eq_zero (by omega)
    subst hb
    rw [List.length_nil, run_convert_bytes_string w 23 9 5 _ 0 cap (by kernel_rfl) (by kernel_rfl) (by kernel_rfl)]
    cases oa <;> simp [Conv.bytesToString, loadCells]
    all_goals rfl

set_option maxHeartbeats 400000 in
theorem equal_any (oa ob : Option Addr) (la lb : List Nat) (na nb ca cb : Nat) (w : World) (hna : la.length = na) (hnb : lb.length = nb) (ha : RowOf 1 byEnc oa la w) (hb : RowOf 1 byEnc ob lb w) (h1 : ∀ x ∈ la, x < 256) (h2 : ∀ x ∈ lb, x < 256) :
    Calls Try.prog 17 #[.slice oa na ca, .slice ob nb cb] w fun e w' => e = .returned (.bool (decide (la = lb))) ∧ w' = w := by
  have k1 := conv_row (cap := ca) hna ha
  have k2 := conv_row (cap := cb) hnb hb
  have ke : ((str la).toList == (str lb).toList) = decide (la = lb) := by
    by_cases h : la = lb
    · subst h; simp
    · rw [decide_eq_false h, beq_eq_false_iff_ne, ByteArray.toList_eq, ByteArray.toList_eq]
      intro e
      simp only [str, strOfNums_data, List.map_map] at e
      exact h (map_inj h1 h2 e)
  go_enter Try.func17, Try.ntmps17
  go_wp2
  go_ret
  first | exact ⟨rfl, rfl⟩ | exact BtL.bool_ret ke rfl
end Fr
end Go.Proofs.Ytdaedmbdoniaiaa

/- A header that was put is what is read. -/
import Derived.Test.YtloobijdpchppaaChRead
namespace Go.Proofs.Ytloobijdpchppaa
set_option linter.unusedVariables false

namespace Ch
theorem read_back {r : Bt.Rd} {h : H} {t : List Bool} (hw : HWf h) (hf : r.fail = false) (hr : r.rest = bits h ++ t) :
    got r = h ∧ (after r).fail = false ∧ bad r = (!h.y && decide (0 < h.a.toNat + h.m.toNat)) ∧ (after r).rest = t := by
  obtain ⟨n, y, a, m⟩ := h
  obtain ⟨n0, n1, a0, a1, m0, m1⟩ := hw
  simp only at n0 n1 a0 a1 m0 m1
  have e0 : r.rest = Bt.bits n.toNat 16 ++ (Bt.bits (if y = true then 1 else 0) 1 ++ (Bt.bits a.toNat 16 ++ (Bt.bits m.toNat 32 ++ t))) := by
    rw [hr]; unfold bits; simp only [List.append_assoc]
  obtain ⟨t1, s1, e1⟩ := Bt.Rd.take_bits hf e0 (by omega) (by omega)
  have f1 : (r.take ((16 : Nat) : Int)).fail = false := by rw [s1]
  obtain ⟨t2, s2, e2⟩ := Bt.Rd.take_bits f1 e1 (by split <;> omega) (by omega)
  have f2 : ((r.take ((16 : Nat) : Int)).take ((1 : Nat) : Int)).fail = false := by rw [s2]
  obtain ⟨t3, s3, e3⟩ := Bt.Rd.take_bits f2 e2 (by omega) (by omega)
  have f3 : (((r.take ((16 : Nat) : Int)).take ((1 : Nat) : Int)).take ((16 : Nat) : Int)).fail = false := by rw [s3]
  obtain ⟨t4, s4, e4⟩ := Bt.Rd.take_bits f3 e3 (by omega) (by omega)
  have f4 : (after r).fail = false := by
    show ((((r.take ((16 : Nat) : Int)).take ((1 : Nat) : Int)).take ((16 : Nat) : Int)).take ((32 : Nat) : Int)).fail = false
    rw [s4]
  simp only [Int.cast_ofNat_Int] at t1 t2 t3 t4
  refine ⟨?_, f4, ?_, e4⟩
  · unfold got
    have q2 : decide ((r.take 16).tell 1 = 1) = y := by
      have : (r.take 16).tell 1 = if y = true then 1 else 0 := t2
      rw [this]; cases y <;> rfl
    have q3 : ((r.take 16).take 1).tell 16 = a.toNat := t3
    have q4 : (((r.take 16).take 1).take 16).tell 32 = m.toNat := t4
    rw [t1, q2, q3, q4, Int.toNat_of_nonneg n0, Int.toNat_of_nonneg a0, Int.toNat_of_nonneg m0]
  · unfold bad
    have q2 : (r.take 16).tell 1 = if y = true then 1 else 0 := t2
    have q3 : ((r.take 16).take 1).tell 16 = a.toNat := t3
    have q4 : (((r.take 16).take 1).take 16).tell 32 = m.toNat := t4
    rw [f4, q2, q3, q4]; cases y <;> simp
end Ch
end Go.Proofs.Ytloobijdpchppaa

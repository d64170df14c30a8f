/- What the program's writer of bits does, as a call: small numbers, and its bytes (BtW). -/
import Derived.Test.YtloobijdpchppaaBitWr
namespace Go.Proofs.Ytloobijdpchppaa
open Go.RowKit
set_option linter.unusedVariables false

namespace BtW
theorem puts_one : puts (1 : Int).toNat 1 = [true] := by decide
theorem puts_zero : puts (0 : Int).toNat 1 = [false] := by decide
theorem puts_seven (u : Nat) : puts (u : Int).toNat 7 = Bt.bits u 7 := by unfold puts; rw [if_pos (by omega)]; simp
theorem sm_step {u : Nat} (h : 127 < u) (l : List Bool) : l ++ Bt.sm u = ((l ++ [true]) ++ Bt.bits u 7) ++ Bt.sm (u / 128) := by
  rw [Bt.sm_more h, show u % 128 = u % 2 ^ 7 from rfl, Bt.bits_mod 7 7 u (by omega)]
  simp
theorem sm_end {u : Nat} (h : ¬ 127 < u) (l : List Bool) : l ++ Bt.sm u = (l ++ [false]) ++ Bt.bits u 7 := by
  rw [Bt.sm_last h]
  simp
theorem sm_room {l l' : List Bool} {u v : Nat} (hv : v < 18446744073709551616) (h : l ++ Bt.sm v = l' ++ Bt.sm u) : l'.length ≤ l.length + 80 := by
  have := congrArg List.length h
  rw [List.length_append, List.length_append, Bt.sm_length, Bt.sm_length] at this
  have := Bt.eights_ten hv
  omega

set_option maxHeartbeats 1000000 in
theorem clone_any (oa : Option Addr) (n cap : Nat) (bs : List Nat) (w : World) (hn : bs.length = n) (hr : RowOf 1 byEnc oa bs w) (hl : n ≤ 1099511627776) :
    Calls Try.prog 44 #[.slice oa n cap] w fun e w' => ∃ v', e = .returned v' ∧ OwnL 5 1 byEnc v' bs w' ∧ Turned [] w w' ∧ ∀ k ∈ blk v', w.heap.size ≤ k := by
  have hnil : ∀ (u : World) (a : Option Addr) (l c : Nat), (binOp .eql 52 (.slice a l c) (.slice none 0 0)).run Try.prog u = .ok (.bool a.isNone) u := fun u a l c => Lib.run_eql_slice_nil (P := Try.prog) u 52 5 a l c 0 0 (by kernel_rfl)
  cases oa with
  | none =>
    have hb : bs = [] := by
      cases bs with
      | nil => rfl
      | cons a r => obtain ⟨b, off, ho, _⟩ := hr 0 a rfl; cases ho
    subst hb
    go_enter Try.func44, Try.ntmps44
    go_wp2
    go_ret
    exact ⟨_, rfl, OwnL.nil _ _ _ _, Turned.refl _ _, by simp [blk, Value.ownBlock]⟩
  | some a =>
    go_enter Try.func44, Try.ntmps44
    have h0 : OwnL 5 1 byEnc (.slice (some ⟨w.heap.size, 0, none⟩) 0 0) ([] : List Nat) (w.alloc (.cells #[] 5)) := World.ownsRow_made (e := 5) (size := 1) w #[] 0 (Nat.zero_le _) (Nat.zero_le _) rfl
    go_wp2_with (at_builtin; refine wp_pushAll (v := .slice (some ⟨w.heap.size, 0, none⟩) 0 0) elem_u8 rfl (.tmp 5) (.tmp 6) rfl rfl h0 (some a) n cap bs hn rfl (hr.turned ((Turned.refl [] w).alloc _) (by simp)) byEnc_len byEnc_one (by unfold maxLen; simp; omega) (by simp; omega) ?_; intro v' w1 ho1 ht1 hb1)
    go_ret
    refine ⟨_, rfl, ?_, ?_, ?_⟩
    · simpa using ho1
    · refine ((Turned.refl [] w).alloc _).trans ht1 ?_
      intro k hk hl
      simp [blk, Value.ownBlock] at hk
      omega
    · intro k hk
      have hk' : k ∈ blk v' := hk
      rcases hb1 with h | h
      · rw [h] at hk'; simp [blk, Value.ownBlock] at hk'; omega
      · rw [h] at hk'; simp at hk'; omega
set_option maxHeartbeats 1000000 in
theorem bytes_any (p : Nat) (l : List Bool) (F : List Nat) (w : World) (h : PW p l F w) (hl : l.length ≤ 549755813888) :
    Calls Try.prog 21 #[.pointer (some ⟨p, 0, none⟩)] w fun e w' => ∃ v', e = .returned v' ∧ OwnL 5 1 byEnc v' (Bt.pack l) w' ∧ Turned [] w w' ∧ ∀ k ∈ blk v', w.heap.size ≤ k := by
  obtain ⟨v, hs, ho, rfl, hn⟩ := h
  have c0 := (hs.2 0 _ rfl).1
  obtain ⟨oa, cap, rfl, _, _, hr, _⟩ := ho.rowOf byEnc_len
  have hpl := Bt.pack_length l
  have kc := clone_any oa (Bt.pack l).length cap (Bt.pack l) w rfl hr (by omega)
  clear hpl
  go_enter Try.func21, Try.ntmps21
  go_wp2_with (go_at_call 44; with_reducible refine kc.mono ?_; rintro e w1 ⟨v', rfl, ho1, ht1, hb1⟩)
  go_ret
  exact ⟨v', rfl, ho1, ht1, hb1⟩
theorem bytes_nil (w : World) :
    Calls Try.prog 21 #[.pointer none] w fun e w' => e = .returned (.slice none 0 0) ∧ w' = w := by
  go_enter Try.func21, Try.ntmps21
  go_wp2
  go_ret
  exact ⟨rfl, rfl⟩

end BtW
end Go.Proofs.Ytloobijdpchppaa

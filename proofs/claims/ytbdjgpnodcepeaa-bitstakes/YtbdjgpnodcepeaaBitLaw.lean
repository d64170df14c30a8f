/- What the laws of layer 6 ask first: that the program is awake; and whether two rows of bytes are the same (BtL). -/
import Derived.Test.YtbdjgpnodcepeaaBitWr2
import Derived.Test.YtbdjgpnodcepeaaBitRf
import Derived.Test.YtbdjgpnodcepeaaFlat
namespace Go.Proofs.Ytbdjgpnodcepeaa
open Go.RowKit
set_option linter.unusedVariables false

/-- an op's cells -/
def opEnc (a : Bool × Int × Int) : List Value := [.bool a.1, .int .u64 a.2.1, .int .i64 a.2.2]
theorem leaf_form {k : IntKind} {v : Value} (h : (Leaf.int k).ok v) : ∃ z, v = .int k z := by
  obtain ⟨z, hz, _⟩ := h
  exact ⟨z, hz⟩
theorem leaf_bool {v : Value} (h : Leaf.bool.ok v) : ∃ b, v = .bool b := h
theorem opEnc_of (cs : List Value) (h : AllOk [.bool, .int .u64, .int .i64] cs) : ∃ a, cs = opEnc a := by
  have hl := h.length
  obtain ⟨c0, c1, c2, rfl⟩ : ∃ c0 c1 c2, cs = [c0, c1, c2] := by
    match cs, hl with
    | [a, b, c], _ => exact ⟨a, b, c, rfl⟩
  obtain ⟨x0, e0⟩ := leaf_bool h.1
  obtain ⟨x1, e1⟩ := leaf_form h.2.1
  obtain ⟨x2, e2⟩ := leaf_form h.2.2.1
  rw [e0, e1, e2]
  exact ⟨(x0, x1, x2), rfl⟩
theorem leaf_int {k : IntKind} {z : Int} (h : (Leaf.int k).ok (.int k z)) : (Lit.int k z).wf = true := by
  obtain ⟨y, hy, hw⟩ := h
  rw [(Value.int.inj hy).2]
  exact hw
theorem op_ok {l : List (Bool × Int × Int)} (h : ∀ a ∈ l, AllOk [.bool, .int .u64, .int .i64] (opEnc a)) {k : Nat} {b : Bool} {x n : Int} (hk : l[k]? = some (b, x, n)) : (Lit.int .u64 x).wf = true ∧ (Lit.int .i64 n).wf = true := by
  have h0 := h _ (List.mem_of_getElem? hk)
  exact ⟨leaf_int h0.2.1, leaf_int h0.2.2.1⟩
theorem op_at {oa : Option Addr} {l : List (Bool × Int × Int)} {w : World} (h : RowOf 3 opEnc oa l w) {k : Nat} {b : Bool} {x n : Int} (hk : l[k]? = some (b, x, n)) :
    ∃ g off, oa = some ⟨g, off, none⟩ ∧ g < w.heap.size ∧ w.cell? ⟨g, off + k * 3, none⟩ = some (.bool b) ∧ w.cell? ⟨g, off + k * 3 + 1, none⟩ = some (.int .u64 x) ∧ w.cell? ⟨g, off + k * 3 + 2, none⟩ = some (.int .i64 n) := by
  obtain ⟨g, off, ho, hlt, hc⟩ := h k _ hk
  exact ⟨g, off, ho, hlt, hc 0 _ rfl, hc 1 _ rfl, hc 2 _ rfl⟩

namespace BtL
theorem bool_ret {a b : Bool} {p : Prop} (h : a = b) (hp : p) : Ending.returned (.bool a) = .returned (.bool b) ∧ p := by rw [h]; exact ⟨rfl, hp⟩

theorem i64_range {a : Int} (h : (Lit.int .i64 a).wf = true) : -9223372036854775808 ≤ a ∧ a < 9223372036854775808 := by
  simp [Lit.wf, IntKind.min, IntKind.max, IntKind.bits, IntKind.signed] at h
  omega
theorem u64_range {a : Int} (h : (Lit.int .u64 a).wf = true) : 0 ≤ a ∧ a < 18446744073709551616 := by
  simp [Lit.wf, IntKind.min, IntKind.max, IntKind.bits, IntKind.signed] at h
  omega
theorem w64_lo (z : Int) : -9223372036854775808 ≤ wrap64 z := by unfold wrap64; omega
theorem w64_hi (z : Int) : wrap64 z < 9223372036854775808 := by unfold wrap64; omega
theorem wrap_lo (z : Int) : -9223372036854775808 ≤ IntKind.i64.wrap z := by simp [IntKind.wrap, IntKind.bits, IntKind.signed]; split <;> omega
theorem wrap_hi (z : Int) : IntKind.i64.wrap z < 9223372036854775808 := by simp [IntKind.wrap, IntKind.bits, IntKind.signed]; split <;> omega

set_option maxHeartbeats 1000000 in
theorem awake_any (w : World) : Calls Try.prog 10 #[] w fun e w' => e = .returned (.bool true) ∧ Turned [] w w' := by
  have kp := BtW.put_any w.heap.size [] [w.heap.size] 5 3 (by omega) (by omega) _ (PW.new w 27) (by simp)
  have e3 : [] ++ BtW.puts (5 : Int).toNat 3 = [true, false, true] := by decide
  rw [e3] at kp
  have kc := fun F1 w1 (h : PW w.heap.size [true, false, true] F1 w1) => BtW.count_any w.heap.size _ F1 w1 h
  have kb := fun F1 w1 (h : PW w.heap.size [true, false, true] F1 w1) => BtW.bytes_any w.heap.size _ F1 w1 h (by simp)
  have hlen : (Bt.pack [true, false, true]).length = 1 := by decide
  go_enter Try.func10, Try.ntmps10
  go_wp2_with (first | (go_at_call 13; with_reducible refine kp.mono ?_; rintro e w1 ⟨rfl, F1, h1, hm1⟩) | (go_at_call 15; with_reducible refine (kc F1 _ h1).mono ?_; rintro e w2 ⟨rfl, rfl⟩) | (go_at_call 17; with_reducible refine (kb F1 _ h1).mono ?_; rintro e w3 ⟨v', rfl, ho, ht, hn⟩; obtain ⟨oa, cap, rfl, _, _, _, _⟩ := ho.rowOf byEnc_len))
  go_ret
  refine bool_ret rfl ?_
  exact (((Turned.refl [] w).alloc _).trans hm1.1 (by intro k hk hl; simp at hk; omega)).trans ht (fun k hk _ => hk)

theorem take_same {l s : List Nat} {k : Nat} {a b : Nat} (h : l.take k = s.take k) (ha : l[k]? = some a) (hb : s[k]? = some b) : (l.take (k + 1) = s.take (k + 1)) ↔ a = b := by
  rw [List.take_add_one, List.take_add_one, ha, hb, h]
  simp
theorem ne_of_take {l s : List Nat} {k : Nat} {a b : Nat} (ha : l[k]? = some a) (hb : s[k]? = some b) (hab : a ≠ b) : l ≠ s := by
  rintro rfl
  rw [ha] at hb
  exact hab (by simpa using hb)

set_option maxHeartbeats 1000000 in
theorem same_any (oa ob : Option Addr) (ca cb : Nat) (la lb : List Nat) (w : World) (ha : RowOf 1 byEnc oa la w) (hb : RowOf 1 byEnc ob lb w) (hla : la.length ≤ 1099511627776) (hlb : lb.length ≤ 1099511627776) :
    Calls Try.prog 16 #[.slice oa la.length ca, .slice ob lb.length cb] w fun e w' => e = .returned (.bool (decide (la = lb))) ∧ Turned [] w w' := by
  by_cases hlen : la.length = lb.length
  · go_enter Try.func16, Try.ntmps16
    go_wp2_with fail
    go_loopw [5] (fun i wr => ∃ k : Nat, k ≤ lb.length ∧ i = .int .i64 (k : Int) ∧ la.take k = lb.take k ∧ Turned [] w wr) (fun i _ => lb.length - (intOf i).toNat)
    case atStart => exact ⟨0, by omega, rfl, by simp, Turned.refl _ _⟩
    case round =>
      obtain ⟨k, hk, rfl, htk, hT2⟩ := hrel
      have ha2 := ha.turned hT2 (by simp)
      have hb2 := hb.turned hT2 (by simp)
      by_cases hlt : (k : Int) < (lb.length : Int)
      · have hk1 : k < la.length := by omega
        have hk2 : k < lb.length := by omega
        obtain ⟨a, hxa⟩ : ∃ a, la[k]? = some a := ⟨_, List.getElem?_eq_getElem hk1⟩
        obtain ⟨b, hxb⟩ : ∃ b, lb[k]? = some b := ⟨_, List.getElem?_eq_getElem hk2⟩
        obtain ⟨g1, o1, rfl, hg1, hc1⟩ := ha2 _ _ hxa
        obtain ⟨g2, o2, rfl, hg2, hc2⟩ := hb2 _ _ hxb
        have e1 := hc1 0 _ rfl
        have e2 := hc2 0 _ rfl
        rw [Nat.mul_one, Nat.add_zero] at e1 e2
        clear hc1 hc2 ha2 hb2
        by_cases hab : a = b
        · have HT : Hid (la.take (k + 1) = lb.take (k + 1)) := (take_same htk hxa hxb).2 hab
          clear htk hxa hxb
          subst hab
          go_wp2_with fail
          go_region
          go_wp2_with fail
          go_roundw
          case rel => exact ⟨k + 1, by omega, by go_num, HT.out, hT2.drew⟩
          case measure => simp [intOf]; omega
        · have HN : Hid (decide (la = lb) = false) := decide_eq_false (ne_of_take hxa hxb hab)
          have hne : ¬ (a : Int) = (b : Int) := by omega
          clear htk hxa hxb
          go_wp2_with fail
          go_region
          go_wp2_with fail
          go_ret
          exact bool_ret HN.out.symm hT2.drew
      · have hk' : k = lb.length := by omega
        subst hk'
        have HE : Hid (decide (la = lb) = true) := by
          show _ = _
          rw [List.take_length, ← hlen, List.take_length] at htk
          simpa using htk
        clear htk
        go_wp2_with fail
        go_ret
        exact bool_ret HE.out.symm hT2
  · have HN : Hid (decide (la = lb) = false) := decide_eq_false (by rintro rfl; exact hlen rfl)
    have hlen' : ¬ (la.length : Int) = (lb.length : Int) := by omega
    go_enter Try.func16, Try.ntmps16
    go_wp2_with fail
    go_ret
    exact bool_ret HN.out.symm (Turned.refl _ _)

/-- what is put of one op; of a list of them -/
def opBits (a : Bool × Int × Int) : List Bool := if a.1 then Bt.sm (Bt.zig (wrap64 a.2.1)) else BtW.puts a.2.1.toNat a.2.2
def opsBits (l : List (Bool × Int × Int)) : List Bool := l.flatMap opBits
theorem opBits_len (a : Bool × Int × Int) : (opBits a).length ≤ 80 := by
  unfold opBits
  split
  · have := Bt.eights_ten (Bt.zig_lt (w64_lo a.2.1) (w64_hi a.2.1))
    rw [Bt.sm_length]; omega
  · unfold BtW.puts
    split
    · rw [Bt.bits_length]; omega
    · simp
theorem opsBits_len : ∀ l : List (Bool × Int × Int), (opsBits l).length ≤ 80 * l.length
  | [] => by simp [opsBits]
  | a :: l => by
    have h1 := opBits_len a
    have h2 := opsBits_len l
    show (opBits a ++ opsBits l).length ≤ _
    rw [List.length_append, List.length_cons]; omega
theorem opsBits_next {l : List (Bool × Int × Int)} {k : Nat} {a : Bool × Int × Int} (h : l[k]? = some a) : opsBits (l.take (k + 1)) = opsBits (l.take k) ++ opBits a := by
  rw [List.take_add_one, h]
  simp [opsBits]

/-- a writer and the reference's bits, of the same bits, apart from each other, and all of it new -/
def Both (w0 : World) (p q : Nat) (l : List Bool) (wr : World) : Prop :=
  ∃ F1 F2, PW p l F1 wr ∧ BtR.RB q l F2 wr ∧ (∀ k ∈ F1, k ∉ F2) ∧ (∀ k ∈ F1, w0.heap.size ≤ k) ∧ (∀ k ∈ F2, w0.heap.size ≤ k) ∧ Turned [] w0 wr
theorem both_step {w0 wr u1 u2 : World} {p q : Nat} {l l' : List Bool} {F1 F1' F2 F2' : List Nat} (hp : PW p l F1 wr) (hr : BtR.RB q l F2 wr) (hd : ∀ k ∈ F1, k ∉ F2) (h1 : ∀ k ∈ F1, w0.heap.size ≤ k) (h2 : ∀ k ∈ F2, w0.heap.size ≤ k) (ht : Turned [] w0 wr)
    (hp' : PW p l' F1' u1) (hm1 : Moved F1 F1' wr u1) (hr' : BtR.RB q l' F2' u2) (hm2 : Moved F2 F2' u1 u2) : Both w0 p q l' u2 := by
  have s0 := ht.size
  have s1 := hm1.size
  have hd1 : ∀ k ∈ F1', k ∉ F2 := by
    intro k hk hn
    exact hm1.apart (G := F2) hr.lt (fun j hj hi => hd j hi hj) k hn hk
  refine ⟨F1', F2', hp'.keep hm2.1 hd1, hr', hm2.apart hp'.lt hd1, hm1.ge s0 h1, hm2.ge (by omega) h2, ?_⟩
  refine (ht.trans hm1.1 ?_).trans hm2.1 ?_
  · intro k hk hl; have := h1 k hk; omega
  · intro k hk hl; have := h2 k hk; omega
theorem both_mid {wr u1 : World} {q : Nat} {l : List Bool} {F1 F1' F2 : List Nat} (hr : BtR.RB q l F2 wr) (hd : ∀ k ∈ F1, k ∉ F2) (hm1 : Moved F1 F1' wr u1) : BtR.RB q l F2 u1 :=
  hr.keep hm1.1 (fun k hk hn => hd k hn hk)
theorem mid_turned {w0 wr u1 : World} {F1 F1' : List Nat} (h1 : ∀ k ∈ F1, w0.heap.size ≤ k) (ht : Turned [] w0 wr) (hm1 : Moved F1 F1' wr u1) : Turned [] w0 u1 :=
  ht.trans hm1.1 (by intro k hk hl; have := h1 k hk; omega)
theorem both_keep {w0 wr u : World} {p q : Nat} {l : List Bool} (h : Both w0 p q l wr) (ht : Turned [] wr u) : Both w0 p q l u := by
  obtain ⟨F1, F2, hp, hr, hd, h1, h2, ht0⟩ := h
  exact ⟨F1, F2, hp.keep ht (by simp), hr.keep ht (by simp), hd, h1, h2, ht0.trans ht (by simp)⟩
theorem drewN_turned (w : World) (n : Nat) : Turned [] w (w.drewN n) := ⟨rfl, rfl, rfl, Nat.le_refl _, fun _ _ _ => rfl⟩
theorem moved_drew {F F' : List Nat} {w w' : World} (h : Moved F F' w w') : Moved F F' w w'.drew := ⟨h.1.drew, h.2⟩
theorem moved_undrew {F F' : List Nat} {w w' : World} (h : Moved F F' w.drew w') : Moved F F' w w' := ⟨⟨h.1.os, h.1.tape, h.1.output, h.1.size, h.1.block⟩, h.2⟩
/-- what the comparison of the two counts reads -/
theorem fin12 {w0 wr : World} {p q : Nat} {l : List Bool} (h : Both w0 p q l wr) :
    (∀ m, Calls Try.prog 15 #[.pointer (some ⟨p, 0, none⟩)] (wr.drewN m) fun e w' => e = .returned (.int .i64 (l.length : Int)) ∧ w' = wr.drewN m) ∧ (∃ oa cap, wr.cell? ⟨q, 0, none⟩ = some (.slice oa l.length cap)) ∧ ∀ m, Both w0 p q l (wr.drewN m) := by
  obtain ⟨F1, F2, hp, hr, hd, h1, h2, ht⟩ := id h
  refine ⟨fun m => BtW.count_any p l F1 (wr.drewN m) (hp.keep (drewN_turned _ _) (by simp)), ?_, fun m => both_keep h (drewN_turned _ _)⟩
  obtain ⟨v, hs, ho, _, _⟩ := hr
  obtain ⟨oa, cap, rfl, _⟩ := ho.rowOf bEnc_len
  exact ⟨oa, cap, (hs.2 0 _ rfl).1⟩
end BtL
end Go.Proofs.Ytbdjgpnodcepeaa

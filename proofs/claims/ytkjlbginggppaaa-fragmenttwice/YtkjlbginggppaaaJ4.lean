/- Joined: FgWUnp, FgWFeed, FgWFeed2, FgSplAny, FgMsg, FgRound, FgWChunk, FgWSplit, Ints. -/
import Derived.Test.YtkjlbginggppaaaJ3
import Derived.RangeFuncNested
import Derived.RangeFuncBound
import Derived.RangeFuncCalls
import Derived.RangeFuncLeaves
import Derived.OrdersIn
import Derived.OrdersHeld
import Derived.Shelf.Abstract
import Derived.Shelf.RegionOpen
import Derived.WalkKit
import Derived.OwnWalkIn
import Derived.TacticsInMore
import Derived.LoopNIn
import Derived.LoopIn
import Derived.Test.YtkjlbginggppaaaRows
import Derived.ProofKit
import Derived.OpenShut
import Derived.ChangeOld
import Derived.ChangeSlices
/- A part's bytes are unpacked: the program's (FgW). -/
namespace Go.Proofs.Ytkjlbginggppaaa
open Go.RowKit
set_option linter.unusedVariables false
set_option linter.unusedSimpArgs false

namespace Bt
theorem Rd.tell_small {r : Rd} {n : Nat} : r.tell (n : Int) < 2 ^ n := by
  cases h : (r.take (n : Int)).fail with
  | false => exact (Rd.take_ok h).2.2.2.2.2.1
  | true =>
    have hc : ¬ r.can (n : Int) = true := by
      intro hc
      unfold Rd.take at h
      rw [if_pos hc] at h
      cases h
    unfold Rd.tell
    rw [if_neg hc]
    exact Nat.two_pow_pos n
end Bt
namespace Fg
open Bt
theorem short_fail {l : List Nat} (h : l.length < 3) : ((((⟨Bt.unpack l, 0, false⟩ : Rd).take ((16 : Nat) : Int)).take ((4 : Nat) : Int)).take ((4 : Nat) : Int)).fail = true := by
  cases hf : ((((⟨Bt.unpack l, 0, false⟩ : Rd).take ((16 : Nat) : Int)).take ((4 : Nat) : Int)).take ((4 : Nat) : Int)).fail with
  | true => rfl
  | false =>
    have h2 := (Rd.take_ok hf).1
    have l3 := (Rd.take_ok hf).2.2.1
    have h1 := (Rd.take_ok h2).1
    have e2 := (Rd.take_ok h2).2.2.2.1
    have e1 := (Rd.take_ok h1).2.2.2.1
    rw [e2, e1] at l3
    unfold Rd.left at l3
    simp only [Bt.unpack_length] at l3
    omega
theorem three {x y z : Nat} {b : List Nat} (hx : x < 256) (hy : y < 256) (hz : z < 256) :
    (⟨Bt.unpack (x :: y :: z :: b), 0, false⟩ : Rd).take 16 = ⟨Bt.unpack (x :: y :: z :: b), 16, false⟩ ∧ (⟨Bt.unpack (x :: y :: z :: b), 16, false⟩ : Rd).take 4 = ⟨Bt.unpack (x :: y :: z :: b), 20, false⟩ ∧ (⟨Bt.unpack (x :: y :: z :: b), 20, false⟩ : Rd).take 4 = ⟨Bt.unpack (x :: y :: z :: b), 24, false⟩ ∧
      (⟨Bt.unpack (x :: y :: z :: b), 0, false⟩ : Rd).tell 16 = x + 256 * y ∧ (⟨Bt.unpack (x :: y :: z :: b), 16, false⟩ : Rd).tell 4 = z % 16 ∧ (⟨Bt.unpack (x :: y :: z :: b), 20, false⟩ : Rd).tell 4 = z / 16 := by
  obtain ⟨t1, t2, t3⟩ := tells (r := ⟨Bt.unpack (x :: y :: z :: b), 0, false⟩) hx hy hz rfl rfl
  have hl : (Bt.unpack (x :: y :: z :: b)).length = 8 * (b.length + 3) := by rw [Bt.unpack_length]; rfl
  have tk : ∀ (a n : Nat), n ≤ 64 → a + n ≤ 8 * (b.length + 3) → (⟨Bt.unpack (x :: y :: z :: b), a, false⟩ : Rd).take (n : Int) = ⟨Bt.unpack (x :: y :: z :: b), a + n, false⟩ := by
    intro a n hn ha
    have hc : (⟨Bt.unpack (x :: y :: z :: b), a, false⟩ : Rd).can (n : Int) = true := Rd.can_iff.2 ⟨rfl, by omega, by omega, by unfold Rd.left; simp only [hl]; omega⟩
    unfold Rd.take
    rw [if_pos hc]
    rfl
  have e1 := tk 0 16 (by omega) (by omega)
  have e2 := tk 16 4 (by omega) (by omega)
  have e3 := tk 20 4 (by omega) (by omega)
  have e1' : (⟨Bt.unpack (x :: y :: z :: b), 0, false⟩ : Rd).take 16 = ⟨Bt.unpack (x :: y :: z :: b), 16, false⟩ := e1
  have e2' : (⟨Bt.unpack (x :: y :: z :: b), 16, false⟩ : Rd).take 4 = ⟨Bt.unpack (x :: y :: z :: b), 20, false⟩ := e2
  rw [e1'] at t2 t3
  rw [e2'] at t3
  exact ⟨e1', e2', e3, t1, t2, t3⟩
theorem eight_next {x y z c k : Nat} {b : List Nat} (hc : b[k]? = some c) (h8 : c < 256) :
    (⟨Bt.unpack (x :: y :: z :: b), 24 + 8 * k, false⟩ : Rd).tell 8 = c ∧ (⟨Bt.unpack (x :: y :: z :: b), 24 + 8 * k, false⟩ : Rd).take 8 = ⟨Bt.unpack (x :: y :: z :: b), 24 + 8 * (k + 1), false⟩ := by
  have hr : (⟨Bt.unpack (x :: y :: z :: b), 24 + 8 * k, false⟩ : Rd).rest = Bt.bits c 8 ++ Bt.unpack (b.drop (k + 1)) := by
    show (Bt.unpack (x :: y :: z :: b)).drop (24 + 8 * k) = _
    rw [show 24 + 8 * k = 8 * (k + 3) by omega, Bt.drop_unpack]
    show Bt.unpack (b.drop k) = _
    have hk := (List.getElem?_eq_some_iff.1 hc).1
    rw [List.drop_eq_getElem_cons hk, (List.getElem?_eq_some_iff.1 hc).2]
    rfl
  obtain ⟨t1, t2, _⟩ := Rd.take_bits (n := 8) rfl hr (by omega) (by omega)
  exact ⟨t1, by rw [show ((8 : Nat) : Int) = 8 from rfl] at t2; rw [t2]; show (⟨_, 24 + 8 * k + 8, false⟩ : Rd) = _; rw [show 24 + 8 * k + 8 = 24 + 8 * (k + 1) by omega]⟩
theorem left_next {x y z k : Nat} {b : List Nat} (hk : k ≤ b.length) : (⟨Bt.unpack (x :: y :: z :: b), 24 + 8 * k, false⟩ : Rd).left = 8 * (b.length - k) := by
  unfold Rd.left
  simp only [Bt.unpack_length, List.length_cons]
  omega
end Fg

namespace FgW
theorem set4 (w : World) (b : Nat) (x y z v : Value) : Turned [b] w ((((w.setCell ⟨b, 0, none⟩ x).setCell ⟨b, 1, none⟩ y).setCell ⟨b, 2, none⟩ z).setCell ⟨b, 3, none⟩ v) :=
  ((((Turned.refl [b] w).setCell (p := ⟨b, 0, none⟩) (.inl (by simp)) _).setCell (p := ⟨b, 1, none⟩) (.inl (by simp)) _).setCell (p := ⟨b, 2, none⟩) (.inl (by simp)) _).setCell (p := ⟨b, 3, none⟩) (.inl (by simp)) _
theorem struct_set4 {w : World} {b : Nat} {c0 c1 c2 c3 : Value} (h : Struct b [c0, c1, c2, c3] w) (x y z v : Value) : Struct b [x, y, z, v] ((((w.setCell ⟨b, 0, none⟩ x).setCell ⟨b, 1, none⟩ y).setCell ⟨b, 2, none⟩ z).setCell ⟨b, 3, none⟩ v) :=
  (((h.set (i := 0) (by simp) x).set (i := 1) (by simp) y).set (i := 2) (by simp) z).set (i := 3) (by simp) v
set_option maxHeartbeats 1000000 in
theorem unpack_long (oa : Option Addr) (n cap : Nat) (w : World) (h : 303 < n) :
    Calls Try.prog 23 #[.slice oa n cap] w fun e w' => e = .returned (.tuple #[.agg #[.int .u16 0, .int .i64 0, .int .i64 0, .slice none 0 0], .bool false]) ∧ Turned [] w w' := by
  have h1 : (303 : Int) < (n : Int) := by omega
  have hR : Struct w.heap.size [.int .u16 0, .int .i64 0, .int .i64 0, .slice none 0 0] (w.alloc (.cells #[.int .u16 0, .int .i64 0, .int .i64 0, .slice none 0 0] 66)) := Struct.new w [.int .u16 0, .int .i64 0, .int .i64 0, .slice none 0 0] _
  go_enter Try.func23, Try.ntmps23
  go_wp2_with fail
  refine bodyPost_ret (v := .tuple #[.agg #[.int .u16 0, .int .i64 0, .int .i64 0, .slice none 0 0], .bool false]) (by simp [results, Try.results23, go_sem]) rfl ⟨rfl, (Turned.refl [] w).alloc _⟩

set_option maxRecDepth 20000 in
set_option maxHeartbeats 8000000 in
theorem unpack_ok (x y z : Nat) (b : List Nat) (v : Value) (w : World) (h : BytesAt v (x :: y :: z :: b) w) (h8 : ∀ q ∈ x :: y :: z :: b, q < 256) (hl : b.length ≤ 300) :
    Calls Try.prog 23 #[v] w fun e w' => ∃ o c, e = .returned (.tuple #[.agg #[.int .u16 ((x + 256 * y : Nat) : Int), .int .i64 ((z % 16 + 1 : Nat) : Int), .int .i64 ((z / 16 : Nat) : Int), .slice o b.length c], .bool (formedB (z % 16 + 1) (z / 16) b.length)]) ∧
      BytesAt (.slice o b.length c) b w' ∧ (∀ k ∈ rblk (.slice o b.length c), w.heap.size ≤ k) ∧ Turned [] w w' := by
  obtain ⟨oa, cap, rfl, hc, hr, hb⟩ := h
  have hx := h8 x (by simp)
  have hy := h8 y (by simp)
  have hz := h8 z (by simp)
  obtain ⟨e1, e2, e3, t1, t2, t3⟩ := Fg.three (b := b) hx hy hz
  have kN := fun (u : World) (hu : Turned [] w u) => BtD.new_any oa _ cap (x :: y :: z :: b) u rfl (hr.turned hu (by simp)) (by simp; omega) h8
  obtain ⟨bs, hbs⟩ : ∃ bs, bs = x :: y :: z :: b := ⟨_, rfl⟩
  have HNx := fun (k c : Nat) (hk : b[k]? = some c) => Fg.eight_next (x := x) (y := y) (z := z) hk (h8 c (by have := List.mem_of_getElem? hk; simp [this]))
  have HLf := fun (k : Nat) (hk : k ≤ b.length) => Fg.left_next (x := x) (y := y) (z := z) hk
  have HB8 : Hid (∀ q ∈ b, q < 256) := fun q hq => h8 q (by simp [hq])
  rw [← hbs] at e1 e2 e3 t1 t2 t3 kN HNx HLf hc hr ⊢
  obtain ⟨r0, hr0⟩ : ∃ r : Bt.Rd, r = ⟨Bt.unpack bs, 0, false⟩ := ⟨_, rfl⟩
  obtain ⟨r1, hr1⟩ : ∃ r : Bt.Rd, r = ⟨Bt.unpack bs, 16, false⟩ := ⟨_, rfl⟩
  obtain ⟨r2, hr2⟩ : ∃ r : Bt.Rd, r = ⟨Bt.unpack bs, 20, false⟩ := ⟨_, rfl⟩
  obtain ⟨r3, hr3⟩ : ∃ r : Nat → Bt.Rd, r = fun k => ⟨Bt.unpack bs, 24 + 8 * k, false⟩ := ⟨_, rfl⟩
  have e3' : r2.take 4 = r3 0 := by rw [hr2, hr3]; exact e3
  rw [← hr0, ← hr1] at e1
  rw [← hr1, ← hr2] at e2
  rw [← hr0] at t1 kN
  rw [← hr1] at t2
  rw [← hr2] at t3
  have HN : ∀ (k c : Nat), b[k]? = some c → (r3 k).tell 8 = c ∧ (r3 k).take 8 = r3 (k + 1) := by rw [hr3]; exact HNx
  have HL : ∀ k, k ≤ b.length → (r3 k).left = 8 * (b.length - k) := by rw [hr3]; exact HLf
  have HF : ∀ k, (r3 k).fail = false := by rw [hr3]; exact fun _ => rfl
  have HA : ∀ k, (r3 k).at_ = 24 + 8 * k := by rw [hr3]; exact fun _ => rfl
  have k1 := fun (p : Nat) (v : Value) (u : World) (h : PRd p v bs r0 u) => BtD.take_any p v bs r0 16 u h
  have k2 := fun (p : Nat) (v : Value) (u : World) (h : PRd p v bs r1 u) => BtD.take_any p v bs r1 4 u h
  have k3 := fun (p : Nat) (v : Value) (u : World) (h : PRd p v bs r2 u) => BtD.take_any p v bs r2 4 u h
  rw [t1, e1] at k1
  rw [t2, e2] at k2
  rw [t3, e3'] at k3
  obtain ⟨nb, hnb⟩ : ∃ n, n = b.length := ⟨_, rfl⟩
  obtain ⟨len, hlen⟩ : ∃ n, n = bs.length := ⟨_, rfl⟩
  have hle : len = nb + 3 := by rw [hlen, hnb, hbs]; rfl
  obtain ⟨i, hi⟩ : ∃ i, i = x + 256 * y := ⟨_, rfl⟩
  obtain ⟨c, hcn⟩ : ∃ c, c = z % 16 := ⟨_, rfl⟩
  obtain ⟨a, ha⟩ : ∃ a, a = z / 16 := ⟨_, rfl⟩
  rw [← hi] at k1 ⊢
  rw [← hcn] at k2 ⊢
  rw [← ha] at k3 ⊢
  rw [← hlen] at kN hc ⊢
  rw [← hnb] at HL hl ⊢
  have hi2 : (i : Int) < 65536 := by omega
  have hc2 : (c : Int) < 16 := by omega
  have ha2 : (a : Int) < 16 := by omega
  have hl1 : ¬ (303 : Int) < (len : Int) := by omega
  have HNB : Hid (nb = b.length ∧ nb ≤ 300 ∧ len ≤ cap ∧ 1 ≤ c + 1 ∧ c + 1 ≤ 16 ∧ a < 16) := ⟨hnb, hl, hc, by omega, by omega, by omega⟩
  have kFm := fun (o : Option Addr) (cc : Nat) (u : World) => formed_any i (c + 1) a nb cc o u (by omega) (by omega) (by omega) (by omega)
  obtain ⟨fb, hfb⟩ : ∃ fb, fb = formedB (c + 1) a nb := ⟨_, rfl⟩
  rw [← hfb] at kFm ⊢
  clear hfb
  clear hr0 hr1 hr2 hr3 t1 t2 t3 e1 e2 e3 e3' hi hcn ha hlen hnb hle hx hy hz h8 hc hl hr hb hbs HNx HLf
  go_enter Try.func23, Try.ntmps23
  go_wp2_with fail
  obtain ⟨W0, hW0⟩ : ∃ W, W = w.alloc (.cells #[.int .u16 0, .int .i64 0, .int .i64 0, .slice none 0 0] 66) := ⟨_, rfl⟩
  obtain ⟨Rb, hRb0⟩ : ∃ B, B = w.heap.size := ⟨_, rfl⟩
  rw [← hW0, ← hRb0]
  have hT : Turned [] w W0 := by rw [hW0]; exact (Turned.refl [] w).alloc _
  have hRb : Struct Rb [.int .u16 0, .int .i64 0, .int .i64 0, .slice none 0 0] W0 := by rw [hW0, hRb0]; exact Struct.new w [.int .u16 0, .int .i64 0, .int .i64 0, .slice none 0 0] _
  have HRB : Hid (Rb = w.heap.size) := hRb0
  clear hW0 hRb0
  refine (kN W0 hT).mono ?_
  rintro e u1 ⟨R, v1, rfl, hR, ht1, hRn, hvn⟩
  have hRl := hRb.1
  replace hRb := hRb.keep ht1 (by simp)
  replace hT := hT.trans ht1 (by simp)
  have nRR : R ≠ Rb := by omega
  have nvR : ∀ k ∈ rblk v1, W0.heap.size ≤ k := hvn
  clear kN ht1
  go_wp2_with fail
  obtain ⟨W1, hW1⟩ : ∃ W, W = u1.alloc (.cells #[.int .u16 0, .int .i64 0, .int .i64 0, .slice none 0 0] 66) := ⟨_, rfl⟩
  obtain ⟨P, hP0⟩ : ∃ B, B = u1.heap.size := ⟨_, rfl⟩
  rw [← hW1, ← hP0]
  have hPw : w.heap.size ≤ P := by have := hT.size; omega
  have htA : Turned [] u1 W1 := by rw [hW1]; exact (Turned.refl [] u1).alloc _
  have hP : Struct P [.int .u16 0, .int .i64 0, .int .i64 0, .slice none 0 0] W1 := by rw [hW1, hP0]; exact Struct.new u1 [.int .u16 0, .int .i64 0, .int .i64 0, .slice none 0 0] _
  have nPR : P ≠ R := by have := hR.lt; omega
  have nPb : P ≠ Rb := by have := hRb.1; omega
  have nvP : ∀ k ∈ rblk v1, k ≠ P := by
    intro k hk e
    obtain ⟨_, ⟨ox, cx, rfl, _, hdx⟩, _⟩ := hR
    cases ox with
    | none => simp [rblk] at hk
    | some ad => simp [rblk] at hk; have := (hdx ad rfl).2; omega
  have nvb : ∀ k ∈ rblk v1, k ≠ Rb := fun k hk e => by have := nvR k hk; omega
  replace hR := hR.keep htA (by simp) (by simp)
  replace hRb := hRb.keep htA (by simp)
  replace hT := hT.trans htA (by simp)
  have hRw : w.heap.size ≤ R := by have := HRB.out; omega
  clear hW1 hP0 htA
  refine (k1 _ _ _ hR).mono ?_
  clear hR
  rintro e u2 ⟨rfl, hR, ht2⟩
  replace hRb := hRb.keep ht2 (by simpa using fun e => nRR e.symm)
  replace hP := hP.keep ht2 (by simpa using nPR)
  replace hT := hT.trans ht2 (by intro k hk hl; simp at hk; omega)
  clear ht2 k1
  obtain ⟨p0, f0⟩ := hP.2 0 _ rfl
  go_wp2_with fail
  clear hi2
  obtain ⟨W3, hW3⟩ : ∃ W, W = u2.setCell ⟨P, 0, none⟩ (.int .u16 (i : Int)) := ⟨_, rfl⟩
  rw [← hW3]
  have ht3 : Turned [P] u2 W3 := by rw [hW3]; exact (Turned.refl [P] u2).setCell (p := ⟨P, 0, none⟩) (.inl (by simp)) _
  replace hP : Struct P [.int .u16 (i : Int), .int .i64 0, .int .i64 0, .slice none 0 0] W3 := by rw [hW3]; exact hP.set (i := 0) (by simp) (.int .u16 (i : Int))
  replace hRb := hRb.keep ht3 (by simpa using fun e => nPb e.symm)
  replace hR := hR.keep ht3 (by simpa using fun e => nPR e.symm) (by intro k hk; simpa using nvP k hk)
  replace hT := hT.trans ht3 (by intro k hk hl; simp at hk; omega)
  clear hW3 ht3 p0 f0
  refine (k2 _ _ _ hR).mono ?_
  clear hR
  rintro e u4 ⟨rfl, hR, ht4⟩
  replace hRb := hRb.keep ht4 (by simpa using fun e => nRR e.symm)
  replace hP := hP.keep ht4 (by simpa using nPR)
  replace hT := hT.trans ht4 (by intro k hk hl; simp at hk; omega)
  clear ht4 k2
  obtain ⟨p1, f1⟩ := hP.2 1 _ rfl
  go_wp2_with fail
  obtain ⟨W5, hW5⟩ : ∃ W, W = u4.setCell ⟨P, 1, none⟩ (.int .i64 ((c : Int) + 1)) := ⟨_, rfl⟩
  rw [← hW5]
  have ht5 : Turned [P] u4 W5 := by rw [hW5]; exact (Turned.refl [P] u4).setCell (p := ⟨P, 1, none⟩) (.inl (by simp)) _
  replace hP : Struct P [.int .u16 (i : Int), .int .i64 ((c : Int) + 1), .int .i64 0, .slice none 0 0] W5 := by rw [hW5]; exact hP.set (i := 1) (by simp) (.int .i64 ((c : Int) + 1))
  replace hRb := hRb.keep ht5 (by simpa using fun e => nPb e.symm)
  replace hR := hR.keep ht5 (by simpa using fun e => nPR e.symm) (by intro k hk; simpa using nvP k hk)
  replace hT := hT.trans ht5 (by intro k hk hl; simp at hk; omega)
  clear hW5 ht5 p1 f1
  refine (k3 _ _ _ hR).mono ?_
  clear hR
  rintro e u6 ⟨rfl, hR, ht6⟩
  replace hRb := hRb.keep ht6 (by simpa using fun e => nRR e.symm)
  replace hP := hP.keep ht6 (by simpa using nPR)
  replace hT := hT.trans ht6 (by intro k hk hl; simp at hk; omega)
  clear ht6 k3
  obtain ⟨p2, f2⟩ := hP.2 2 _ rfl
  go_wp2_with fail
  obtain ⟨W7, hW7⟩ : ∃ W, W = u6.setCell ⟨P, 2, none⟩ (.int .i64 (a : Int)) := ⟨_, rfl⟩
  rw [← hW7]
  have ht7 : Turned [P] u6 W7 := by rw [hW7]; exact (Turned.refl [P] u6).setCell (p := ⟨P, 2, none⟩) (.inl (by simp)) _
  replace hP : Struct P [.int .u16 (i : Int), .int .i64 ((c : Int) + 1), .int .i64 (a : Int), .slice none 0 0] W7 := by rw [hW7]; exact hP.set (i := 2) (by simp) (.int .i64 (a : Int))
  replace hRb := hRb.keep ht7 (by simpa using fun e => nPb e.symm)
  replace hR := hR.keep ht7 (by simpa using fun e => nPR e.symm) (by intro k hk; simpa using nvP k hk)
  replace hT := hT.trans ht7 (by intro k hk hl; simp at hk; omega)
  clear hW7 ht7 p2 f2
  have hPl : P < W7.heap.size := hP.1
  have hRl7 : R < W7.heap.size := hR.lt
  have hRbl : Rb < W7.heap.size := hRb.1
  have hvl : ∀ k ∈ rblk v1, k < W7.heap.size := by
    intro k hk
    obtain ⟨_, ⟨ox, cx, rfl, _, hdx⟩, _⟩ := hR
    cases ox with
    | none => simp [rblk] at hk
    | some ad => simp [rblk] at hk; have := (hdx ad rfl).2; omega
  go_loopw [27] (fun _ wr => ∃ (k : Nat) (vb : Value), k ≤ nb ∧ Struct P [.int .u16 (i : Int), .int .i64 ((c : Int) + 1), .int .i64 (a : Int), vb] wr ∧ OwnL 5 1 byEnc vb (b.take k) wr ∧ PRd R v1 bs (r3 k) wr ∧ Turned [P, R] W7 wr ∧ ∀ x ∈ blk vb, W7.heap.size ≤ x)
    (fun _ wr => 100000 - (intOf ((wr.cell? ⟨R, 1, none⟩).getD undef)).toNat)
  case atStart => exact ⟨0, .slice none 0 0, by omega, hP, OwnL.nil _ _ _ _, hR, Turned.refl _ _, by simp [blk, Value.ownBlock]⟩
  case round =>
    obtain ⟨k, vb, hk, hPr, hO, hRr, hTr, hnew⟩ := hrel
    obtain ⟨ov, cv, rfl, _, _⟩ := hO.form
    obtain ⟨X, hX⟩ : ∃ X, X = b.take k := ⟨_, rfl⟩
    have hXl : X.length = k := by rw [hX, List.length_take]; have := HNB.out; omega
    have HX : Hid (X = b.take k) := hX
    have HXL : Hid (X.length = k) := hXl
    rw [← hX] at hO hPr hnew
    rw [hXl] at hO hPr hnew
    clear hX hXl
    have hRbr := hRb.keep hTr (by simp; exact ⟨fun e => nPb e.symm, fun e => nRR e.symm⟩)
    have kOK : ∀ u, Turned [] wr u → Calls Try.prog 38 #[.pointer (some ⟨R, 0, none⟩)] u fun e w' => e = .returned (.bool true) ∧ w' = u := fun u hu => by
      have := BtD.ok_any R v1 (.int .i64 ((r3 k).at_ : Int)) (r3 k).fail u (hRr.keep hu (by simp) (by simp)).1
      rw [HF] at this
      exact this
    have kL := BtD.left_any R v1 bs (r3 k) wr hRr
    rw [HL k hk] at kL
    by_cases hlt : k < nb
    · obtain ⟨y, hy⟩ : ∃ y, b[k]? = some y := ⟨_, List.getElem?_eq_getElem (by have := HNB.out; omega)⟩
      have y8 : (y : Int) < 256 := by have := HB8.out y (List.mem_of_getElem? hy); omega
      obtain ⟨L, hL⟩ : ∃ L, L = 8 * (nb - k) := ⟨_, rfl⟩
      have hL0 : (0 : Int) < (L : Int) := by omega
      rw [← hL] at kL
      have HL0 : Hid (L = 8 * (nb - k)) := hL
      clear hL
      go_wp2_with (first | (go_at_call 38; (with_reducible refine (kOK _ (Turned.refl [] wr)).mono ?_); rintro e u0 ⟨rfl, hu0⟩; have hu0 := hu0.symm; subst hu0) | (go_at_call 39; (with_reducible refine kL.mono ?_); rintro e u1 ⟨rfl, hTL⟩))
      have hP1 := hPr.keep hTL (by simp)
      have hR1 := hRr.keep hTL (by simp) (by simp)
      have hO1 := hO.keep hTL (by simp)
      have q3 := (hP1.2 3 _ rfl).1
      have hTd1 : Turned [] u1 u1.drew := (Turned.refl [] u1).drew
      have kT := BtD.take_any R v1 bs (r3 k) 8 u1.drew (hR1.keep hTd1 (by simp) (by simp))
      rw [(HN k y hy).1, (HN k y hy).2] at kT
      have hw8 : IntKind.u8.wrap (y : Int) = (y : Int) := by show (y : Int) % 256 = _; omega
      have hsz1 := hTL.size
      have hTrs := hTr.size
      have hovR : ∀ x ∈ blk (.slice ov k cv), x ∉ [R] := by intro x hx; have := hnew x hx; simp; omega
      have hovP : P ∉ blk (.slice ov k cv) := fun hx => by have := hnew P hx; omega
      have b1 : X.length + 1 ≤ maxLen := by have := HXL.out; have := HNB.out; unfold maxLen; omega
      have b2 : (X.length + 1) * 1 ≤ 140737488355328 := by have := HXL.out; have := HNB.out; omega
      have hPu : P < u1.heap.size := hP1.1
      go_region_law (first
        | (refine step_push (v := .slice ov k cv) elem_u8 rfl _ _ rfl rfl (hO4.keep ((Turned.refl [] u4).alloc _) (by simp)) u4.heap.size 0 1 1 [y] rfl rfl byEnc_len byEnc_one (one_cell rfl u4 _) b1 b2 ?_; intro v' w1 ho1 ht1 hb1; obtain ⟨o', c', rfl, _, _⟩ := ho1.form; have hP5 := (hP4.keep ((Turned.refl [] u4).alloc (.cells #[.int .u8 (y : Int)] 5)) (by simp)).keep ht1 hovP; have x3 := (hP5.2 3 _ rfl).1; have y3 := (hP5.2 3 _ rfl).2)
        | (rw [if_pos (by rfl)]; go_simp; go_at_call 37; (with_reducible refine kT.mono ?_); rintro e u4 ⟨rfl, hR4, hT4⟩; have hP4 := (hP1.keep hTd1 (by simp)).keep hT4 (by simpa using nPR); have hO4 := (hO1.keep hTd1 (by simp)).keep hT4 hovR; have q3 := (hP4.2 3 _ rfl).1; have hPu := hP4.1))
      clear kT kL kOK q3 y8 hw8
      all_goals
        (go_roundw
         case rel =>
           have hTW : Turned [R] wr u4 := Turned.trans (S' := [R]) ((hTL.trans hTd1 (by simp)).mono (by simp)) hT4 (fun q hq _ => hq)
           have hTA : Turned (R :: blk (.slice ov k cv)) wr w1 := Turned.trans (S' := blk (.slice ov k cv)) ((hTW.alloc _).mono (by simp)) ht1 (fun q hq _ => List.mem_cons_of_mem _ hq)
           have hv' : ∀ q ∈ blk (.slice o' (X ++ [y]).length c'), W7.heap.size ≤ q := by
             intro q hq
             rcases hb1 with h9 | h9
             · rw [h9] at hq; exact hnew q hq
             · rw [h9] at hq; simp at hq; have := hT4.size; have := hTd1.size; omega
           have hnP : ∀ q ∈ blk (.slice o' (X ++ [y]).length c'), q ∉ [P] := by intro q hq hm; have := hv' q hq; simp at hm; omega
           have hPT : Turned [P] w1 (w1.setCell ⟨P, 3, none⟩ (.slice o' (X ++ [y]).length c')) := (Turned.refl [P] w1).setCell (p := ⟨P, 3, none⟩) (.inl (by simp)) _
           have hR5 := (((hR4.keep ((Turned.refl [] u4).alloc (.cells #[.int .u8 (y : Int)] 5)) (by simp) (by simp)).keep ht1 (fun hm => by have := hnew R hm; omega) (fun q hq hm => by have := hnew q hm; have := hvl q hq; omega))).keep hPT (by simpa using fun e => nPR e.symm) (by intro q hq; simpa using nvP q hq)
           have hln : (X ++ [y]).length = X.length + 1 := by simp
           have hXE : X ++ [y] = b.take (k + 1) := by rw [List.take_add_one, hy, ← HX.out]; rfl
           have hP6 := hP5.set (i := 3) (by simp) (.slice o' (X ++ [y]).length c')
           rw [hln] at hR5 hP6 ho1 hPT hnP hv'
           refine ⟨_, _, _, _, _, _, _, _, _, _, _, _, _, _, _, ⟨k + 1, _, by omega, hP6, by rw [← hXE]; exact ho1.keep hPT hnP, hR5, ?_, hv'⟩, rfl⟩
           refine Turned.trans (S' := P :: R :: blk (.slice ov k cv)) hTr (Turned.trans (S' := [P]) (hTA.mono (fun q hq _ => List.mem_cons_of_mem _ hq)) hPT (by simp)) ?_
           intro q hq hl
           simp at hq
           rcases hq with h9 | h9 | h9
           · simp [h9]
           · simp [h9]
           · have := hnew q h9; omega
         case measure =>
           have m1 := (hRr.1.2 1 _ rfl).1
           have m2 := (((((hR4.keep ((Turned.refl [] u4).alloc (.cells #[.int .u8 (y : Int)] 5)) (by simp) (by simp)).keep ht1 (fun hm => by have := hnew R hm; omega) (fun q hq hm => by have := hnew q hm; have := hvl q hq; omega))).keep ((Turned.refl [P] w1).setCell (p := ⟨P, 3, none⟩) (.inl (by simp)) (.slice o' (X.length + 1) c')) (by simpa using fun e => nPR e.symm) (by intro q hq; simpa using nvP q hq)).1.2 1 _ rfl).1
           rw [m1, m2, HA, HA]
           have := HNB.out
           simp [intOf]
           omega)
    · have hkn : k = nb := by omega
      have hL : 8 * (nb - k) = 0 := by omega
      rw [hL] at kL
      clear hL
      go_wp2_with (first | (go_at_call 38; (with_reducible refine (kOK _ (Turned.refl [] wr)).mono ?_); rintro e u0 ⟨rfl, hu0⟩; have hu0 := hu0.symm; subst hu0) | (go_at_call 39; (with_reducible refine kL.mono ?_); rintro e u1 ⟨rfl, hTL⟩))
      have hXb : X = b := by rw [HX.out, List.take_of_length_le (by have := HNB.out; omega)]
      rw [hkn] at hPr hO hnew
      rw [hXb] at hO
      clear hkn hXb kL
      have hP1 := hPr.keep hTL (by simp)
      have hRb1 := hRbr.keep hTL (by simp)
      have hO1 := hO.keep hTL (by simp)
      have kF : ∀ u, Calls Try.prog 40 #[.agg #[.int .u16 (i : Int), .int .i64 ((c : Int) + 1), .int .i64 (a : Int), .slice ov nb cv]] u fun e w' => e = .returned (.bool fb) ∧ Turned [] u w' := fun u => by
        have := kFm ov cv u
        rw [show ((c + 1 : Nat) : Int) = (c : Int) + 1 by omega] at this
        exact this
      clear kFm
      have hSP : ∀ u, Struct P [.int .u16 (i : Int), .int .i64 ((c : Int) + 1), .int .i64 (a : Int), .slice ov nb cv] u → (u.cell? ⟨P, 0, none⟩ = some (.int .u16 (i : Int)) ∧ u.cell? ⟨P, 1, none⟩ = some (.int .i64 ((c : Int) + 1)) ∧ u.cell? ⟨P, 2, none⟩ = some (.int .i64 (a : Int)) ∧ u.cell? ⟨P, 3, none⟩ = some (.slice ov nb cv)) := fun u h => ⟨(h.2 0 _ rfl).1, (h.2 1 _ rfl).1, (h.2 2 _ rfl).1, (h.2 3 _ rfl).1⟩
      have hTd : Turned [] u1 u1.drew := (Turned.refl [] u1).drew
      refine wp_region_held_drew (S := (fun u => u.cell? ⟨P, 0, none⟩ = some (.int .u16 (i : Int)) ∧ u.cell? ⟨P, 1, none⟩ = some (.int .i64 ((c : Int) + 1)) ∧ u.cell? ⟨P, 2, none⟩ = some (.int .i64 (a : Int)) ∧ u.cell? ⟨P, 3, none⟩ = some (.slice ov nb cv))) (by kernel_rfl) (hSP _ (hP1.keep hTd (by simp))) (fun hHeld => ?_)
      refine BtL.take_d (some 42) (i := 0) (v := ?_) rfl rfl (by kernel_rfl) (by kernel_rfl) (by kernel_rfl) (fun _ _ _ h => h) (Or.inl ⟨by rfl, ?_⟩) (by assumption) ?_
      rotate_left
      · (intro w hSw; (try dsimp only at hSw); go_simp; try with_reducible rfl)
      try simp only [Act.put, List.setIfInBounds_toArray, List.set_cons_zero, List.set_cons_succ]
      refine BtL.take_d (some 43) (i := 1) (v := ?_) rfl rfl (by kernel_rfl) (by kernel_rfl) (by kernel_rfl) (fun _ _ _ h => h) (Or.inl ⟨by rfl, ?_⟩) (by assumption) ?_
      rotate_left
      · (intro w hSw; (try dsimp only at hSw); go_simp; try with_reducible rfl)
      try simp only [Act.put, List.setIfInBounds_toArray, List.set_cons_zero, List.set_cons_succ]
      refine wpAnyH_ready (rs := [2]) (by kernel_rfl) (by simp) ?_
      refine AllReadyH.cons rfl (fun K hK => ?_) AllReadyH.nil
      rw [if_pos (by rfl)]
      go_simp
      go_at_call 38
      (with_reducible refine (kOK _ (hTL.trans hTd (by simp))).mono ?_)
      rintro e u3 ⟨rfl, hu3⟩
      have hu3 := hu3.symm
      subst hu3
      try go_simp
      refine hK.out _ _ (hSP _ (hP1.keep hTd (by simp))) (fun hHeld => ?_)
      clear hK K
      try simp only [Act.put, List.setIfInBounds_toArray, List.set_cons_zero, List.set_cons_succ]
      refine BtL.take_d (some 45) (i := 3) (v := ?_) rfl rfl (by kernel_rfl) (by kernel_rfl) (by kernel_rfl) (fun _ _ _ h => h) (Or.inl ⟨by rfl, ?_⟩) (by assumption) ?_
      rotate_left
      · (intro w hSw; (try dsimp only at hSw); go_simp; try with_reducible rfl)
      try simp only [Act.put, List.setIfInBounds_toArray, List.set_cons_zero, List.set_cons_succ]
      refine BtL.take_d (some 46) (i := 4) (v := ?_) rfl rfl (by kernel_rfl) (by kernel_rfl) (by kernel_rfl) (fun _ _ _ h => h) (Or.inl ⟨by rfl, ?_⟩) (by assumption) ?_
      rotate_left
      · (intro w hSw; (try dsimp only at hSw); go_simp; try with_reducible rfl)
      try simp only [Act.put, List.setIfInBounds_toArray, List.set_cons_zero, List.set_cons_succ]
      refine wpAnyH_ready (rs := [5]) (by kernel_rfl) (by simp) ?_
      refine AllReadyH.cons rfl (fun K hK => ?_) AllReadyH.nil
      rw [if_pos (by rfl)]
      go_simp
      go_at_call 40
      (with_reducible refine (kF _).mono ?_)
      rintro e u5 ⟨rfl, hT5⟩
      have hT6 : Turned [] u1 u5 := hTd.trans hT5 (by simp)
      try go_simp
      refine hK.out _ _ (hSP _ (hP1.keep hT6 (by simp))) (fun hHeld => ?_)
      clear hK K
      try simp only [Act.put, List.setIfInBounds_toArray, List.set_cons_zero, List.set_cons_succ]
      refine BtL.take_d (some 48) (i := 6) (v := ?_) rfl rfl (by kernel_rfl) (by kernel_rfl) (by kernel_rfl) (fun _ _ _ h => h) (Or.inl ⟨by rfl, ?_⟩) (by assumption) ?_
      rotate_left
      · (intro w hSw; (try dsimp only at hSw); go_simp; try with_reducible rfl)
      try simp only [Act.put, List.setIfInBounds_toArray, List.set_cons_zero, List.set_cons_succ]
      have hR6 := hRb1.keep hT6 (by simp)
      obtain ⟨z0, y0⟩ := hR6.2 0 _ rfl
      obtain ⟨z1, y1⟩ := hR6.2 1 _ rfl
      obtain ⟨z2, y2⟩ := hR6.2 2 _ rfl
      obtain ⟨z3, y3⟩ := hR6.2 3 _ rfl
      refine wpAnyH_ready (rs := [7]) (by kernel_rfl) (by simp) ?_
      refine AllReadyH.cons rfl (fun K hK => ?_) AllReadyH.nil
      rw [if_pos (by rfl)]
      go_simp
      refine hK.out _ _ (hSP _ ((hP1.keep hT6 (by simp)).keep (set4 _ _ _ _ _ _) (by simpa using nPb))) (fun hHeld => ?_)
      clear hK K
      try simp only [Act.put, List.setIfInBounds_toArray, List.set_cons_zero, List.set_cons_succ]
      refine BtL.take_d (some 3) (i := 8) (v := ?_) rfl rfl (by kernel_rfl) (by kernel_rfl) (by kernel_rfl) (fun _ _ _ h => h) (Or.inl ⟨by rfl, ?_⟩) (by assumption) ?_
      rotate_left
      · (intro w hSw; (try dsimp only at hSw); go_simp; try with_reducible rfl)
      try simp only [Act.put, List.setIfInBounds_toArray, List.set_cons_zero, List.set_cons_succ]
      refine wpAnyH_done (by kernel_rfl) ?_ _
      have hR7 := struct_set4 hR6 (.int .u16 (i : Int)) (.int .i64 ((c : Int) + 1)) (.int .i64 (a : Int)) (.slice ov nb cv)
      have hT7 := set4 u5 Rb (.int .u16 (i : Int)) (.int .i64 ((c : Int) + 1)) (.int .i64 (a : Int)) (.slice ov nb cv)
      obtain ⟨r0, _⟩ := hR7.2 0 _ rfl
      obtain ⟨r1, _⟩ := hR7.2 1 _ rfl
      obtain ⟨r2, _⟩ := hR7.2 2 _ rfl
      obtain ⟨r3, _⟩ := hR7.2 3 _ rfl
      go_wp2_with fail
      have HT8 : Turned [] w ((((u5.setCell ⟨Rb, 0, none⟩ (.int .u16 (i : Int))).setCell ⟨Rb, 1, none⟩ (.int .i64 ((c : Int) + 1))).setCell ⟨Rb, 2, none⟩ (.int .i64 (a : Int))).setCell ⟨Rb, 3, none⟩ (.slice ov nb cv)) :=
        (((hT.trans hTr (by intro q hq hl; simp at hq; omega)).trans hTL (by simp)).trans hT6 (by simp)).trans hT7 (by intro q hq hl; simp at hq; have := HRB.out; omega)
      have hO6 := (hO1.keep hT6 (by simp)).keep hT7 (by intro q hq hm; have := hnew q hq; simp at hm; omega)
      obtain ⟨hby, hrb⟩ := own_bytes hO6
      refine bodyPost_ret (v := .tuple #[.agg #[.int .u16 (i : Int), .int .i64 ((c : Int) + 1), .int .i64 (a : Int), .slice ov nb cv], .bool fb]) (by simp [results, Try.results23, go_sem, r0, r1, r2, r3]) rfl ?_
      refine ⟨ov, cv, ?_, ?_, ?_, HT8⟩
      · first | rfl | rw [show ((c + 1 : Nat) : Int) = (c : Int) + 1 by omega]
      · exact hby
      · intro q hq; rw [hrb] at hq; have := hnew q hq; have := hT.size; omega

set_option maxRecDepth 20000 in
set_option maxHeartbeats 8000000 in
theorem unpack_fail0 (bs : List Nat) (oa : Option Addr) (cap : Nat) (w : World) (hr : RowOf 1 byEnc oa bs w) (hc : bs.length ≤ cap) (h8 : ∀ q ∈ bs, q < 256) (hl : bs.length < 3) :
    Calls Try.prog 23 #[.slice oa bs.length cap] w fun e w' => ∃ i c a : Nat, e = .returned (.tuple #[.agg #[.int .u16 (i : Int), .int .i64 (c : Int), .int .i64 (a : Int), .slice none 0 0], .bool false]) ∧ Turned [] w w' := by
  have kN := fun (u : World) (hu : Turned [] w u) => BtD.new_any oa _ cap bs u rfl (hr.turned hu (by simp)) (by omega) h8
  have hfl := Fg.short_fail hl
  obtain ⟨r0, hr0⟩ : ∃ r : Bt.Rd, r = ⟨Bt.unpack bs, 0, false⟩ := ⟨_, rfl⟩
  rw [← hr0] at kN hfl
  obtain ⟨r1, hr1⟩ : ∃ r : Bt.Rd, r = r0.take 16 := ⟨_, rfl⟩
  obtain ⟨r2, hr2⟩ : ∃ r : Bt.Rd, r = r1.take 4 := ⟨_, rfl⟩
  obtain ⟨r3, hr3⟩ : ∃ r : Bt.Rd, r = r2.take 4 := ⟨_, rfl⟩
  have HF : r3.fail = true := by rw [hr3, hr2, hr1]; exact hfl
  have k1 := fun (p : Nat) (v : Value) (u : World) (h : PRd p v bs r0 u) => BtD.take_any p v bs r0 16 u h
  have k2 := fun (p : Nat) (v : Value) (u : World) (h : PRd p v bs r1 u) => BtD.take_any p v bs r1 4 u h
  have k3 := fun (p : Nat) (v : Value) (u : World) (h : PRd p v bs r2 u) => BtD.take_any p v bs r2 4 u h
  rw [← hr1] at k1
  rw [← hr2] at k2
  rw [← hr3] at k3
  have b1 : r0.tell 16 < 65536 := Bt.Rd.tell_small (n := 16)
  have b2 : r1.tell 4 < 16 := Bt.Rd.tell_small (n := 4)
  have b3 : r2.tell 4 < 16 := Bt.Rd.tell_small (n := 4)
  obtain ⟨len, hlen⟩ : ∃ n, n = bs.length := ⟨_, rfl⟩
  obtain ⟨i, hi⟩ : ∃ i, i = r0.tell 16 := ⟨_, rfl⟩
  obtain ⟨c, hcn⟩ : ∃ c, c = r1.tell 4 := ⟨_, rfl⟩
  obtain ⟨a, ha⟩ : ∃ a, a = r2.tell 4 := ⟨_, rfl⟩
  rw [← hi] at k1
  rw [← hcn] at k2
  rw [← ha] at k3
  rw [← hlen] at kN ⊢
  have hi2 : (i : Int) < 65536 := by omega
  have hc2 : (c : Int) < 16 := by omega
  have ha2 : (a : Int) < 16 := by omega
  have hl1 : ¬ (303 : Int) < (len : Int) := by omega
  clear hr0 hr1 hr2 hr3 hi hcn ha hlen hc hl hr h8 hfl b1 b2 b3
  go_enter Try.func23, Try.ntmps23
  go_wp2_with fail
  obtain ⟨W0, hW0⟩ : ∃ W, W = w.alloc (.cells #[.int .u16 0, .int .i64 0, .int .i64 0, .slice none 0 0] 66) := ⟨_, rfl⟩
  obtain ⟨Rb, hRb0⟩ : ∃ B, B = w.heap.size := ⟨_, rfl⟩
  rw [← hW0, ← hRb0]
  have hT : Turned [] w W0 := by rw [hW0]; exact (Turned.refl [] w).alloc _
  have hRb : Struct Rb [.int .u16 0, .int .i64 0, .int .i64 0, .slice none 0 0] W0 := by rw [hW0, hRb0]; exact Struct.new w [.int .u16 0, .int .i64 0, .int .i64 0, .slice none 0 0] _
  have HRB : Hid (Rb = w.heap.size) := hRb0
  clear hW0 hRb0
  refine (kN W0 hT).mono ?_
  rintro e u1 ⟨R, v1, rfl, hR, ht1, hRn, hvn⟩
  have hRl := hRb.1
  replace hRb := hRb.keep ht1 (by simp)
  replace hT := hT.trans ht1 (by simp)
  have nRR : R ≠ Rb := by omega
  have nvR : ∀ k ∈ rblk v1, W0.heap.size ≤ k := hvn
  clear kN ht1
  go_wp2_with fail
  obtain ⟨W1, hW1⟩ : ∃ W, W = u1.alloc (.cells #[.int .u16 0, .int .i64 0, .int .i64 0, .slice none 0 0] 66) := ⟨_, rfl⟩
  obtain ⟨P, hP0⟩ : ∃ B, B = u1.heap.size := ⟨_, rfl⟩
  rw [← hW1, ← hP0]
  have hPw : w.heap.size ≤ P := by have := hT.size; omega
  have htA : Turned [] u1 W1 := by rw [hW1]; exact (Turned.refl [] u1).alloc _
  have hP : Struct P [.int .u16 0, .int .i64 0, .int .i64 0, .slice none 0 0] W1 := by rw [hW1, hP0]; exact Struct.new u1 [.int .u16 0, .int .i64 0, .int .i64 0, .slice none 0 0] _
  have nPR : P ≠ R := by have := hR.lt; omega
  have nPb : P ≠ Rb := by have := hRb.1; omega
  have nvP : ∀ k ∈ rblk v1, k ≠ P := by
    intro k hk e
    obtain ⟨_, ⟨ox, cx, rfl, _, hdx⟩, _⟩ := hR
    cases ox with
    | none => simp [rblk] at hk
    | some ad => simp [rblk] at hk; have := (hdx ad rfl).2; omega
  have nvb : ∀ k ∈ rblk v1, k ≠ Rb := fun k hk e => by have := nvR k hk; omega
  replace hR := hR.keep htA (by simp) (by simp)
  replace hRb := hRb.keep htA (by simp)
  replace hT := hT.trans htA (by simp)
  have hRw : w.heap.size ≤ R := by have := HRB.out; omega
  clear hW1 hP0 htA
  refine (k1 _ _ _ hR).mono ?_
  clear hR
  rintro e u2 ⟨rfl, hR, ht2⟩
  replace hRb := hRb.keep ht2 (by simpa using fun e => nRR e.symm)
  replace hP := hP.keep ht2 (by simpa using nPR)
  replace hT := hT.trans ht2 (by intro k hk hl; simp at hk; omega)
  clear ht2 k1
  obtain ⟨p0, f0⟩ := hP.2 0 _ rfl
  go_wp2_with fail
  clear hi2
  obtain ⟨W3, hW3⟩ : ∃ W, W = u2.setCell ⟨P, 0, none⟩ (.int .u16 (i : Int)) := ⟨_, rfl⟩
  rw [← hW3]
  have ht3 : Turned [P] u2 W3 := by rw [hW3]; exact (Turned.refl [P] u2).setCell (p := ⟨P, 0, none⟩) (.inl (by simp)) _
  replace hP : Struct P [.int .u16 (i : Int), .int .i64 0, .int .i64 0, .slice none 0 0] W3 := by rw [hW3]; exact hP.set (i := 0) (by simp) (.int .u16 (i : Int))
  replace hRb := hRb.keep ht3 (by simpa using fun e => nPb e.symm)
  replace hR := hR.keep ht3 (by simpa using fun e => nPR e.symm) (by intro k hk; simpa using nvP k hk)
  replace hT := hT.trans ht3 (by intro k hk hl; simp at hk; omega)
  clear hW3 ht3 p0 f0
  refine (k2 _ _ _ hR).mono ?_
  clear hR
  rintro e u4 ⟨rfl, hR, ht4⟩
  replace hRb := hRb.keep ht4 (by simpa using fun e => nRR e.symm)
  replace hP := hP.keep ht4 (by simpa using nPR)
  replace hT := hT.trans ht4 (by intro k hk hl; simp at hk; omega)
  clear ht4 k2
  obtain ⟨p1, f1⟩ := hP.2 1 _ rfl
  go_wp2_with fail
  obtain ⟨W5, hW5⟩ : ∃ W, W = u4.setCell ⟨P, 1, none⟩ (.int .i64 ((c : Int) + 1)) := ⟨_, rfl⟩
  rw [← hW5]
  have ht5 : Turned [P] u4 W5 := by rw [hW5]; exact (Turned.refl [P] u4).setCell (p := ⟨P, 1, none⟩) (.inl (by simp)) _
  replace hP : Struct P [.int .u16 (i : Int), .int .i64 ((c : Int) + 1), .int .i64 0, .slice none 0 0] W5 := by rw [hW5]; exact hP.set (i := 1) (by simp) (.int .i64 ((c : Int) + 1))
  replace hRb := hRb.keep ht5 (by simpa using fun e => nPb e.symm)
  replace hR := hR.keep ht5 (by simpa using fun e => nPR e.symm) (by intro k hk; simpa using nvP k hk)
  replace hT := hT.trans ht5 (by intro k hk hl; simp at hk; omega)
  clear hW5 ht5 p1 f1
  refine (k3 _ _ _ hR).mono ?_
  clear hR
  rintro e u6 ⟨rfl, hR, ht6⟩
  replace hRb := hRb.keep ht6 (by simpa using fun e => nRR e.symm)
  replace hP := hP.keep ht6 (by simpa using nPR)
  replace hT := hT.trans ht6 (by intro k hk hl; simp at hk; omega)
  clear ht6 k3
  obtain ⟨p2, f2⟩ := hP.2 2 _ rfl
  go_wp2_with fail
  obtain ⟨W7, hW7⟩ : ∃ W, W = u6.setCell ⟨P, 2, none⟩ (.int .i64 (a : Int)) := ⟨_, rfl⟩
  rw [← hW7]
  have ht7 : Turned [P] u6 W7 := by rw [hW7]; exact (Turned.refl [P] u6).setCell (p := ⟨P, 2, none⟩) (.inl (by simp)) _
  replace hP : Struct P [.int .u16 (i : Int), .int .i64 ((c : Int) + 1), .int .i64 (a : Int), .slice none 0 0] W7 := by rw [hW7]; exact hP.set (i := 2) (by simp) (.int .i64 (a : Int))
  replace hRb := hRb.keep ht7 (by simpa using fun e => nPb e.symm)
  replace hR := hR.keep ht7 (by simpa using fun e => nPR e.symm) (by intro k hk; simpa using nvP k hk)
  replace hT := hT.trans ht7 (by intro k hk hl; simp at hk; omega)
  clear hW7 ht7 p2 f2
  have hPl : P < W7.heap.size := hP.1
  have hRl7 : R < W7.heap.size := hR.lt
  have hRbl : Rb < W7.heap.size := hRb.1
  have hvl : ∀ k ∈ rblk v1, k < W7.heap.size := by
    intro k hk
    obtain ⟨_, ⟨ox, cx, rfl, _, hdx⟩, _⟩ := hR
    cases ox with
    | none => simp [rblk] at hk
    | some ad => simp [rblk] at hk; have := (hdx ad rfl).2; omega
  have hPl : P < W7.heap.size := hP.1
  have hRl7 : R < W7.heap.size := hR.lt
  have hRbl : Rb < W7.heap.size := hRb.1
  have kOK : ∀ u, Turned [] W7 u → Calls Try.prog 38 #[.pointer (some ⟨R, 0, none⟩)] u fun e w' => e = .returned (.bool false) ∧ w' = u := fun u hu => by
    have := BtD.ok_any R v1 (.int .i64 (r3.at_ : Int)) r3.fail u (hR.keep hu (by simp) (by simp)).1
    rw [HF] at this
    exact this
  go_loopw [27] (fun _ wr => wr = W7) (fun _ _ => 0)
  case atStart => exact rfl
  case round =>
    have hrel := hrel.symm
    subst hrel
    have hTL : Turned [] W7 W7 := Turned.refl [] W7
    go_wp2_with (go_at_call 38; (with_reducible refine (kOK _ (Turned.refl [] W7)).mono ?_); rintro e u0 ⟨rfl, hu0⟩; have hu0 := hu0.symm; subst hu0)
    obtain ⟨u1, hu1⟩ : ∃ u, u = W7 := ⟨_, rfl⟩
    rw [← hu1] at hP hRb hTL kOK hT hPl hRbl ⊢
    have hP1 := hP
    have hRb1 := hRb
    have hSP : ∀ u, Struct P [.int .u16 (i : Int), .int .i64 ((c : Int) + 1), .int .i64 (a : Int), .slice none 0 0] u → (u.cell? ⟨P, 0, none⟩ = some (.int .u16 (i : Int)) ∧ u.cell? ⟨P, 1, none⟩ = some (.int .i64 ((c : Int) + 1)) ∧ u.cell? ⟨P, 2, none⟩ = some (.int .i64 (a : Int)) ∧ u.cell? ⟨P, 3, none⟩ = some (.slice none 0 0)) := fun u h => ⟨(h.2 0 _ rfl).1, (h.2 1 _ rfl).1, (h.2 2 _ rfl).1, (h.2 3 _ rfl).1⟩
    clear hu1
    have hTd : Turned [] u1 u1.drew := (Turned.refl [] u1).drew
    refine wp_region_held_drew (S := (fun u => u.cell? ⟨P, 0, none⟩ = some (.int .u16 (i : Int)) ∧ u.cell? ⟨P, 1, none⟩ = some (.int .i64 ((c : Int) + 1)) ∧ u.cell? ⟨P, 2, none⟩ = some (.int .i64 (a : Int)) ∧ u.cell? ⟨P, 3, none⟩ = some (.slice none 0 0))) (by kernel_rfl) (hSP _ (hP1.keep hTd (by simp))) (fun hHeld => ?_)
    generalize hX1 : u1.drew = X1 at hTd hHeld ⊢
    clear hX1
    refine BtL.take_d (some 42) (i := 0) (v := ?_) rfl rfl (by kernel_rfl) (by kernel_rfl) (by kernel_rfl) (fun _ _ _ h => h) (Or.inl ⟨by rfl, ?_⟩) (by assumption) ?_
    rotate_left
    · (intro w hSw; (try dsimp only at hSw); go_simp; try with_reducible rfl)
    try simp only [Act.put, List.setIfInBounds_toArray, List.set_cons_zero, List.set_cons_succ]
    refine BtL.take_d (some 43) (i := 1) (v := ?_) rfl rfl (by kernel_rfl) (by kernel_rfl) (by kernel_rfl) (fun _ _ _ h => h) (Or.inl ⟨by rfl, ?_⟩) (by assumption) ?_
    rotate_left
    · (intro w hSw; (try dsimp only at hSw); go_simp; try with_reducible rfl)
    try simp only [Act.put, List.setIfInBounds_toArray, List.set_cons_zero, List.set_cons_succ]
    refine wpAnyH_ready (rs := [2]) (by kernel_rfl) (by simp) ?_
    refine AllReadyH.cons rfl (fun K hK => ?_) AllReadyH.nil
    rw [if_pos (by rfl)]
    go_simp
    go_at_call 38
    (with_reducible refine (kOK _ (hTL.trans hTd (by simp))).mono ?_)
    rintro e u3 ⟨rfl, hu3⟩
    have hu3 := hu3.symm
    subst hu3
    try go_simp
    refine hK.out _ _ (hSP _ (hP1.keep hTd (by simp))) (fun hHeld => ?_)
    clear hK K
    try simp only [Act.put, List.setIfInBounds_toArray, List.set_cons_zero, List.set_cons_succ]
    refine BtL.take_d (some 45) (i := 3) (v := ?_) rfl rfl (by kernel_rfl) (by kernel_rfl) (by kernel_rfl) (fun _ _ _ h => h) (Or.inl ⟨by rfl, ?_⟩) (by assumption) ?_
    rotate_left
    · (intro w hSw; (try dsimp only at hSw); go_simp; try with_reducible rfl)
    try simp only [Act.put, List.setIfInBounds_toArray, List.set_cons_zero, List.set_cons_succ]
    have hT6 := hTd
    refine BtL.take_d (some 46) (i := 4) rfl rfl (by kernel_rfl) (by kernel_rfl) (by kernel_rfl) (fun _ _ _ h => h) (Or.inr ⟨by rfl, rfl⟩) (by assumption) ?_
    try simp only [Act.put, List.setIfInBounds_toArray, List.set_cons_zero, List.set_cons_succ]
    refine BtL.take_d (some 47) (i := 5) rfl rfl (by kernel_rfl) (by kernel_rfl) (by kernel_rfl) (fun _ _ _ h => h) (Or.inr ⟨by rfl, rfl⟩) (by assumption) ?_
    try simp only [Act.put, List.setIfInBounds_toArray, List.set_cons_zero, List.set_cons_succ]
    refine BtL.take_d (some 48) (i := 6) (v := ?_) rfl rfl (by kernel_rfl) (by kernel_rfl) (by kernel_rfl) (fun _ _ _ h => h) (Or.inl ⟨by rfl, ?_⟩) (by assumption) ?_
    rotate_left
    · (intro w hSw; (try dsimp only at hSw); go_simp; try with_reducible rfl)
    try simp only [Act.put, List.setIfInBounds_toArray, List.set_cons_zero, List.set_cons_succ]
    have hR6 := hRb1.keep hT6 (by simp)
    obtain ⟨z0, y0⟩ := hR6.2 0 _ rfl
    obtain ⟨z1, y1⟩ := hR6.2 1 _ rfl
    obtain ⟨z2, y2⟩ := hR6.2 2 _ rfl
    obtain ⟨z3, y3⟩ := hR6.2 3 _ rfl
    refine wpAnyH_ready (rs := [7]) (by kernel_rfl) (by simp) ?_
    refine AllReadyH.cons rfl (fun K hK => ?_) AllReadyH.nil
    rw [if_pos (by rfl)]
    go_simp
    refine hK.out _ _ (hSP _ ((hP1.keep hT6 (by simp)).keep (set4 _ _ _ _ _ _) (by simpa using nPb))) (fun hHeld => ?_)
    clear hK K
    try simp only [Act.put, List.setIfInBounds_toArray, List.set_cons_zero, List.set_cons_succ]
    refine BtL.take_d (some 3) (i := 8) (v := ?_) rfl rfl (by kernel_rfl) (by kernel_rfl) (by kernel_rfl) (fun _ _ _ h => h) (Or.inl ⟨by rfl, ?_⟩) (by assumption) ?_
    rotate_left
    · (intro w hSw; (try dsimp only at hSw); go_simp; try with_reducible rfl)
    try simp only [Act.put, List.setIfInBounds_toArray, List.set_cons_zero, List.set_cons_succ]
    refine wpAnyH_done (by kernel_rfl) ?_ _
    have hR7 := struct_set4 hR6 (.int .u16 (i : Int)) (.int .i64 ((c : Int) + 1)) (.int .i64 (a : Int)) (.slice none 0 0)
    have hT7 := set4 X1 Rb (.int .u16 (i : Int)) (.int .i64 ((c : Int) + 1)) (.int .i64 (a : Int)) (.slice none 0 0)
    obtain ⟨q0, _⟩ := hR7.2 0 _ rfl
    obtain ⟨q1, _⟩ := hR7.2 1 _ rfl
    obtain ⟨q2, _⟩ := hR7.2 2 _ rfl
    obtain ⟨q3, _⟩ := hR7.2 3 _ rfl
    go_wp2_with fail
    have HT8 : Turned [] w ((((X1.setCell ⟨Rb, 0, none⟩ (.int .u16 (i : Int))).setCell ⟨Rb, 1, none⟩ (.int .i64 ((c : Int) + 1))).setCell ⟨Rb, 2, none⟩ (.int .i64 (a : Int))).setCell ⟨Rb, 3, none⟩ (.slice none 0 0)) :=
      (hT.trans hTd (by simp)).trans hT7 (by intro q hq hl; simp at hq; have := HRB.out; omega)
    refine bodyPost_ret (v := .tuple #[.agg #[.int .u16 (i : Int), .int .i64 ((c : Int) + 1), .int .i64 (a : Int), .slice none 0 0], .bool false]) (by simp [results, Try.results23, go_sem, q0, q1, q2, q3]) rfl ⟨⟨i, c + 1, a, by first | rfl | rw [show ((c + 1 : Nat) : Int) = (c : Int) + 1 by omega]⟩, HT8⟩

theorem unpack_fail (bs : List Nat) (v : Value) (w : World) (h : BytesAt v bs w) (h8 : ∀ q ∈ bs, q < 256) (hl : bs.length < 3) :
    Calls Try.prog 23 #[v] w fun e w' => ∃ i c a : Nat, e = .returned (.tuple #[.agg #[.int .u16 (i : Int), .int .i64 (c : Int), .int .i64 (a : Int), .slice none 0 0], .bool false]) ∧ Turned [] w w' := by
  obtain ⟨oa, cap, rfl, hc, hr, _⟩ := h
  exact unpack_fail0 bs oa cap w hr hc h8 hl

/-- what unpack tells -/
def Unp (l : List Nat) (w : World) (e : Ending) (w' : World) : Prop :=
  ∃ (p : Fg.P) (o : Option Addr) (m c : Nat) (ok : Bool), e = .returned (.tuple #[ptVal (p, .slice o m c), .bool ok]) ∧ (Fg.read l = none → ok = false) ∧ ∀ q, Fg.read l = some q → ok = true ∧ p = q ∧ BytesAt (.slice o m c) q.b w' ∧ ∀ k ∈ rblk (.slice o m c), w.heap.size ≤ k
theorem unpack_any (v : Value) (l : List Nat) (w : World) (h : BytesAt v l w) (h8 : ∀ x ∈ l, x < 256) :
    Calls Try.prog 23 #[v] w fun e w' => Unp l w e w' ∧ Turned [] w w' := by
  by_cases hlong : 303 < l.length
  · obtain ⟨oa, cap, rfl, _⟩ := h
    refine (unpack_long oa l.length cap w hlong).mono ?_
    rintro e w' ⟨rfl, ht⟩
    have hno : Fg.read l = none := by
      match l, hlong with
      | x :: y :: z :: b, h => rw [Fg.read_cons, if_neg (by simp at h; omega)]
    exact ⟨⟨⟨0, 0, 0, []⟩, none, 0, 0, false, rfl, fun _ => rfl, fun q hq => by rw [hno] at hq; cases hq⟩, ht⟩
  · match l, h, h8, hlong with
    | x :: y :: z :: b, h, h8, hlong =>
      refine (unpack_ok x y z b v w h h8 (by simp at hlong; omega)).mono ?_
      rintro e w' ⟨o, c, rfl, hb, hk, ht⟩
      refine ⟨⟨⟨x + 256 * y, z % 16 + 1, z / 16, b⟩, o, b.length, c, _, rfl, ?_, ?_⟩, ht⟩
      · intro hno
        rw [Fg.read_cons] at hno
        split at hno
        · cases hno
        · rename_i hc
          cases hf : formedB (z % 16 + 1) (z / 16) b.length
          · rfl
          · refine absurd ?_ hc
            unfold formedB at hf
            simp at hf
            simp at hlong
            omega
      · intro q hq
        rw [Fg.read_cons] at hq
        split at hq
        · rename_i hc
          cases hq
          refine ⟨?_, rfl, hb, hk⟩
          unfold formedB
          simp
          omega
        · cases hq
    | [], h, h8, _ =>
      refine (unpack_fail [] v w h h8 (by simp)).mono ?_
      rintro e w' ⟨i, c, a, rfl, ht⟩
      exact ⟨⟨⟨i, c, a, []⟩, none, 0, 0, false, rfl, fun _ => rfl, fun q hq => by cases hq⟩, ht⟩
    | [x], h, h8, _ =>
      refine (unpack_fail [x] v w h h8 (by simp)).mono ?_
      rintro e w' ⟨i, c, a, rfl, ht⟩
      exact ⟨⟨⟨i, c, a, []⟩, none, 0, 0, false, rfl, fun _ => rfl, fun q hq => by cases hq⟩, ht⟩
    | [x, y], h, h8, _ =>
      refine (unpack_fail [x, y] v w h h8 (by simp)).mono ?_
      rintro e w' ⟨i, c, a, rfl, ht⟩
      exact ⟨⟨⟨i, c, a, []⟩, none, 0, 0, false, rfl, fun _ => rfl, fun q hq => by cases hq⟩, ht⟩
end FgW
end Go.Proofs.Ytkjlbginggppaaa


/- A part is fed: the program's Feed and Waits (FgW). -/
namespace Go.Proofs.Ytkjlbginggppaaa
open Go.RowKit
set_option linter.unusedVariables false
set_option linter.unusedSimpArgs false

/-- block A is the program's assembler that keeps L -/
structure PAsm (A : Nat) (L : List (Fg.P × Value)) (vL : Value) (ms : List Ms) (w : World) : Prop where
  st : Struct A [vL] w
  ow : OwnL 76 3 msEnc vL ms w
  na : A ∉ blk vL
  tl : Tl L ms w
  by_ : ∀ q ∈ L, BytesAt q.2 q.1.b w
  nb : ∀ m ∈ ms, m.b ≠ A
  nv : ∀ q ∈ L, A ∉ rblk q.2
  gd : Fg.Good (L.map Prod.fst)
/-- its other blocks -/
def PFoot (L : List (Fg.P × Value)) (vL : Value) (ms : List Ms) (k : Nat) : Prop := k ∈ blk vL ∨ (∃ m ∈ ms, m.b = k) ∨ ∃ q ∈ L, k ∈ rblk q.2
section
variable {A : Nat} {L : List (Fg.P × Value)} {vL : Value} {ms : List Ms} {w w' : World} {S : List Nat}
theorem PAsm.keep (h : PAsm A L vL ms w) (ht : Turned S w w') (hA : A ∉ S) (hf : ∀ k, PFoot L vL ms k → k ∉ S) : PAsm A L vL ms w' :=
  ⟨h.st.keep ht hA, h.ow.keep ht fun k hk => hf k (.inl hk), h.na, h.tl.keep ht fun m hm => hf _ (.inr (.inl ⟨m, hm, rfl⟩)), fun q hq => (h.by_ q hq).keep ht fun k hk => hf k (.inr (.inr ⟨q, hq, hk⟩)), h.nb, h.nv, h.gd⟩
theorem PAsm.lt (h : PAsm A L vL ms w) : ∀ k, PFoot L vL ms k → k < w.heap.size := by
  rintro k (hk | ⟨m, hm, rfl⟩ | ⟨q, hq, hk⟩)
  · exact h.ow.lt k hk
  · exact (h.tl.mp m hm).lt
  · exact (h.by_ q hq).lt k hk
theorem PAsm.not (h : PAsm A L vL ms w) : ∀ k, PFoot L vL ms k → k ≠ A := by
  rintro k (hk | ⟨m, hm, rfl⟩ | ⟨q, hq, hk⟩) e
  · exact h.na (by rw [← e]; exact hk)
  · exact h.nb m hm e
  · exact h.nv q hq (by rw [← e]; exact hk)
theorem PAsm.new {w : World} (t : TypeId) : PAsm w.heap.size [] (.slice none 0 0) [] (w.alloc (.cells #[.slice none 0 0] t)) :=
  ⟨Struct.new w [_] t, OwnL.nil _ _ _ _, by simp [blk, Value.ownBlock], ⟨rfl, by simp⟩, by simp, by simp, by simp, Fg.Good.nil⟩
end
theorem keepL_mem {m x : Ms} {l : List Ms} (h : x ∈ FgW.keepL m l) : x = m ∨ x ∈ l := by
  unfold FgW.keepL at h
  split at h
  · rcases List.mem_or_eq_of_mem_set h with h | h
    · exact .inr h
    · exact .inl h
  · split at h
    · rcases List.mem_append.1 (List.mem_of_mem_drop h) with h | h
      · exact .inr h
      · exact .inl (List.mem_singleton.1 h)
    · rcases List.mem_append.1 h with h | h
      · exact .inr h
      · exact .inl (List.mem_singleton.1 h)
theorem roomQ_mem {p : Fg.P} {L : List (Fg.P × Value)} {q : Fg.P × Value} (h : q ∈ roomQ p L) : q ∈ L := by
  cases L with
  | nil => exact h
  | cons a l =>
    rw [roomQ_cons] at h
    split at h
    · exact (List.mem_filter.1 h).1
    · exact h
theorem good_room {p : Fg.P} {L : List (Fg.P × Value)} (h : Fg.Good (L.map Prod.fst)) : Fg.Good ((roomQ p L).map Prod.fst) := by
  cases L with
  | nil => exact h
  | cons a l =>
    rw [roomQ_cons]
    split
    · rw [filter_fst]; exact h.filter a.1
    · exact h
theorem got_room (p : Fg.P) (L : List (Fg.P × Value)) : (Fg.got p ((roomQ p L).map Prod.fst)).length = (Fg.got p (L.map Prod.fst)).length := by
  cases L with
  | nil => rfl
  | cons a l =>
    rw [roomQ_cons]
    split
    · rename_i hc
      rw [hc.1, filter_fst]
      have : Fg.got p (((a :: l).map Prod.fst).filter fun r => Fg.nm r != Fg.nm a.1) = [] := by
        have h0 := hc.1
        rw [Fg.got_eq, List.filter_eq_nil_iff] at h0 ⊢
        exact fun q hq => h0 q (List.mem_filter.1 hq).1
      rw [this]
    · rfl
theorem room_four {p : Fg.P} {L : List (Fg.P × Value)} (h : Fg.Good (L.map Prod.fst)) : Fg.waits ((roomQ p L).map Prod.fst ++ [p]) ≤ 4 := by
  have h4 := h.four
  rw [Fg.waits_names, Fg.names_snoc]
  cases L with
  | nil =>
    show (if Fg.nm p ∈ ([] : List (Nat × Nat)) then ([] : List (Nat × Nat)) else [] ++ [Fg.nm p]).length ≤ 4
    simp
  | cons a l =>
    rw [roomQ_cons]
    split
    · rename_i hc
      rw [filter_fst, Fg.names_filter]
      obtain ⟨r, hr⟩ := Fg.names_head (p := a.1) (l := l.map Prod.fst)
      rw [← List.map_cons] at hr
      have h5 := hc.2
      rw [Fg.waits_names, hr, List.length_cons] at h5
      rw [hr]
      have : ((Fg.nm a.1 :: r).filter fun y => y != Fg.nm a.1).length ≤ r.length := by
        rw [List.filter_cons, if_neg (by simp)]
        exact List.length_filter_le _ _
      split
      · omega
      · rw [List.length_append]; simp only [List.length_singleton]; omega
    · rename_i hc
      rw [Fg.waits_names] at h4
      split
      · exact h4
      · rename_i hx
        rw [List.length_append, List.length_singleton]
        have hg := Fg.got_nil.2 hx
        have : ¬ Fg.waits ((a :: l).map Prod.fst) = 4 := fun e => hc ⟨hg, e⟩
        rw [Fg.waits_names] at this
        omega
theorem whole_parts (p : Fg.P) (L : List (Fg.P × Value)) : (List.range p.n).flatMap (FgW.atPlace (partsOf (Fg.nm p) L)) = Fg.whole p (L.map Prod.fst) := by
  unfold Fg.whole
  congr 1
  funext i
  unfold FgW.atPlace partsOf
  rw [List.filter_filter, List.filter_map, List.flatMap_map]
  have : (L.filter fun a => a.1.at_ == i && Fg.nm a.1 == Fg.nm p) = L.filter ((fun q => Fg.mine q p && q.at_ == i) ∘ Prod.fst) := by
    apply List.filter_congr
    intro q _
    show _ = (Fg.mine q.1 p && q.1.at_ == i)
    cases h : Fg.mine q.1 p
    · have := Fg.mine_nm_false.1 h; simp [this]
    · have := Fg.mine_nm.1 h; simp [this]
  rw [this]
namespace FgW
set_option maxHeartbeats 1000000 in
theorem feed_nil (v : Value) (w : World) : Calls Try.prog 14 #[.pointer none, v] w fun e w' => e = .returned (.tuple #[.slice none 0 0, .bool false, .int .i64 6]) ∧ w' = w := by
  go_enter Try.func14, Try.ntmps14
  go_wp2_with fail
  refine bodyPost_ret (by simp [results, Try.results14, go_sem]) rfl ⟨rfl, rfl⟩
set_option maxHeartbeats 1000000 in
theorem waits_nil (w : World) : Calls Try.prog 17 #[.pointer none] w fun e w' => e = .returned (.int .i64 0) ∧ w' = w := by
  go_enter Try.func17, Try.ntmps17
  go_wp2_with fail
  go_ret
  exact ⟨rfl, rfl⟩
set_option maxHeartbeats 1000000 in
theorem waits_any (A : Nat) (L : List (Fg.P × Value)) (vL : Value) (ms : List Ms) (w : World) (h : PAsm A L vL ms w) : Calls Try.prog 17 #[.pointer (some ⟨A, 0, none⟩)] w fun e w' => e = .returned (.int .i64 (Fg.waits (L.map Prod.fst) : Int)) ∧ Turned [] w w' := by
  obtain ⟨oa, cap, rfl, _, _⟩ := h.ow.form
  have hl : ms.length = Fg.waits (L.map Prod.fst) := by rw [Fg.waits_names, ← h.tl.nms, List.length_map]
  obtain ⟨n, hn⟩ : ∃ n, n = ms.length := ⟨_, rfl⟩
  have hst := h.st
  rw [← hl, ← hn]
  rw [← hn] at hst
  have a0 := (hst.2 0 _ rfl).1
  clear hl hn
  go_enter Try.func17, Try.ntmps17
  go_wp2_with fail
  go_ret
  exact ⟨rfl, Turned.refl _ _⟩
/-- what Feed answers, and keeps then -/
def Fed (A : Nat) (L : List (Fg.P × Value)) (vL : Value) (ms : List Ms) (w : World) (r : Fg.R) (e : Ending) (w' : World) : Prop :=
  ∃ va L' vL' ms', e = .returned (.tuple #[va, .bool r.ok, .int .i64 r.e]) ∧ BytesAt va r.b w' ∧ PAsm A L' vL' ms' w' ∧ L'.map Prod.fst = r.l ∧ Turned [A] w w' ∧ (∀ k, PFoot L' vL' ms' k → PFoot L vL ms k ∨ w.heap.size ≤ k) ∧ ∀ k ∈ rblk va, w.heap.size ≤ k
theorem nil_bytes (w : World) : BytesAt (.slice none 0 0) [] w := ⟨none, 0, rfl, Nat.le_refl _, fun i a hi => by simp at hi, fun a ha => by cases ha⟩
set_option maxRecDepth 20000 in
set_option maxHeartbeats 4000000 in
theorem feed_form (A : Nat) (L : List (Fg.P × Value)) (vL : Value) (ms : List Ms) (w : World) (h : PAsm A L vL ms w) (v : Value) (l : List Nat) (hb : BytesAt v l w) (h8 : ∀ x ∈ l, x < 256) (hno : Fg.read l = none) :
    Calls Try.prog 14 #[.pointer (some ⟨A, 0, none⟩), v] w fun e w' => Fed A L vL ms w ⟨[], false, 2, L.map Prod.fst⟩ e w' := by
  have kU := unpack_any v l w hb h8
  have H : Hid _ := h
  have HNO : Hid (Fg.read l = none) := hno
  clear h hno hb
  go_enter Try.func14, Try.ntmps14
  go_wp2_with fail
  refine kU.mono ?_
  rintro e u1 ⟨⟨p, o, m, c, ok, rfl, hk, _⟩, ht1⟩
  obtain rfl := hk HNO.out
  clear hk kU
  unfold ptVal
  go_wp2_with fail
  refine bodyPost_ret (v := .tuple #[.slice none 0 0, .bool false, .int .i64 2]) (by simp [results, Try.results14, go_sem]) rfl ?_
  have hT : Turned [] w (u1.alloc (.cells #[.int .u16 (p.id : Int), .int .i64 (p.n : Int), .int .i64 (p.at_ : Int), .slice o m c] 66)) := ht1.alloc _
  exact ⟨_, L, vL, ms, rfl, nil_bytes _, H.out.keep hT (by simp) (by simp), rfl, hT.mono (by simp), fun k hk => .inl hk, by simp [rblk]⟩
end FgW
end Go.Proofs.Ytkjlbginggppaaa


/- A part is fed: the program's Feed on what is a part (FgW). -/
namespace Go.Proofs.Ytkjlbginggppaaa
open Go.RowKit
set_option linter.unusedVariables false
set_option linter.unusedSimpArgs false

theorem partsOf_room (p : Fg.P) (L : List (Fg.P × Value)) : partsOf (Fg.nm p) (roomQ p L) = partsOf (Fg.nm p) L := by
  cases L with
  | nil => rfl
  | cons a l =>
    rw [roomQ_cons]
    split
    · rename_i hc
      refine partsOf_filter_ne _ ?_
      intro e
      have h1 := Fg.got_nil.1 hc.1
      exact h1 (by rw [e]; exact (Fg.mem_names _).2 ⟨a.1, by simp, rfl⟩)
    · rfl
theorem good_after {p : Fg.P} {L : List (Fg.P × Value)} {v : Value} (h : Fg.Good (L.map Prod.fst)) (hp : Fg.Formed p) (ho : ∀ q ∈ partsOf (Fg.nm p) L, q.1.at_ ≠ p.at_) (hg : (partsOf (Fg.nm p) L).length + 1 < p.n) : Fg.Good ((roomQ p L ++ [(p, v)]).map Prod.fst) := by
  rw [List.map_append, List.map_singleton]
  refine (good_room h).snoc hp ?_ ?_ (room_four h)
  · rintro q hq ⟨e1, e2⟩
    obtain ⟨r, hr, rfl⟩ := List.mem_map.1 hq
    exact ho r (List.mem_filter.2 ⟨roomQ_mem hr, by simp [e1]⟩) e2
  · rw [got_room, ← parts_len]; exact hg
theorem filter_after (p : Fg.P) (L : List (Fg.P × Value)) (v : Value) : (roomQ p L ++ [(p, v)]).filter (fun r => Fg.nm r.1 != Fg.nm p) = (roomQ p L).filter fun r => Fg.nm r.1 != Fg.nm p := by
  rw [List.filter_append]; simp
theorem keepL_len (m : Ms) (l : List Ms) : (FgW.keepL m l).length ≤ l.length + 1 := by
  unfold FgW.keepL
  split
  · simp
  · split
    · simp
    · simp
theorem feed_some {p : Fg.P} {L : List (Fg.P × Value)} {v : Value} (ho : Fg.old p (L.map Prod.fst) = false) (hg : (partsOf (Fg.nm p) L).length + 1 < p.n) : Fg.feed (L.map Prod.fst) p = ⟨[], false, 0, (roomQ p L ++ [(p, v)]).map Prod.fst⟩ := by
  unfold Fg.feed
  rw [if_neg (by rw [ho]; decide), ← parts_len, if_pos hg, List.map_append, roomQ_fst]
  rfl
theorem feed_whole {p : Fg.P} {L : List (Fg.P × Value)} {v : Value} (ho : Fg.old p (L.map Prod.fst) = false) (hg : ¬ (partsOf (Fg.nm p) L).length + 1 < p.n) :
    Fg.feed (L.map Prod.fst) p = ⟨(List.range p.n).flatMap (FgW.atPlace (partsOf (Fg.nm p) L ++ [(p, v)])), true, 0, ((roomQ p L ++ [(p, v)]).filter fun r => Fg.nm r.1 != Fg.nm p).map Prod.fst⟩ := by
  unfold Fg.feed
  have e : partsOf (Fg.nm p) L ++ [(p, v)] = partsOf (Fg.nm p) (roomQ p L ++ [(p, v)]) := by
    rw [show partsOf (Fg.nm p) (roomQ p L ++ [(p, v)]) = _ from partsOf_snoc _ (p, v), partsOf_room]
  rw [if_neg (by rw [ho]; decide), ← parts_len, if_neg hg, e, whole_parts, filter_fst, Fg.drop_eq, List.map_append, roomQ_fst]
  rfl
namespace FgW
set_option maxRecDepth 20000 in
set_option maxHeartbeats 8000000 in
theorem feed_part (A : Nat) (L : List (Fg.P × Value)) (vL : Value) (ms : List Ms) (w : World) (h : PAsm A L vL ms w) (v : Value) (l : List Nat) (hb : BytesAt v l w) (h8 : ∀ x ∈ l, x < 256) (p : Fg.P) (hp : Fg.read l = some p) :
    Calls Try.prog 14 #[.pointer (some ⟨A, 0, none⟩), v] w fun e w' => Fed A L vL ms w (Fg.feed (L.map Prod.fst) p) e w' := by
  have kU := unpack_any v l w hb h8
  have hfm := (Fg.read_formed h8 hp).1
  have H : Hid (PAsm A L vL ms w) := h
  have HP : Hid (Fg.read l = some p) := hp
  have HF : Hid (Fg.Formed p) := hfm
  have hAl := h.st.1
  have hms4 : ms.length ≤ 4 := by
    have := h.gd.four
    rw [Fg.waits_names, ← h.tl.nms, List.length_map] at this
    exact this
  have hat : p.at_ < 1000 := by have := hfm.at_; have := hfm.n; omega
  have hnd := places_nodup h.gd (Fg.nm p)
  have hfew := h.gd.got_le hfm
  rw [← parts_len] at hfew
  have h20 : (partsOf (Fg.nm p) L).length ≤ 20 := by have := hfm.n; omega
  have HW : Hid ((partsOf (Fg.nm p) L).length < p.n ∧ (partsOf (Fg.nm p) L).length ≤ 20) := ⟨hfew, h20⟩
  have HND : Hid _ := hnd
  have hold := old_parts p L
  obtain ⟨ol, hol⟩ : ∃ b, b = Fg.old p (L.map Prod.fst) := ⟨_, rfl⟩
  rw [← hol] at hold
  have HOLD : Hid (ol = Fg.old p (L.map Prod.fst)) := hol
  obtain ⟨ob, hob⟩ : ∃ b, b = mapN p.id p.n ms := ⟨_, rfl⟩
  have HOB : Hid (ob = mapN p.id p.n ms) := hob
  have hMA := h.tl.find p
  rw [← hob] at hMA
  have HMA : Hid (MapAt ob (partsOf (Fg.nm p) L) w) := hMA
  have HMS : Hid (ms.length ≤ 4) := hms4
  have HAT : Hid (p.at_ < 1000) := hat
  clear h hp hb hfm hfew h20 hnd hms4 hol hob hMA hat
  go_enter Try.func14, Try.ntmps14
  go_wp2_with fail
  refine kU.mono ?_
  rintro e u1 ⟨⟨p', o, m, c, ok, rfl, _, hk⟩, ht1⟩
  obtain ⟨rfl, rfl, hbp, hbn⟩ := hk p HP.out
  clear hk kU
  unfold ptVal
  have H1 := H.out.keep ht1 (by simp) (by simp)
  obtain ⟨W1, hW1⟩ : ∃ W, W = u1.alloc (.cells #[.int .u16 (p'.id : Int), .int .i64 (p'.n : Int), .int .i64 (p'.at_ : Int), .slice o m c] 66) := ⟨_, rfl⟩
  obtain ⟨B, hB⟩ : ∃ B, B = u1.heap.size := ⟨_, rfl⟩
  have hT1 : Turned [] u1 W1 := by rw [hW1]; exact (Turned.refl [] u1).alloc _
  have hPc : Struct B [.int .u16 (p'.id : Int), .int .i64 (p'.n : Int), .int .i64 (p'.at_ : Int), .slice o m c] W1 := by rw [hW1, hB]; exact Struct.new u1 [.int .u16 (p'.id : Int), .int .i64 (p'.n : Int), .int .i64 (p'.at_ : Int), .slice o m c] _
  have H2 := H1.keep hT1 (by simp) (by simp)
  have hTw := ht1.trans hT1 (by simp)
  have hbp2 := hbp.keep hT1 (by simp)
  have kf := find_any A p'.id p'.n vL ms W1 H2.st H2.ow (by have := HMS.out; omega)
  rw [← HOB.out] at kf
  have HBs : Hid (w.heap.size ≤ B) := by show _ ≤ _; rw [hB]; exact ht1.size
  go_wp2_with fail
  rw [← hW1, ← hB]
  have HB1 : Hid (B = u1.heap.size) := hB
  clear hW1 hB H1
  refine kf.mono ?_
  clear kf
  rintro e u2 ⟨rfl, ht2⟩
  replace hPc := hPc.keep ht2 (by simp)
  have H3 := H2.keep ht2 (by simp) (by simp)
  replace hTw := hTw.trans ht2 (by simp)
  have hbp3 := hbp2.keep ht2 (by simp)
  have hMA2 : MapAt ob (partsOf (Fg.nm p') L) (u2.alloc (.cells #[.int .u16 (p'.id : Int), .int .i64 (p'.n : Int), .map ob] 76)) := by
    have hq := hTw.alloc (.cells #[.int .u16 (p'.id : Int), .int .i64 (p'.n : Int), .map ob] 76)
    cases ob with
    | none => exact HMA.out
    | some bb => exact MapOf.keep (show MapOf bb _ w from HMA.out) hq (by simp)
  obtain ⟨s, hlook⟩ := look_ok hMA2 HAT.out
  rw [hold] at hlook
  have p2 := (hPc.2 2 _ rfl).1
  have hBu : B < u2.heap.size := hPc.1
  have HMA2 : Hid _ := hMA2
  clear hMA2 H2 hbp2
  cases ol with
  | true =>
    go_wp2_with fail
    refine bodyPost_ret (v := .tuple #[.slice none 0 0, .bool false, .int .i64 8]) (by simp [results, Try.results14, go_sem]) rfl ?_
    have hq := hTw.alloc (.cells #[.int .u16 (p'.id : Int), .int .i64 (p'.n : Int), .map ob] 76)
    have hfe : Fg.feed (L.map Prod.fst) p' = ⟨[], false, 8, L.map Prod.fst⟩ := by unfold Fg.feed; rw [if_pos HOLD.out.symm]
    rw [hfe]
    exact ⟨_, L, vL, ms, rfl, nil_bytes _, H.out.keep hq (by simp) (by simp), rfl, hq.mono (by simp), fun k hk => .inl hk, by simp [rblk]⟩
  | false =>
    obtain ⟨W3, hW3⟩ : ∃ W, W = u2.alloc (.cells #[.int .u16 (p'.id : Int), .int .i64 (p'.n : Int), .map ob] 76) := ⟨_, rfl⟩
    obtain ⟨M, hM⟩ : ∃ M, M = u2.heap.size := ⟨_, rfl⟩
    have p0 := (hPc.2 0 _ rfl).1
    have p1 := (hPc.2 1 _ rfl).1
    have p3 := (hPc.2 3 _ rfl).1
    have hMc : Struct M [.int .u16 (p'.id : Int), .int .i64 (p'.n : Int), .map ob] W3 := by rw [hW3, hM]; exact Struct.new u2 [.int .u16 (p'.id : Int), .int .i64 (p'.n : Int), .map ob] _
    have hT3 : Turned [] u2 W3 := by rw [hW3]; exact (Turned.refl [] u2).alloc _
    go_wp2_with fail
    rw [← hW3, ← hM]
    have HMA3 := HMA2.out
    rw [← hW3] at HMA3
    have hno : ∀ q ∈ partsOf (Fg.nm p') L, q.1.at_ ≠ p'.at_ := by
      intro q hq e
      have := List.any_eq_false.1 hold q hq
      exact this (by rw [e]; simp)
    have kw := with_any p'.id p'.n p'.id p'.n p'.at_ o m c p' rfl HAT.out ob (partsOf (Fg.nm p') L) W3 HMA3 HND.out hno HW.out.2
    have HNO : Hid (∀ q ∈ partsOf (Fg.nm p') L, q.1.at_ ≠ p'.at_) := hno
    have hBM : B < M := by rw [hM]; exact hBu
    have hM0 : w.heap.size ≤ M := by rw [hM]; exact hTw.size
    clear HMA3 hno hold hlook HMA2 p0 p1 p2 p3 hW3 hM hBu hPc
    replace H3 := H3.keep hT3 (by simp) (by simp)
    replace hTw := hTw.trans hT3 (by simp)
    replace hbp3 := hbp3.keep hT3 (by simp)
    clear hT3
    refine kw.mono ?_
    clear kw
    rintro e u4 ⟨b, rfl, hb, hbs, ht4⟩
    have hMW3 := hMc.1
    replace hMc := hMc.keep ht4 (by simp)
    have H4 := H3.keep ht4 (by simp) (by simp)
    replace hTw := hTw.trans ht4 (by simp)
    have hbp4 := hbp3.keep ht4 (by simp)
    obtain ⟨m0, f0⟩ := hMc.2 0 _ rfl
    obtain ⟨m1, f1⟩ := hMc.2 1 _ rfl
    obtain ⟨m2, f2⟩ := hMc.2 2 _ rfl
    clear H3 hbp3
    go_wp2_with fail
    have hMA' : A ≠ M := by omega
    have hnM : ∀ k, PFoot L vL ms k → k ∉ [M] := by intro k hk hm; have := H.out.lt k hk; simp at hm; omega
    have hnbM : b ≠ M := by omega
    have hbw : w.heap.size ≤ b := by omega
    have hT5 := set3 u4 M (.int .u16 (p'.id : Int)) (.int .i64 (p'.n : Int)) (.map (some b))
    have hM5 := struct_set3 hMc (.int .u16 (p'.id : Int)) (.int .i64 (p'.n : Int)) (.map (some b))
    obtain ⟨W5, hW5⟩ : ∃ W, W = ((u4.setCell ⟨M, 0, none⟩ (.int .u16 (p'.id : Int))).setCell ⟨M, 1, none⟩ (.int .i64 (p'.n : Int))).setCell ⟨M, 2, none⟩ (.map (some b)) := ⟨_, rfl⟩
    rw [← hW5] at hT5 hM5 ⊢
    have H5 := H4.keep hT5 (by simpa using hMA') hnM
    have hb5 := hb.keep hT5 (by simpa using hnbM)
    have hvM : ∀ k ∈ rblk (.slice o m c), w.heap.size ≤ k := hbn
    have hvm2 : ∀ k ∈ rblk (.slice o m c), k ∉ [M] := by
      intro k hk hm
      have := hbp.lt k hk
      have := HB1.out
      simp at hm
      omega
    have hbp5 := hbp4.keep hT5 hvm2
    have hTw5 : Turned [] w W5 := hTw.trans hT5 (by intro x hx hl; simp at hx; omega)
    have hW5s := hTw5.size
    clear hW5 hT5 H4 hb hbp4 m0 m1 m2 f0 f1 f2 hMc hnM
    refine (keep_any A ⟨p'.id, p'.n, b⟩ vL ms W5 H5.st H5.ow HMS.out).mono ?_
    rintro e u6 ⟨rfl, v6, hA6, ho6, ht6, hn6⟩
    have hM6 := hM5.keep ht6 (by simpa using fun e => hMA' e.symm)
    have hbA : b ≠ A := by omega
    have hb6 := hb5.keep ht6 (by simpa using hbA)
    have hTw6 : Turned [A] w u6 := (hTw5.mono (by simp)).trans ht6 (fun x hx _ => hx)
    obtain ⟨L1, hL1⟩ : ∃ L1, L1 = roomQ p' L ++ [(p', .slice o m c)] := ⟨_, rfl⟩
    obtain ⟨ms1, hms1⟩ : ∃ l, l = keepL ⟨p'.id, p'.n, b⟩ ms := ⟨_, rfl⟩
    have hfoot1 : ∀ k, PFoot L1 v6 ms1 k → (PFoot L vL ms k ∨ w.heap.size ≤ k) ∧ k ≠ A := by
      rintro k (hk | ⟨x, hx, rfl⟩ | ⟨q, hq, hk⟩)
      · have := hn6 k hk; exact ⟨.inr (by omega), by omega⟩
      · rw [hms1] at hx
        rcases keepL_mem hx with rfl | hx
        · exact ⟨.inr hbw, hbA⟩
        · exact ⟨.inl (.inr (.inl ⟨x, hx, rfl⟩)), H.out.nb x hx⟩
      · rw [hL1] at hq
        rcases List.mem_append.1 hq with hq | hq
        · exact ⟨.inl (.inr (.inr ⟨q, roomQ_mem hq, hk⟩)), fun e => H.out.nv q (roomQ_mem hq) (by rw [← e]; exact hk)⟩
        · rw [List.mem_singleton.1 hq] at hk
          have := hvM k hk
          exact ⟨.inr this, by omega⟩
    have htl6 : Tl L1 ms1 u6 := by
      rw [hL1, hms1]
      refine (H5.tl.step hb5).keep ht6 ?_
      intro x hx hm
      rcases keepL_mem hx with rfl | hx
      · simp at hm; exact hbA hm
      · simp at hm; exact H.out.nb x hx hm
    have hby6 : ∀ q ∈ L1, BytesAt q.2 q.1.b u6 := by
      intro q hq
      rw [hL1] at hq
      rcases List.mem_append.1 hq with hq | hq
      · exact (H5.by_ q (roomQ_mem hq)).keep ht6 (by intro k hk hm; simp at hm; exact H.out.nv q (roomQ_mem hq) (by rw [← hm]; exact hk))
      · rw [List.mem_singleton.1 hq]
        exact hbp5.keep ht6 (by intro k hk hm; have := hvM k hk; simp at hm; omega)
    have hnA6 : A ∉ blk v6 := fun hk => by have := hn6 A hk; omega
    rw [← hms1] at ho6
    have hnd1 : ((partsOf (Fg.nm p') L ++ [(p', (.slice o m c : Value))]).map fun q => q.1.at_).Nodup := by
      rw [List.map_append]
      refine List.nodup_append.2 ⟨HND.out, by simp, ?_⟩
      intro x hx y hy e
      obtain ⟨q, hq, rfl⟩ := List.mem_map.1 hx
      simp at hy
      exact HNO.out q hq (e.trans hy)
    have hlen1 : ms1.length ≤ 5 := by rw [hms1]; have := keepL_len ⟨p'.id, p'.n, b⟩ ms; have := HMS.out; omega
    have kwh := whole_any p'.id p'.n b (partsOf (Fg.nm p') L ++ [(p', .slice o m c)]) u6 hb6 hnd1
    have HL1 : Hid (L1 = roomQ p' L ++ [(p', .slice o m c)]) := hL1
    have HMS1 : Hid (ms1 = keepL ⟨p'.id, p'.n, b⟩ ms) := hms1
    have hold' : Fg.old p' (L.map Prod.fst) = false := HOLD.out.symm
    obtain ⟨m0, f0⟩ := hM6.2 0 _ rfl
    obtain ⟨m1, f1⟩ := hM6.2 1 _ rfl
    obtain ⟨m2, f2⟩ := hM6.2 2 _ rfl
    clear hL1 hms1 hb5 hbp5 H5 hM5 hMA' hnbM hvm2 ht6
    by_cases hwh : (partsOf (Fg.nm p') L).length + 1 < p'.n
    · have hbl : ((partsOf (Fg.nm p') L ++ [(p', (.slice o m c : Value))]).length == p'.n) = false := by
        rw [beq_eq_false_iff_ne, List.length_append, List.length_singleton]; omega
      rw [hbl] at kwh
      have HG : Hid (Fg.Good (L1.map Prod.fst)) := by
        show Fg.Good _
        rw [HL1.out]
        exact good_after H.out.gd HF.out HNO.out hwh
      have HFE : Hid (Fg.feed (L.map Prod.fst) p' = ⟨[], false, 0, L1.map Prod.fst⟩) := by
        show _ = _
        rw [HL1.out]
        exact feed_some hold' hwh
      clear hbl hwh hnd1 hold'
      go_wp2_with fail
      (go_at_call 27; (with_reducible refine kwh.mono ?_); rintro e u7 ⟨rfl, ht7⟩)
      clear kwh
      go_wp2_with fail
      refine bodyPost_ret (v := .tuple #[.slice none 0 0, .bool false, .int .i64 0]) (by simp [results, Try.results14, go_sem]) rfl ?_
      rw [HFE.out]
      have hP6 : PAsm A L1 v6 ms1 u6 := ⟨hA6, ho6, hnA6, htl6, hby6, fun x hx => (hfoot1 _ (.inr (.inl ⟨x, hx, rfl⟩))).2, fun q hq hk => (hfoot1 A (.inr (.inr ⟨q, hq, hk⟩))).2 rfl, HG.out⟩
      exact ⟨_, L1, v6, ms1, rfl, nil_bytes _, hP6.keep ht7 (by simp) (by simp), rfl, hTw6.trans ht7 (by simp), fun k hk => (hfoot1 k hk).1, by simp [rblk]⟩
    · have hbl : ((partsOf (Fg.nm p') L ++ [(p', (.slice o m c : Value))]).length == p'.n) = true := by
        rw [beq_iff_eq, List.length_append, List.length_singleton]; have := HW.out; omega
      rw [hbl] at kwh
      have HFE : Hid (_ = _) := feed_whole (v := .slice o m c) hold' hwh
      clear hbl hwh hold'
      go_wp2_with fail
      (go_at_call 27; (with_reducible refine kwh.mono ?_); rintro e u7 ⟨rfl, ht7⟩)
      clear kwh
      have hM7 := hM6.keep ht7 (by simp)
      obtain ⟨n0, g0⟩ := hM7.2 0 _ rfl
      obtain ⟨n1, g1⟩ := hM7.2 1 _ rfl
      obtain ⟨n2, g2⟩ := hM7.2 2 _ rfl
      have kl := letGo_any A p'.id p'.n v6 ms1 u7 (hA6.keep ht7 (by simp)) (ho6.keep ht7 (by simp)) (by omega)
      clear m0 m1 m2 f0 f1 f2
      go_wp2_with fail
      (go_at_call 28; (with_reducible refine kl.mono ?_); rintro e u8 ⟨rfl, v8, hA8, ho8, ht8, hn8⟩)
      clear kl n0 n1 n2 g0 g1 g2
      have hM8 := hM7.keep ht8 (by simp; omega)
      obtain ⟨n0, g0⟩ := hM8.2 0 _ rfl
      obtain ⟨n1, g1⟩ := hM8.2 1 _ rfl
      obtain ⟨n2, g2⟩ := hM8.2 2 _ rfl
      have hb8 := (hb6.keep ht7 (by simp)).keep ht8 (by simpa using hbA)
      have hTw8 : Turned [A] w u8 := (hTw6.trans ht7 (by simp)).trans ht8 (fun x hx _ => hx)
      have hby8 : ∀ q ∈ partsOf (Fg.nm p') L ++ [(p', (.slice o m c : Value))], BytesAt q.2 q.1.b u8 := by
        intro q hq
        rcases List.mem_append.1 hq with hq | hq
        · have hq2 := (List.mem_filter.1 hq).1
          exact (H.out.by_ q hq2).keep hTw8 (by intro k hk hm; simp at hm; exact H.out.nv q hq2 (by rw [← hm]; exact hk))
        · rw [List.mem_singleton.1 hq]
          have hin : (p', (.slice o m c : Value)) ∈ L1 := by rw [HL1.out]; simp
          exact ((hby6 _ hin).keep ht7 (by simp)).keep ht8 (by intro k hk hm; have := hvM k hk; simp at hm; omega)
      have hl8 : ∀ q ∈ partsOf (Fg.nm p') L ++ [(p', (.slice o m c : Value))], q.1.b.length ≤ 300 := by
        intro q hq
        rcases List.mem_append.1 hq with hq | hq
        · exact (H.out.gd.fm q.1 (List.mem_map.2 ⟨q, (List.mem_filter.1 hq).1, rfl⟩)).b1
        · rw [List.mem_singleton.1 hq]; exact HF.out.b1
      have kj := joined_any p'.id p'.n b (partsOf (Fg.nm p') L ++ [(p', .slice o m c)]) u8 hb8 hnd1 hby8 hl8 HF.out.n
      obtain ⟨X, hX⟩ : ∃ X, X = (List.range p'.n).flatMap (atPlace (partsOf (Fg.nm p') L ++ [(p', (.slice o m c : Value))])) := ⟨_, rfl⟩
      rw [← hX] at kj
      have HX : Hid (X = _) := hX
      clear hX hl8 hby8
      go_wp2_with fail
      (go_at_call 29; (with_reducible refine kj.mono ?_); rintro e u9 ⟨va, rfl, hva, ht9, hn9⟩)
      clear kj
      obtain ⟨oa, ca, rfl, _, _⟩ := hva.form
      obtain ⟨nx, hnx⟩ : ∃ n, n = X.length := ⟨_, rfl⟩
      rw [← hnx] at hva hn9 ⊢
      clear hnx
      go_wp2_with fail
      refine bodyPost_ret (v := .tuple #[.slice oa nx ca, .bool true, .int .i64 0]) (by simp [results, Try.results14, go_sem]) rfl ?_
      rw [HFE.out, ← HX.out, ← HL1.out]
      obtain ⟨hby9, hrb9⟩ := own_bytes hva
      have hTw9 : Turned [A] w u9 := hTw8.trans ht9 (by simp)
      have htl9 : Tl (L1.filter fun r => Fg.nm r.1 != Fg.nm p') (ms1.filter fun x => !sameN p'.id p'.n x) u9 :=
        (((htl6.filter p').keep ht7 (by simp)).keep ht8 (by intro x hx hm; simp at hm; exact (hfoot1 _ (.inr (.inl ⟨x, (List.mem_filter.1 hx).1, rfl⟩))).2 hm)).keep ht9 (by simp)
      have hfoot2 : ∀ k, PFoot (L1.filter fun r => Fg.nm r.1 != Fg.nm p') v8 (ms1.filter fun x => !sameN p'.id p'.n x) k → (PFoot L vL ms k ∨ w.heap.size ≤ k) ∧ k ≠ A := by
        rintro k (hk | ⟨x, hx, rfl⟩ | ⟨q, hq, hk⟩)
        · have h1 := hn8 k hk
          have h2 := (hTw6.trans ht7 (by simp)).size
          exact ⟨.inr (by omega), by omega⟩
        · exact hfoot1 _ (.inr (.inl ⟨x, (List.mem_filter.1 hx).1, rfl⟩))
        · exact hfoot1 _ (.inr (.inr ⟨q, (List.mem_filter.1 hq).1, hk⟩))
      have hnA8 : A ∉ blk v8 := fun hk => (hfoot2 A (.inl hk)).2 rfl
      have hby10 : ∀ q ∈ L1.filter (fun r => Fg.nm r.1 != Fg.nm p'), BytesAt q.2 q.1.b u9 := by
        intro q hq
        have hq2 := (List.mem_filter.1 hq).1
        exact (((hby6 q hq2).keep ht7 (by simp)).keep ht8 (by intro k hk hm; simp at hm; exact (hfoot1 k (.inr (.inr ⟨q, hq2, hk⟩))).2 hm)).keep ht9 (by simp)
      have hgd : Fg.Good ((L1.filter fun r => Fg.nm r.1 != Fg.nm p').map Prod.fst) := by
        rw [HL1.out, filter_after, filter_fst]
        exact (good_room H.out.gd).filter p'
      have h99 : w.heap.size ≤ u8.heap.size := hTw8.size
      exact ⟨_, _, v8, _, rfl, hby9, ⟨hA8.keep ht9 (by simp), ho8.keep ht9 (by simp), hnA8, htl9, hby10, fun x hx => (hfoot2 _ (.inr (.inl ⟨x, hx, rfl⟩))).2, fun q hq hk => (hfoot2 A (.inr (.inr ⟨q, hq, hk⟩))).2 rfl, hgd⟩, rfl, hTw9, fun k hk => (hfoot2 k hk).1, fun k hk => by rw [hrb9] at hk; have := hn9 k hk; omega⟩

/-- Feed on whatever bytes -/
theorem feed_any (A : Nat) (L : List (Fg.P × Value)) (vL : Value) (ms : List Ms) (w : World) (h : PAsm A L vL ms w) (v : Value) (l : List Nat) (hb : BytesAt v l w) (h8 : ∀ x ∈ l, x < 256) :
    Calls Try.prog 14 #[.pointer (some ⟨A, 0, none⟩), v] w fun e w' => Fed A L vL ms w (Fg.feedB (L.map Prod.fst) l) e w' := by
  unfold Fg.feedB
  cases hr : Fg.read l with
  | none => exact feed_form A L vL ms w h v l hb h8 hr
  | some p => exact feed_part A L vL ms w h v l hb h8 p hr
end FgW
end Go.Proofs.Ytkjlbginggppaaa


/- The reference's Split on any bytes (FgR): the errors' two arms. -/
namespace Go.Proofs.Ytkjlbginggppaaa
open Go.RowKit
set_option linter.unusedVariables false
set_option linter.unusedSimpArgs false
namespace FgR
theorem split_none (id : Nat) (oa : Option Addr) (cap : Nat) (w : World) :
    Calls Try.prog 12 #[.int .u16 (id : Int), .slice oa 0 cap] w fun e w' => e = .returned (.tuple #[.slice none 0 0, .int .i64 1]) ∧ w' = w := by
  go_enter Try.func12, Try.ntmps12
  go_wp2_with fail
  refine bodyPost_ret (by simp [results, Try.results12, go_sem]) rfl ⟨rfl, rfl⟩
theorem split_long (id : Nat) (oa : Option Addr) (cap n : Nat) (w : World) (h : (4000 : Int) < (n : Int)) :
    Calls Try.prog 12 #[.int .u16 (id : Int), .slice oa n cap] w fun e w' => e = .returned (.tuple #[.slice none 0 0, .int .i64 3]) ∧ w' = w := by
  have h0 : ¬ (n : Int) = 0 := by omega
  go_enter Try.func12, Try.ntmps12
  go_wp2_with fail
  refine bodyPost_ret (by simp [results, Try.results12, go_sem]) rfl ⟨rfl, rfl⟩
/-- Split on any bytes: the answers and, where there is no error, the list of the parts' bytes -/
theorem split_any (id : Nat) (oa : Option Addr) (cap : Nat) (l : List Nat) (w : World) (hid : id < 65536) (hr : RowOf 1 byEnc oa l w) :
    Calls Try.prog 12 #[.int .u16 (id : Int), .slice oa l.length cap] w fun e w' =>
      (l.length = 0 ∧ e = .returned (.tuple #[.slice none 0 0, .int .i64 1]) ∧ w' = w) ∨ (4000 < l.length ∧ e = .returned (.tuple #[.slice none 0 0, .int .i64 3]) ∧ w' = w) ∨
        ((1 ≤ l.length ∧ l.length ≤ 4000) ∧ ∃ v, e = .returned (.tuple #[v, .int .i64 0]) ∧ Lists v ((Fg.split id l).map Fg.bytes) w w' ∧ Turned [] w w') := by
  by_cases h0 : l.length = 0
  · rw [h0]
    exact (split_none id oa cap w).mono fun e w' h => Or.inl ⟨rfl, h⟩
  · by_cases h1 : 4000 < l.length
    · exact (split_long id oa cap l.length w (by omega)).mono fun e w' h => Or.inr (Or.inl ⟨h1, h⟩)
    · exact (split_ok id oa cap l w hid hr (by omega) (by omega)).mono fun e w' h => Or.inr (Or.inr ⟨⟨by omega, by omega⟩, h⟩)
end FgR
end Go.Proofs.Ytkjlbginggppaaa


/- The bytes of the laws' messages; whether two lists of bytes' lists are the same (FgL). -/
namespace Go.Proofs.Ytkjlbginggppaaa
open Go.RowKit
set_option linter.unusedVariables false
set_option linter.unusedSimpArgs false

namespace Fg
/-- a message of so many bytes, of x on, round -/
def msg (size x : Nat) : List Nat := (List.range (size % 4200)).map fun i => (x + i % 251) % 256
theorem msg_len (size x : Nat) : (msg size x).length = size % 4200 := by unfold msg; rw [List.length_map, List.length_range]
theorem msg_lt (size x : Nat) : ∀ y ∈ msg size x, y < 256 := by
  intro y hy
  obtain ⟨i, _, rfl⟩ := List.mem_map.1 hy
  omega
theorem msg_next (x k : Nat) : ((List.range (k + 1)).map fun i => (x + i % 251) % 256) = ((List.range k).map fun i => (x + i % 251) % 256) ++ [(x + k % 251) % 256] := by
  rw [List.range_succ, List.map_append]; rfl
end Fg

namespace FgL
set_option maxRecDepth 20000 in
set_option maxHeartbeats 2000000 in
theorem bytes_any (id size x : Nat) (hs : size < 65536) (hx : x < 256) (w : World) :
    Calls Try.prog 11 #[.agg #[.int .u16 (id : Int), .int .u16 (size : Int), .int .u8 (x : Int)]] w fun e w' => ∃ v', e = .returned v' ∧ OwnL 5 1 byEnc v' (Fg.msg size x) w' ∧ Turned [] w w' ∧ ∀ k ∈ blk v', w.heap.size ≤ k := by
  obtain ⟨n, hn⟩ : ∃ n, n = size % 4200 := ⟨_, rfl⟩
  have HM : Hid (Fg.msg size x = (List.range n).map fun i => (x + i % 251) % 256) := by show _ = _; unfold Fg.msg; rw [hn]
  have hn2 : (size : Int) % 4200 = (n : Int) := by omega
  have hn3 : (n : Int) < 4200 := by omega
  have hx2 : (x : Int) < 256 := by omega
  clear hn
  go_enter Try.func11, Try.ntmps11
  go_wp2_with fail
  obtain ⟨W0, hW0⟩ : ∃ W, W = w.alloc (.cells #[.int .u16 (id : Int), .int .u16 (size : Int), .int .u8 (x : Int)] 24) := ⟨_, rfl⟩
  obtain ⟨B, hB⟩ : ∃ B, B = w.heap.size := ⟨_, rfl⟩
  rw [← hW0, ← hB]
  have ht0 : Turned [] w W0 := by rw [hW0]; exact (Turned.refl [] w).alloc _
  have hS : Struct B [.int .u16 (id : Int), .int .u16 (size : Int), .int .u8 (x : Int)] W0 := by rw [hW0, hB]; exact Struct.new w [.int .u16 (id : Int), .int .u16 (size : Int), .int .u8 (x : Int)] _
  clear hW0 hB
  go_loopw [3, 4] (fun o i wr => ∃ k : Nat, k ≤ n ∧ i = .int .i64 (k : Int) ∧ OwnL 5 1 byEnc o ((List.range k).map fun i => (x + i % 251) % 256) wr ∧ Turned [] W0 wr ∧ ∀ q ∈ blk o, W0.heap.size ≤ q) (fun _ i _ => n - (intOf i).toNat)
  case atStart => exact ⟨0, by omega, rfl, OwnL.nil _ _ _ _, Turned.refl _ _, by simp [blk, Value.ownBlock]⟩
  case round =>
    obtain ⟨k, hk, rfl, hout, ht, hnew⟩ := hrel
    have hSr := hS.keep ht (by simp)
    have s1 := (hSr.2 1 _ rfl).1
    have s2 := (hSr.2 2 _ rfl).1
    by_cases hlt : (k : Int) < (n : Int)
    · have HX : Hid (_ = _) := Fg.msg_next x k
      obtain ⟨X, hX⟩ : ∃ X, X = (List.range k).map fun i => (x + i % 251) % 256 := ⟨_, rfl⟩
      have hXl : X.length = k := by rw [hX, List.length_map, List.length_range]
      rw [← hX] at hout HX
      clear hX
      have b1 : X.length + 1 ≤ maxLen := by unfold maxLen; omega
      have b2 : (X.length + 1) * 1 ≤ 140737488355328 := by omega
      obtain ⟨z, hz⟩ : ∃ z, z = (x + k % 251) % 256 := ⟨_, rfl⟩
      have hz2 : ((x : Int) + (k : Int) % 251) % 256 = (z : Int) := by omega
      rw [← hz] at HX
      have HXL : Hid (X.length = k) := hXl
      clear hz hXl
      go_wp2_with (at_builtin; refine wp_push (v := u3) elem_u8 rfl _ _ rfl rfl (hout.keep ((Turned.refl [] wr).alloc _) (by simp)) wr.heap.size 0 1 1 [z] rfl rfl byEnc_len byEnc_one (one_cell rfl wr _) b1 b2 ?_; intro v' w1 ho1 ht1 hb1)
      go_roundw
      case rel => exact ⟨k + 1, by omega, by go_num, by rw [HX.out]; exact ho1, ht.trans (((Turned.refl (blk u3) wr).alloc _).trans ht1 (fun k hk _ => hk)) (fun k hk hl => by have := hnew k hk; omega), BtR.fresh hnew ht hb1⟩
      case measure => simp [intOf]; omega
    · have hkn : k = n := by omega
      subst hkn
      go_wp2_with fail
      go_ret
      exact ⟨_, rfl, by rw [HM.out]; exact hout, ht0.trans ht (by simp), fun q hq => Nat.le_trans ht0.size (hnew q hq)⟩
end FgL
end Go.Proofs.Ytkjlbginggppaaa


/- A region that draws its order, in a round of a range over a function: by the plain walk's laws. Blocks of cells, which such a range's own book-keeping never turns. Over any program. -/
namespace Go.Proofs.Ytkjlbginggppaaa
open Go.RowKit
set_option linter.unusedVariables false

section
variable {P : Program} {ops : Array Oper} {Q : Exit → Act → World → Prop} {l n : Nat}
theorem rowsIn_round {row : String} {args : Array Value} {w : World} {R : Value → World → Prop} (h : Rows P row args w R) : RowsIn (Fence.wide.inRound l) n P row args w R := fun c cs _ =>
  let ⟨v, w', r, s⟩ := h c cs
  ⟨v, w', r, (show StepsIn (Machine.fenced P Fence.wide) P _ _ from stepsIn_wide.2 s)⟩
theorem op_round {o : Oper} {a : Act} {w : World} {K : Act → World → Prop} (hd : ∀ c, o.op ≠ .defer c) (h : o.wp P a w K Q) : o.wpIn (Fence.wide.inRound l) n P a w K Q := by
  refine ⟨fun _ _ => trivial, ?_⟩
  show o.uponIn (Fence.wide.inRound l) n P a K Q ((o.semAt (some l) a.eval).run P w)
  rw [Oper.semAt_eq _ _ _ hd]
  unfold Oper.wp at h
  generalize (execOp a.eval o).run P w = r at *
  cases r with
  | ok x w' =>
    cases x with
    | value v => exact h
    | skip => exact h
    | defer d => exact h
    | enter f args => exact ⟨fun h => (by cases h), CallsIn.inRound l (callsIn_wide.2 h)⟩
    | row r args => exact ⟨fun h => (by cases h), rowsIn_round h⟩
    | _ => exact h.elim
  | halt x w' => cases x <;> first | exact h | exact h.elim
theorem any_round {md : Region.Mode} (hd : ∀ o ∈ ops.toList, ∀ c, o.op ≠ .defer c) (hL : ¬ LetsOut Q) : ∀ (fuel : Nat) (listed : Array Bool) (a : Act) (w : World), wpAny P md ops Q fuel listed a w → wpAnyIn (Fence.wide.inRound l) n P md ops Q fuel listed a w
  | 0, _, _, _, h => h
  | fuel + 1, listed, a, w, h => by
    refine ⟨h.1, fun i hi => ?_⟩
    have h1 := h.2 i hi
    unfold wpOp at h1
    unfold wpOpIn
    split
    · rename_i hn
      rw [hn] at h1
      exact any_round hd hL fuel _ _ _ h1
    · rename_i o ho
      rw [ho] at h1
      simp only at h1
      split
      · rename_i hw
        rw [if_pos hw] at h1
        rcases h1 with h1 | h1
        · exact Oper.wpIn_mono (fun a w h => any_round hd hL fuel _ _ _ h) (op_round (hd o (List.mem_of_getElem? (by simpa using ho))) h1)
        · exact absurd h1.2 hL
      · rename_i hw
        rw [if_neg hw] at h1
        exact ⟨fun _ _ => trivial, any_round hd hL fuel _ _ _ h1⟩
/-- a region that draws its order, in a round -/
theorem region_round {id : Nat} {a : Act} {w : World} {S : World → Prop} (hm : P.follows .mixedOrders = true) (hd : ∀ o ∈ ops.toList, ∀ c, o.op ≠ .defer c) (hL : ¬ LetsOut Q)
    (h : wpAnyH P .any ops Q S ops.size (Array.replicate ops.size false) a w.drew) : (Code.region id ops true).wpIn (Fence.wide.inRound l) n P Q a w :=
  wpIn_region_any hm (any_round hd hL _ _ _ _ (wpAny_of_held _ _ _ _ h))
end

/-- block k holds cells -/
def CellsAt (k : Nat) (w : World) : Prop := ∃ o, w.heap[k]? = some o ∧ o.isCells = true
theorem CellsAt.keep {k : Nat} {w w' : World} {S : List Nat} (h : CellsAt k w) (ht : Turned S w w') (hd : k ∉ S) : CellsAt k w' := by
  obtain ⟨o, h1, h2⟩ := h
  exact ⟨o, (ht.block k (Array.getElem?_eq_some_iff.1 h1).1 hd).trans h1, h2⟩
theorem CellsAt.lt {k : Nat} {w : World} (h : CellsAt k w) : k < w.heap.size := by
  obtain ⟨o, h1, _⟩ := h
  exact (Array.getElem?_eq_some_iff.1 h1).1
theorem cells_of_cell {w : World} {p i : Nat} {u : Value} (h : w.cell? ⟨p, i, none⟩ = some u) : CellsAt p w := by
  unfold World.cell? at h
  cases hp : w.heap[p]? with
  | none => simp [hp] at h
  | some o => cases o <;> simp [hp] at h <;> exact ⟨_, hp, rfl⟩
theorem Struct.cellsAt {p : Nat} {c : Value} {cs : List Value} {w : World} (h : Struct p (c :: cs) w) : CellsAt p w := cells_of_cell (h.2 0 c rfl).1
theorem OwnL.cellsAt {α : Type} {e : TypeId} {sz : Nat} {enc : α → List Value} {v : Value} {l : List α} {w : World} (h : OwnL e sz enc v l w) : ∀ k ∈ blk v, CellsAt k w := by
  intro k hk
  rcases h.2 with ⟨rfl, _⟩ | ⟨g, cap, cur, rfl, _, hgg, _⟩
  · simp [blk, Value.ownBlock] at hk
  · simp [blk, Value.ownBlock] at hk
    subst hk
    exact ⟨_, hgg, rfl⟩
/-- what such a range turns of its own -/
theorem turned_row {w w' : World} {row : Option Nat} (hg : w.grownBy w' row) : Turned row.toList w w' :=
  ⟨hg.os, hg.tape, hg.output, hg.size, fun k hk hn => hg.block k hk fun e => hn (by rw [← e]; simp)⟩
theorem row_apart {w : World} {row : Option Nat} {B : Nat} (hr : ∀ r, row = some r → B ≤ r ∧ ∃ o : Obj, w.heap[r]? = some o ∧ o.isCells = false) {k : Nat} (hk : CellsAt k w) : k ∉ row.toList := by
  intro hm
  have e : row = some k := by simpa using hm
  obtain ⟨_, o, h1, h2⟩ := hr k e
  obtain ⟨o', h3, h4⟩ := hk
  rw [h1] at h3
  cases h3
  rw [h2] at h4
  cases h4
/-- what is no cells lies as it lay -/
theorem Turned.keepsFrom {S : List Nat} {w w' : World} (ht : Turned S w w') (hS : ∀ k ∈ S, k < w.heap.size → CellsAt k w) (B : Nat) : KeepsFrom B w w' := by
  refine ⟨ht.size, fun k o _ hk ho => ?_⟩
  have hlt := (Array.getElem?_eq_some_iff.1 hk).1
  refine (ht.block k hlt fun hm => ?_).trans hk
  obtain ⟨o', h3, h4⟩ := hS k hm hlt
  rw [hk] at h3
  cases h3
  rw [ho] at h4
  cases h4
end Go.Proofs.Ytkjlbginggppaaa


/- slices.Chunk over bytes: what it gives, piece by piece (FgW). -/
namespace Go.Proofs.Ytkjlbginggppaaa
open Go.RowKit
set_option linter.unusedVariables false
set_option linter.unusedSimpArgs false
attribute [local go_sem] Oper.semAt_some

namespace FgW
def cl (len k : Nat) : Nat := min 300 (len - 300 * k)
set_option maxRecDepth 20000 in
set_option maxHeartbeats 4000000 in
theorem chunk1_in (n l Bs Bn g off len cap : Nat) (hlen : len ≤ 4000) (hcap : len ≤ cap) (J Jx : List Nat → World → Prop) (W : World) (hJ0 : AbidesFrom W.heap.size J)
    (hY : ∀ pre x W1, J pre W1 → pre.length < (len + 299) / 300 → YieldAt Fence.wide (n - 1) Try.prog l #[.slice (some ⟨g, off + 300 * x, none⟩) (cl len x) (cl len x)] W1 fun e W' =>
      (e = .returned (.bool true) ∧ J (pre ++ [x]) W' ∧ (∀ k ∈ [Bs, Bn], W'.heap[k]? = W1.heap[k]?)) ∨ (e = .returned (.bool false) ∧ Jx (pre ++ [x]) W'))
    (hBs : W.cell? ⟨Bs, 0, none⟩ = some (.slice (some ⟨g, off, none⟩) len cap)) (hBn : W.cell? ⟨Bn, 0, none⟩ = some (.int .i64 300)) (h0 : J [] W) :
    CallsIn Fence.wide n Try.prog 33 #[.func (.yield l) #[] #[], .pointer (some ⟨Bs, 0, none⟩), .pointer (some ⟨Bn, 0, none⟩)] W fun e W' => (∃ v, e = .returned v) ∧
      ((∃ ys, ys = List.range ((len + 299) / 300) ∧ J ys W') ∨ (∃ pre, True ∧ Jx pre W')) := by
  refine callsIn_of_wp Try.func33 rfl trivial ?_ rfl
  simp only [Try.ntmps33, List.size_toArray, List.length_cons, List.length_nil, Nat.reduceAdd, Nat.reduceSub, Array.replicate_succ, Array.replicate_zero, List.push_toArray, List.append_toArray, List.nil_append, List.cons_append]
  gi_wp2
  gi_loopw [4] (fun i wr => ∃ k j : Nat, j = 300 * k ∧ k ≤ (len + 299) / 300 ∧ i = .int .i64 (j : Int) ∧ J (List.range k) wr ∧ (∀ b ∈ [Bs, Bn], wr.heap[b]? = W.heap[b]?))
    (fun i _ => 5000 - (intOf i).toNat)
  case atStart => exact ⟨0, 0, rfl, Nat.zero_le _, rfl, h0, fun _ _ => rfl⟩
  case round =>
    obtain ⟨k, j, hj, hk, rfl, hJs, hsame⟩ := hrel
    have c1 : wr.cell? ⟨Bs, 0, none⟩ = some (.slice (some ⟨g, off, none⟩) len cap) := (World.cell?_of_block (w := W) (hsame Bs (by simp))).trans hBs
    have c2 : wr.cell? ⟨Bn, 0, none⟩ = some (.int .i64 300) := (World.cell?_of_block (w := W) (hsame Bn (by simp))).trans hBn
    by_cases hlt : (j : Int) < (len : Int)
    · obtain ⟨c, hc⟩ : ∃ c, c = cl len k := ⟨_, rfl⟩
      have hc0 : (1 : Int) ≤ (c : Int) := by rw [hc]; unfold cl; omega
      have hc1 : (c : Int) ≤ 300 := by rw [hc]; unfold cl; omega
      have hc2 : (j : Int) + (c : Int) ≤ (len : Int) := by rw [hc]; unfold cl; omega
      have hc3 : (len : Int) ≤ (cap : Int) := by omega
      have hc4 : (len : Int) ≤ 4000 := by omega
      have hkl : k < (len + 299) / 300 := by omega
      have hdr : wr.grownBy wr.drew none := ⟨rfl, rfl, rfl, Nat.le_refl _, fun _ _ _ => rfl⟩
      have hmin : (if (len : Int) - (j : Int) < 300 then (len : Int) - (j : Int) else 300) = (c : Int) := by rw [hc]; unfold cl; split <;> omega
      obtain ⟨fn, tmps, assign, body, hy, hR⟩ := hY _ k wr.drew (hJ0 _ wr wr.drew none hJs hdr (fun r e => by cases e)) (by rw [List.length_range]; exact hkl)
      rw [← hc, ← hj] at hy
      have HJ : Hid (j = 300 * k) := hj
      have HC : Hid (c = cl len k) := hc
      have hcap1 : ¬ cap = j := by omega
      clear hj hc hY
      gi_wp2
      by_cases h300 : 300 ≤ len - j
      · obtain rfl : c = 300 := by omega
        have hmore : (300 : Int) ≤ ((len - j : Nat) : Int) := by omega
        have hto : ((j : Int) + 300).toNat - j = 300 := by omega
        refine wpIn_wide.2 ?_
        go_region
        gi_wp2
        refine ⟨fun h => (by cases h), hR.mono ?_⟩
        rintro e W3 (⟨rfl, hJ3, hk3⟩ | ⟨rfl, hJx3⟩)
        · have d2 : W3.cell? ⟨Bn, 0, none⟩ = some (.int .i64 300) := (World.cell?_of_block (w := wr) (hk3 Bn (by simp))).trans c2
          gi_wp2
          go_roundw
          case rel => exact ⟨k + 1, j + 300, by have := HJ.out; omega, by omega, by go_num, by rw [List.range_succ]; exact hJ3, fun b hb => (hk3 b hb).trans (hsame b hb)⟩
          case measure => simp [intOf]; omega
        · gi_wp2
          refine bodyPost_ret (results_none rfl _ _ _) rfl ?_
          exact ⟨⟨_, rfl⟩, .inr ⟨_, trivial, hJx3⟩⟩
      · obtain hce : len - j = c := by omega
        have hless : (c : Int) < 300 := by omega
        have hto : ((j : Int) + (c : Int)).toNat - j = c := by omega
        refine wpIn_wide.2 ?_
        go_region
        gi_wp2
        refine ⟨fun h => (by cases h), hR.mono ?_⟩
        rintro e W3 (⟨rfl, hJ3, hk3⟩ | ⟨rfl, hJx3⟩)
        · have d2 : W3.cell? ⟨Bn, 0, none⟩ = some (.int .i64 300) := (World.cell?_of_block (w := wr) (hk3 Bn (by simp))).trans c2
          gi_wp2
          go_roundw
          case rel => exact ⟨k + 1, j + 300, by have := HJ.out; omega, by omega, by go_num, by rw [List.range_succ]; exact hJ3, fun b hb => (hk3 b hb).trans (hsame b hb)⟩
          case measure => simp [intOf]; omega
        · gi_wp2
          refine bodyPost_ret (results_none rfl _ _ _) rfl ?_
          exact ⟨⟨_, rfl⟩, .inr ⟨_, trivial, hJx3⟩⟩
    · have hkn : k = (len + 299) / 300 := by omega
      gi_wp2
      go_end0
      exact ⟨⟨_, rfl⟩, .inl (by rw [← hkn]; exact hJs)⟩
set_option maxHeartbeats 1000000 in
theorem chunk_any (oa : Option Addr) (len cap : Nat) (w : World) :
    Calls Try.prog 19 #[.slice oa len cap, .int .i64 300] w fun e w' => e = .returned (.func (.func 33) #[] #[.pointer (some ⟨w.heap.size, 0, none⟩), .pointer (some ⟨w.heap.size + 1, 0, none⟩)]) ∧ w' = (w.alloc (.cells #[.slice oa len cap] 25)).alloc (.cells #[.int .i64 300] 3) := by
  have hmf : ∀ (fn : Fn) (first cap : Array Value) (u : World), (Instr.makeFunc fn first cap).run Try.prog u = .ok (.func fn first cap) u := fun _ _ _ _ => rfl
  go_enter Try.func19, Try.ntmps19
  go_wp2_with fail
  go_ret
  exact ⟨rfl, rfl⟩
end FgW
end Go.Proofs.Ytkjlbginggppaaa


/- A message is parted: the program's (FgW). -/
namespace Go.Proofs.Ytkjlbginggppaaa
open Go.RowKit
set_option linter.unusedVariables false
set_option linter.unusedSimpArgs false
attribute [local go_sem] Oper.semAt_some

namespace FgW
/-- the bytes of the parts that came so far -/
def come (id M : Nat) (l : List Nat) (pre : List Nat) : List (List Nat) := pre.mapIdx fun i k => Fg.bytes ⟨id, M, i, Fg.piece l k⟩
theorem come_next (id M : Nat) (l pre : List Nat) (k : Nat) : come id M l (pre ++ [k]) = come id M l pre ++ [Fg.bytes ⟨id, M, pre.length, Fg.piece l k⟩] := by
  unfold come; rw [List.mapIdx_append]; simp
theorem come_all (id : Nat) (l : List Nat) : come id (Fg.many l) l (List.range (Fg.many l)) = (Fg.split id l).map Fg.bytes := by
  unfold come Fg.split
  rw [List.map_map]
  refine List.ext_getElem (by simp) fun i h1 h2 => ?_
  simp [Fg.part]
/-- what lies between two rounds -/
def Between (w : World) (id M : Nat) (l : List Nat) (E : List Nat) (Bn Bp : Nat) (pre : List Nat) (W : World) : Prop :=
  ∃ v Q, Struct Bn [.int .u16 (id : Int), .int .i64 (M : Int)] W ∧ Struct Bp [v] W ∧ OwnL 25 1 slEnc v Q W ∧ Q.map Prod.fst = come id M l pre ∧
    (∀ q ∈ Q, BytesAt q.2 q.1 W ∧ ∀ k ∈ rblk q.2, w.heap.size ≤ k ∧ k ∉ Bp :: blk v ∧ CellsAt k W) ∧ (∀ k ∈ blk v, w.heap.size ≤ k ∧ k ∉ E) ∧ Turned [] w W ∧ ∀ x ∈ E, x < W.heap.size
theorem Between.abides {w W0 : World} {id M : Nat} {l E : List Nat} {Bn Bp : Nat} (hw : w.heap.size ≤ W0.heap.size) : OwnFrom W0.heap.size (Between w id M l E Bn Bp) := by
  rintro pre A B row ⟨v, Q, h1, h2, h3, h4, h5, h6, h7, h9⟩ hg hr
  have ht := turned_row hg
  have hap : ∀ {k}, CellsAt k A → k ∉ row.toList := fun hk => row_apart hr hk
  refine ⟨v, Q, h1.keep ht (hap h1.cellsAt), h2.keep ht (hap h2.cellsAt), h3.keep ht fun k hk => hap (h3.cellsAt k hk), h4, ?_, h6, ?_⟩
  · intro q hq
    obtain ⟨a, b⟩ := h5 q hq
    exact ⟨a.keep ht fun k hk => hap (b k hk).2.2, fun k hk => ⟨(b k hk).1, (b k hk).2.1, (b k hk).2.2.keep ht (hap (b k hk).2.2)⟩⟩
  · refine ⟨h7.trans ht ?_, fun x hx => Nat.lt_of_lt_of_le (h9 x hx) hg.size⟩
    intro k hk hl
    have e : row = some k := by simpa using hk
    have := (hr k e).1
    omega

/-- a round's end -/
theorem Between.next {w W u6 w1 : World} {id M : Nat} {l E : List Nat} {Bn Bp C0 C1 B : Nat} {pre : List Nat} {v vp v' : Value} {Q : List (List Nat × Value)} {X : List Nat} {k : Nat} {o : Obj}
    (hX : X = Fg.bytes ⟨id, M, pre.length, Fg.piece l k⟩) (hE : E = [Bn, Bp, C0, C1]) (hd : ∀ x ∈ E, w.heap.size ≤ x ∧ x < W.heap.size) (hne : Bn ≠ Bp ∧ C0 ≠ Bp ∧ C1 ≠ Bp)
    (h1 : Struct Bn [.int .u16 (id : Int), .int .i64 (M : Int)] W) (h2 : Struct Bp [v] W) (h3 : OwnL 25 1 slEnc v Q W) (h4 : Q.map Prod.fst = come id M l pre)
    (h5 : ∀ q ∈ Q, BytesAt q.2 q.1 W ∧ ∀ k ∈ rblk q.2, w.heap.size ≤ k ∧ k ∉ Bp :: blk v ∧ CellsAt k W) (h6 : ∀ k ∈ blk v, w.heap.size ≤ k ∧ k ∉ E) (h7 : Turned [] w W)
    (hT6 : Turned [] W u6) (hvp : OwnL 5 1 byEnc vp X u6) (hvpn : ∀ k ∈ blk vp, W.heap.size ≤ k)
    (ho1 : OwnL 25 1 slEnc v' (Q ++ [(X, vp)]) w1) (ht1 : Turned (blk v) (u6.alloc o) w1) (hb1 : blk v' = blk v ∨ blk v' = [(u6.alloc o).heap.size]) :
    (KeepsFrom B W (w1.setCell ⟨Bp, 0, none⟩ v') ∧ (∀ b ∈ [C0, C1], (w1.setCell ⟨Bp, 0, none⟩ v').heap[b]? = W.heap[b]?) ∧ Between w id M l E Bn Bp (pre ++ [k]) (w1.setCell ⟨Bp, 0, none⟩ v')) ∧ Struct Bp [v] w1 := by
  have T1 : Turned (blk v) W w1 := Turned.trans (S' := blk v) ((hT6.alloc o).mono (by simp)) ht1 (fun k hk _ => hk)
  have hBpv : Bp ∉ blk v := fun hm => (h6 Bp hm).2 (by rw [hE]; simp)
  have T2 : Turned (Bp :: blk v) W (w1.setCell ⟨Bp, 0, none⟩ v') := (T1.mono (fun k hk _ => List.mem_cons_of_mem _ hk)).setCell (p := ⟨Bp, 0, none⟩) (.inl (by simp)) _
  have T3 : Turned (Bp :: blk v) u6 (w1.setCell ⟨Bp, 0, none⟩ v') := ((Turned.trans (S' := blk v) (((Turned.refl [] u6).alloc o).mono (by simp)) ht1 (fun k hk _ => hk)).mono (fun k hk _ => List.mem_cons_of_mem _ hk)).setCell (p := ⟨Bp, 0, none⟩) (.inl (by simp)) _
  have hs6 := hT6.size
  have hS1 : Struct Bp [v] w1 := h2.keep T1 hBpv
  have hnot : ∀ x ∈ E, x ∉ blk v := fun x hx hm => (h6 x hm).2 hx
  have hBpl : Bp < W.heap.size := h2.1
  have hv' : ∀ x ∈ blk v', x ∈ blk v ∨ u6.heap.size ≤ x := by
    intro x hx
    rcases hb1 with h | h
    · rw [h] at hx; exact .inl hx
    · rw [h] at hx; simp at hx; exact .inr (by omega)
  have hvl := h3.lt
  refine ⟨⟨T2.keepsFrom ?_ B, ?_, v', Q ++ [(X, vp)], ?_, ?_, ?_, ?_, ?_, ?_, ?_⟩, hS1⟩
  · intro x hx _
    rcases List.mem_cons.1 hx with rfl | hx
    · exact h2.cellsAt
    · exact h3.cellsAt x hx
  · intro b hb
    have hbE : b ∈ E := by rw [hE]; simp at hb ⊢; omega
    refine T2.block b (hd b hbE).2 ?_
    intro hm
    rcases List.mem_cons.1 hm with rfl | hm
    · simp at hb; omega
    · exact hnot b hbE hm
  · refine h1.keep T2 ?_
    intro hm
    rcases List.mem_cons.1 hm with e | hm
    · exact hne.1 e
    · exact hnot Bn (by rw [hE]; simp) hm
  · exact hS1.set (i := 0) (by simp) v'
  · refine ho1.keep (S := [Bp]) ((Turned.refl [Bp] w1).setCell (.inl (by simp)) _) ?_
    intro x hx hm
    simp at hm
    subst hm
    rcases hv' x hx with h | h
    · exact hBpv h
    · omega
  · rw [List.map_append, h4, come_next, ← hX]; rfl
  · intro q hq
    rcases List.mem_append.1 hq with hq | hq
    · obtain ⟨a, b⟩ := h5 q hq
      refine ⟨a.keep T2 fun x hx => (b x hx).2.1, fun x hx => ⟨(b x hx).1, ?_, (b x hx).2.2.keep T2 (b x hx).2.1⟩⟩
      intro hm
      rcases List.mem_cons.1 hm with e | hm
      · exact (b x hx).2.1 (by rw [e]; simp)
      · rcases hv' x hm with h | h
        · exact (b x hx).2.1 (List.mem_cons_of_mem _ h)
        · have := (b x hx).2.2.lt; omega
    · rw [List.mem_singleton.1 hq]
      obtain ⟨a, e⟩ := own_bytes hvp
      have hap : ∀ x ∈ rblk vp, x ∉ Bp :: blk v := by
        intro x hx hm
        rw [e] at hx
        have := hvpn x hx
        rcases List.mem_cons.1 hm with e' | hm
        · omega
        · have := hvl x hm; omega
      refine ⟨a.keep T3 hap, fun x hx => ?_⟩
      have hx2 := hx
      rw [e] at hx2
      refine ⟨Nat.le_trans h7.size (hvpn x hx2), ?_, (hvp.cellsAt x hx2).keep T3 (hap x hx)⟩
      intro hm
      have h9 := hvpn x hx2
      rcases List.mem_cons.1 hm with e' | hm
      · omega
      · rcases hb1 with h | h
        · rw [h] at hm; have := hvl x hm; omega
        · rw [h] at hm; simp at hm; have := hvp.lt x hx2; omega
  · intro x hx
    rcases hv' x hx with h | h
    · exact h6 x h
    · refine ⟨by have := h7.size; omega, fun hm => by have := (hd x hm).2; omega⟩
  · refine ⟨h7.trans T2 ?_, fun x hx => Nat.lt_of_lt_of_le (hd x hx).2 T2.size⟩
    intro x hx hl
    rcases List.mem_cons.1 hx with rfl | hx
    · have := (hd x (by rw [hE]; simp)).1; omega
    · have := (h6 x hx).1; omega

set_option maxRecDepth 20000 in
set_option maxHeartbeats 8000000 in
theorem split_ok (id : Nat) (oa : Option Addr) (cap : Nat) (l : List Nat) (w : World) (hid : id < 65536) (hr : RowOf 1 byEnc oa l w) (h8 : ∀ x ∈ l, x < 256) (hcap : l.length ≤ cap) (h0 : 1 ≤ l.length) (h1 : l.length ≤ 4000) :
    Calls Try.prog 10 #[.int .u16 (id : Int), .slice oa l.length cap] w fun e w' => ∃ v, e = .returned (.tuple #[v, .int .i64 0]) ∧ Lists v ((Fg.split id l).map Fg.bytes) w w' ∧ Turned [] w w' := by
  obtain ⟨n, hn⟩ : ∃ n, n = l.length := ⟨_, rfl⟩
  obtain ⟨M, hM⟩ : ∃ M, M = Fg.many l := ⟨_, rfl⟩
  have hM0 : M = (n + 299) / 300 := by rw [hM, hn]; rfl
  have hM1 : ((n : Int) + 300 - 1).tdiv 300 = (M : Int) := by rw [hM0]; rw [Int.tdiv_eq_ediv_of_nonneg (by omega)]; omega
  have hM2 : ((n : Int) + 300 - 1) / 300 = (M : Int) := by omega
  have hM3 : ((n : Int) + 299) / 300 = (M : Int) := by omega
  have hn0 : ¬ (n : Int) = 0 := by omega
  have hn1 : ¬ (4000 : Int) < (n : Int) := by omega
  have HM : Hid (M = Fg.many l) := hM
  have HM0 : Hid (M = (n + 299) / 300) := hM0
  have HNL : Hid (n = l.length) := hn
  rw [← hn] at hcap ⊢
  clear hM hn hM0
  obtain ⟨a0, ha0⟩ : ∃ a, l[0]? = some a := ⟨_, List.getElem?_eq_getElem (by omega)⟩
  obtain ⟨g, off, rfl, hg, _⟩ := hr 0 a0 ha0
  clear ha0 h0 h1
  refine callsIn_wide.1 (callsIn_of_wp_marks (n := 3) Try.func10 rfl trivial (wpIn_wide.2 ?_) rfl)
  simp only [Try.ntmps10, List.size_toArray, List.length_cons, List.length_nil, Nat.reduceAdd, Nat.reduceSub, Array.replicate_succ, Array.replicate_zero, List.push_toArray, List.append_toArray, List.nil_append, List.cons_append]
  go_wp2_with (go_at_call 19; (with_reducible refine (chunk_any _ _ _ _).mono ?_); rintro e w' ⟨rfl, rfl⟩)
  obtain ⟨W0, hW0⟩ : ∃ W0, W0 = ((((w.alloc (.cells #[.int .u16 (id : Int), .int .i64 (M : Int)] 61)).alloc (.cells #[.slice none 0 0] 27)).alloc (.cells #[.slice (some ⟨g, off, none⟩) n cap] 25)).alloc (.cells #[.int .i64 300] 3)) := ⟨_, rfl⟩
  obtain ⟨B, hB⟩ : ∃ B, B = w.heap.size := ⟨_, rfl⟩
  rw [← hW0, ← hB]
  simp only [Nat.add_assoc, Nat.reduceAdd]
  have hT0 : Turned [] w W0 := by rw [hW0]; exact ((((Turned.refl [] w).alloc _).alloc _).alloc _).alloc _
  have hsz : W0.heap.size = B + 4 := by rw [hW0, hB]; simp
  have e1 : Struct B [.int .u16 (id : Int), .int .i64 (M : Int)] W0 := by
    rw [hW0, hB]; exact (((Struct.new w [.int .u16 (id : Int), .int .i64 (M : Int)] _).keep ((Turned.refl [] _).alloc _) (by simp)).keep ((Turned.refl [] _).alloc _) (by simp)).keep ((Turned.refl [] _).alloc _) (by simp)
  have e2 : Struct (B + 1) [.slice none 0 0] W0 := by
    rw [hW0, hB]
    have := Struct.new (w.alloc (.cells #[.int .u16 (id : Int), .int .i64 (M : Int)] 61)) [.slice none 0 0] 27
    rw [World.size_alloc] at this
    exact (this.keep ((Turned.refl [] _).alloc _) (by simp)).keep ((Turned.refl [] _).alloc _) (by simp)
  have e3 : Struct (B + 2) [.slice (some ⟨g, off, none⟩) n cap] W0 := by
    rw [hW0, hB]
    have := Struct.new ((w.alloc (.cells #[.int .u16 (id : Int), .int .i64 (M : Int)] 61)).alloc (.cells #[.slice none 0 0] 27)) [.slice (some ⟨g, off, none⟩) n cap] 25
    rw [World.size_alloc, World.size_alloc] at this
    exact this.keep ((Turned.refl [] _).alloc _) (by simp)
  have e4 : Struct (B + 3) [.int .i64 300] W0 := by
    rw [hW0, hB]
    have := Struct.new (((w.alloc (.cells #[.int .u16 (id : Int), .int .i64 (M : Int)] 61)).alloc (.cells #[.slice none 0 0] 27)).alloc (.cells #[.slice (some ⟨g, off, none⟩) n cap] 25)) [.int .i64 300] 3
    rw [World.size_alloc, World.size_alloc, World.size_alloc] at this
    exact this
  have HBW : Hid (B = w.heap.size) := hB
  have HSZ : Hid (W0.heap.size = B + 4) := hsz
  clear hW0 hB hsz
  have hseq : SeqStopsK Fence.wide (3 - 1) Try.prog 33 #[.pointer (some ⟨B + 2, 0, none⟩), .pointer (some ⟨B + 3, 0, none⟩)] (fun x : Nat => #[Value.slice (some ⟨g, off + 300 * x, none⟩) (cl n x) (cl n x)]) (fun W W' => ∀ k ∈ [B + 2, B + 3], W'.heap[k]? = W.heap[k]?) (fun xs => xs = List.range ((n + 299) / 300)) (fun _ => True) ((n + 299) / 300) W0 := by
    intro l' J Jx W hW hJ hJx hY h0
    have hb : ∀ k, k < B + 4 → W.heap[k]? = W0.heap[k]? := fun k hk => hW.block k (by rw [HSZ.out]; exact hk)
    exact chunk1_in _ l' (B + 2) (B + 3) g off n cap (by have := HNL.out; omega) hcap J Jx W hJ hY ((World.cell?_of_block (w := W0) (hb _ (by show B + 2 < B + 4; omega))).trans (e3.2 0 _ rfl).1) ((World.cell?_of_block (w := W0) (hb _ (by show B + 3 < B + 4; omega))).trans (e4.2 0 _ rfl).1) h0
  refine wpIn_wide.1 (wpIn_rangeFunc_ownG (n := 3) rfl (by omega) (gf := 33) (lb := #[.pointer (some ⟨B + 2, 0, none⟩), .pointer (some ⟨B + 3, 0, none⟩)]) rfl trivial (enters_of Try.func33 (by kernel_rfl) rfl)
    hseq (fun h k b hb => (k b hb).trans (h b hb)) (fun W k o o' hk _ _ _ b hb => World.putObj_heap_other (by have := HSZ.out; simp at hb; omega)) (Below.refl _ _) (fun _ => rfl)
    (Between w id M l [B, B + 1, B + 2, B + 3] B (B + 1)) (fun _ _ _ => False) (Between.abides hT0.size) (fun _ _ _ _ _ h _ _ => h)
    ⟨.slice none 0 0, [], e1, e2, OwnL.nil _ _ _ _, rfl, fun q hq => (by cases hq), by simp [blk, Value.ownBlock], hT0, by intro y hy; have := HSZ.out; simp at hy; omega⟩
    (fun x => { tmps := #[.int .u16 (id : Int), .slice (some ⟨g, off, none⟩) n cap, undef, undef, .slice none 0 0, .int .i64 0, .pointer (some ⟨B, 0, none⟩), .pointer (some ⟨B + 1, 0, none⟩), .slice (some ⟨g, off + 300 * x, none⟩) (cl n x) (cl n x),
      .slice (some ⟨g, off, none⟩) n cap, .int .i64 (n : Int), .bool false, .slice (some ⟨g, off, none⟩) n cap, .int .i64 (n : Int), .bool false, .int .u16 (id : Int), .slice (some ⟨g, off, none⟩) n cap, .int .i64 (n : Int), .int .i64 ((n : Int) + 300), .int .i64 ((n : Int) + 300 - 1), .int .i64 (M : Int),
      .agg #[.int .u16 (id : Int), .int .i64 (M : Int)], .slice (some ⟨g, off, none⟩) n cap, .func (.func 33) #[] #[.pointer (some ⟨B + 2, 0, none⟩), .pointer (some ⟨B + 3, 0, none⟩)], .slice (some ⟨g, off + 300 * x, none⟩) (cl n x) (cl n x), undef, undef, undef, undef, undef, undef, undef, undef, undef, undef], defers := [] }) ?assign ?body ?done ?stop)
  case assign =>
    intro l' x W K hK
    gi_wp2
    exact hK
  case body =>
    rintro l' pre x W hI hpl
    have hI0 := hI
    obtain ⟨v, Q, h1, h2, h3, h4, h5, h6, h7, h9⟩ := hI
    have hQl : Q.length = pre.length := by have := congrArg List.length h4; simpa [come] using this
    obtain ⟨ov, capv, rfl, _, _⟩ := h3.form
    obtain ⟨c, hcq⟩ : ∃ c, c = Q.length := ⟨_, rfl⟩
    rw [← hcq] at h2 h3 h5 h6
    have hc14 : c < 14 := by have := HNL.out; omega
    obtain ⟨m, hm⟩ : ∃ m, m = cl n x := ⟨_, rfl⟩
    have hmp : m = (Fg.piece l x).length := by rw [hm, Fg.piece_len, ← HNL.out]; rfl
    obtain ⟨X, hX⟩ : ∃ X, X = Fg.bytes ⟨id, M, c, Fg.piece l x⟩ := ⟨_, rfl⟩
    have hrW := hr.turned h7 (by simp)
    have hgW : g < W.heap.size := Nat.lt_of_lt_of_le hg h7.size
    have hrP : RowOf 1 byEnc (some ⟨g, off + 300 * x, none⟩) (Fg.piece l x) W := by
      intro i a hi
      unfold Fg.piece at hi
      have hi3 : i < 300 := by have := (List.getElem?_eq_some_iff.1 hi).1; rw [List.length_take] at this; omega
      rw [List.getElem?_take_of_lt hi3, List.getElem?_drop] at hi
      obtain ⟨g', off', e, hl, hc⟩ := hrW _ _ hi
      cases e
      refine ⟨_, _, rfl, hl, fun j u hu => ?_⟩
      have := hc j u hu
      rw [show off + (300 * x + i) * 1 + j = off + 300 * x + i * 1 + j by omega] at this
      exact this
    have hpk : ∀ u, Turned [] W u → Calls Try.prog 20 #[.agg #[.int .u16 (id : Int), .int .i64 (M : Int), .int .i64 (c : Int), .slice (some ⟨g, off + 300 * x, none⟩) m m]] u fun e w' => ∃ v', e = .returned v' ∧ OwnL 5 1 byEnc v' X w' ∧ Turned [] u w' ∧ ∀ k ∈ blk v', W.heap.size ≤ k := by
      intro u hu
      have hbu : BytesAt (.slice (some ⟨g, off + 300 * x, none⟩) m m) (Fg.piece l x) u := ⟨_, m, by rw [hmp], by omega, hrP.turned hu (by simp), fun a ha => by cases ha; exact ⟨Nat.lt_of_lt_of_le hgW hu.size, rfl⟩⟩
      refine (pack_any id M c (Fg.piece l x) _ u hid (by have := HM0.out; omega) (by have := HM0.out; have := HNL.out; omega) (by omega) hbu (fun y hy => h8 y (List.mem_of_mem_drop (List.mem_of_mem_take hy))) (by rw [Fg.piece_len]; omega)).mono ?_
      rintro e w' ⟨v', rfl, a1, a2, a3⟩
      exact ⟨v', rfl, by rw [hX]; exact a1, a2, fun k hk => Nat.le_trans hu.size (a3 k hk)⟩
    have hb4 : B + 3 < W.heap.size := h9 _ (by simp)
    have hBnv : B ∉ blk (.slice ov c capv) := fun hm => (h6 B hm).2 (by simp)
    have hBne : ¬ B = B + 1 := by omega
    have hNext : ∀ (u6 : World) (vp : Value) (o' : Option Addr) (cap' : Nat) (w1 : World), Turned [] W u6 → OwnL 5 1 byEnc vp X u6 → (∀ k ∈ blk vp, W.heap.size ≤ k) → OwnL 25 1 slEnc (.slice o' (Q ++ [(X, vp)]).length cap') (Q ++ [(X, vp)]) w1 → Turned (blk (.slice ov c capv)) (u6.alloc (.cells #[vp] 25)) w1 →
        (blk (.slice o' (Q ++ [(X, vp)]).length cap') = blk (.slice ov c capv) ∨ blk (.slice o' (Q ++ [(X, vp)]).length cap') = [(u6.alloc (.cells #[vp] 25)).heap.size]) → _ :=
      fun u6 vp o' cap' w1 a1 a2 a3 a4 a5 a6 => Between.next (B := W0.heap.size) (C0 := B + 2) (C1 := B + 3) (k := x) (by rw [hX, hcq, hQl]) rfl (by intro y hy; have := HBW.out; simp at hy; omega) ⟨by omega, by omega, by omega⟩ h1 h2 h3 h4 h5 h6 h7 a1 a2 a3 a4 a5 a6
    have hBT : ∀ {u6 w1 : World} {o : Obj}, Turned [] W u6 → Turned (blk (.slice ov c capv)) (u6.alloc o) w1 → Turned (blk (.slice ov c capv)) W w1 := fun a b => Turned.trans (S' := blk (.slice ov c capv)) ((a.alloc _).mono (by simp)) b (fun k hk _ => hk)
    have hSn : ∀ u, Struct B [.int .u16 (id : Int), .int .i64 (M : Int)] u → u.cell? ⟨B, 0, none⟩ = some (.int .u16 (id : Int)) ∧ u.cell? ⟨B, 1, none⟩ = some (.int .i64 (M : Int)) := fun u h => ⟨(h.2 0 _ rfl).1, (h.2 1 _ rfl).1⟩
    have hSof : ∀ u, Turned [] W u → u.cell? ⟨B, 0, none⟩ = some (.int .u16 (id : Int)) ∧ u.cell? ⟨B, 1, none⟩ = some (.int .i64 (M : Int)) := fun u h => hSn u (h1.keep h (by simp))
    have y1 := (h2.2 0 _ rfl).1
    have hTd : Turned [] W W.drew := (Turned.refl [] W).drew
    have b1 : Q.length + 1 ≤ maxLen := by unfold maxLen; omega
    have b2 : (Q.length + 1) * 24 ≤ 140737488355328 := by omega
    rw [← hm]
    clear hm hX hmp hcq hQl hI0 hrP hr hrW
    refine wpIn_block ?_
    refine region_round (S := fun u => u.cell? ⟨B, 0, none⟩ = some (.int .u16 (id : Int)) ∧ u.cell? ⟨B, 1, none⟩ = some (.int .i64 (M : Int))) (by kernel_rfl) (by simp) (fun ⟨_, _, h⟩ => h) ?_
    have hHeld := hSof _ hTd
    refine BtL.take_d (some 26) (i := 1) (v := ?_) rfl rfl (by kernel_rfl) (by kernel_rfl) (by kernel_rfl) (fun _ _ _ h => h) (Or.inl ⟨by rfl, ?_⟩) (by assumption) ?_
    rotate_left
    · (intro w hSw; (try dsimp only at hSw); go_simp; try with_reducible rfl)
    try simp only [Act.put, List.setIfInBounds_toArray, List.set_cons_zero, List.set_cons_succ]
    refine BtL.take_d (some 29) (i := 4) (v := ?_) rfl rfl (by kernel_rfl) (by kernel_rfl) (by kernel_rfl) (fun _ _ _ h => h) (Or.inl ⟨by rfl, ?_⟩) (by assumption) ?_
    rotate_left
    · (intro w hSw; (try dsimp only at hSw); go_simp; try with_reducible rfl)
    try simp only [Act.put, List.setIfInBounds_toArray, List.set_cons_zero, List.set_cons_succ]
    refine wpAnyH_ready (rs := [0, 2]) (by kernel_rfl) (by simp) ?_
    refine AllReadyH.cons rfl (fun K hK => ?_) (AllReadyH.cons rfl (fun K hK => ?_) AllReadyH.nil)
    · rw [if_pos (by rfl)]
      have y0 := ((h2.keep hTd (by simp)).2 0 _ rfl).1
      go_simp
      refine hK.out _ _ (hSof _ hTd) (fun hHeld => ?_)
      clear hK K
      try simp only [Act.put, List.setIfInBounds_toArray, List.set_cons_zero, List.set_cons_succ]
      refine wpAnyH_ready (rs := [2]) (by kernel_rfl) (by simp) ?_
      refine AllReadyH.cons rfl (fun K hK => ?_) AllReadyH.nil
      · rw [if_pos (by rfl)]
        have y0 := ((h2.keep hTd (by simp)).2 0 _ rfl).1
        go_simp
        refine hK.out _ _ (hSof _ hTd) (fun hHeld => ?_)
        clear hK K
        try simp only [Act.put, List.setIfInBounds_toArray, List.set_cons_zero, List.set_cons_succ]
        refine BtL.take_d (some 28) (i := 3) (v := ?_) rfl rfl (by kernel_rfl) (by kernel_rfl) (by kernel_rfl) (fun _ _ _ h => h) (Or.inl ⟨by rfl, ?_⟩) (by assumption) ?_
        rotate_left
        · (intro w hSw; (try dsimp only at hSw); go_simp; try with_reducible rfl)
        try simp only [Act.put, List.setIfInBounds_toArray, List.set_cons_zero, List.set_cons_succ]
        refine BtL.take_d (some 30) (i := 5) (v := ?_) rfl rfl (by kernel_rfl) (by kernel_rfl) (by kernel_rfl) (fun _ _ _ h => h) (Or.inl ⟨by rfl, ?_⟩) (by assumption) ?_
        rotate_left
        · (intro w hSw; (try dsimp only at hSw); go_simp; try with_reducible rfl)
        try simp only [Act.put, List.setIfInBounds_toArray, List.set_cons_zero, List.set_cons_succ]
        refine wpAnyH_ready (rs := [6]) (by kernel_rfl) (by simp) ?_
        refine AllReadyH.cons rfl (fun K hK => ?_) AllReadyH.nil
        · rw [if_pos (by rfl)]
          go_simp
          go_at_call 20
          (with_reducible refine (hpk _ hTd).mono ?_)
          rintro e u6 ⟨vp, rfl, hvp, hT6', hvpn'⟩
          have hT6 : Turned [] W u6 := Turned.trans (S' := []) hTd hT6' (by simp)
          have hvpn : ∀ k ∈ blk vp, W.heap.size ≤ k := hvpn'
          obtain ⟨op, cp, rfl, _, _⟩ := hvp.form
          obtain ⟨mp, hmp⟩ : ∃ m, m = X.length := ⟨_, rfl⟩
          rw [← hmp] at hvp hvpn ⊢
          clear hmp
          try go_simp
          refine hK.out _ _ (hSof _ hT6) (fun hHeld => ?_)
          clear hK K
          try simp only [Act.put, List.setIfInBounds_toArray, List.set_cons_zero, List.set_cons_succ]
          refine wpAnyH_ready (rs := [7]) (by kernel_rfl) (by simp) ?_
          refine AllReadyH.cons rfl (fun K hK => ?_) AllReadyH.nil
          · rw [if_pos (by rfl)]
            have hT7 : Turned [] W (u6.alloc (.cells #[.slice op mp cp] 25)) := hT6.alloc _
            go_simp
            refine hK.out _ _ (hSof _ hT7) (fun hHeld => ?_)
            clear hK K
            try simp only [Act.put, List.setIfInBounds_toArray, List.set_cons_zero, List.set_cons_succ]
            refine wpAnyH_ready (rs := [8]) (by kernel_rfl) (by simp) ?_
            refine AllReadyH.cons rfl (fun K hK => ?_) AllReadyH.nil
            refine step_push (v := .slice ov c capv) elem_sl rfl _ _ rfl rfl (h3.keep hT7 (by simp)) u6.heap.size 0 1 1 [(X, .slice op mp cp)] rfl rfl slEnc_len (sl_one rfl) (one_cell rfl u6 _) b1 b2 ?_
            intro v' w1 ho1 ht1 hb1
            obtain ⟨o', cap', rfl, _, _⟩ := ho1.form
            obtain ⟨hn1, hn2⟩ := hNext u6 _ o' cap' w1 hT6 hvp hvpn ho1 ht1 hb1
            have x0 := (hn2.2 0 _ rfl).1
            have x1 := (hn2.2 0 _ rfl).2
            refine hK.out _ _ (hSn _ (h1.keep (hBT hT6 ht1) hBnv)) (fun hHeld => ?_)
            clear hK K
            try simp only [Act.put, List.setIfInBounds_toArray, List.set_cons_zero, List.set_cons_succ]
            refine wpAnyH_ready (rs := [9]) (by kernel_rfl) (by simp) ?_
            refine AllReadyH.cons rfl (fun K hK => ?_) AllReadyH.nil
            rw [if_pos (by rfl)]
            go_simp
            refine hK.out _ _ ?_ (fun hHeld => ?_)
            · exact hSn _ ((h1.keep (hBT hT6 ht1) hBnv).keep (S := [B + 1]) ((Turned.refl [B + 1] w1).setCell (.inl (by simp)) _) (by simp))
            refine wpAnyH_done (by kernel_rfl) ?_ _
            rw [List.length_append, List.length_singleton] at hn1
            exact hn1
    · rw [if_pos (by rfl)]
      have y0 := ((h2.keep hTd (by simp)).2 0 _ rfl).1
      go_simp
      refine hK.out _ _ (hSof _ hTd) (fun hHeld => ?_)
      clear hK K
      try simp only [Act.put, List.setIfInBounds_toArray, List.set_cons_zero, List.set_cons_succ]
      refine BtL.take_d (some 28) (i := 3) (v := ?_) rfl rfl (by kernel_rfl) (by kernel_rfl) (by kernel_rfl) (fun _ _ _ h => h) (Or.inl ⟨by rfl, ?_⟩) (by assumption) ?_
      rotate_left
      · (intro w hSw; (try dsimp only at hSw); go_simp; try with_reducible rfl)
      try simp only [Act.put, List.setIfInBounds_toArray, List.set_cons_zero, List.set_cons_succ]
      refine BtL.take_d (some 30) (i := 5) (v := ?_) rfl rfl (by kernel_rfl) (by kernel_rfl) (by kernel_rfl) (fun _ _ _ h => h) (Or.inl ⟨by rfl, ?_⟩) (by assumption) ?_
      rotate_left
      · (intro w hSw; (try dsimp only at hSw); go_simp; try with_reducible rfl)
      try simp only [Act.put, List.setIfInBounds_toArray, List.set_cons_zero, List.set_cons_succ]
      refine wpAnyH_ready (rs := [0, 6]) (by kernel_rfl) (by simp) ?_
      refine AllReadyH.cons rfl (fun K hK => ?_) (AllReadyH.cons rfl (fun K hK => ?_) AllReadyH.nil)
      · rw [if_pos (by rfl)]
        have y0 := ((h2.keep hTd (by simp)).2 0 _ rfl).1
        go_simp
        refine hK.out _ _ (hSof _ hTd) (fun hHeld => ?_)
        clear hK K
        try simp only [Act.put, List.setIfInBounds_toArray, List.set_cons_zero, List.set_cons_succ]
        refine wpAnyH_ready (rs := [6]) (by kernel_rfl) (by simp) ?_
        refine AllReadyH.cons rfl (fun K hK => ?_) AllReadyH.nil
        · rw [if_pos (by rfl)]
          go_simp
          go_at_call 20
          (with_reducible refine (hpk _ hTd).mono ?_)
          rintro e u6 ⟨vp, rfl, hvp, hT6', hvpn'⟩
          have hT6 : Turned [] W u6 := Turned.trans (S' := []) hTd hT6' (by simp)
          have hvpn : ∀ k ∈ blk vp, W.heap.size ≤ k := hvpn'
          obtain ⟨op, cp, rfl, _, _⟩ := hvp.form
          obtain ⟨mp, hmp⟩ : ∃ m, m = X.length := ⟨_, rfl⟩
          rw [← hmp] at hvp hvpn ⊢
          clear hmp
          try go_simp
          refine hK.out _ _ (hSof _ hT6) (fun hHeld => ?_)
          clear hK K
          try simp only [Act.put, List.setIfInBounds_toArray, List.set_cons_zero, List.set_cons_succ]
          refine wpAnyH_ready (rs := [7]) (by kernel_rfl) (by simp) ?_
          refine AllReadyH.cons rfl (fun K hK => ?_) AllReadyH.nil
          · rw [if_pos (by rfl)]
            have hT7 : Turned [] W (u6.alloc (.cells #[.slice op mp cp] 25)) := hT6.alloc _
            go_simp
            refine hK.out _ _ (hSof _ hT7) (fun hHeld => ?_)
            clear hK K
            try simp only [Act.put, List.setIfInBounds_toArray, List.set_cons_zero, List.set_cons_succ]
            refine wpAnyH_ready (rs := [8]) (by kernel_rfl) (by simp) ?_
            refine AllReadyH.cons rfl (fun K hK => ?_) AllReadyH.nil
            refine step_push (v := .slice ov c capv) elem_sl rfl _ _ rfl rfl (h3.keep hT7 (by simp)) u6.heap.size 0 1 1 [(X, .slice op mp cp)] rfl rfl slEnc_len (sl_one rfl) (one_cell rfl u6 _) b1 b2 ?_
            intro v' w1 ho1 ht1 hb1
            obtain ⟨o', cap', rfl, _, _⟩ := ho1.form
            obtain ⟨hn1, hn2⟩ := hNext u6 _ o' cap' w1 hT6 hvp hvpn ho1 ht1 hb1
            have x0 := (hn2.2 0 _ rfl).1
            have x1 := (hn2.2 0 _ rfl).2
            refine hK.out _ _ (hSn _ (h1.keep (hBT hT6 ht1) hBnv)) (fun hHeld => ?_)
            clear hK K
            try simp only [Act.put, List.setIfInBounds_toArray, List.set_cons_zero, List.set_cons_succ]
            refine wpAnyH_ready (rs := [9]) (by kernel_rfl) (by simp) ?_
            refine AllReadyH.cons rfl (fun K hK => ?_) AllReadyH.nil
            rw [if_pos (by rfl)]
            go_simp
            refine hK.out _ _ ?_ (fun hHeld => ?_)
            · exact hSn _ ((h1.keep (hBT hT6 ht1) hBnv).keep (S := [B + 1]) ((Turned.refl [B + 1] w1).setCell (.inl (by simp)) _) (by simp))
            refine wpAnyH_done (by kernel_rfl) ?_ _
            rw [List.length_append, List.length_singleton] at hn1
            exact hn1
      · rw [if_pos (by rfl)]
        go_simp
        go_at_call 20
        (with_reducible refine (hpk _ hTd).mono ?_)
        rintro e u6 ⟨vp, rfl, hvp, hT6', hvpn'⟩
        have hT6 : Turned [] W u6 := Turned.trans (S' := []) hTd hT6' (by simp)
        have hvpn : ∀ k ∈ blk vp, W.heap.size ≤ k := hvpn'
        obtain ⟨op, cp, rfl, _, _⟩ := hvp.form
        obtain ⟨mp, hmp⟩ : ∃ m, m = X.length := ⟨_, rfl⟩
        rw [← hmp] at hvp hvpn ⊢
        clear hmp
        try go_simp
        refine hK.out _ _ (hSof _ hT6) (fun hHeld => ?_)
        clear hK K
        try simp only [Act.put, List.setIfInBounds_toArray, List.set_cons_zero, List.set_cons_succ]
        refine wpAnyH_ready (rs := [0, 7]) (by kernel_rfl) (by simp) ?_
        refine AllReadyH.cons rfl (fun K hK => ?_) (AllReadyH.cons rfl (fun K hK => ?_) AllReadyH.nil)
        · rw [if_pos (by rfl)]
          have y0 := ((h2.keep hT6 (by simp)).2 0 _ rfl).1
          go_simp
          refine hK.out _ _ (hSof _ hT6) (fun hHeld => ?_)
          clear hK K
          try simp only [Act.put, List.setIfInBounds_toArray, List.set_cons_zero, List.set_cons_succ]
          refine wpAnyH_ready (rs := [7]) (by kernel_rfl) (by simp) ?_
          refine AllReadyH.cons rfl (fun K hK => ?_) AllReadyH.nil
          · rw [if_pos (by rfl)]
            have hT7 : Turned [] W (u6.alloc (.cells #[.slice op mp cp] 25)) := hT6.alloc _
            go_simp
            refine hK.out _ _ (hSof _ hT7) (fun hHeld => ?_)
            clear hK K
            try simp only [Act.put, List.setIfInBounds_toArray, List.set_cons_zero, List.set_cons_succ]
            refine wpAnyH_ready (rs := [8]) (by kernel_rfl) (by simp) ?_
            refine AllReadyH.cons rfl (fun K hK => ?_) AllReadyH.nil
            refine step_push (v := .slice ov c capv) elem_sl rfl _ _ rfl rfl (h3.keep hT7 (by simp)) u6.heap.size 0 1 1 [(X, .slice op mp cp)] rfl rfl slEnc_len (sl_one rfl) (one_cell rfl u6 _) b1 b2 ?_
            intro v' w1 ho1 ht1 hb1
            obtain ⟨o', cap', rfl, _, _⟩ := ho1.form
            obtain ⟨hn1, hn2⟩ := hNext u6 _ o' cap' w1 hT6 hvp hvpn ho1 ht1 hb1
            have x0 := (hn2.2 0 _ rfl).1
            have x1 := (hn2.2 0 _ rfl).2
            refine hK.out _ _ (hSn _ (h1.keep (hBT hT6 ht1) hBnv)) (fun hHeld => ?_)
            clear hK K
            try simp only [Act.put, List.setIfInBounds_toArray, List.set_cons_zero, List.set_cons_succ]
            refine wpAnyH_ready (rs := [9]) (by kernel_rfl) (by simp) ?_
            refine AllReadyH.cons rfl (fun K hK => ?_) AllReadyH.nil
            rw [if_pos (by rfl)]
            go_simp
            refine hK.out _ _ ?_ (fun hHeld => ?_)
            · exact hSn _ ((h1.keep (hBT hT6 ht1) hBnv).keep (S := [B + 1]) ((Turned.refl [B + 1] w1).setCell (.inl (by simp)) _) (by simp))
            refine wpAnyH_done (by kernel_rfl) ?_ _
            rw [List.length_append, List.length_singleton] at hn1
            exact hn1
        · rw [if_pos (by rfl)]
          have hT7 : Turned [] W (u6.alloc (.cells #[.slice op mp cp] 25)) := hT6.alloc _
          go_simp
          refine hK.out _ _ (hSof _ hT7) (fun hHeld => ?_)
          clear hK K
          try simp only [Act.put, List.setIfInBounds_toArray, List.set_cons_zero, List.set_cons_succ]
          refine wpAnyH_ready (rs := [0]) (by kernel_rfl) (by simp) ?_
          refine AllReadyH.cons rfl (fun K hK => ?_) AllReadyH.nil
          · rw [if_pos (by rfl)]
            have y0 := ((h2.keep hT7 (by simp)).2 0 _ rfl).1
            go_simp
            refine hK.out _ _ (hSof _ hT7) (fun hHeld => ?_)
            clear hK K
            try simp only [Act.put, List.setIfInBounds_toArray, List.set_cons_zero, List.set_cons_succ]
            refine wpAnyH_ready (rs := [8]) (by kernel_rfl) (by simp) ?_
            refine AllReadyH.cons rfl (fun K hK => ?_) AllReadyH.nil
            refine step_push (v := .slice ov c capv) elem_sl rfl _ _ rfl rfl (h3.keep hT7 (by simp)) u6.heap.size 0 1 1 [(X, .slice op mp cp)] rfl rfl slEnc_len (sl_one rfl) (one_cell rfl u6 _) b1 b2 ?_
            intro v' w1 ho1 ht1 hb1
            obtain ⟨o', cap', rfl, _, _⟩ := ho1.form
            obtain ⟨hn1, hn2⟩ := hNext u6 _ o' cap' w1 hT6 hvp hvpn ho1 ht1 hb1
            have x0 := (hn2.2 0 _ rfl).1
            have x1 := (hn2.2 0 _ rfl).2
            refine hK.out _ _ (hSn _ (h1.keep (hBT hT6 ht1) hBnv)) (fun hHeld => ?_)
            clear hK K
            try simp only [Act.put, List.setIfInBounds_toArray, List.set_cons_zero, List.set_cons_succ]
            refine wpAnyH_ready (rs := [9]) (by kernel_rfl) (by simp) ?_
            refine AllReadyH.cons rfl (fun K hK => ?_) AllReadyH.nil
            rw [if_pos (by rfl)]
            go_simp
            refine hK.out _ _ ?_ (fun hHeld => ?_)
            · exact hSn _ ((h1.keep (hBT hT6 ht1) hBnv).keep (S := [B + 1]) ((Turned.refl [B + 1] w1).setCell (.inl (by simp)) _) (by simp))
            refine wpAnyH_done (by kernel_rfl) ?_ _
            rw [List.length_append, List.length_singleton] at hn1
            exact hn1
  case done =>
    rintro D ys W hD rfl ⟨v, Q, h1, h2, h3, h4, h5, h6, h7, h9⟩ hK
    have hrow : ∀ r, some D = some r → 0 ≤ r ∧ ∃ o : Obj, W.heap[r]? = some o ∧ o.isCells = false := fun r e => by cases e; exact ⟨Nat.zero_le _, _, hK, rfl⟩
    have htr := turned_row (grownBy_putObj' W D (.deferred none))
    have HL : Hid (Lists v ((Fg.split id l).map Fg.bytes) w (W.putObj D (.deferred none))) := by
      refine ⟨Q, h3.keep htr fun k hk => row_apart hrow (h3.cellsAt k hk), ?_, fun q hq => ⟨(h5 q hq).1.keep htr fun k hk => row_apart hrow ((h5 q hq).2 k hk).2.2, fun k hk => ⟨((h5 q hq).2 k hk).1, fun hm => ((h5 q hq).2 k hk).2.1 (List.mem_cons_of_mem _ hm)⟩⟩, fun k hk => (h6 k hk).1⟩
      rw [h4, ← HM0.out, HM.out, come_all]
    have HT : Hid (Turned [] w (W.putObj D (.deferred none))) := h7.trans htr (by intro k hk hl; simp at hk; have := HSZ.out; have := HBW.out; omega)
    have x0 := (h2.2 0 _ rfl).1
    obtain ⟨ov, capv, rfl, _, _⟩ := h3.form
    clear h1 h2 h3 h4 h5 h6 h9
    go_wp2_with fail
    refine ⟨by simp, .inl ⟨_, _, rfl, run_takeDeferred hK, ?_⟩⟩
    exact ⟨.tuple #[.slice ov Q.length capv, .int .i64 0], by simp [results, Try.results10, go_sem], _, rfl, HL.out, HT.out⟩
  case stop =>
    rintro D c pre W _ _ h _
    exact h.elim
set_option maxHeartbeats 1000000 in
theorem split_none (id : Nat) (oa : Option Addr) (cap : Nat) (w : World) :
    Calls Try.prog 10 #[.int .u16 (id : Int), .slice oa 0 cap] w fun e w' => e = .returned (.tuple #[.slice none 0 0, .int .i64 1]) ∧ w' = w := by
  go_enter Try.func10, Try.ntmps10
  go_wp2_with fail
  refine bodyPost_ret (by simp [results, Try.results10, go_sem]) rfl ⟨rfl, rfl⟩
set_option maxHeartbeats 1000000 in
theorem split_long (id : Nat) (oa : Option Addr) (cap n : Nat) (w : World) (h : (4000 : Int) < (n : Int)) :
    Calls Try.prog 10 #[.int .u16 (id : Int), .slice oa n cap] w fun e w' => e = .returned (.tuple #[.slice none 0 0, .int .i64 3]) ∧ w' = w := by
  have h0 : ¬ (n : Int) = 0 := by omega
  go_enter Try.func10, Try.ntmps10
  go_wp2_with fail
  refine bodyPost_ret (by simp [results, Try.results10, go_sem]) rfl ⟨rfl, rfl⟩
/-- Split on any bytes -/
theorem split_any (id : Nat) (oa : Option Addr) (cap : Nat) (l : List Nat) (w : World) (hid : id < 65536) (hr : RowOf 1 byEnc oa l w) (h8 : ∀ x ∈ l, x < 256) (hcap : l.length ≤ cap) :
    Calls Try.prog 10 #[.int .u16 (id : Int), .slice oa l.length cap] w fun e w' =>
      (l.length = 0 ∧ e = .returned (.tuple #[.slice none 0 0, .int .i64 1]) ∧ w' = w) ∨ (4000 < l.length ∧ e = .returned (.tuple #[.slice none 0 0, .int .i64 3]) ∧ w' = w) ∨
        ((1 ≤ l.length ∧ l.length ≤ 4000) ∧ ∃ v, e = .returned (.tuple #[v, .int .i64 0]) ∧ Lists v ((Fg.split id l).map Fg.bytes) w w' ∧ Turned [] w w') := by
  by_cases h0 : l.length = 0
  · rw [h0]
    exact (split_none id oa cap w).mono fun e w' h => Or.inl ⟨rfl, h⟩
  · by_cases h1 : 4000 < l.length
    · exact (split_long id oa cap l.length w (by omega)).mono fun e w' h => Or.inr (Or.inl ⟨h1, h⟩)
    · exact (split_ok id oa cap l w hid hr h8 hcap (by omega) (by omega)).mono fun e w' h => Or.inr (Or.inr ⟨⟨by omega, by omega⟩, h⟩)
end FgW
end Go.Proofs.Ytkjlbginggppaaa


/- A slice of integers that came in, as a walk reads it: each number, where it lies. -/
namespace Go.Proofs.Ytkjlbginggppaaa
open Go.ChangeShapes Go.WideShapes Go.ChangeAt Go.RowKit
set_option linter.unusedVariables false

/-- what a slice of numbers that came in gives: each number, where it lies -/
def Ints (k : IntKind) (oa : Option Addr) (len : Nat) (w : World) : Prop :=
  ∀ i : Nat, i < len → ∃ (b off : Nat) (z : Int), oa = some ⟨b, off, none⟩ ∧ b < w.heap.size ∧ w.cell? ⟨b, off + i, none⟩ = some (.int k z) ∧ (Lit.int k z).wf = true

theorem open_row {P : Program} {H : Type} {enc : TypeId × Value → H} {W : World} {base : Nat} {t e : TypeId} {k : IntKind} {v : Value} {d : DataW H} {p : List MemPlace}
    (ht : P.underlying t = some (.slice e)) (he : P.underlying e = some (.int k)) (hc : P.cellsOf e = 1)
    (hval : Value.okWide P W .any base t v) (h : DataW.Trod enc P W 0 (fun _ => true) true t v d p) :
    ∃ (oa : Option Addr) (len cap : Nat), v = .slice oa len cap ∧ len ≤ maxLen ∧ len ≤ cap ∧ Ints k oa len W := by
  obtain ⟨oa, len, cap, rfl⟩ := okWide_slice ht hval
  obtain ⟨fuel, hf⟩ := h
  rcases open_ints ht he hc hf with ⟨hcs, hx⟩ | ⟨a, len', cap', zs, hcs, _, hl, hm, hz, hx, hcell, hwz⟩
  · simp [Value.cells] at hcs
    obtain ⟨rfl, rfl, rfl⟩ := hcs
    exact ⟨none, 0, 0, rfl, Nat.zero_le _, Nat.le_refl _, fun i hi => absurd hi (Nat.not_lt_zero _)⟩
  · simp [Value.cells] at hcs
    obtain ⟨rfl, rfl, rfl⟩ := hcs
    simp only [if_true] at hz
    refine ⟨some a, len, cap, rfl, by omega, hl, fun i hi => ?_⟩
    obtain ⟨ab, ao, spot⟩ := a
    have hspot : spot = none := by simpa [Addr.add] using World.cell?_spot (hcell 0 (by omega))
    subst hspot
    have hci := hcell i (by omega)
    rw [Addr.add_lit] at hci
    refine ⟨ab, ao, zs.getD i 0, rfl, World.block_lt_of_cell? _ _ hci, hci, ?_⟩
    have hlt : i < zs.length := by omega
    have eq : zs.getD i 0 = zs[i] := by simp [List.getD, List.getElem?_eq_getElem hlt]
    rw [eq]
    exact hwz _ (List.getElem_mem hlt)
end Go.Proofs.Ytkjlbginggppaaa

/- The header whose bits come next is read: the reference's (ChR). -/
import Derived.Test.YtloobijdpchppaaChPut
import Derived.Test.YtloobijdpchppaaRdPlain
import Derived.Test.YtloobijdpchppaaBitRg3
namespace Go.Proofs.Ytloobijdpchppaa
open Go.RowKit
set_option linter.unusedVariables false
set_option linter.unusedSimpArgs false

namespace Ch
def hVal (h : H) : Value := .agg #[.int .u16 h.n, .bool h.y, .int .u16 h.a, .int .u32 h.m]
def zeroH : H := ⟨0, false, 0, 0⟩
/-- the reader behind a header -/
def after (r : Bt.Rd) : Bt.Rd := (((r.take 16).take 1).take 16).take 32
def got (r : Bt.Rd) : H := ⟨(r.tell 16 : Nat), decide ((r.take 16).tell 1 = 1), (((r.take 16).take 1).tell 16 : Nat), ((((r.take 16).take 1).take 16).tell 32 : Nat)⟩
def bad (r : Bt.Rd) : Bool := (after r).fail || (decide ((r.take 16).tell 1 = 0) && decide (0 < ((r.take 16).take 1).tell 16 + (((r.take 16).take 1).take 16).tell 32))
def read (r : Bt.Rd) : H := if bad r = true then zeroH else got r
theorem tell_pow (r : Bt.Rd) (n : Nat) : r.tell (n : Int) < 2 ^ n := by
  unfold Bt.Rd.tell
  split
  · have := Bt.val_lt (r.rest.take ((n : Int)).toNat)
    refine Nat.lt_of_lt_of_le this (Nat.pow_le_pow_right (by omega) ?_)
    rw [List.length_take]; simp; omega
  · exact Nat.two_pow_pos n
end Ch

namespace ChR
theorem rd_blk {p : Nat} {v : Value} {r : Bt.Rd} {w : World} (h : RRd p v r w) : ∀ k ∈ rblk v, k < w.heap.size := by
  obtain ⟨_, ⟨oa, cap, rfl, _, _, hd⟩, _⟩ := h
  intro k hk
  cases oa with
  | none => simp [rblk] at hk
  | some a =>
    simp [rblk] at hk
    subst hk
    exact (hd a rfl).2
/-- a header is stored whole -/
abbrev put4 (w : World) (b : Nat) (n : Int) (y : Bool) (a m : Int) : World := (((w.setCell ⟨b, 0, none⟩ (.int .u16 n)).setCell ⟨b, 1, none⟩ (.bool y)).setCell ⟨b, 2, none⟩ (.int .u16 a)).setCell ⟨b, 3, none⟩ (.int .u32 m)
theorem fin4 {p : Nat} {v : Value} {r : Bt.Rd} {w u : World} (hP : RRd p v r u) (hT : Turned [p] w u) (hp : p < w.heap.size) (hv : ∀ k ∈ rblk v, k < w.heap.size) (n : Int) (y : Bool) (a m : Int) :
    RRd p v r (put4 u w.heap.size n y a m) ∧ Turned [p] w (put4 u w.heap.size n y a m) := by
  have h4 : Turned [w.heap.size] u (put4 u w.heap.size n y a m) :=
    ((((Turned.refl [w.heap.size] u).setCell (p := ⟨w.heap.size, 0, none⟩) (.inl (by simp)) _).setCell (p := ⟨w.heap.size, 1, none⟩) (.inl (by simp)) _).setCell (p := ⟨w.heap.size, 2, none⟩) (.inl (by simp)) _).setCell (p := ⟨w.heap.size, 3, none⟩) (.inl (by simp)) _
  refine ⟨hP.keep h4 (by simp; omega) (fun k hk hm => by have := hv k hk; simp at hm; omega), hT.trans h4 fun k hk hl => by simp at hk; omega⟩
set_option maxHeartbeats 4000000 in
theorem read_any (p : Nat) (v : Value) (r : Bt.Rd) (w : World) (h : RRd p v r w) :
    Calls Try.prog 25 #[.pointer (some ⟨p, 0, none⟩)] w fun e w' => e = .returned (.tuple #[Ch.hVal (Ch.read r), .bool (!Ch.bad r)]) ∧ RRd p v (Ch.after r) w' ∧ Turned [p] w w' := by
  have k1 := fun (u : World) (h : RRd p v r u) => BtG.take_any p v r 16 u h
  have k2 := fun (u : World) (h : RRd p v (r.take 16) u) => BtG.take_any p v (r.take 16) 1 u h
  have k3 := fun (u : World) (h : RRd p v ((r.take 16).take 1) u) => BtG.take_any p v ((r.take 16).take 1) 16 u h
  have k4 := fun (u : World) (h : RRd p v (((r.take 16).take 1).take 16) u) => BtG.take_any p v (((r.take 16).take 1).take 16) 32 u h
  have b1 : r.tell 16 < 65536 := Ch.tell_pow r 16
  have b2 : (r.take 16).tell 1 < 2 := Ch.tell_pow (r.take 16) 1
  have b3 : ((r.take 16).take 1).tell 16 < 65536 := Ch.tell_pow ((r.take 16).take 1) 16
  have b4 : (((r.take 16).take 1).take 16).tell 32 < 4294967296 := Ch.tell_pow (((r.take 16).take 1).take 16) 32
  have HR : Hid (Ch.read r = if Ch.bad r = true then Ch.zeroH else ⟨(r.tell 16 : Nat), decide ((r.take 16).tell 1 = 1), (((r.take 16).take 1).tell 16 : Nat), ((((r.take 16).take 1).take 16).tell 32 : Nat)⟩) := rfl
  have HBad : Hid (Ch.bad r = ((Ch.after r).fail || (decide ((r.take 16).tell 1 = 0) && decide (0 < ((r.take 16).take 1).tell 16 + (((r.take 16).take 1).take 16).tell 32)))) := rfl
  obtain ⟨r4, hr4⟩ : ∃ x, x = Ch.after r := ⟨_, rfl⟩
  rw [← hr4] at HBad ⊢
  unfold Ch.after at hr4
  rw [← hr4] at k4
  obtain ⟨n1, hn1⟩ : ∃ x, x = r.tell 16 := ⟨_, rfl⟩
  obtain ⟨n2, hn2⟩ : ∃ x, x = (r.take 16).tell 1 := ⟨_, rfl⟩
  obtain ⟨n3, hn3⟩ : ∃ x, x = ((r.take 16).take 1).tell 16 := ⟨_, rfl⟩
  obtain ⟨n4, hn4⟩ : ∃ x, x = (((r.take 16).take 1).take 16).tell 32 := ⟨_, rfl⟩
  rw [← hn1] at k1 b1 HR
  rw [← hn2] at k2 b2 HR HBad
  rw [← hn3] at k3 b3 HR HBad
  rw [← hn4] at k4 b4 HR HBad
  clear hn1 hn2 hn3 hn4 hr4
  have hpl := h.lt
  go_enter Try.func25, Try.ntmps25
  go_wp2_with fail
  obtain ⟨wa, hwa⟩ : ∃ wa, wa = w.alloc (.cells #[.int .u16 0, .bool false, .int .u16 0, .int .u32 0] 41) := ⟨_, rfl⟩
  rw [← hwa]
  have hz : Struct w.heap.size [.int .u16 0, .bool false, .int .u16 0, .int .u32 0] wa := by rw [hwa]; exact Struct.new w [.int .u16 0, .bool false, .int .u16 0, .int .u32 0] _
  have hT : Turned [p] w wa := by rw [hwa]; exact (Turned.refl [p] w).alloc _
  have hrb := rd_blk h
  have hP := h.keep (show Turned [] w wa by rw [hwa]; exact (Turned.refl [] w).alloc _) (by simp) (by simp)
  have HZ : Hid (Struct w.heap.size [.int .u16 0, .bool false, .int .u16 0, .int .u32 0] wa) := hz
  clear hwa hz h
  have hne : ¬ w.heap.size = p := by omega
  have HV : Hid (∀ k ∈ rblk v, k < w.heap.size) := hrb
  clear hrb
  cases hf : r4.fail
  · obtain rfl | rfl : n2 = 0 ∨ n2 = 1 := by omega
    · by_cases hz : n3 = 0 ∧ n4 = 0
      · obtain ⟨rfl, rfl⟩ := hz
        go_wp2_with (go_at_call 45; (first | (with_reducible refine (k1 _ hP).mono ?_) | (with_reducible refine (k2 _ hP).mono ?_) | (with_reducible refine (k3 _ hP).mono ?_) | (with_reducible refine (k4 _ hP).mono ?_)); rintro e u ⟨rfl, hP, hT1⟩; have hT := hT.trans hT1 (fun k hk _ => hk); have hz := HZ.out.keep hT1 (by simp; omega); have HZ : Hid (Struct w.heap.size _ _) := hz; have g2 := (hP.1.2 2 _ rfl).1; try rw [hf] at g2; obtain ⟨z0, y0⟩ := hz.2 0 _ rfl; obtain ⟨z1, y1⟩ := hz.2 1 _ rfl; obtain ⟨z2, y2⟩ := hz.2 2 _ rfl; obtain ⟨z3, y3⟩ := hz.2 3 _ rfl; clear hT1 hz)
        obtain ⟨hP9, hT9⟩ := fin4 hP hT hpl HV.out (n1 : Int) false 0 0
        have eb : Ch.bad r = false := by rw [HBad.out, hf]; rfl
        have er : Ch.read r = ⟨(n1 : Int), false, 0, 0⟩ := by rw [HR.out, eb]; rfl
        exact bodyPost_ret (v := .tuple #[.agg #[.int .u16 (n1 : Int), .bool false, .int .u16 0, .int .u32 0], .bool true]) (by simp [results, Try.results25, go_sem, z0, z1, z2, z3]) rfl ⟨by rw [eb, er]; rfl, hP9, hT9⟩

      · have hs : (0 : Int) < (n3 : Int) + (n4 : Int) := by omega
        have hs2 : ((n3 : Int) + (n4 : Int)) % 18446744073709551616 = (n3 : Int) + (n4 : Int) := by omega
        have HZ2 : Hid (0 < n3 + n4) := by show 0 < n3 + n4; omega
        clear hz
        go_wp2_with (go_at_call 45; (first | (with_reducible refine (k1 _ hP).mono ?_) | (with_reducible refine (k2 _ hP).mono ?_) | (with_reducible refine (k3 _ hP).mono ?_) | (with_reducible refine (k4 _ hP).mono ?_)); rintro e u ⟨rfl, hP, hT1⟩; have hT := hT.trans hT1 (fun k hk _ => hk); have hz := HZ.out.keep hT1 (by simp; omega); have HZ : Hid (Struct w.heap.size _ _) := hz; have g2 := (hP.1.2 2 _ rfl).1; try rw [hf] at g2; obtain ⟨z0, y0⟩ := hz.2 0 _ rfl; obtain ⟨z1, y1⟩ := hz.2 1 _ rfl; obtain ⟨z2, y2⟩ := hz.2 2 _ rfl; obtain ⟨z3, y3⟩ := hz.2 3 _ rfl; clear hT1 hz)
        obtain ⟨hP9, hT9⟩ := fin4 hP hT hpl HV.out 0 false 0 0
        have eb : Ch.bad r = true := by rw [HBad.out, hf]; simp [HZ2.out]
        have er : Ch.read r = ⟨0, false, 0, 0⟩ := by rw [HR.out, eb]; rfl
        exact bodyPost_ret (v := .tuple #[.agg #[.int .u16 0, .bool false, .int .u16 0, .int .u32 0], .bool false]) (by simp [results, Try.results25, go_sem, z0, z1, z2, z3]) rfl ⟨by rw [eb, er]; rfl, hP9, hT9⟩

    · go_wp2_with (go_at_call 45; (first | (with_reducible refine (k1 _ hP).mono ?_) | (with_reducible refine (k2 _ hP).mono ?_) | (with_reducible refine (k3 _ hP).mono ?_) | (with_reducible refine (k4 _ hP).mono ?_)); rintro e u ⟨rfl, hP, hT1⟩; have hT := hT.trans hT1 (fun k hk _ => hk); have hz := HZ.out.keep hT1 (by simp; omega); have HZ : Hid (Struct w.heap.size _ _) := hz; have g2 := (hP.1.2 2 _ rfl).1; try rw [hf] at g2; obtain ⟨z0, y0⟩ := hz.2 0 _ rfl; obtain ⟨z1, y1⟩ := hz.2 1 _ rfl; obtain ⟨z2, y2⟩ := hz.2 2 _ rfl; obtain ⟨z3, y3⟩ := hz.2 3 _ rfl; clear hT1 hz)
      obtain ⟨hP9, hT9⟩ := fin4 hP hT hpl HV.out (n1 : Int) true (n3 : Int) (n4 : Int)
      have eb : Ch.bad r = false := by rw [HBad.out, hf]; rfl
      have er : Ch.read r = ⟨(n1 : Int), true, (n3 : Int), (n4 : Int)⟩ := by rw [HR.out, eb]; rfl
      exact bodyPost_ret (v := .tuple #[.agg #[.int .u16 (n1 : Int), .bool true, .int .u16 (n3 : Int), .int .u32 (n4 : Int)], .bool true]) (by simp [results, Try.results25, go_sem, z0, z1, z2, z3]) rfl ⟨by rw [eb, er]; rfl, hP9, hT9⟩

  · go_wp2_with (go_at_call 45; (first | (with_reducible refine (k1 _ hP).mono ?_) | (with_reducible refine (k2 _ hP).mono ?_) | (with_reducible refine (k3 _ hP).mono ?_) | (with_reducible refine (k4 _ hP).mono ?_)); rintro e u ⟨rfl, hP, hT1⟩; have hT := hT.trans hT1 (fun k hk _ => hk); have hz := HZ.out.keep hT1 (by simp; omega); have HZ : Hid (Struct w.heap.size _ _) := hz; have g2 := (hP.1.2 2 _ rfl).1; try rw [hf] at g2; obtain ⟨z0, y0⟩ := hz.2 0 _ rfl; obtain ⟨z1, y1⟩ := hz.2 1 _ rfl; obtain ⟨z2, y2⟩ := hz.2 2 _ rfl; obtain ⟨z3, y3⟩ := hz.2 3 _ rfl; clear hT1 hz)
    obtain ⟨hP9, hT9⟩ := fin4 hP hT hpl HV.out 0 false 0 0
    have eb : Ch.bad r = true := by rw [HBad.out, hf]; simp
    have er : Ch.read r = ⟨0, false, 0, 0⟩ := by rw [HR.out, eb]; rfl
    exact bodyPost_ret (v := .tuple #[.agg #[.int .u16 0, .bool false, .int .u16 0, .int .u32 0], .bool false]) (by simp [results, Try.results25, go_sem, z0, z1, z2, z3]) rfl ⟨by rw [eb, er]; rfl, hP9, hT9⟩

end ChR
end Go.Proofs.Ytloobijdpchppaa

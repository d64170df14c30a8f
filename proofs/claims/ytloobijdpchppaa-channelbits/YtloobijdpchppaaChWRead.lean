/- The header whose bits come next is read: the program's (ChW). -/
import Derived.Test.YtloobijdpchppaaChRead
import Derived.Test.YtloobijdpchppaaBitRd2
namespace Go.Proofs.Ytloobijdpchppaa
open Go.RowKit
set_option linter.unusedVariables false
set_option linter.unusedSimpArgs false

namespace ChW
theorem formed_any (n : Int) (y : Bool) (a m : Int) (w : World) :
    Calls Try.prog 43 #[.agg #[.int .u16 n, .bool y, .int .u16 a, .int .u32 m]] w fun e w' => e = .returned (.bool (y || (decide (a = 0) && decide (m = 0)))) ∧ Turned [] w w' := by
  cases y
  · by_cases h1 : a = 0
    · by_cases h2 : m = 0
      · go_enter Try.func43, Try.ntmps43
        go_wp2_with fail
        go_ret
        exact BtL.bool_ret (by simp [h1, h2]) ((Turned.refl [] w).alloc _)
      · go_enter Try.func43, Try.ntmps43
        go_wp2_with fail
        go_ret
        exact BtL.bool_ret (by simp [h2]) ((Turned.refl [] w).alloc _)
    · go_enter Try.func43, Try.ntmps43
      go_wp2_with fail
      go_ret
      exact BtL.bool_ret (by simp [h1]) ((Turned.refl [] w).alloc _)
  · go_enter Try.func43, Try.ntmps43
    go_wp2_with fail
    go_ret
    exact BtL.bool_ret (by simp) ((Turned.refl [] w).alloc _)

theorem prd_blk {p : Nat} {v : Value} {bs : List Nat} {r : Bt.Rd} {w : World} (h : PRd p v bs r w) : ∀ k ∈ rblk v, k < w.heap.size := by
  obtain ⟨_, ⟨oa, cap, rfl, _, hd⟩, _⟩ := h
  intro k hk
  cases oa with
  | none => simp [rblk] at hk
  | some a =>
    simp [rblk] at hk
    subst hk
    exact (hd a rfl).2
theorem pfin4 {p : Nat} {v : Value} {bs : List Nat} {r : Bt.Rd} {w u : World} (hP : PRd p v bs r u) (hT : Turned [p] w u) (hp : p < w.heap.size) (hv : ∀ k ∈ rblk v, k < w.heap.size) (n : Int) (y : Bool) (a m : Int) :
    PRd p v bs r (ChR.put4 u w.heap.size n y a m) ∧ Turned [p] w (ChR.put4 u w.heap.size n y a m) := by
  have h4 : Turned [w.heap.size] u (ChR.put4 u w.heap.size n y a m) :=
    ((((Turned.refl [w.heap.size] u).setCell (p := ⟨w.heap.size, 0, none⟩) (.inl (by simp)) _).setCell (p := ⟨w.heap.size, 1, none⟩) (.inl (by simp)) _).setCell (p := ⟨w.heap.size, 2, none⟩) (.inl (by simp)) _).setCell (p := ⟨w.heap.size, 3, none⟩) (.inl (by simp)) _
  refine ⟨hP.keep h4 (by simp; omega) (fun k hk hm => by have := hv k hk; simp at hm; omega), hT.trans h4 fun k hk hl => by simp at hk; omega⟩
theorem y_eq {n : Nat} (h : n < 2) : ((n : Int) == 1) = decide (n = 1) := by
  obtain rfl | rfl : n = 0 ∨ n = 1 := by omega
  · rfl
  · rfl
theorem bad_eq {n2 n3 n4 : Nat} {y : Bool} (h2 : n2 < 2) (hy : y = decide (n2 = 1)) : (decide (n2 = 0) && decide (0 < n3 + n4)) = !(y || (decide ((n3 : Int) = 0) && decide ((n4 : Int) = 0))) := by
  subst hy
  obtain rfl | rfl : n2 = 0 ∨ n2 = 1 := by omega
  · by_cases a : n3 = 0 <;> by_cases b : n4 = 0 <;> simp [a, b] <;> omega
  · simp

set_option maxHeartbeats 4000000 in
set_option maxRecDepth 20000 in
theorem read_any (p : Nat) (v : Value) (bs : List Nat) (r : Bt.Rd) (w : World) (h : PRd p v bs r w) :
    Calls Try.prog 19 #[.pointer (some ⟨p, 0, none⟩)] w fun e w' => e = .returned (.tuple #[Ch.hVal (Ch.read r), .bool (!Ch.bad r)]) ∧ PRd p v bs (Ch.after r) w' ∧ Turned [p] w w' := by
  have k1 := fun (u : World) (h : PRd p v bs r u) => BtD.take_any p v bs r 16 u h
  have k2 := fun (u : World) (h : PRd p v bs (r.take 16) u) => BtD.take_any p v bs (r.take 16) 1 u h
  have k3 := fun (u : World) (h : PRd p v bs ((r.take 16).take 1) u) => BtD.take_any p v bs ((r.take 16).take 1) 16 u h
  have k4 := fun (u : World) (h : PRd p v bs (((r.take 16).take 1).take 16) u) => BtD.take_any p v bs (((r.take 16).take 1).take 16) 32 u h
  have b1 : r.tell 16 < 65536 := Ch.tell_pow r 16
  have b2 : (r.take 16).tell 1 < 2 := Ch.tell_pow (r.take 16) 1
  have b3 : ((r.take 16).take 1).tell 16 < 65536 := Ch.tell_pow ((r.take 16).take 1) 16
  have b4 : (((r.take 16).take 1).take 16).tell 32 < 4294967296 := Ch.tell_pow (((r.take 16).take 1).take 16) 32
  have HR : Hid (Ch.read r = if Ch.bad r = true then Ch.zeroH else ⟨(r.tell 16 : Nat), decide ((r.take 16).tell 1 = 1), (((r.take 16).take 1).tell 16 : Nat), ((((r.take 16).take 1).take 16).tell 32 : Nat)⟩) := rfl
  have HBad : Hid (Ch.bad r = ((Ch.after r).fail || (decide ((r.take 16).tell 1 = 0) && decide (0 < ((r.take 16).take 1).tell 16 + (((r.take 16).take 1).take 16).tell 32)))) := rfl
  obtain ⟨r4, hr4⟩ : ∃ x, x = Ch.after r := ⟨_, rfl⟩
  rw [← hr4] at HBad ⊢
  unfold Ch.after at hr4
  rw [← hr4] at k4
  obtain ⟨n1, hn1⟩ : ∃ x, x = r.tell 16 := ⟨_, rfl⟩
  obtain ⟨n2, hn2⟩ : ∃ x, x = (r.take 16).tell 1 := ⟨_, rfl⟩
  obtain ⟨n3, hn3⟩ : ∃ x, x = ((r.take 16).take 1).tell 16 := ⟨_, rfl⟩
  obtain ⟨n4, hn4⟩ : ∃ x, x = (((r.take 16).take 1).take 16).tell 32 := ⟨_, rfl⟩
  rw [← hn1] at k1 b1 HR
  rw [← hn2] at k2 b2 HR HBad
  rw [← hn3] at k3 b3 HR HBad
  rw [← hn4] at k4 b4 HR HBad
  clear hn1 hn2 hn3 hn4 hr4
  have hpl := h.lt
  obtain ⟨y, hy⟩ : ∃ y : Bool, y = ((n2 : Int) == 1) := ⟨_, rfl⟩
  have hyn : y = decide (n2 = 1) := by rw [hy]; exact y_eq b2
  have HE : Hid (_ = _) := bad_eq (n3 := n3) (n4 := n4) b2 hyn
  rw [← hyn] at HR
  clear hyn
  go_enter Try.func19, Try.ntmps19
  go_wp2_with fail
  obtain ⟨wa, hwa⟩ : ∃ wa, wa = (w.alloc (.cells #[.int .u16 0, .bool false, .int .u16 0, .int .u32 0] 38)).alloc (.cells #[.int .u16 0, .bool false, .int .u16 0, .int .u32 0] 38) := ⟨_, rfl⟩
  rw [← hwa]
  have hR : Struct w.heap.size [.int .u16 0, .bool false, .int .u16 0, .int .u32 0] wa := by rw [hwa]; exact (Struct.new w [.int .u16 0, .bool false, .int .u16 0, .int .u32 0] _).keep ((Turned.refl [] _).alloc _) (by simp)
  have hH : Struct (w.heap.size + 1) [.int .u16 0, .bool false, .int .u16 0, .int .u32 0] wa := by
    rw [hwa]
    have := Struct.new (w.alloc (.cells #[.int .u16 0, .bool false, .int .u16 0, .int .u32 0] 38)) [.int .u16 0, .bool false, .int .u16 0, .int .u32 0] 38
    rw [show (w.alloc (.cells #[.int .u16 0, .bool false, .int .u16 0, .int .u32 0] 38)).heap.size = w.heap.size + 1 by simp] at this
    exact this
  have hT : Turned [p] w wa := by rw [hwa]; exact ((Turned.refl [p] w).alloc _).alloc _
  have HV : Hid (∀ k ∈ rblk v, k < w.heap.size) := prd_blk h
  have hP := h.keep (show Turned [] w wa by rw [hwa]; exact ((Turned.refl [] w).alloc _).alloc _) (by simp) (by simp)
  clear hwa h
  refine (k1 _ hP).mono ?_
  rintro e u1 ⟨rfl, hP, hT1⟩
  replace hH := hH.keep hT1 (by simp; omega)
  replace hR := hR.keep hT1 (by simp; omega)
  replace hT := hT.trans hT1 (fun k hk _ => hk)
  obtain ⟨z0, y0⟩ := hH.2 0 _ rfl
  clear hT1 k1
  go_wp2_with fail
  obtain ⟨U1, hU⟩ : ∃ U, U = u1.setCell ⟨w.heap.size + 1, 0, none⟩ (.int .u16 (n1 : Int)) := ⟨_, rfl⟩
  rw [← hU]
  replace hH : Struct (w.heap.size + 1) [.int .u16 (n1 : Int), .bool false, .int .u16 0, .int .u32 0] U1 := by rw [hU]; exact hH.set (i := 0) (by simp) (.int .u16 (n1 : Int))
  have hT1 : Turned [w.heap.size + 1] u1 U1 := by rw [hU]; exact (Turned.refl [w.heap.size + 1] u1).setCell (p := ⟨w.heap.size + 1, 0, none⟩) (.inl (by simp)) _
  replace hR := hR.keep hT1 (by simp)
  replace hP := hP.keep hT1 (by simp; omega) (fun k hk hm => by have := HV.out k hk; simp at hm; omega)
  replace hT := hT.trans hT1 (fun k hk hl => by simp at hk; omega)
  clear hU hT1 z0 y0
  refine (k2 _ hP).mono ?_
  rintro e u2 ⟨rfl, hP, hT1⟩
  replace hH := hH.keep hT1 (by simp; omega)
  replace hR := hR.keep hT1 (by simp; omega)
  replace hT := hT.trans hT1 (fun k hk _ => hk)
  obtain ⟨z0, y0⟩ := hH.2 1 _ rfl
  clear hT1 k2
  go_wp2_with fail
  rw [← hy]
  clear hy
  obtain ⟨U2, hU⟩ : ∃ U, U = u2.setCell ⟨w.heap.size + 1, 1, none⟩ (.bool y) := ⟨_, rfl⟩
  rw [← hU]
  replace hH : Struct (w.heap.size + 1) [.int .u16 (n1 : Int), .bool y, .int .u16 0, .int .u32 0] U2 := by rw [hU]; exact hH.set (i := 1) (by simp) (.bool y)
  have hT1 : Turned [w.heap.size + 1] u2 U2 := by rw [hU]; exact (Turned.refl [w.heap.size + 1] u2).setCell (p := ⟨w.heap.size + 1, 1, none⟩) (.inl (by simp)) _
  replace hR := hR.keep hT1 (by simp)
  replace hP := hP.keep hT1 (by simp; omega) (fun k hk hm => by have := HV.out k hk; simp at hm; omega)
  replace hT := hT.trans hT1 (fun k hk hl => by simp at hk; omega)
  clear hU hT1 z0 y0
  refine (k3 _ hP).mono ?_
  rintro e u3 ⟨rfl, hP, hT1⟩
  replace hH := hH.keep hT1 (by simp; omega)
  replace hR := hR.keep hT1 (by simp; omega)
  replace hT := hT.trans hT1 (fun k hk _ => hk)
  obtain ⟨z0, y0⟩ := hH.2 2 _ rfl
  clear hT1 k3
  go_wp2_with fail
  obtain ⟨U3, hU⟩ : ∃ U, U = u3.setCell ⟨w.heap.size + 1, 2, none⟩ (.int .u16 (n3 : Int)) := ⟨_, rfl⟩
  rw [← hU]
  replace hH : Struct (w.heap.size + 1) [.int .u16 (n1 : Int), .bool y, .int .u16 (n3 : Int), .int .u32 0] U3 := by rw [hU]; exact hH.set (i := 2) (by simp) (.int .u16 (n3 : Int))
  have hT1 : Turned [w.heap.size + 1] u3 U3 := by rw [hU]; exact (Turned.refl [w.heap.size + 1] u3).setCell (p := ⟨w.heap.size + 1, 2, none⟩) (.inl (by simp)) _
  replace hR := hR.keep hT1 (by simp)
  replace hP := hP.keep hT1 (by simp; omega) (fun k hk hm => by have := HV.out k hk; simp at hm; omega)
  replace hT := hT.trans hT1 (fun k hk hl => by simp at hk; omega)
  clear hU hT1 z0 y0
  refine (k4 _ hP).mono ?_
  rintro e u4 ⟨rfl, hP, hT1⟩
  replace hH := hH.keep hT1 (by simp; omega)
  replace hR := hR.keep hT1 (by simp; omega)
  replace hT := hT.trans hT1 (fun k hk _ => hk)
  obtain ⟨z0, y0⟩ := hH.2 3 _ rfl
  clear hT1 k4
  go_wp2_with fail
  obtain ⟨U4, hU⟩ : ∃ U, U = u4.setCell ⟨w.heap.size + 1, 3, none⟩ (.int .u32 (n4 : Int)) := ⟨_, rfl⟩
  rw [← hU]
  replace hH : Struct (w.heap.size + 1) [.int .u16 (n1 : Int), .bool y, .int .u16 (n3 : Int), .int .u32 (n4 : Int)] U4 := by rw [hU]; exact hH.set (i := 3) (by simp) (.int .u32 (n4 : Int))
  have hT1 : Turned [w.heap.size + 1] u4 U4 := by rw [hU]; exact (Turned.refl [w.heap.size + 1] u4).setCell (p := ⟨w.heap.size + 1, 3, none⟩) (.inl (by simp)) _
  replace hR := hR.keep hT1 (by simp)
  replace hP := hP.keep hT1 (by simp; omega) (fun k hk hm => by have := HV.out k hk; simp at hm; omega)
  replace hT := hT.trans hT1 (fun k hk hl => by simp at hk; omega)
  clear hU hT1 z0 y0

  obtain ⟨h0, _⟩ := hH.2 0 _ rfl
  obtain ⟨h1, _⟩ := hH.2 1 _ rfl
  obtain ⟨h2, _⟩ := hH.2 2 _ rfl
  obtain ⟨h3, _⟩ := hH.2 3 _ rfl
  obtain ⟨q0, j0⟩ := hR.2 0 _ rfl
  obtain ⟨q1, j1⟩ := hR.2 1 _ rfl
  obtain ⟨q2, j2⟩ := hR.2 2 _ rfl
  obtain ⟨q3, j3⟩ := hR.2 3 _ rfl
  have ko := BtD.ok_any p _ _ r4.fail U4 hP.1
  have kf := formed_any (n1 : Int) y (n3 : Int) (n4 : Int) U4
  obtain ⟨fm, hfm⟩ : ∃ fm, fm = (y || (decide ((n3 : Int) = 0) && decide ((n4 : Int) = 0))) := ⟨_, rfl⟩
  rw [← hfm] at kf HE
  clear hfm
  cases hf : r4.fail
  · rw [hf] at ko HBad
    refine ko.mono ?_
    rintro e w9 ⟨rfl, hw9⟩
    rw [hw9]
    clear hw9 w9 ko
    go_wp2_with fail
    refine kf.mono ?_
    rintro e u5 ⟨rfl, ht5⟩
    replace hP := hP.keep ht5 (by simp) (by simp)
    replace hT := hT.trans ht5 (by simp)
    replace hH := hH.keep ht5 (by simp)
    replace hR := hR.keep ht5 (by simp)
    clear h0 h1 h2 h3 q0 q1 q2 q3 j0 j1 j2 j3 kf ht5
    obtain ⟨h0, _⟩ := hH.2 0 _ rfl
    obtain ⟨h1, _⟩ := hH.2 1 _ rfl
    obtain ⟨h2, _⟩ := hH.2 2 _ rfl
    obtain ⟨h3, _⟩ := hH.2 3 _ rfl
    obtain ⟨q0, j0⟩ := hR.2 0 _ rfl
    obtain ⟨q1, j1⟩ := hR.2 1 _ rfl
    obtain ⟨q2, j2⟩ := hR.2 2 _ rfl
    obtain ⟨q3, j3⟩ := hR.2 3 _ rfl
    cases fm
    · go_wp2_with fail
      obtain ⟨hP9, hT9⟩ := pfin4 hP hT hpl HV.out 0 false 0 0
      have eb : Ch.bad r = true := by rw [HBad.out, HE.out]; rfl
      have er : Ch.read r = ⟨0, false, 0, 0⟩ := by rw [HR.out, eb]; rfl
      exact bodyPost_ret (v := .tuple #[.agg #[.int .u16 0, .bool false, .int .u16 0, .int .u32 0], .bool false]) (by simp [results, Try.results19, go_sem, q0, q1, q2, q3]) rfl ⟨by rw [eb, er]; rfl, hP9, hT9⟩
    · go_wp2_with fail
      obtain ⟨hP9, hT9⟩ := pfin4 hP hT hpl HV.out (n1 : Int) y (n3 : Int) (n4 : Int)
      have eb : Ch.bad r = false := by rw [HBad.out, HE.out]; rfl
      have er : Ch.read r = ⟨(n1 : Int), y, (n3 : Int), (n4 : Int)⟩ := by rw [HR.out, eb]; rfl
      exact bodyPost_ret (v := .tuple #[.agg #[.int .u16 (n1 : Int), .bool y, .int .u16 (n3 : Int), .int .u32 (n4 : Int)], .bool true]) (by simp [results, Try.results19, go_sem, q0, q1, q2, q3]) rfl ⟨by rw [eb, er]; rfl, hP9, hT9⟩
  · rw [hf] at ko HBad
    refine ko.mono ?_
    rintro e w9 ⟨rfl, hw9⟩
    rw [hw9]
    clear hw9 w9 ko
    go_wp2_with fail
    obtain ⟨hP9, hT9⟩ := pfin4 hP hT hpl HV.out 0 false 0 0
    have eb : Ch.bad r = true := by rw [HBad.out]; rfl
    have er : Ch.read r = ⟨0, false, 0, 0⟩ := by rw [HR.out, eb]; rfl
    exact bodyPost_ret (v := .tuple #[.agg #[.int .u16 0, .bool false, .int .u16 0, .int .u32 0], .bool false]) (by simp [results, Try.results19, go_sem, q0, q1, q2, q3]) rfl ⟨by rw [eb, er]; rfl, hP9, hT9⟩
end ChW
end Go.Proofs.Ytloobijdpchppaa

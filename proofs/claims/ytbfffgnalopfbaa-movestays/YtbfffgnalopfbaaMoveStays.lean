/- In a map that is all wall but for the tile one stands in nobody moves further than to its edges in up to 50 steps; the dead don't move at all. -/
import Derived.Test.YtbfffgnalopfbaaRows
import Derived.Test.YtbfffgnalopfbaaMvWalks
import Derived.Test.YtbfffgnalopfbaaMvLaw2
import Derived.Test.YtbfffgnalopfbaaFlat
import Derived.Test.YtbfffgnalopfbaaBitHeld
import Derived.WalkKit
import Derived.ProofKit
import Derived.OpenShut
import Derived.ChangeOld
import Derived.Below
import Derived.WalkSmall
import Derived.Lib.SmallJoins
import Derived.Laws.IdiomArrays
namespace Go.Proofs.Ytbfffgnalopfbaa.moveStays
open Go.ChangeShapes Go.WideShapes Go.ChangeAt Go.RowKit
set_option linter.unusedVariables false

theorem own : ownKnob Try.prog.godebug = none := by kernel_rfl
theorem laidOut : laidOutB Try.prog = true := by kernel_rfl

def enc0 (a : Int × Int) : List Value := [.int .i8 (a.1), .int .i8 (a.2)]
theorem leaf_of {k : IntKind} {v : Value} (h : (Leaf.int k).ok v) : ∃ z, v = .int k z ∧ (Lit.int k z).wf = true := h
theorem leafb_of {v : Value} (h : Leaf.bool.ok v) : ∃ b, v = .bool b := h
theorem enc0_of (cs : List Value) (h : AllOk [.int .i8, .int .i8] cs) : ∃ a, cs = enc0 a := by
  have hl := h.length
  obtain ⟨c0, c1, rfl⟩ : ∃ c0 c1, cs = [c0, c1] := by
    match cs, hl with
    | [c0, c1], _ => exact ⟨c0, c1, rfl⟩
  obtain ⟨x0, e0, _⟩ := leaf_of h.1
  obtain ⟨x1, e1, _⟩ := leaf_of h.2.1
  rw [e0, e1]
  exact ⟨(x0, x1), rfl⟩

theorem rmod_in {a : Int} {n : Nat} (ha : 0 ≤ a) (hn : 1 ≤ n) : ∃ k : Nat, a.tmod (n : Int) = (k : Int) ∧ k < n := by
  have h1 : a.tmod (n : Int) = a % (n : Int) := Int.tmod_eq_emod_of_nonneg ha
  have h2 := Int.emod_nonneg a (show (n : Int) ≠ 0 by omega)
  have h3 := Int.emod_lt_of_pos a (show (0 : Int) < (n : Int) by omega)
  exact ⟨(a.tmod (n : Int)).toNat, by rw [h1]; omega, by rw [h1]; omega⟩
theorem dead (m : Ti.M) (t mx my : Int) : Mv.walk m ⟨2, 1, 98304, 98304, 0, 0, 0, t⟩ mx my = ⟨2, 1, 98304, 98304, 0, 0, 0, t⟩ := by
  have h : Mv.walks ⟨2, 1, 98304, 98304, 0, 0, 0, t⟩ mx my = false := by unfold Mv.walks; simp
  unfold Mv.walk
  rw [h]
  rfl

set_option maxRecDepth 20000 in
set_option maxHeartbeats 8000000 in
theorem walk (a0_o : Option Addr) (a0_n a0_c : Nat) (a0_l : List (Int × Int)) (a1 : Int) (w0_m : a0_n ≤ maxLen) (w0_l : a0_n ≤ a0_c) (w0_e : a0_l.length = a0_n) (w0_k : ∀ a ∈ a0_l, AllOk [.int .i8, .int .i8] (enc0 a)) (w1 : (Lit.int .u8 a1).wf = true) (w : World) (w0 : RowOf 2 enc0 a0_o a0_l w) :
    Calls Try.prog 6 #[.slice a0_o a0_n a0_c, .int .u8 a1] w fun e w' => e = .returned (.bool true) ∧ Below w.heap.size w w' := by
  have K := MvW.contracts
  have kA := MvL.awake_any K
  have kr := fun u => TiW.read_any ⟨Mv.textS.toArray⟩ (by decide) u
  unfold TiR.Answers at kr
  rw [show (⟨Mv.textS.toArray⟩ : ByteArray).data.toList = Mv.textS from rfl, Mv.readS] at kr
  simp only [Ti.ansM, Ti.ansN, Ti.ansE] at kr
  rw [show Ti.mOf ⟨0, 3, 3, [true, true, true, true, false, true, true, true, true], [(98304, 98304)]⟩ = Mv.mapS from rfl] at kr
  have kr : ∀ u, Calls Try.prog 17 #[.string ⟨#[226, 150, 136, 226, 150, 136, 226, 150, 136, 10, 226, 150, 136, 226, 151, 142, 226, 150, 136, 10, 226, 150, 136, 226, 150, 136, 226, 150, 136, 10]⟩] u fun e w' => ∃ oa ca ob cb, e = .returned (.tuple #[.agg #[.int .i64 3, .int .i64 3, .slice oa 9 ca, .slice ob 1 cb], .int .i64 0, .int .i64 0]) ∧ MapAt Mv.mapS oa ob w' ∧ (∀ a, oa = some a → u.heap.size ≤ a.block) ∧ (∀ a, ob = some a → u.heap.size ≤ a.block) ∧ Turned [] u w' := kr
  have hu := u8_in w1
  obtain ⟨N, hN, hNl⟩ := rmod_in (a := a1) (n := 20) hu.1 (by decide)
  have hN : a1.tmod 20 = (N : Int) := hN
  unfold maxLen at w0_m
  by_cases hlen : (a0_n : Int) ≤ 50
  · have hlen' : ¬ 50 < (a0_n : Int) := by omega
    have HE : Hid (a0_l.length = a0_n) := w0_e
    have HK : Hid (∀ a ∈ a0_l, (-128 ≤ a.1 ∧ a.1 ≤ 127) ∧ (-128 ≤ a.2 ∧ a.2 ≤ 127)) := fun a ha => ⟨i8_in (en_ok (w0_k a ha).1), i8_in (en_ok (w0_k a ha).2.1)⟩
    clear w0_e w0_k
    go_enter Try.func6, Try.ntmps6
    go_wp2_with (first | (go_at_call 17; (with_reducible refine (kr _).mono ?_); rintro r u1 ⟨oa, ca, ob, cb, rfl, hM1, _, _, HT1⟩; obtain ⟨g, off, hob, hg, v0, v1⟩ := place_at hM1.sp (k := 0) (b := (98304, 98304)) rfl; rw [Nat.zero_mul, Nat.add_zero] at v0 v1; subst hob; have hS := Struct.new u1 [.int .i64 3, .int .i64 3, .slice oa 9 ca, .slice (some ⟨g, off, none⟩) 1 cb] 25; have hMa := hM1.calm ((Turned.refl [] u1).alloc (.cells #[.int .i64 3, .int .i64 3, .slice oa 9 ca, .slice (some ⟨g, off, none⟩) 1 cb] 25)); have HT0 := HT1.alloc (.cells #[.int .i64 3, .int .i64 3, .slice oa 9 ca, .slice (some ⟨g, off, none⟩) 1 cb] 25)) | (go_at_call 8; (with_reducible refine (kA _).mono ?_); rintro r u2 ⟨rfl, HT2⟩; have hS := hS.keep HT2 (by simp); have hMa := hMa.calm HT2; have HT0 := HT0.trans HT2 (by simp); have hAA := ((Turned.refl [] u1).alloc (.cells #[.int .i64 3, .int .i64 3, .slice oa 9 ca, .slice (some ⟨g, off, none⟩) 1 cb] 25)).trans HT2 (by simp); have q0 := (hAA.cell (p := ⟨g, off, none⟩) hg (by simp)).trans v0; have q1 := (hAA.cell (p := ⟨g, off + 1, none⟩) hg (by simp)).trans v1; have d0 := (hS.2 0 _ rfl).1; have do0 := fun o => ((hS.keep ((Turned.refl [] _).alloc o) (by simp)).2 0 _ rfl).1; have d1 := (hS.2 1 _ rfl).1; have do1 := fun o => ((hS.keep ((Turned.refl [] _).alloc o) (by simp)).2 1 _ rfl).1; have d2 := (hS.2 2 _ rfl).1; have do2 := fun o => ((hS.keep ((Turned.refl [] _).alloc o) (by simp)).2 2 _ rfl).1; have d3 := (hS.2 3 _ rfl).1; have do3 := fun o => ((hS.keep ((Turned.refl [] _).alloc o) (by simp)).2 3 _ rfl).1; have hgl : g < u2.heap.size := Nat.lt_of_lt_of_le hg (Nat.le_trans (by simp) hAA.size); have qo0 := fun o => (((Turned.refl [] u2).alloc o).cell (p := ⟨g, off, none⟩) hgl (by simp)).trans q0; have qo1 := fun o => (((Turned.refl [] u2).alloc o).cell (p := ⟨g, off + 1, none⟩) hgl (by simp)).trans q1))
    obtain ⟨W1, hW1⟩ : ∃ W, W = ((u2.alloc (.cells #[.int .i64 2, .int .i64 1, .int .i64 98304, .int .i64 98304, .int .i64 0, .int .i64 0, .int .i64 9, .int .i64 0] 30)).alloc (.cells #[.int .i64 2, .int .i64 1, .int .i64 98304, .int .i64 98304, .int .i64 0, .int .i64 0, .int .i64 0, .int .i64 (1 + (N : Int))] 30)) := ⟨_, rfl⟩
    obtain ⟨M, hM⟩ : ∃ b, b = u1.heap.size := ⟨_, rfl⟩
    obtain ⟨C, hC⟩ : ∃ b, b = u2.heap.size := ⟨_, rfl⟩
    obtain ⟨D, hD⟩ : ∃ b, b = u2.heap.size + 1 := ⟨_, rfl⟩
    have hTu : Turned [] u2 W1 := by rw [hW1]; exact ((Turned.refl [] u2).alloc _).alloc _
    have hE : Struct C (enEnc ⟨2, 1, 98304, 98304, 0, 0, 9, 0⟩) W1 := by
      rw [hW1, hC]
      exact (Struct.new u2 [.int .i64 2, .int .i64 1, .int .i64 98304, .int .i64 98304, .int .i64 0, .int .i64 0, .int .i64 9, .int .i64 0] 30).keep ((Turned.refl [] _).alloc _) (by simp)
    have hDS : Struct D [.int .i64 2, .int .i64 1, .int .i64 98304, .int .i64 98304, .int .i64 0, .int .i64 0, .int .i64 0, .int .i64 (1 + (N : Int))] W1 := by
      have h0 := Struct.new (u2.alloc (.cells #[.int .i64 2, .int .i64 1, .int .i64 98304, .int .i64 98304, .int .i64 0, .int .i64 0, .int .i64 9, .int .i64 0] 30)) [.int .i64 2, .int .i64 1, .int .i64 98304, .int .i64 98304, .int .i64 0, .int .i64 0, .int .i64 0, .int .i64 (1 + (N : Int))] 30
      rw [show (u2.alloc (.cells #[.int .i64 2, .int .i64 1, .int .i64 98304, .int .i64 98304, .int .i64 0, .int .i64 0, .int .i64 9, .int .i64 0] 30)).heap.size = u2.heap.size + 1 by simp, ← hD] at h0
      rw [hW1]
      exact h0
    rw [← hW1, ← hD, ← hC, ← hM]
    rw [← hM] at hS
    have hCu : u2.heap.size ≤ C := by omega
    have hDC : D ≠ C := by omega
    have hCw : w.heap.size ≤ C := Nat.le_trans HT0.size hCu
    have hTW : Turned [] w W1 := HT0.trans hTu (by simp)
    clear hW1 hC hD hM
    go_loopw [10] (fun i wr => ∃ (k : Nat) (e : En.E), k ≤ a0_n ∧ i = .int .i64 (k : Int) ∧ Struct C (enEnc e) wr ∧ e.wf ∧ Mv.stands Mv.mapS e.ax e.ay = true ∧ Turned [C] W1 wr) (fun i _ => a0_n - (intOf i).toNat)
    case atStart => exact ⟨0, _, by omega, rfl, hE, by unfold En.E.wf En.I64; decide, Mv.start_stays, Turned.refl _ _⟩
    case round =>
      obtain ⟨k, e, hk, rfl, hE1, hewf1, hst1, HT3⟩ := hrel
      have hD1 := hDS.keep HT3 (by simpa using hDC)
      have hTw1 : Turned [] w wr := hTW.trans HT3 (by intro k hk hl; simp at hk; omega)
      have hTr : Turned [] u2 wr := hTu.trans HT3 (by intro k hk hl; simp at hk; omega)
      have hside : ∀ u, Turned [C] wr u → Turned [] u2 u := fun u h => hTr.trans h (by intro k hk hl; simp at hk; omega)
      have hsidew : ∀ u, Turned [C] wr u → Turned [] w u := fun u h => hTw1.trans h (by intro k hk hl; simp at hk; omega)
      by_cases hlt : (k : Int) < (a0_n : Int)
      · obtain ⟨s, hs⟩ : ∃ s, a0_l[k]? = some s := ⟨_, List.getElem?_eq_getElem (by have := HE.out; omega)⟩
        obtain ⟨s0, s1⟩ := s
        obtain ⟨hs0, hs1⟩ := HK.out _ (List.mem_of_getElem? hs)
        have hs0 : -128 ≤ s0 ∧ s0 ≤ 127 := hs0
        have hs1 : -128 ≤ s1 ∧ s1 ≤ 127 := hs1
        obtain ⟨g2, off2, rfl, hg2, hc2⟩ := w0 k _ hs
        have p0 : w.cell? ⟨g2, off2 + k * 2, none⟩ = some (.int .i8 s0) := hc2 0 _ rfl
        have p1 : w.cell? ⟨g2, off2 + k * 2 + 1, none⟩ = some (.int .i8 s1) := hc2 1 _ rfl
        have y1 := (Mv.walk_free hst1 hs0 hs1).1
        have hxwf := Mv.walk_wf (m := Mv.mapS) hewf1 hs0 hs1
        have kw : ∀ u, Turned [] u2 u → Calls Try.prog 10 #[.agg #[.int .i64 3, .int .i64 3, .slice oa 9 ca, .slice (some ⟨g, off, none⟩) 1 cb], .agg #[.int .i64 e.id, .int .i64 e.kind, .int .i64 e.ax, .int .i64 e.ay, .int .i64 e.vx, .int .i64 e.vy, .int .i64 e.h, .int .i64 e.t], .int .i8 s0, .int .i8 s1] u fun r w' => r = .returned (enVal (Mv.walk Mv.mapS e s0 s1)) ∧ Turned [] u w' := fun u h => K.walk Mv.mapS oa ca (some ⟨g, off, none⟩) cb e s0 s1 hewf1 hs0 hs1 u (hMa.calm h)
        have kd := fun (u : World) (h : Turned [] u2 u) => K.walk Mv.mapS oa ca (some ⟨g, off, none⟩) cb ⟨2, 1, 98304, 98304, 0, 0, 0, 1 + (N : Int)⟩ s0 s1 ⟨by unfold En.I64; show -9223372036854775808 ≤ (2 : Int) ∧ (2 : Int) < 9223372036854775808; omega, by unfold En.I64; show -9223372036854775808 ≤ (1 : Int) ∧ (1 : Int) < 9223372036854775808; omega, by unfold En.I64; show -9223372036854775808 ≤ (98304 : Int) ∧ (98304 : Int) < 9223372036854775808; omega, by unfold En.I64; show -9223372036854775808 ≤ (98304 : Int) ∧ (98304 : Int) < 9223372036854775808; omega, by unfold En.I64; show -9223372036854775808 ≤ (0 : Int) ∧ (0 : Int) < 9223372036854775808; omega, by unfold En.I64; show -9223372036854775808 ≤ (0 : Int) ∧ (0 : Int) < 9223372036854775808; omega, by unfold En.I64; show -9223372036854775808 ≤ (0 : Int) ∧ (0 : Int) < 9223372036854775808; omega, by unfold En.I64; show -9223372036854775808 ≤ ((1 + (N : Int)) : Int) ∧ ((1 + (N : Int)) : Int) < 9223372036854775808; omega⟩ hs0 hs1 u (hMa.calm h)
        rw [dead] at kd
        have kd : ∀ u, Turned [] u2 u → Calls Try.prog 10 #[.agg #[.int .i64 3, .int .i64 3, .slice oa 9 ca, .slice (some ⟨g, off, none⟩) 1 cb], .agg #[.int .i64 2, .int .i64 1, .int .i64 98304, .int .i64 98304, .int .i64 0, .int .i64 0, .int .i64 0, .int .i64 (1 + (N : Int))], .int .i8 s0, .int .i8 s1] u fun r w' => r = .returned (.agg #[.int .i64 2, .int .i64 1, .int .i64 98304, .int .i64 98304, .int .i64 0, .int .i64 0, .int .i64 0, .int .i64 (1 + (N : Int))]) ∧ Turned [] u w' := kd
        obtain ⟨x, hx⟩ : ∃ x, x = Mv.walk Mv.mapS e s0 s1 := ⟨_, rfl⟩
        rw [← hx] at y1 hxwf kw
        unfold enVal at kw
        obtain ⟨⟨b1, b2⟩, b3, b4⟩ := Mv.stays y1
        have l1 : decide (x.ax < 90112) = false := by simpa using b1
        have l2 : decide (106496 < x.ax) = false := by simpa using b2
        have l3 : decide (x.ay < 90112) = false := by simpa using b3
        have l4 : decide (106496 < x.ay) = false := by simpa using b4
        have hne : ∀ u, (binOp .neq 30 (.agg #[.int .i64 2, .int .i64 1, .int .i64 98304, .int .i64 98304, .int .i64 0, .int .i64 0, .int .i64 0, .int .i64 (1 + (N : Int))]) (.agg #[.int .i64 2, .int .i64 1, .int .i64 98304, .int .i64 98304, .int .i64 0, .int .i64 0, .int .i64 0, .int .i64 (1 + (N : Int))])).run Try.prog u = .ok (.bool false) u := fun u => mv_diff _ _ _ _ _ _ _ _ u
        have HXW : Hid x.wf := hxwf
        have HEW : Hid e.wf := hewf1
        clear hx hxwf hewf1 b1 b2 b3 b4
        have c0 := (hE1.2 0 _ rfl).1
        have f0 := (hE1.2 0 _ rfl).2
        have c1 := (hE1.2 1 _ rfl).1
        have f1 := (hE1.2 1 _ rfl).2
        have c2 := (hE1.2 2 _ rfl).1
        have f2 := (hE1.2 2 _ rfl).2
        have c3 := (hE1.2 3 _ rfl).1
        have f3 := (hE1.2 3 _ rfl).2
        have c4 := (hE1.2 4 _ rfl).1
        have f4 := (hE1.2 4 _ rfl).2
        have c5 := (hE1.2 5 _ rfl).1
        have f5 := (hE1.2 5 _ rfl).2
        have c6 := (hE1.2 6 _ rfl).1
        have f6 := (hE1.2 6 _ rfl).2
        have c7 := (hE1.2 7 _ rfl).1
        have f7 := (hE1.2 7 _ rfl).2
        have hSof : ∀ u, Turned [C] wr u → (fun u => (u.cell? ⟨M, 0, none⟩ = some (.int .i64 3) ∧ u.cell? ⟨M, 1, none⟩ = some (.int .i64 3) ∧ u.cell? ⟨M, 2, none⟩ = some (.slice oa 9 ca) ∧ u.cell? ⟨M, 3, none⟩ = some (.slice (some ⟨g, off, none⟩) 1 cb)) ∧ (u.cell? ⟨g2, off2 + k * 2, none⟩ = some (.int .i8 s0) ∧ u.cell? ⟨g2, off2 + k * 2 + 1, none⟩ = some (.int .i8 s1)) ∧ Turned [C] wr u) u := fun u h => ⟨⟨((hS.keep (hside u h) (by simp)).2 0 _ rfl).1, ((hS.keep (hside u h) (by simp)).2 1 _ rfl).1, ((hS.keep (hside u h) (by simp)).2 2 _ rfl).1, ((hS.keep (hside u h) (by simp)).2 3 _ rfl).1⟩, ⟨((hsidew u h).cell (p := ⟨g2, off2 + k * 2, none⟩) hg2 (by simp)).trans p0, ((hsidew u h).cell (p := ⟨g2, off2 + k * 2 + 1, none⟩) hg2 (by simp)).trans p1⟩, h⟩
        have hTof : ∀ u, (fun u => (u.cell? ⟨M, 0, none⟩ = some (.int .i64 3) ∧ u.cell? ⟨M, 1, none⟩ = some (.int .i64 3) ∧ u.cell? ⟨M, 2, none⟩ = some (.slice oa 9 ca) ∧ u.cell? ⟨M, 3, none⟩ = some (.slice (some ⟨g, off, none⟩) 1 cb)) ∧ (u.cell? ⟨g2, off2 + k * 2, none⟩ = some (.int .i8 s0) ∧ u.cell? ⟨g2, off2 + k * 2 + 1, none⟩ = some (.int .i8 s1)) ∧ Turned [C] wr u) u → Turned [C] wr u := fun u h => h.2.2
        go_wp2_with fail
        refine wp_region_held_drew (S := (fun u => (u.cell? ⟨M, 0, none⟩ = some (.int .i64 3) ∧ u.cell? ⟨M, 1, none⟩ = some (.int .i64 3) ∧ u.cell? ⟨M, 2, none⟩ = some (.slice oa 9 ca) ∧ u.cell? ⟨M, 3, none⟩ = some (.slice (some ⟨g, off, none⟩) 1 cb)) ∧ (u.cell? ⟨g2, off2 + k * 2, none⟩ = some (.int .i8 s0) ∧ u.cell? ⟨g2, off2 + k * 2 + 1, none⟩ = some (.int .i8 s1)) ∧ Turned [C] wr u)) (by kernel_rfl) (hSof _ ((Turned.refl [C] wr).drew)) (fun hHeld => ?_)
        refine BtL.take_d (some 52) (i := 0) (v := ?_) rfl rfl (by kernel_rfl) (by kernel_rfl) (by kernel_rfl) (fun _ _ _ h => h) (Or.inl ⟨by rfl, ?_⟩) (by assumption) ?_
        rotate_left
        · (intro w hSw; (try dsimp only at hSw); go_simp; try with_reducible rfl)
        simp only [Act.put, List.setIfInBounds_toArray, List.set_cons_zero, List.set_cons_succ]
        refine BtL.take_d (some 54) (i := 2) (v := ?_) rfl rfl (by kernel_rfl) (by kernel_rfl) (by kernel_rfl) (fun _ _ _ h => h) (Or.inl ⟨by rfl, ?_⟩) (by assumption) ?_
        rotate_left
        · (intro w hSw; (try dsimp only at hSw); go_simp; try with_reducible rfl)
        simp only [Act.put, List.setIfInBounds_toArray, List.set_cons_zero, List.set_cons_succ]
        refine BtL.take_d (some 55) (i := 3) (v := ?_) rfl rfl (by kernel_rfl) (by kernel_rfl) (by kernel_rfl) (fun _ _ _ h => h) (Or.inl ⟨by rfl, ?_⟩) (by assumption) ?_
        rotate_left
        · (intro w hSw; (try dsimp only at hSw); go_simp; try with_reducible rfl)
        simp only [Act.put, List.setIfInBounds_toArray, List.set_cons_zero, List.set_cons_succ]
        refine BtL.take_d (some 56) (i := 4) (v := ?_) rfl rfl (by kernel_rfl) (by kernel_rfl) (by kernel_rfl) (fun _ _ _ h => h) (Or.inl ⟨by rfl, ?_⟩) (by assumption) ?_
        rotate_left
        · (intro w hSw; (try dsimp only at hSw); go_simp; try with_reducible rfl)
        simp only [Act.put, List.setIfInBounds_toArray, List.set_cons_zero, List.set_cons_succ]
        refine BtL.take_d (some 57) (i := 5) (v := ?_) rfl rfl (by kernel_rfl) (by kernel_rfl) (by kernel_rfl) (fun _ _ _ h => h) (Or.inl ⟨by rfl, ?_⟩) (by assumption) ?_
        rotate_left
        · (intro w hSw; (try dsimp only at hSw); go_simp; try with_reducible rfl)
        simp only [Act.put, List.setIfInBounds_toArray, List.set_cons_zero, List.set_cons_succ]
        refine BtL.take_d (some 58) (i := 6) (v := ?_) rfl rfl (by kernel_rfl) (by kernel_rfl) (by kernel_rfl) (fun _ _ _ h => h) (Or.inl ⟨by rfl, ?_⟩) (by assumption) ?_
        rotate_left
        · (intro w hSw; (try dsimp only at hSw); go_simp; try with_reducible rfl)
        simp only [Act.put, List.setIfInBounds_toArray, List.set_cons_zero, List.set_cons_succ]
        refine BtL.take_d (some 59) (i := 7) (v := ?_) rfl rfl (by kernel_rfl) (by kernel_rfl) (by kernel_rfl) (fun _ _ _ h => h) (Or.inl ⟨by rfl, ?_⟩) (by assumption) ?_
        rotate_left
        · (intro w hSw; (try dsimp only at hSw); go_simp; try with_reducible rfl)
        simp only [Act.put, List.setIfInBounds_toArray, List.set_cons_zero, List.set_cons_succ]
        refine BtL.take_d (some 60) (i := 8) (v := ?_) rfl rfl (by kernel_rfl) (by kernel_rfl) (by kernel_rfl) (fun _ _ _ h => h) (Or.inl ⟨by rfl, ?_⟩) (by assumption) ?_
        rotate_left
        · (intro w hSw; (try dsimp only at hSw); go_simp; try with_reducible rfl)
        simp only [Act.put, List.setIfInBounds_toArray, List.set_cons_zero, List.set_cons_succ]
        refine BtL.take_d (some 61) (i := 9) (v := ?_) rfl rfl (by kernel_rfl) (by kernel_rfl) (by kernel_rfl) (fun _ _ _ h => h) (Or.inl ⟨by rfl, ?_⟩) (by assumption) ?_
        rotate_left
        · (intro w hSw; (try dsimp only at hSw); go_simp; try with_reducible rfl)
        simp only [Act.put, List.setIfInBounds_toArray, List.set_cons_zero, List.set_cons_succ]
        refine BtL.take_d (some 62) (i := 10) (v := ?_) rfl rfl (by kernel_rfl) (by kernel_rfl) (by kernel_rfl) (fun _ _ _ h => h) (Or.inl ⟨by rfl, ?_⟩) (by assumption) ?_
        rotate_left
        · (intro w hSw; (try dsimp only at hSw); go_simp; try with_reducible rfl)
        simp only [Act.put, List.setIfInBounds_toArray, List.set_cons_zero, List.set_cons_succ]
        refine BtL.take_d (some 63) (i := 11) (v := ?_) rfl rfl (by kernel_rfl) (by kernel_rfl) (by kernel_rfl) (fun _ _ _ h => h) (Or.inl ⟨by rfl, ?_⟩) (by assumption) ?_
        rotate_left
        · (intro w hSw; (try dsimp only at hSw); go_simp; try with_reducible rfl)
        simp only [Act.put, List.setIfInBounds_toArray, List.set_cons_zero, List.set_cons_succ]
        refine wpAnyH_ready (rs := [1]) (by kernel_rfl) (by simp) ?_
        refine AllReadyH.cons rfl (fun K hK => ?_) AllReadyH.nil
        go_simp
        refine hK.out _ _ ?_ (fun hHeld => ?_)
        · exact hSof _ ((Turned.refl [C] wr).drew)
        clear hK K
        try simp only [Act.put, List.setIfInBounds_toArray, List.set_cons_zero, List.set_cons_succ]
        refine wpAnyH_ready (rs := [12]) (by kernel_rfl) (by simp) ?_
        refine AllReadyH.cons rfl (fun K hK => ?_) AllReadyH.nil
        go_simp
        go_at_call 10
        with_reducible refine (kw _ (hside _ ((Turned.refl [C] wr).drew))).mono ?_
        rintro r u3 ⟨rfl, HT5⟩
        have HT6 : Turned [] wr u3 := ((Turned.refl [] wr).drew).trans HT5 (by simp)
        have HT7 : Turned [C] wr u3 := HT6.mono (by simp)
        have hE3 := hE1.keep HT6 (by simp)
        have c0 := (hE3.2 0 _ rfl).1
        have f0 := (hE3.2 0 _ rfl).2
        have c1 := (hE3.2 1 _ rfl).1
        have f1 := (hE3.2 1 _ rfl).2
        have c2 := (hE3.2 2 _ rfl).1
        have f2 := (hE3.2 2 _ rfl).2
        have c3 := (hE3.2 3 _ rfl).1
        have f3 := (hE3.2 3 _ rfl).2
        have c4 := (hE3.2 4 _ rfl).1
        have f4 := (hE3.2 4 _ rfl).2
        have c5 := (hE3.2 5 _ rfl).1
        have f5 := (hE3.2 5 _ rfl).2
        have c6 := (hE3.2 6 _ rfl).1
        have f6 := (hE3.2 6 _ rfl).2
        have c7 := (hE3.2 7 _ rfl).1
        have f7 := (hE3.2 7 _ rfl).2
        try go_wp2_with fail
        refine hK.out _ _ ?_ (fun hHeld => ?_)
        · exact hSof _ HT7
        clear hK K
        try simp only [Act.put, List.setIfInBounds_toArray, List.set_cons_zero, List.set_cons_succ]
        refine wpAnyH_ready (rs := [13]) (by kernel_rfl) (by simp) ?_
        refine AllReadyH.cons rfl (fun K hK => ?_) AllReadyH.nil
        go_simp
        refine hK.out _ _ ?_ (fun hHeld => ?_)
        · exact hSof _ (MvR.turned8 HT7 (.inl (by simp)) x)
        clear hK K
        try simp only [Act.put, List.setIfInBounds_toArray, List.set_cons_zero, List.set_cons_succ]
        refine wpAnyH_done (by kernel_rfl) ?_ _
        all_goals
          obtain ⟨V, hV⟩ : ∃ V, V = MvR.put8 u3 C x := ⟨_, rfl⟩
          have hXV : Struct C (enEnc x) V := by rw [hV]; exact MvR.set8 (e := e) hE3 x
          have hTV : Turned [C] wr V := by rw [hV]; exact MvR.turned8 HT7 (.inl (by simp)) x
          simp only [MvR.put8] at hV
          rw [← hV]
          clear hV
          go_wp2_with fail
          have hSV := hS.keep (hside _ hTV) (by simp)
          have hDV := hD1.keep hTV (by simpa using hDC)
          have hTwV := hsidew _ hTV
          have kp0 := KeptW.at (Nat.lt_of_lt_of_le hg2 hTwV.size) ((hTwV.cell (p := ⟨g2, off2 + k * 2, none⟩) hg2 (by simp)).trans p0)
          have kp1 := KeptW.at (Nat.lt_of_lt_of_le hg2 hTwV.size) ((hTwV.cell (p := ⟨g2, off2 + k * 2 + 1, none⟩) hg2 (by simp)).trans p1)
          have ks0 := KeptW.at hSV.1 (hSV.2 0 _ rfl).1
          have ks1 := KeptW.at hSV.1 (hSV.2 1 _ rfl).1
          have ks2 := KeptW.at hSV.1 (hSV.2 2 _ rfl).1
          have ks3 := KeptW.at hSV.1 (hSV.2 3 _ rfl).1
          have kq0 := KeptW.at hDV.1 (hDV.2 0 _ rfl).1
          have kq1 := KeptW.at hDV.1 (hDV.2 1 _ rfl).1
          have kq2 := KeptW.at hDV.1 (hDV.2 2 _ rfl).1
          have kq3 := KeptW.at hDV.1 (hDV.2 3 _ rfl).1
          have kq4 := KeptW.at hDV.1 (hDV.2 4 _ rfl).1
          have kq5 := KeptW.at hDV.1 (hDV.2 5 _ rfl).1
          have kq6 := KeptW.at hDV.1 (hDV.2 6 _ rfl).1
          have kq7 := KeptW.at hDV.1 (hDV.2 7 _ rfl).1
          have kx0 := KeptW.at hXV.1 (hXV.2 0 _ rfl).1
          have kx1 := KeptW.at hXV.1 (hXV.2 1 _ rfl).1
          have kx2 := KeptW.at hXV.1 (hXV.2 2 _ rfl).1
          have kx3 := KeptW.at hXV.1 (hXV.2 3 _ rfl).1
          have kx4 := KeptW.at hXV.1 (hXV.2 4 _ rfl).1
          have kx5 := KeptW.at hXV.1 (hXV.2 5 _ rfl).1
          have kx6 := KeptW.at hXV.1 (hXV.2 6 _ rfl).1
          have kx7 := KeptW.at hXV.1 (hXV.2 7 _ rfl).1
          have ne : Nonempty (KeptW V) := KeptW.one V
          have gW := fun (v : KeptW V) => MvL.quiet (kd v.u (hside _ (hTV.trans (Turned.ofBelow v.h) (by simp))))
          refine wp_region_kept (by kernel_rfl) (by kernel_rfl) ?_
          repeat (go_big_quiet_step (first | (go_at_call 10; with_reducible exact gW _)))
          refine wpQuiet_nil ?_
          rintro _ ⟨v, rfl⟩
          go_wp2_with fail
          go_roundw
          case rel => exact ⟨k + 1, x, by omega, by go_num, hXV.keep (Turned.ofBelow v.h) (by simp), HXW.out, y1, HT3.trans (hTV.trans (Turned.ofBelow v.h) (by simp)) (by simp)⟩
          case measure => simp [intOf]; omega
      · go_wp2_with fail
        go_ret
        exact ⟨rfl, hTw1.none⟩
  · have hlen' : 50 < (a0_n : Int) := by omega
    go_enter Try.func6, Try.ntmps6
    go_wp2_with (first | (go_at_call 17; (with_reducible refine (kr _).mono ?_); rintro r u1 ⟨oa, ca, ob, cb, rfl, hM1, _, _, HT1⟩; obtain ⟨g, off, hob, hg, v0, v1⟩ := place_at hM1.sp (k := 0) (b := (98304, 98304)) rfl; rw [Nat.zero_mul, Nat.add_zero] at v0 v1; subst hob; have hS := Struct.new u1 [.int .i64 3, .int .i64 3, .slice oa 9 ca, .slice (some ⟨g, off, none⟩) 1 cb] 25; have hMa := hM1.calm ((Turned.refl [] u1).alloc (.cells #[.int .i64 3, .int .i64 3, .slice oa 9 ca, .slice (some ⟨g, off, none⟩) 1 cb] 25)); have HT0 := HT1.alloc (.cells #[.int .i64 3, .int .i64 3, .slice oa 9 ca, .slice (some ⟨g, off, none⟩) 1 cb] 25)) | (go_at_call 8; (with_reducible refine (kA _).mono ?_); rintro r u2 ⟨rfl, HT2⟩; have HT0 := HT0.trans HT2 (by simp)))
    go_ret
    exact ⟨rfl, HT0.none⟩

set_option maxRecDepth 100000 in
theorem lifted (os : Os) (started : os.Started) (H : Type) (enc : TypeId × Value → H) :
    ReturnsInHanded {} Try.checked os 6 .any (Rows.moveStaysSpec.pre6 enc Try.prog Try.f6 Rows.moveStaysRow.domain false) (Rows.moveStaysSpec.post enc Try.prog Try.f6 false true false false) := by
  refine returnsInHanded_of_change (C := Try.checked) own started (by kernel_rfl) Try.func6
    (ChangeSpec.witness6 (enc := enc) (C := Try.checked) false ⟨#[], #[.slice none 0 0, .int .u8 0], []⟩ 8 (by kernel_rfl) (by kernel_rfl) (by kernel_rfl) (by kernel_rfl)) ?_
  intro W base args ds gs before hval0 hW hcnd _
  have hval : ∀ (j : Nat) t v, Try.f6.params[j]? = some t → args[j]? = some v → Value.okWide Try.prog W .any base t v := hval0
  have hW' := hW
  obtain ⟨p, q, hA0, hV, rfl, hfz, hnd⟩ := hW
  have hA : DataW.TrodAll enc Try.prog W 0 (fun _ => true) true Try.f6.params.toList args.toList ds p := hA0
  rw [Try.params6] at hA hval
  obtain ⟨v0, vs0, d0, ds0, p0, q0, hargs, rfl, rfl, h0, r0⟩ := trodAll_cons hA
  obtain ⟨v1, vs1, d1, ds1, p1, q1, rfl, rfl, rfl, h1, r1⟩ := trodAll_cons r0
  obtain ⟨rfl, rfl, rfl⟩ := trodAll_nil r1
  obtain rfl : args = #[v0, v1] := by cases args; simp_all
  obtain ⟨rfl, rfl⟩ := trodVars_none hV
  have k0 := h0
  have lt0 : ∀ x ∈ p0, x.block < W.heap.size := by obtain ⟨m, hm⟩ := k0; exact DataW.trod_lt m _ _ _ hm
  have k1 := h1
  have lt1 : ∀ x ∈ p1, x.block < W.heap.size := by obtain ⟨m, hm⟩ := k1; exact DataW.trod_lt m _ _ _ hm
  obtain ⟨a0_o, a0_n, a0_c, a0_l, rfl, w0_m, w0_l, w0_e, w0, w0_k⟩ := open_flats (d := 8) (ks := [.int .i8, .int .i8]) enc0 Try.underlying43 (by kernel_rfl) (by kernel_rfl) (by decide) enc0_of (hval 0 43 v0 rfl rfl) h0
  obtain ⟨a1, rfl, _, _, w1⟩ := open_int Try.underlying5 (hval 1 5 v1 rfl rfl) h1
  clear hA0 hval0
  refine (walk a0_o a0_n a0_c a0_l a1 w0_m w0_l w0_e w0_k w1 W w0).mono fun e W' ⟨he, bel⟩ => ?_
  subst he
  exact ⟨_, rfl, _, _, _, [], _, [], hW', trodAll_mk1 (shut_bool Try.underlying4 _), (trodAll_cons_mk (Below.trod laidOut (by kernel_rfl) (of_decide_eq_true (by kernel_rfl)) k0 bel lt0) (trodAll_cons_mk (Below.trod laidOut (by kernel_rfl) (of_decide_eq_true (by kernel_rfl)) k1 bel lt1) trodAll_mk0)), rfl, bel.frame _, fun h => by cases h⟩

theorem over : Rows.moveStaysRow.holds Try.pinned (OpenSpec.ofChange Rows.moveStaysSpec) :=
  OpenClaim.holds_of_wide 6 Try.f6 rfl rfl rfl rfl rfl rfl rfl ⟨rfl, rfl, rfl, rfl, rfl⟩ rfl rfl rfl rfl rfl (by kernel_rfl) Try.func6 (by kernel_rfl)
    (of_decide_eq_true (by kernel_rfl)) (by unfold Func.isWrapper; first | (rw [if_pos (by decide +kernel)]; kernel_rfl) | (rw [if_neg (by decide +kernel)]; exact ⟨rfl, rfl⟩))
    (fun os started H enc _ => lifted os started H enc)

theorem proved : Rows.MoveStaysSaid :=
  over
#print axioms proved
end Go.Proofs.Ytbfffgnalopfbaa.moveStays

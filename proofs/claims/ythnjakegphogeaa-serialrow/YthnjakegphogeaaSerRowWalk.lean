/- The law SerialRow, up to 200 numbers, as a walk. -/
import Derived.Test.YthnjakegphogeaaSerMem
namespace Go.Proofs.Ythnjakegphogeaa
open Go.RowKit
set_option linter.unusedVariables false

set_option maxHeartbeats 2000000 in
theorem SrL.row_any (a : Int) (oa : Option Addr) (len cap : Nat) (hlen : len ≤ 200) (w : World) (hrow : Lies .u8 256 oa len w) :
    Calls Try.prog 7 #[.int .u16 a, .slice oa len cap] w fun e w' => e = .returned (.bool true) ∧ Below w.heap.size w w' := by
  go_enter Try.func7, Try.ntmps7
  go_wp2_with (first | (go_at_call 8; refine (SrL.awake_any _).mono ?_; rintro e w' ⟨rfl, hw⟩; replace hw := hw.symm; subst hw))
  go_loopw [7] (fun i wr => ∃ (j : Nat) (y : Bool) (L m : Int) (f : Nat → Bool), j ≤ len ∧ i = .int .i64 j ∧ Sr.Row a y L m f ∧ Keep w [(w.heap.size, [.bool y, .int .u16 L, .int .u32 m])] wr ∧ Seen (w.heap.size + 1) 33 f wr) (fun i _ => len - (intOf i).toNat)
  case atStart =>
    exact ⟨0, false, 0, 0, fun _ => false, by omega, rfl, Sr.Row.none a, ⟨by simp [Lie, LieAt, go_sem, World.cell?_alloc_past, World.frozen?_alloc_past], by simp; omega, below_two _ _ _⟩, Seen.new _ _ 33⟩
  case round =>
    obtain ⟨j, y, L, m, f, hj, rfl, hR, hk, hs⟩ := hrel
    have hS := hk
    simp only [Keep, Lie, LieAt, Nat.reduceAdd] at hS
    obtain ⟨⟨⟨c0, f0, c1, f1, c2, f2, l0⟩, -⟩, -⟩ := hS
    by_cases hlt : j < len
    · obtain ⟨b, off, z, rfl, hb, hc, hz⟩ := hrow j hlt
      have hcr : wr.cell? ⟨b, off + j, none⟩ = some (.int .u8 (z : Int)) := (hk.2.2.cell (p := ⟨b, off + j, none⟩) hb).trans hc
      obtain ⟨k, hk33, hzk⟩ : ∃ k : Nat, k < 33 ∧ (z : Int) % 33 = k := ⟨z % 33, by omega, by omega⟩
      have hn : IntKind.u16.wrap (a + (k : Int)) = Sr.num a k := by rw [IntKind.wrap_u16]; rfl
      have hnew := hR.isnew hk33
      have hm0 := hR.1
      have hm := hR.2.1
      go_wp2_with (go_at_call 12; refine (SrW.take_any _ _ _ _ _ hm0 hm).mono ?_; rintro e u ⟨rfl, hb⟩; have hk1 := hk.on hb; have hs1 := hs.keep hb; have hl1 := hs1.1; have hl2 := hk1.1.1.lt; have hsk := (hs1.2 k hk33).1; have hfk := (hs1.2 k hk33).2; have hw0 := hk1; simp only [Keep, Lie, LieAt, Nat.reduceAdd] at hw0)
      go_roundw
      case rel => exact ⟨j + 1, true, _, _, _, by omega, by go_num, hR.next hk33, (Keep.set3 (hk1.far (by omega) (by simp)) (Nat.le_refl _) (by simp)).alloc _, ((hs1.put hk33 true).far3 (by omega)).alloc _⟩
      case measure => simp [intOf]; omega
    · clear c0 f0 c1 f1 c2 f2 l0
      go_wp2_with fail
      go_loopw [11] (fun i u => ∃ (q : Nat), q ≤ 33 ∧ i = .int .i64 q ∧ Keep w [(w.heap.size, [.bool y, .int .u16 L, .int .u32 m])] u ∧ Seen (w.heap.size + 1) 33 f u) (fun i _ => 33 - (intOf i).toNat)
      case atStart => exact ⟨0, by omega, rfl, hk, hs⟩
      case round =>
        obtain ⟨q, hq, rfl, hk2, hs2⟩ := hrel
        by_cases hlq : q < 33
        · have hS := hk2
          simp only [Keep, Lie, LieAt, Nat.reduceAdd] at hS
          obtain ⟨⟨⟨c0, -, c1, -, c2, -, l0⟩, -⟩, -⟩ := hS
          have hn : IntKind.u16.wrap (a + (q : Int)) = Sr.num a q := by rw [IntKind.wrap_u16]; rfl
          have hhad := hR.had hlq
          have hm0 := hR.1
          have hm := hR.2.1
          have ne : Nonempty (KeptW wr) := KeptW.one wr
          have d0 := KeptW.at l0 c0
          have d1 := KeptW.at l0 c1
          have d2 := KeptW.at l0 c2
          have d3 := KeptW.at hs2.1 (hs2.2 q hlq).1
          go_wp2_with fail
          refine wp_region_kept (by kernel_rfl) (by kernel_rfl) ?_
          repeat (go_big_quiet_step ((go_at_call 14; exact kept_call (SrW.has_any _ _ _ _ _ hm0 hm))))
          refine wpQuiet_nil ?_
          rintro _ ⟨x, rfl⟩
          go_wp2
          go_roundw
          case rel => exact ⟨q + 1, by omega, by go_num, hk2.on x.h, hs2.keep x.h⟩
          case measure => simp [intOf]; omega
        · obtain rfl : q = 33 := by omega
          go_wp2_with fail
          go_ret
          exact ⟨rfl, hk2.2.2⟩
end Go.Proofs.Ythnjakegphogeaa

/- The law SerialOnce, up to 200 numbers, as a walk. -/
import Derived.Test.YthnjakegphogeaaSerMem
namespace Go.Proofs.Ythnjakegphogeaa
open Go.RowKit
set_option linter.unusedVariables false

theorem win_neq (y y' : Bool) (l m l' m' : Int) (w : World) : (binOp .neq 28 (.agg #[.bool y, .int .u16 l, .int .u32 m]) (.agg #[.bool y', .int .u16 l', .int .u32 m'])).run Try.prog w = .ok (.bool (!((y == y') && (l == l') && (m == m')))) w := by
  rw [run_neq_struct, run_equalIn_agg (d := 9999) (ht := by kernel_rfl) (hp := by kernel_rfl)]
  simp [go_sem]
  by_cases h0 : y = y' <;> by_cases h : l = l' <;> by_cases h' : m = m' <;> simp [h0, h, h']

set_option maxHeartbeats 2000000 in
theorem SrL.once_any (a : Int) (oa : Option Addr) (len cap : Nat) (hlen : len ≤ 200) (w : World) (hrow : Lies .u16 65536 oa len w) :
    Calls Try.prog 5 #[.int .u16 a, .slice oa len cap] w fun e w' => e = .returned (.bool true) ∧ Below w.heap.size w w' := by
  have hz := zeros_run 38 (by kernel_rfl)
  go_enter Try.func5, Try.ntmps5
  go_wp2_with (first | (go_at_call 8; refine (SrL.awake_any _).mono ?_; rintro e w' ⟨rfl, hw⟩; replace hw := hw.symm; subst hw))
  go_loopw [7] (fun i wr => ∃ (j : Nat) (y : Bool) (L m : Int) (f : Nat → Bool), j ≤ len ∧ i = .int .i64 j ∧ Sr.Once a y L m f ∧ Keep w [(w.heap.size, [.bool y, .int .u16 L, .int .u32 m])] wr ∧ Seen (w.heap.size + 1) 1000 f wr) (fun i _ => len - (intOf i).toNat)
  case atStart => exact ⟨0, false, 0, 0, fun _ => false, by omega, rfl, Sr.Once.none a, ⟨by simp [Lie, LieAt, go_sem, World.cell?_alloc_past, World.frozen?_alloc_past], by simp; omega, below_two _ _ _⟩, Seen.new _ _ 1000⟩
  case round =>
    clear hz
    have he := win_neq
    obtain ⟨j, y, L, m, f, hj, rfl, hO, hk, hs⟩ := hrel
    have hS := hk
    simp only [Keep, Lie, LieAt, Nat.reduceAdd] at hS
    obtain ⟨⟨⟨c0, f0, c1, f1, c2, f2, l0⟩, -⟩, -⟩ := hS
    by_cases hlt : j < len
    · obtain ⟨b, off, z, rfl, hb, hc, hz⟩ := hrow j hlt
      have hcr : wr.cell? ⟨b, off + j, none⟩ = some (.int .u16 (z : Int)) := (hk.2.2.cell (p := ⟨b, off + j, none⟩) hb).trans hc
      obtain ⟨k, hkk, hzk⟩ : ∃ k : Nat, k < 1000 ∧ (z : Int) % 1000 = k := ⟨z % 1000, by omega, by omega⟩
      have hn : IntKind.u16.wrap (a + (k : Int)) = Sr.num a k := by rw [IntKind.wrap_u16]; rfl
      have hm0 := hO.1
      have hm := hO.2.1
      have hM := Sr.mask_in (any := y) (l := L) (n := Sr.num a k) hm0 hm
      cases ho : Sr.ok y L m (Sr.num a k)
      · obtain rfl := Sr.ok_any ho
        have hL := Sr.last_stay (Sr.not_on ho)
        have hMs := Sr.mask_stay (Sr.not_on ho) ho
        have hss := Sr.steps_self L
        cases hfk : f k
        all_goals
          go_wp2_with (first | (go_at_call 12; refine (SrW.take_any _ _ _ _ _ hm0 hm).mono ?_; rintro e u ⟨rfl, hb⟩; have hk1 := hk.on hb; have hs1 := hs.keep hb; have hl1 := hs1.1; have hl2 := hk1.1.1.lt; have hsk := (hs1.2 k hkk).1; have hfr := (hs1.2 k hkk).2; have hw0 := hk1; simp only [Keep, Lie, LieAt, Nat.reduceAdd] at hw0) | (go_at_call 9; refine (SrW.steps_any _ _ _).mono ?_; rintro e w' ⟨rfl, hw⟩; replace hw := hw.symm; subst hw))
          go_roundw
          case rel => exact ⟨j + 1, true, _, _, _, by omega, by go_num, hO.same hfk, (Keep.set3 (hk1.far (by omega) (by simp)) (Nat.le_refl _) (by simp)).alloc _, ((hs1.put hkk _).far3 (by omega)).alloc _⟩
          case measure => simp [intOf]; omega
      · obtain ⟨hfk, hO', hhas, hst⟩ := hO.new hkk ho
        cases y
        · clear hst
          go_wp2_with (first | (go_at_call 12; refine (SrW.take_any _ _ _ _ _ hm0 hm).mono ?_; rintro e u ⟨rfl, hb⟩; have hk1 := hk.on hb; have hs1 := hs.keep hb; have hl1 := hs1.1; have hl2 := hk1.1.1.lt; have hsk := (hs1.2 k hkk).1; have hfr := (hs1.2 k hkk).2; have hw0 := hk1; simp only [Keep, Lie, LieAt, Nat.reduceAdd] at hw0) | (go_at_call 9; refine (SrW.steps_any _ _ _).mono ?_; rintro e w' ⟨rfl, hw⟩; replace hw := hw.symm; subst hw) | (go_at_call 14; refine (SrW.has_any _ _ _ _ _ hM.1 hM.2).mono ?_; rintro e v ⟨rfl, hb2⟩; have hk2 := (Keep.name3 hk1).on hb2; have hs2 := (hs1.alloc _).keep hb2; have hl3 := hs2.1; have hsk2 := (hs2.2 k hkk).1; have hfr2 := (hs2.2 k hkk).2; have hw2 := hk2; simp only [Keep, Lie, LieAt, Nat.reduceAdd] at hw2))
          go_roundw
          case rel => exact ⟨j + 1, true, _, _, _, by omega, by go_num, hO', Keep.set3 (hk2.less.far (by omega) (by simp)) (Nat.le_refl _) (by simp), (hs2.put hkk true).far3 (by omega)⟩
          case measure => simp [intOf]; omega
        · have hst' : decide (Sr.steps L (Sr.last true L (Sr.num a k)) < 0) = false := by simpa using hst rfl
          clear hst
          go_wp2_with (first | (go_at_call 12; refine (SrW.take_any _ _ _ _ _ hm0 hm).mono ?_; rintro e u ⟨rfl, hb⟩; have hk1 := hk.on hb; have hs1 := hs.keep hb; have hl1 := hs1.1; have hl2 := hk1.1.1.lt; have hsk := (hs1.2 k hkk).1; have hfr := (hs1.2 k hkk).2; have hw0 := hk1; simp only [Keep, Lie, LieAt, Nat.reduceAdd] at hw0) | (go_at_call 9; refine (SrW.steps_any _ _ _).mono ?_; rintro e w' ⟨rfl, hw⟩; replace hw := hw.symm; subst hw) | (go_at_call 14; refine (SrW.has_any _ _ _ _ _ hM.1 hM.2).mono ?_; rintro e v ⟨rfl, hb2⟩; have hk2 := (Keep.name3 hk1).on hb2; have hs2 := (hs1.alloc _).keep hb2; have hl3 := hs2.1; have hsk2 := (hs2.2 k hkk).1; have hfr2 := (hs2.2 k hkk).2; have hw2 := hk2; simp only [Keep, Lie, LieAt, Nat.reduceAdd] at hw2))
          go_roundw
          case rel => exact ⟨j + 1, true, _, _, _, by omega, by go_num, hO', Keep.set3 (hk2.less.far (by omega) (by simp)) (Nat.le_refl _) (by simp), (hs2.put hkk true).far3 (by omega)⟩
          case measure => simp [intOf]; omega
    · go_wp2_with fail
      go_ret
      exact ⟨rfl, hk.2.2⟩
end Go.Proofs.Ythnjakegphogeaa

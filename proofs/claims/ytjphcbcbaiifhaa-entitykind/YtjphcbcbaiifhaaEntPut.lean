/- An entity's bits are put on a base: the reference's (EnR). -/
import Derived.Test.YtjphcbcbaiifhaaEntRef
import Derived.Test.YtjphcbcbaiifhaaBitPutB
import Derived.Test.YtjphcbcbaiifhaaBitHeld
namespace Go.Proofs.Ytjphcbcbaiifhaa
open Go.RowKit
set_option linter.unusedVariables false
set_option linter.unusedSimpArgs false

theorem Moved.still {F F' : List Nat} {w w' w'' : World} (h : Moved F F' w w') (ht : Turned [] w' w'') : Moved F F' w w'' :=
  ⟨h.1.trans ht (by simp), h.2⟩
theorem Moved.apart1 {F F' : List Nat} {w w' : World} {B : Nat} (h : Moved F F' w w') (hB : B < w.heap.size) (hF : B ∉ F) : B ∉ F' := by
  intro hm
  rcases h.2 B hm with h1 | h1
  · exact hF h1
  · omega
namespace EnR
theorem puts_1 (M : List Bool) : M ++ BtW.puts (1 : Int).toNat 1 = M ++ [true] := by
  unfold BtW.puts; rw [if_pos (by omega)]; rfl
theorem puts_0 (M : List Bool) : M ++ BtW.puts (0 : Int).toNat 1 = M ++ [false] := by
  unfold BtW.puts; rw [if_pos (by omega)]; rfl
def fits (b e : En.E) : Bool := decide (En.Formed e) && decide (b.id = e.id) && decide (b.kind = e.kind)

set_option maxRecDepth 20000 in
set_option maxHeartbeats 8000000 in
theorem put_any (p : Nat) (L : List Bool) (F : List Nat) (b e : En.E) (w : World) (hp0 : BtR.RB p L F w) (hL : L.length ≤ 137438953472) :
    Calls Try.prog 17 #[.pointer (some ⟨p, 0, none⟩), enVal b, enVal e] w fun r w' => r = .returned (.bool (fits b e)) ∧ ∃ F', BtR.RB p (L ++ if fits b e then En.all b e else []) F' w' ∧ Moved F F' w w' := by
  have hFl := hp0.lt
  obtain ⟨W0, hW0⟩ : ∃ W0, W0 = (w.alloc (.cells (enEnc b).toArray 29)).alloc (.cells (enEnc e).toArray 29) := ⟨_, rfl⟩
  have hTW : Turned [] w W0 := by rw [hW0]; exact ((Turned.refl [] w).alloc _).alloc _
  obtain ⟨B1, hB1e⟩ : ∃ B, B = w.heap.size := ⟨_, rfl⟩
  obtain ⟨B2, hB2e⟩ : ∃ B, B = w.heap.size + 1 := ⟨_, rfl⟩
  have hS1 : Struct B1 (enEnc b) W0 := by rw [hW0, hB1e]; exact (Struct.new w (enEnc b) _).keep ((Turned.refl [] _).alloc _) (by simp)
  have hS2 : Struct B2 (enEnc e) W0 := by
    have := Struct.new (w.alloc (.cells (enEnc b).toArray 29)) (enEnc e) 29
    rw [show (w.alloc (.cells (enEnc b).toArray 29)).heap.size = w.heap.size + 1 by simp, ← hB2e, ← hW0] at this
    exact this
  have hB1F : B1 ∉ F := fun h => by have := hFl B1 h; omega
  have hB2F : B2 ∉ F := fun h => by have := hFl B2 h; omega
  have hB1 := hS1.1
  have hB2 := hS2.1
  have hp : BtR.RB p L F W0 := hp0.keep hTW (by simp)
  have hm : Moved F F W0 W0 := Moved.refl _ _
  have back : ∀ F' u, Moved F F' W0 u → Moved F F' w u := fun F' u h => ⟨hTW.mono (S' := F) (by simp) |>.trans h.1 (fun k hk _ => hk), fun k hk => (h.2 k hk).imp id (fun h => Nat.le_trans hTW.size h)⟩
  have kf := fun u => formed_any e u
  have HL : Hid (L.length ≤ 137438953472) := hL
  clear hp0 hL hFl hTW
  by_cases hfit : fits b e = true
  · obtain ⟨⟨hfm, hid⟩, hkd⟩ : (En.Formed e ∧ b.id = e.id) ∧ b.kind = e.kind := by unfold fits at hfit; simpa using hfit
    have hfm' : decide (En.Formed e) = true := by simpa using hfm
    rw [hfm'] at kf
    have i1 : (b.id != e.id) = false := by rw [bne_eq_false_iff_eq]; exact hid
    have i2 : (b.kind != e.kind) = false := by rw [bne_eq_false_iff_eq]; exact hkd
    rw [hfit, if_pos rfl]
    clear hfm hfm' hid hkd hfit
    have GO : ∀ u, Turned [] ((w.alloc (.cells (enEnc b).toArray 29)).alloc (.cells (enEnc e).toArray 29)) u → Turned [] W0 u := fun u h => by rw [hW0]; exact h
    go_enter Try.func17, Try.ntmps17
    go_wp2_with (go_at_call 11; refine (kf _).mono ?_; rintro e0 u0 ⟨rfl, HT1⟩; have HT0 := GO _ HT1; have hS1 := hS1.keep HT0 (by simp); have hS2 := hS2.keep HT0 (by simp); have hp := hp.keep HT0 (by simp); have hm := hm.still HT0; rw [hB1e] at hS1; rw [hB2e] at hS2; have c0 := (hS1.2 0 _ rfl).1; have c1 := (hS1.2 1 _ rfl).1; have d0 := (hS2.2 0 _ rfl).1; have d1 := (hS2.2 1 _ rfl).1)
    rw [← hB2e]
    rw [← hB1e]
    have hst : BtR.RB p (L ++ En.flags b e 0) F u0 := by rw [show En.flags b e 0 = [] from rfl, List.append_nil]; exact hp
    have hmS := hm
    have HB1e : Hid (B1 = w.heap.size) := hB1e
    have HB2e : Hid (B2 = w.heap.size + 1) := hB2e
    have HW0 : Hid (W0 = (w.alloc (.cells (enEnc b).toArray 29)).alloc (.cells (enEnc e).toArray 29)) := hW0
    clear hp hm kf HT1 HT0 c0 c1 d0 d1 hS1 hS2 hB1e hB2e hW0 GO
    go_loopw [7] (fun i wr => ∃ (k : Nat) (F' : List Nat), k ≤ 6 ∧ i = .int .i64 (k : Int) ∧ BtR.RB p (L ++ En.flags b e k) F' wr ∧ Moved F F' W0 wr) (fun i _ => 6 - (intOf i).toNat)
    case atStart => exact ⟨0, F, by omega, rfl, hst, hmS⟩
    case round =>
      clear hst hmS
      obtain ⟨k, Fk, hk, rfl, hpk, hm⟩ := hrel
      by_cases hlt : (k : Int) < 6
      · have hS1 := hS1.keep hm.1 hB1F
        have hS2 := hS2.keep hm.1 hB2F
        have c0 := (hS1.2 0 _ rfl).1
        have c1 := (hS1.2 1 _ rfl).1
        have c2 := (hS1.2 2 _ rfl).1
        have c3 := (hS1.2 3 _ rfl).1
        have c4 := (hS1.2 4 _ rfl).1
        have c5 := (hS1.2 5 _ rfl).1
        have c6 := (hS1.2 6 _ rfl).1
        have c7 := (hS1.2 7 _ rfl).1
        have d0 := (hS2.2 0 _ rfl).1
        have d1 := (hS2.2 1 _ rfl).1
        have d2 := (hS2.2 2 _ rfl).1
        have d3 := (hS2.2 3 _ rfl).1
        have d4 := (hS2.2 4 _ rfl).1
        have d5 := (hS2.2 5 _ rfl).1
        have d6 := (hS2.2 6 _ rfl).1
        have d7 := (hS2.2 7 _ rfl).1
        have ne : Nonempty (KeptW wr) := KeptW.one wr
        have x0 := KeptW.at hS1.1 c0
        have x1 := KeptW.at hS1.1 c1
        have x2 := KeptW.at hS1.1 c2
        have x3 := KeptW.at hS1.1 c3
        have x4 := KeptW.at hS1.1 c4
        have x5 := KeptW.at hS1.1 c5
        have x6 := KeptW.at hS1.1 c6
        have x7 := KeptW.at hS1.1 c7
        have y0 := KeptW.at hS2.1 d0
        have y1 := KeptW.at hS2.1 d1
        have y2 := KeptW.at hS2.1 d2
        have y3 := KeptW.at hS2.1 d3
        have y4 := KeptW.at hS2.1 d4
        have y5 := KeptW.at hS2.1 d5
        have y6 := KeptW.at hS2.1 d6
        have y7 := KeptW.at hS2.1 d7
        have kfb := field_kept (W := wr) b k (by omega)
        have kfe := field_kept (W := wr) e k (by omega)
        have hlen : (L ++ En.flags b e k).length ≤ 274877907000 := by rw [List.length_append, En.flags_len]; have := HL.out; omega
        obtain ⟨M, hM⟩ : ∃ M, M = L ++ En.flags b e k := ⟨_, rfl⟩
        rw [← hM] at hpk hlen
        by_cases hd : En.field b k ≠ En.field e k
        · have hdf : En.dif b e k = true := by unfold En.dif; simpa using hd
          have hne : (En.field b k != En.field e k) = true := by rw [bne_iff_ne]; exact hd
          have HE : Hid (L ++ En.flags b e (k + 1) = M ++ [true]) := by show _ = _; rw [En.flags_succ, ← List.append_assoc, ← hM, hdf]
          clear hM hdf
          go_wp2_with fail
          refine wp_region_kept (by kernel_rfl) (by kernel_rfl) ?_
          repeat (go_big_quiet_step (first | (go_at_call 42; with_reducible exact kfb _) | (go_at_call 42; with_reducible exact kfe _)))
          refine wpQuiet_nil ?_
          rintro _ ⟨y, rfl⟩
          have hp : BtR.RB p M Fk y.u ∧ M.length ≤ 274877907000 := ⟨hpk.keep (Turned.ofBelow y.h) (by simp), hlen⟩
          have hm := hm.still (Turned.ofBelow y.h)
          go_wp2_with (go_at_call 43; (with_reducible refine (BtR.put_b (by omega) (by omega) hp (by omega)).mono ?_); rintro e9 u9 ⟨rfl, F9, hp9, hm9⟩)
          have hfin := hp9.1
          rw [puts_1] at hfin
          go_roundw
          case rel => exact ⟨k + 1, F9, by omega, by go_num, by rw [HE.out]; exact hfin, hm.trans hm9⟩
          case measure => simp [intOf]; omega
        · have hdf : En.dif b e k = false := by unfold En.dif; simpa using hd
          have hne : (En.field b k != En.field e k) = false := by rw [bne_eq_false_iff_eq]; simpa using hd
          have HE : Hid (L ++ En.flags b e (k + 1) = M ++ [false]) := by show _ = _; rw [En.flags_succ, ← List.append_assoc, ← hM, hdf]
          clear hM hdf
          go_wp2_with fail
          refine wp_region_kept (by kernel_rfl) (by kernel_rfl) ?_
          repeat (go_big_quiet_step (first | (go_at_call 42; with_reducible exact kfb _) | (go_at_call 42; with_reducible exact kfe _)))
          refine wpQuiet_nil ?_
          rintro _ ⟨y, rfl⟩
          have hp : BtR.RB p M Fk y.u ∧ M.length ≤ 274877907000 := ⟨hpk.keep (Turned.ofBelow y.h) (by simp), hlen⟩
          have hm := hm.still (Turned.ofBelow y.h)
          go_wp2_with (go_at_call 43; (with_reducible refine (BtR.put_b (by omega) (by omega) hp (by omega)).mono ?_); rintro e9 u9 ⟨rfl, F9, hp9, hm9⟩)
          have hfin := hp9.1
          rw [puts_0] at hfin
          go_roundw
          case rel => exact ⟨k + 1, F9, by omega, by go_num, by rw [HE.out]; exact hfin, hm.trans hm9⟩
          case measure => simp [intOf]; omega
      · have hk' : k = 6 := by omega
        subst hk'
        have hst : BtR.RB p (L ++ (En.flags b e 6 ++ En.smalls b e 0)) Fk wr := by rw [show En.smalls b e 0 = [] from rfl, List.append_nil]; exact hpk
        have hmS := hm
        clear hpk hm
        go_wp2_with fail
        go_loopw [9] (fun i wq => ∃ (k : Nat) (F' : List Nat), k ≤ 6 ∧ i = .int .i64 (k : Int) ∧ BtR.RB p (L ++ (En.flags b e 6 ++ En.smalls b e k)) F' wq ∧ Moved F F' W0 wq) (fun i _ => 6 - (intOf i).toNat)
        case atStart => exact ⟨0, Fk, by omega, rfl, hst, hmS⟩
        case round =>
          clear hst hmS hlt hk
          obtain ⟨k, Fk, hk, rfl, hpk, hm⟩ := hrel
          by_cases hlt : (k : Int) < 6
          · have hS1 := hS1.keep hm.1 hB1F
            have hS2 := hS2.keep hm.1 hB2F
            have c0 := (hS1.2 0 _ rfl).1
            have c1 := (hS1.2 1 _ rfl).1
            have c2 := (hS1.2 2 _ rfl).1
            have c3 := (hS1.2 3 _ rfl).1
            have c4 := (hS1.2 4 _ rfl).1
            have c5 := (hS1.2 5 _ rfl).1
            have c6 := (hS1.2 6 _ rfl).1
            have c7 := (hS1.2 7 _ rfl).1
            have d0 := (hS2.2 0 _ rfl).1
            have d1 := (hS2.2 1 _ rfl).1
            have d2 := (hS2.2 2 _ rfl).1
            have d3 := (hS2.2 3 _ rfl).1
            have d4 := (hS2.2 4 _ rfl).1
            have d5 := (hS2.2 5 _ rfl).1
            have d6 := (hS2.2 6 _ rfl).1
            have d7 := (hS2.2 7 _ rfl).1
            have ne : Nonempty (KeptW wr) := KeptW.one wr
            have x0 := KeptW.at hS1.1 c0
            have x1 := KeptW.at hS1.1 c1
            have x2 := KeptW.at hS1.1 c2
            have x3 := KeptW.at hS1.1 c3
            have x4 := KeptW.at hS1.1 c4
            have x5 := KeptW.at hS1.1 c5
            have x6 := KeptW.at hS1.1 c6
            have x7 := KeptW.at hS1.1 c7
            have y0 := KeptW.at hS2.1 d0
            have y1 := KeptW.at hS2.1 d1
            have y2 := KeptW.at hS2.1 d2
            have y3 := KeptW.at hS2.1 d3
            have y4 := KeptW.at hS2.1 d4
            have y5 := KeptW.at hS2.1 d5
            have y6 := KeptW.at hS2.1 d6
            have y7 := KeptW.at hS2.1 d7
            have kfb := field_kept (W := wr) b k (by omega)
            have kfe := field_kept (W := wr) e k (by omega)
            have hlen : (L ++ (En.flags b e 6 ++ En.smalls b e k)).length ≤ 274877906944 := by rw [List.length_append, List.length_append, En.flags_len]; have := HL.out; have := En.smalls_len b e k; omega
            obtain ⟨M, hM⟩ : ∃ M, M = L ++ (En.flags b e 6 ++ En.smalls b e k) := ⟨_, rfl⟩
            rw [← hM] at hpk hlen
            by_cases hd : En.field b k ≠ En.field e k
            · have hdf : En.dif b e k = true := by unfold En.dif; simpa using hd
              obtain ⟨X, hX⟩ : ∃ X, X = wrap64 (En.field e k - En.field b k) := ⟨_, rfl⟩
              have hne : (En.field b k != En.field e k) = true := by rw [bne_iff_ne]; exact hd
              have HE : Hid (L ++ (En.flags b e 6 ++ En.smalls b e (k + 1)) = M ++ Bt.sm (Bt.zig X)) := by
                show _ = _
                have h1 : En.small1 b e k = Bt.sm (Bt.zig X) := by unfold En.small1; rw [hdf, if_pos rfl, hX]
                rw [En.smalls_succ, h1, hM]; simp only [List.append_assoc]
              have hXI := En.w64_i (En.field e k - En.field b k)
              rw [← hX] at hXI
              have hX1 := hXI.1
              have hX2 := hXI.2
              have hsub : IntKind.i64.wrap (En.field e k - En.field b k) = X := by
                rw [hX]; simp [wrap64, IntKind.wrap, IntKind.bits, IntKind.signed]; split <;> omega
              have gfe := fun u => field_any e k (by omega) u
              have gfb := fun u => field_any b k (by omega) u
              have HML : Hid (M.length ≤ 274877906944) := hlen
              clear hM hdf hd hX hXI hlen
              go_wp2_with fail
              refine wp_region_kept (by kernel_rfl) (by kernel_rfl) ?_
              repeat (go_big_quiet_step (first | (go_at_call 42; with_reducible exact kfb _) | (go_at_call 42; with_reducible exact kfe _)))
              refine wpQuiet_nil ?_
              rintro _ ⟨y, rfl⟩
              have hS1 := hS1.keep (Turned.ofBelow y.h) (by simp)
              have hS2 := hS2.keep (Turned.ofBelow y.h) (by simp)
              have c0 := (hS1.2 0 _ rfl).1
              have c1 := (hS1.2 1 _ rfl).1
              have c2 := (hS1.2 2 _ rfl).1
              have c3 := (hS1.2 3 _ rfl).1
              have c4 := (hS1.2 4 _ rfl).1
              have c5 := (hS1.2 5 _ rfl).1
              have c6 := (hS1.2 6 _ rfl).1
              have c7 := (hS1.2 7 _ rfl).1
              have d0 := (hS2.2 0 _ rfl).1
              have d1 := (hS2.2 1 _ rfl).1
              have d2 := (hS2.2 2 _ rfl).1
              have d3 := (hS2.2 3 _ rfl).1
              have d4 := (hS2.2 4 _ rfl).1
              have d5 := (hS2.2 5 _ rfl).1
              have d6 := (hS2.2 6 _ rfl).1
              have d7 := (hS2.2 7 _ rfl).1
              have hS1 := hS1.keep ((Turned.refl [] y.u).drew) (by simp)
              have hS2 := hS2.keep ((Turned.refl [] y.u).drew) (by simp)
              have hp := (hpk.keep (Turned.ofBelow y.h) (by simp)).keep ((Turned.refl [] y.u).drew) (by simp)
              have hm := (hm.still (Turned.ofBelow y.h)).still ((Turned.refl [] y.u).drew)
              go_wp2_with fail
              refine wp_region_held_drew (S := (fun w' => w'.cell? ⟨B1, 0, none⟩ = some (.int .i64 b.id) ∧ w'.cell? ⟨B1, 1, none⟩ = some (.int .i64 b.kind) ∧ w'.cell? ⟨B1, 2, none⟩ = some (.int .i64 b.ax) ∧ w'.cell? ⟨B1, 3, none⟩ = some (.int .i64 b.ay) ∧ w'.cell? ⟨B1, 4, none⟩ = some (.int .i64 b.vx) ∧ w'.cell? ⟨B1, 5, none⟩ = some (.int .i64 b.vy) ∧ w'.cell? ⟨B1, 6, none⟩ = some (.int .i64 b.h) ∧ w'.cell? ⟨B1, 7, none⟩ = some (.int .i64 b.t) ∧ w'.cell? ⟨B2, 0, none⟩ = some (.int .i64 e.id) ∧ w'.cell? ⟨B2, 1, none⟩ = some (.int .i64 e.kind) ∧ w'.cell? ⟨B2, 2, none⟩ = some (.int .i64 e.ax) ∧ w'.cell? ⟨B2, 3, none⟩ = some (.int .i64 e.ay) ∧ w'.cell? ⟨B2, 4, none⟩ = some (.int .i64 e.vx) ∧ w'.cell? ⟨B2, 5, none⟩ = some (.int .i64 e.vy) ∧ w'.cell? ⟨B2, 6, none⟩ = some (.int .i64 e.h) ∧ w'.cell? ⟨B2, 7, none⟩ = some (.int .i64 e.t))) (by kernel_rfl) ?_ (fun hHeld => ?_)
              · exact ⟨c0, c1, c2, c3, c4, c5, c6, c7, d0, d1, d2, d3, d4, d5, d6, d7⟩
              refine BtL.take_d (some 52) (i := 0) (v := ?_) rfl rfl (by kernel_rfl) (by kernel_rfl) (by kernel_rfl) (fun _ _ _ h => h) (Or.inl ⟨by rfl, ?_⟩) (by assumption) ?_
              rotate_left
              · (intro w hSw; (try dsimp only at hSw); go_simp; try with_reducible rfl)
              simp only [Act.put, List.setIfInBounds_toArray, List.set_cons_zero, List.set_cons_succ]
              refine BtL.take_d (some 53) (i := 1) (v := ?_) rfl rfl (by kernel_rfl) (by kernel_rfl) (by kernel_rfl) (fun _ _ _ h => h) (Or.inl ⟨by rfl, ?_⟩) (by assumption) ?_
              rotate_left
              · (intro w hSw; (try dsimp only at hSw); go_simp; try with_reducible rfl)
              simp only [Act.put, List.setIfInBounds_toArray, List.set_cons_zero, List.set_cons_succ]
              refine BtL.take_d (some 54) (i := 2) (v := ?_) rfl rfl (by kernel_rfl) (by kernel_rfl) (by kernel_rfl) (fun _ _ _ h => h) (Or.inl ⟨by rfl, ?_⟩) (by assumption) ?_
              rotate_left
              · (intro w hSw; (try dsimp only at hSw); go_simp; try with_reducible rfl)
              simp only [Act.put, List.setIfInBounds_toArray, List.set_cons_zero, List.set_cons_succ]
              refine BtL.take_d (some 56) (i := 4) (v := ?_) rfl rfl (by kernel_rfl) (by kernel_rfl) (by kernel_rfl) (fun _ _ _ h => h) (Or.inl ⟨by rfl, ?_⟩) (by assumption) ?_
              rotate_left
              · (intro w hSw; (try dsimp only at hSw); go_simp; try with_reducible rfl)
              simp only [Act.put, List.setIfInBounds_toArray, List.set_cons_zero, List.set_cons_succ]
              refine BtL.take_d (some 57) (i := 5) (v := ?_) rfl rfl (by kernel_rfl) (by kernel_rfl) (by kernel_rfl) (fun _ _ _ h => h) (Or.inl ⟨by rfl, ?_⟩) (by assumption) ?_
              rotate_left
              · (intro w hSw; (try dsimp only at hSw); go_simp; try with_reducible rfl)
              simp only [Act.put, List.setIfInBounds_toArray, List.set_cons_zero, List.set_cons_succ]
              refine BtL.one_d (some 55) (i := 3) rfl rfl (by kernel_rfl) (by rfl) 42 #[enVal e, .int .i64 (k : Int)] (by go_simp) ?_
              refine (gfe _).mono ?_
              rintro e9 u9 ⟨rfl, HT9⟩
              have hS1 := hS1.keep HT9 (by simp)
              have hS2 := hS2.keep HT9 (by simp)
              have c0 := (hS1.2 0 _ rfl).1
              have c1 := (hS1.2 1 _ rfl).1
              have c2 := (hS1.2 2 _ rfl).1
              have c3 := (hS1.2 3 _ rfl).1
              have c4 := (hS1.2 4 _ rfl).1
              have c5 := (hS1.2 5 _ rfl).1
              have c6 := (hS1.2 6 _ rfl).1
              have c7 := (hS1.2 7 _ rfl).1
              have d0 := (hS2.2 0 _ rfl).1
              have d1 := (hS2.2 1 _ rfl).1
              have d2 := (hS2.2 2 _ rfl).1
              have d3 := (hS2.2 3 _ rfl).1
              have d4 := (hS2.2 4 _ rfl).1
              have d5 := (hS2.2 5 _ rfl).1
              have d6 := (hS2.2 6 _ rfl).1
              have d7 := (hS2.2 7 _ rfl).1
              have hp := hp.keep HT9 (by simp)
              have hm := hm.still HT9
              refine ⟨_, rfl, ⟨c0, c1, c2, c3, c4, c5, c6, c7, d0, d1, d2, d3, d4, d5, d6, d7⟩, fun hHeld => ?_⟩
              simp only [Act.put, List.setIfInBounds_toArray, List.set_cons_zero, List.set_cons_succ]
              refine BtL.one_d (some 58) (i := 6) rfl rfl (by kernel_rfl) (by rfl) 42 #[enVal b, .int .i64 (k : Int)] (by go_simp) ?_
              refine (gfb _).mono ?_
              rintro e9 u9 ⟨rfl, HT9⟩
              have hS1 := hS1.keep HT9 (by simp)
              have hS2 := hS2.keep HT9 (by simp)
              have c0 := (hS1.2 0 _ rfl).1
              have c1 := (hS1.2 1 _ rfl).1
              have c2 := (hS1.2 2 _ rfl).1
              have c3 := (hS1.2 3 _ rfl).1
              have c4 := (hS1.2 4 _ rfl).1
              have c5 := (hS1.2 5 _ rfl).1
              have c6 := (hS1.2 6 _ rfl).1
              have c7 := (hS1.2 7 _ rfl).1
              have d0 := (hS2.2 0 _ rfl).1
              have d1 := (hS2.2 1 _ rfl).1
              have d2 := (hS2.2 2 _ rfl).1
              have d3 := (hS2.2 3 _ rfl).1
              have d4 := (hS2.2 4 _ rfl).1
              have d5 := (hS2.2 5 _ rfl).1
              have d6 := (hS2.2 6 _ rfl).1
              have d7 := (hS2.2 7 _ rfl).1
              have hp := hp.keep HT9 (by simp)
              have hm := hm.still HT9
              refine ⟨_, rfl, ⟨c0, c1, c2, c3, c4, c5, c6, c7, d0, d1, d2, d3, d4, d5, d6, d7⟩, fun hHeld => ?_⟩
              simp only [Act.put, List.setIfInBounds_toArray, List.set_cons_zero, List.set_cons_succ]
              refine BtL.take_d (some 59) (i := 7) (v := ?_) rfl rfl (by kernel_rfl) (by kernel_rfl) (by kernel_rfl) (fun _ _ _ h => h) (Or.inl ⟨by rfl, ?_⟩) (by assumption) ?_
              rotate_left
              · (intro w hSw; (try dsimp only at hSw); go_simp; try with_reducible rfl)
              simp only [Act.put, List.setIfInBounds_toArray, List.set_cons_zero, List.set_cons_succ]
              try rw [hsub]
              refine BtL.one_d (some 60) (i := 8) rfl rfl (by kernel_rfl) (by rfl) 44 #[.pointer (some ⟨p, 0, none⟩), .int .i64 X] (by go_simp) ?_
              refine (BtR.small_any p _ _ X hX1 hX2 _ hp (by have := HML.out; omega)).mono ?_
              rintro e9 u9 ⟨rfl, F9, hp9, hm9⟩
              have hS1 := hS1.keep hm9.1 (hm.apart1 hB1 hB1F)
              have hS2 := hS2.keep hm9.1 (hm.apart1 hB2 hB2F)
              have c0 := (hS1.2 0 _ rfl).1
              have c1 := (hS1.2 1 _ rfl).1
              have c2 := (hS1.2 2 _ rfl).1
              have c3 := (hS1.2 3 _ rfl).1
              have c4 := (hS1.2 4 _ rfl).1
              have c5 := (hS1.2 5 _ rfl).1
              have c6 := (hS1.2 6 _ rfl).1
              have c7 := (hS1.2 7 _ rfl).1
              have d0 := (hS2.2 0 _ rfl).1
              have d1 := (hS2.2 1 _ rfl).1
              have d2 := (hS2.2 2 _ rfl).1
              have d3 := (hS2.2 3 _ rfl).1
              have d4 := (hS2.2 4 _ rfl).1
              have d5 := (hS2.2 5 _ rfl).1
              have d6 := (hS2.2 6 _ rfl).1
              have d7 := (hS2.2 7 _ rfl).1
              have hp := hp9
              have hm := hm.trans hm9
              refine ⟨_, rfl, ⟨c0, c1, c2, c3, c4, c5, c6, c7, d0, d1, d2, d3, d4, d5, d6, d7⟩, fun hHeld => ?_⟩
              simp only [Act.put, List.setIfInBounds_toArray, List.set_cons_zero, List.set_cons_succ]
              refine wpAnyH_done (by kernel_rfl) ?_ _
              go_wp2_with fail
              go_roundw
              case rel => exact ⟨k + 1, F9, by omega, by go_num, by rw [HE.out]; exact hp, hm⟩
              case measure => simp [intOf]; omega
            · have hdf : En.dif b e k = false := by unfold En.dif; simpa using hd
              have hne : (En.field b k != En.field e k) = false := by rw [bne_eq_false_iff_eq]; simpa using hd
              have HE : Hid (L ++ (En.flags b e 6 ++ En.smalls b e (k + 1)) = M) := by
                show _ = _
                have h1 : En.small1 b e k = [] := by unfold En.small1; rw [hdf, if_neg (by decide)]
                rw [En.smalls_succ, h1, List.append_nil, hM]
              clear hM hdf hd hlen
              go_wp2_with fail
              refine wp_region_kept (by kernel_rfl) (by kernel_rfl) ?_
              repeat (go_big_quiet_step (first | (go_at_call 42; with_reducible exact kfb _) | (go_at_call 42; with_reducible exact kfe _)))
              refine wpQuiet_nil ?_
              rintro _ ⟨y, rfl⟩
              go_wp2_with fail
              go_roundw
              case rel => exact ⟨k + 1, Fk, by omega, by go_num, by rw [HE.out]; exact hpk.keep (Turned.ofBelow y.h) (by simp), hm.still (Turned.ofBelow y.h)⟩
              case measure => simp [intOf]; omega
          · have hk' : k = 6 := by omega
            subst hk'
            go_wp2_with fail
            go_ret
            exact ⟨rfl, Fk, hpk, back _ _ hm⟩
  · have hff : fits b e = false := by simpa using hfit
    have GO : ∀ u, Turned [] ((w.alloc (.cells (enEnc b).toArray 29)).alloc (.cells (enEnc e).toArray 29)) u → Turned [] W0 u := fun u h => by rw [hW0]; exact h
    have hcase : ¬ En.Formed e ∨ (En.Formed e ∧ (b.id ≠ e.id ∨ (b.id = e.id ∧ b.kind ≠ e.kind))) := by
      unfold fits at hff
      by_cases h1 : En.Formed e
      · right
        refine ⟨h1, ?_⟩
        by_cases h2 : b.id = e.id
        · right
          refine ⟨h2, fun h3 => ?_⟩
          simp [h1, h2, h3] at hff
        · exact .inl h2
      · exact .inl h1
    rw [hff, if_neg (by decide), List.append_nil]
    clear hfit hff
    rcases hcase with h1 | ⟨h1, h2 | ⟨h2, h3⟩⟩
    · have hfm' : decide (En.Formed e) = false := by simpa using h1
      rw [hfm'] at kf
      clear h1 hfm'
      go_enter Try.func17, Try.ntmps17
      go_wp2_with (go_at_call 11; refine (kf _).mono ?_; rintro e0 u0 ⟨rfl, HT1⟩; have HT0 := GO _ HT1; have hS1 := hS1.keep HT0 (by simp); have hS2 := hS2.keep HT0 (by simp); have hp := hp.keep HT0 (by simp); have hm := hm.still HT0; rw [hB1e] at hS1; rw [hB2e] at hS2; have c0 := (hS1.2 0 _ rfl).1; have c1 := (hS1.2 1 _ rfl).1; have d0 := (hS2.2 0 _ rfl).1; have d1 := (hS2.2 1 _ rfl).1)
      go_ret
      exact ⟨rfl, F, hp, back _ _ hm⟩
    · have hfm' : decide (En.Formed e) = true := by simpa using h1
      rw [hfm'] at kf
      have i1 : (b.id != e.id) = true := by rw [bne_iff_ne]; exact h2
      clear h1 h2 hfm'
      go_enter Try.func17, Try.ntmps17
      go_wp2_with (go_at_call 11; refine (kf _).mono ?_; rintro e0 u0 ⟨rfl, HT1⟩; have HT0 := GO _ HT1; have hS1 := hS1.keep HT0 (by simp); have hS2 := hS2.keep HT0 (by simp); have hp := hp.keep HT0 (by simp); have hm := hm.still HT0; rw [hB1e] at hS1; rw [hB2e] at hS2; have c0 := (hS1.2 0 _ rfl).1; have c1 := (hS1.2 1 _ rfl).1; have d0 := (hS2.2 0 _ rfl).1; have d1 := (hS2.2 1 _ rfl).1)
      go_ret
      exact ⟨rfl, F, hp, back _ _ hm⟩
    · have hfm' : decide (En.Formed e) = true := by simpa using h1
      rw [hfm'] at kf
      have i1 : (b.id != e.id) = false := by rw [bne_eq_false_iff_eq]; exact h2
      have i2 : (b.kind != e.kind) = true := by rw [bne_iff_ne]; exact h3
      clear h1 h2 h3 hfm'
      go_enter Try.func17, Try.ntmps17
      go_wp2_with (go_at_call 11; refine (kf _).mono ?_; rintro e0 u0 ⟨rfl, HT1⟩; have HT0 := GO _ HT1; have hS1 := hS1.keep HT0 (by simp); have hS2 := hS2.keep HT0 (by simp); have hp := hp.keep HT0 (by simp); have hm := hm.still HT0; rw [hB1e] at hS1; rw [hB2e] at hS2; have c0 := (hS1.2 0 _ rfl).1; have c1 := (hS1.2 1 _ rfl).1; have d0 := (hS2.2 0 _ rfl).1; have d1 := (hS2.2 1 _ rfl).1)
      go_ret
      exact ⟨rfl, F, hp, back _ _ hm⟩
end EnR
end Go.Proofs.Ytjphcbcbaiifhaa

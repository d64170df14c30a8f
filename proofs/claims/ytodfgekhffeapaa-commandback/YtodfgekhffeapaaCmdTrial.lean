/- Whether commands are a row; a row's bits are put: the program's, as the trial has it (CmW). -/
import Derived.Test.YtodfgekhffeapaaCmdLaw
import Derived.Test.YtodfgekhffeapaaCmdPut
namespace Go.Proofs.Ytodfgekhffeapaa
open Go.RowKit
set_option linter.unusedVariables false

namespace CmW
theorem formed_kept {W : World} (c : Cm.C) (hw : c.wf) (b : Bool) (hb : decide (Cm.Formed c) = b) (x : KeptW W) : Calls Try.prog 12 #[cmVal c] x.u fun e w'' => e = .returned (.bool b) ∧ ∃ y : KeptW W, w'' = y.u :=
  kept_call ((formed_any c hw x.u).mono fun e w' ⟨he, ht⟩ => ⟨by rw [← hb]; exact he, ht.none⟩)

set_option maxHeartbeats 2000000 in
theorem row_any (oa : Option Addr) (cap : Nat) (l : List Cm.C) (hw : ∀ c ∈ l, c.wf) (w : World) (hr : RowOf 6 cmEnc oa l w) (hl : (l.length : Int) ≤ 9223372036854775807) :
    Calls Try.prog 14 #[.slice oa l.length cap] w fun e w' => e = .returned (.bool (Cm.row l)) ∧ Turned [] w w' := by
  obtain ⟨n, hn⟩ : ∃ n, n = l.length := ⟨_, rfl⟩
  rw [← hn] at hl ⊢
  have HN : Hid (n = l.length) := hn
  by_cases h18 : 1 ≤ l.length ∧ l.length ≤ 8
  · have i1 : ¬ (n : Int) < 1 := by omega
    have i2 : ¬ 8 < (n : Int) := by omega
    have H18 : Hid (1 ≤ l.length ∧ l.length ≤ 8) := h18
    clear h18 hn
    go_enter Try.func14, Try.ntmps14
    go_wp2_with fail
    go_loopw [15] (fun i wr => ∃ k : Nat, k ≤ n ∧ i = .int .i64 (k : Int) ∧ (∀ j c, j < k → l[j]? = some c → Cm.Formed c ∧ c.n = Cm.first l + j) ∧ Turned [] w wr) (fun i _ => n - (intOf i).toNat)
    case atStart => exact ⟨0, by omega, rfl, fun j c h _ => absurd h (by omega), Turned.refl _ _⟩
    case round =>
      obtain ⟨k, hk, rfl, hall, ht⟩ := hrel
      by_cases hlt : (k : Int) < (n : Int)
      · obtain ⟨c, hc⟩ : ∃ c, l[k]? = some c := ⟨_, List.getElem?_eq_getElem (by have := HN.out; omega)⟩
        obtain ⟨c0, hc0⟩ : ∃ c, l[0]? = some c := ⟨_, List.getElem?_eq_getElem (by have := HN.out; omega)⟩
        have hf0 : Cm.first l = c0.n := by
          cases l with
          | nil => simp at hc0
          | cons d t => simp at hc0; subst hc0; rfl
        have hrow := hr.turned ht (by simp)
        obtain ⟨g, off, rfl, hg, p0, p1, p2, p3, p4, p5⟩ := cm_at hrow hc
        obtain ⟨g', off', he, _, q0, _⟩ := cm_at hrow hc0
        simp at he
        obtain ⟨rfl, rfl⟩ := he
        rw [Nat.zero_mul, Nat.add_zero] at q0
        have hcw := hw c (List.mem_of_getElem? hc)
        have hsum : (c0.n : Int) + (k : Int) < 4294967296 := by
          by_cases hk0 : k = 0
          · have := (hw c0 (List.mem_of_getElem? hc0)).1; omega
          · have := (hall 0 c0 (by omega) hc0).1.2.1; have := H18.out; have := HN.out; omega
        have hwr : IntKind.u32.wrap ((c0.n : Int) + (k : Int)) = (c0.n : Int) + (k : Int) := by
          rw [show IntKind.u32.wrap ((c0.n : Int) + (k : Int)) = ((c0.n : Int) + (k : Int)) % 4294967296 by simp [IntKind.wrap, IntKind.bits, IntKind.signed]]; omega
        have hwk : IntKind.u32.wrap (k : Int) = (k : Int) := by
          rw [show IntKind.u32.wrap (k : Int) = (k : Int) % 4294967296 by simp [IntKind.wrap, IntKind.bits, IntKind.signed]]; omega
        go_wp2_with fail
        obtain ⟨W1, hW1⟩ : ∃ W1, W1 = wr.alloc (.cells #[.int .u32 (c.n : Int), .int .i8 c.x, .int .i8 c.y, .bool c.f, .int .u32 (c.v : Int), .int .u8 (c.q : Int)] 25) := ⟨_, rfl⟩
        obtain ⟨B, hB⟩ : ∃ B, B = wr.heap.size := ⟨_, rfl⟩
        rw [← hW1, ← hB]
        have hS : Struct B (cmEnc c) W1 := by rw [hW1, hB]; exact Struct.new wr (cmEnc c) 25
        have hTa : Turned [] wr W1 := by rw [hW1]; exact (Turned.refl [] wr).alloc _
        have ht1 := ht.trans hTa (by simp)
        have hg1 : g < W1.heap.size := Nat.lt_of_lt_of_le hg hTa.size
        have q1 : W1.cell? ⟨g, off, none⟩ = some (.int .u32 (c0.n : Int)) := (hTa.cell (p := ⟨g, off, none⟩) hg (by simp)).trans q0
        have ne : Nonempty (KeptW W1) := KeptW.one W1
        have d0 := KeptW.at hS.1 (hS.2 0 _ rfl).1
        have d1 := KeptW.at hS.1 (hS.2 1 _ rfl).1
        have d2 := KeptW.at hS.1 (hS.2 2 _ rfl).1
        have d3 := KeptW.at hS.1 (hS.2 3 _ rfl).1
        have d4 := KeptW.at hS.1 (hS.2 4 _ rfl).1
        have d5 := KeptW.at hS.1 (hS.2 5 _ rfl).1
        have e0 := KeptW.at hg1 q1
        clear hW1 hB
        by_cases hfm : Cm.Formed c
        · have kf := formed_kept (W := W1) c hcw true (by simpa using hfm)
          by_cases hnm : c.n = c0.n + k
          · have hne : ((c.n : Int) != (c0.n : Int) + (k : Int)) = false := by rw [bne_eq_false_iff_eq]; omega
            have HNM : Hid (c.n = c0.n + k) := hnm
            clear hnm
            refine wp_region_kept (by kernel_rfl) (by kernel_rfl) ?_
            repeat (go_big_quiet_step (first | (go_at_call 12; with_reducible exact kf _)))
            refine wpQuiet_nil ?_
            rintro _ ⟨y, rfl⟩
            go_wp2_with fail
            go_roundw
            case rel =>
              refine ⟨k + 1, by omega, by go_num, ?_, ht1.trans (Turned.ofBelow y.h) (by simp)⟩
              intro j d hj hd
              by_cases hjk : j = k
              · subst hjk
                rw [hc] at hd
                simp at hd
                subst hd
                exact ⟨hfm, by rw [hf0]; exact HNM.out⟩
              · exact hall j d (by omega) hd
            case measure => simp [intOf]; omega
          · have hne : ((c.n : Int) != (c0.n : Int) + (k : Int)) = true := by rw [bne_iff_ne]; omega
            have HNM : Hid (Cm.row l = false) := Cm.row_not hc (by rw [hf0]; exact fun h => hnm h.2)
            clear hnm
            refine wp_region_kept (by kernel_rfl) (by kernel_rfl) ?_
            repeat (go_big_quiet_step (first | (go_at_call 12; with_reducible exact kf _)))
            refine wpQuiet_nil ?_
            rintro _ ⟨y, rfl⟩
            go_wp2_with fail
            go_ret
            exact bool_ret HNM.out.symm (ht1.trans (Turned.ofBelow y.h) (by simp))
        · have kf := formed_kept (W := W1) c hcw false (by simpa using hfm)
          have HNM : Hid (Cm.row l = false) := Cm.row_not hc (fun h => hfm h.1)
          refine wp_region_kept (by kernel_rfl) (by kernel_rfl) ?_
          repeat (go_big_quiet_step (first | (go_at_call 12; with_reducible exact kf _)))
          refine wpQuiet_nil ?_
          rintro _ ⟨y, rfl⟩
          go_wp2_with fail
          go_ret
          exact bool_ret HNM.out.symm (ht1.trans (Turned.ofBelow y.h) (by simp))
      · have hrow : Cm.row l = true := (Cm.row_iff l).2 ⟨H18.out.1, H18.out.2, fun j c hc => hall j c (by have := (List.getElem?_eq_some_iff.1 hc).1; have := HN.out; omega) hc⟩
        have HR : Hid (Cm.row l = true) := hrow
        clear hrow
        go_wp2_with fail
        go_ret
        exact bool_ret HR.out.symm ht
  · rw [Cm.row_len h18]
    rw [← hn] at h18
    clear hn
    by_cases h0 : (n : Int) < 1
    · go_enter Try.func14, Try.ntmps14
      go_wp2
      go_ret
      exact ⟨rfl, Turned.refl _ _⟩
    · have h8 : 8 < (n : Int) := by omega
      go_enter Try.func14, Try.ntmps14
      go_wp2
      go_ret
      exact ⟨rfl, Turned.refl _ _⟩
end CmW
end Go.Proofs.Ytodfgekhffeapaa

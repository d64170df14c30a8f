/- Whether entities are a list, and where an ID stands: the program's (EnW). -/
import Derived.Test.YtjphcbcbaiifhaaEntWForm
namespace Go.Proofs.Ytjphcbcbaiifhaa
open Go.RowKit
set_option linter.unusedVariables false
set_option linter.unusedSimpArgs false

namespace EnW
theorem formed_kept {W : World} (e : En.E) (b : Bool) (hb : decide (En.Formed e) = b) (x : KeptW W) : Calls Try.prog 10 #[enVal e] x.u fun r w'' => r = .returned (.bool b) ∧ ∃ y : KeptW W, w'' = y.u :=
  kept_call ((formed_any e x.u).mono fun r w' ⟨he, ht⟩ => ⟨by rw [← hb]; exact he, ht.none⟩)
theorem nt_ret {k : IntKind} {a b : Int} {p : Prop} (h : a = b) (hp : p) : Ending.returned (.int k a) = .returned (.int k b) ∧ p := by rw [h]; exact ⟨rfl, hp⟩

set_option maxHeartbeats 4000000 in
theorem list_any (oa : Option Addr) (cap : Nat) (l : List En.E) (w : World) (hr : RowOf 8 enEnc oa l w) (hl : (l.length : Int) ≤ 9223372036854775807) :
    Calls Try.prog 12 #[.slice oa l.length cap] w fun r w' => r = .returned (.bool (En.list l)) ∧ Turned [] w w' := by
  obtain ⟨n, hn⟩ : ∃ n, n = l.length := ⟨_, rfl⟩
  rw [← hn] at hl ⊢
  have HN : Hid (n = l.length) := hn
  clear hn
  go_enter Try.func12, Try.ntmps12
  go_wp2_with fail
  go_loopw [7] (fun i wr => ∃ k : Nat, k ≤ n ∧ i = .int .i64 (k : Int) ∧ (∀ (j : Nat) (e : En.E), j < k → l[j]? = some e → En.Formed e ∧ ∀ d, 0 < j → l[j - 1]? = some d → d.id < e.id) ∧ Turned [] w wr) (fun i _ => n - (intOf i).toNat)
  case atStart => exact ⟨0, by omega, rfl, fun j c h _ => absurd h (by omega), Turned.refl _ _⟩
  case round =>
    obtain ⟨k, hk, rfl, hall, ht⟩ := hrel
    by_cases hlt : (k : Int) < (n : Int)
    · obtain ⟨e, he⟩ : ∃ e, l[k]? = some e := ⟨_, List.getElem?_eq_getElem (by have := HN.out; omega)⟩
      have hrow := hr.turned ht (by simp)
      obtain ⟨g, off, rfl, hg, p0, p1, p2, p3, p4, p5, p6, p7⟩ := en_at hrow he
      by_cases hfm : En.Formed e
      · by_cases hk0 : k = 0
        · subst hk0
          have HOK : Hid (En.Formed e ∧ ∀ d, 0 < 0 → l[0 - 1]? = some d → d.id < e.id) := ⟨hfm, fun d h => absurd h (by omega)⟩
          have HFM : Hid (En.Formed e) := hfm
          have i0 : decide ((0 : Int) < ((0 : Nat) : Int)) = false := by decide
          simp only [Nat.zero_mul, Nat.add_zero] at p0 p1 p2 p3 p4 p5 p6 p7
          clear hfm
          go_wp2_with fail
          obtain ⟨W1, hW1⟩ : ∃ W1, W1 = wr.alloc (.cells #[.int .i64 e.id, .int .i64 e.kind, .int .i64 e.ax, .int .i64 e.ay, .int .i64 e.vx, .int .i64 e.vy, .int .i64 e.h, .int .i64 e.t] 29) := ⟨_, rfl⟩
          obtain ⟨B, hB⟩ : ∃ B, B = wr.heap.size := ⟨_, rfl⟩
          rw [← hW1, ← hB]
          have hS : Struct B (enEnc e) W1 := by rw [hW1, hB]; exact Struct.new wr (enEnc e) 29
          have hTa : Turned [] wr W1 := by rw [hW1]; exact (Turned.refl [] wr).alloc _
          have ht1 := ht.trans hTa (by simp)
          have hg1 : g < W1.heap.size := Nat.lt_of_lt_of_le hg hTa.size
          have ne : Nonempty (KeptW W1) := KeptW.one W1
          have d0 := KeptW.at hS.1 (hS.2 0 _ rfl).1
          have d1 := KeptW.at hS.1 (hS.2 1 _ rfl).1
          have d2 := KeptW.at hS.1 (hS.2 2 _ rfl).1
          have d3 := KeptW.at hS.1 (hS.2 3 _ rfl).1
          have d4 := KeptW.at hS.1 (hS.2 4 _ rfl).1
          have d5 := KeptW.at hS.1 (hS.2 5 _ rfl).1
          have d6 := KeptW.at hS.1 (hS.2 6 _ rfl).1
          have d7 := KeptW.at hS.1 (hS.2 7 _ rfl).1
          have kf := formed_kept (W := W1) e true (by simpa using HFM.out)
          clear hW1 hB p0 p1 p2 p3 p4 p5 p6 p7
          refine wp_region_kept (by kernel_rfl) (by kernel_rfl) ?_
          repeat (go_big_quiet_step (first | (go_at_call 10; with_reducible exact kf _)))
          refine wpQuiet_nil ?_
          rintro _ ⟨y, rfl⟩
          go_wp2_with fail
          go_roundw
          case rel =>
            refine ⟨0 + 1, by omega, by go_num, ?_, ht1.trans (Turned.ofBelow y.h) (by simp)⟩
            intro j d hj hd
            by_cases hjk : j = 0
            · subst hjk
              rw [he] at hd
              simp at hd
              subst hd
              exact HOK.out
            · exact hall j d (by omega) hd
          case measure => simp [intOf]; omega
        · obtain ⟨m, rfl⟩ : ∃ m, k = m + 1 := ⟨k - 1, by omega⟩
          obtain ⟨d, hd⟩ : ∃ d, l[m]? = some d := ⟨_, List.getElem?_eq_getElem (by have := HN.out; omega)⟩
          obtain ⟨g', off', ho', _, q0, _⟩ := en_at hrow hd
          simp at ho'
          obtain ⟨rfl, rfl⟩ := ho'
          have i0 : decide ((0 : Int) < ((m + 1 : Nat) : Int)) = true := by rw [decide_eq_true_iff]; omega
          have hwr : IntKind.i64.wrap (((m + 1 : Nat) : Int) - 1) = (m : Int) := by
            have : IntKind.i64.wrap (((m + 1 : Nat) : Int) - 1) = wrap64 (((m + 1 : Nat) : Int) - 1) := by simp [wrap64, IntKind.wrap, IntKind.bits, IntKind.signed]; split <;> omega
            rw [this]; unfold wrap64; omega
          have hmn : (m : Int) < (n : Int) := by omega
          have HFM : Hid (En.Formed e) := hfm
          have HD : Hid (l[m]? = some d) := hd
          clear hfm hk0 hd
          go_wp2_with fail
          obtain ⟨W1, hW1⟩ : ∃ W1, W1 = wr.alloc (.cells #[.int .i64 e.id, .int .i64 e.kind, .int .i64 e.ax, .int .i64 e.ay, .int .i64 e.vx, .int .i64 e.vy, .int .i64 e.h, .int .i64 e.t] 29) := ⟨_, rfl⟩
          obtain ⟨B, hB⟩ : ∃ B, B = wr.heap.size := ⟨_, rfl⟩
          rw [← hW1, ← hB]
          have hS : Struct B (enEnc e) W1 := by rw [hW1, hB]; exact Struct.new wr (enEnc e) 29
          have hTa : Turned [] wr W1 := by rw [hW1]; exact (Turned.refl [] wr).alloc _
          have ht1 := ht.trans hTa (by simp)
          have hg1 : g < W1.heap.size := Nat.lt_of_lt_of_le hg hTa.size
          have ne : Nonempty (KeptW W1) := KeptW.one W1
          have d0 := KeptW.at hS.1 (hS.2 0 _ rfl).1
          have d1 := KeptW.at hS.1 (hS.2 1 _ rfl).1
          have d2 := KeptW.at hS.1 (hS.2 2 _ rfl).1
          have d3 := KeptW.at hS.1 (hS.2 3 _ rfl).1
          have d4 := KeptW.at hS.1 (hS.2 4 _ rfl).1
          have d5 := KeptW.at hS.1 (hS.2 5 _ rfl).1
          have d6 := KeptW.at hS.1 (hS.2 6 _ rfl).1
          have d7 := KeptW.at hS.1 (hS.2 7 _ rfl).1
          have kf := formed_kept (W := W1) e true (by simpa using HFM.out)
          have q1 : W1.cell? ⟨g, off + m * 8, none⟩ = some (.int .i64 d.id) := (hTa.cell (p := ⟨g, off + m * 8, none⟩) hg (by simp)).trans q0
          have e0 := KeptW.at hg1 q1
          clear hW1 hB p0 p1 p2 p3 p4 p5 p6 p7 q0 q1
          by_cases hid : d.id < e.id
          · have HOK : Hid (En.Formed e ∧ ∀ c, 0 < m + 1 → l[m + 1 - 1]? = some c → c.id < e.id) := ⟨HFM.out, fun c _ hc => by rw [show m + 1 - 1 = m by omega, HD.out] at hc; simp at hc; subst hc; exact hid⟩
            have hle : decide (e.id ≤ d.id) = false := by rw [decide_eq_false_iff_not]; omega
            clear hid
            refine wp_region_kept (by kernel_rfl) (by kernel_rfl) ?_
            repeat (go_big_quiet_step (first | (go_at_call 10; with_reducible exact kf _)))
            refine wpQuiet_nil ?_
            rintro _ ⟨y, rfl⟩
            go_wp2_with fail
            go_roundw
            case rel =>
              refine ⟨m + 1 + 1, by omega, by go_num, ?_, ht1.trans (Turned.ofBelow y.h) (by simp)⟩
              intro j d hj hd
              by_cases hjk : j = m + 1
              · subst hjk
                rw [he] at hd
                simp at hd
                subst hd
                exact HOK.out
              · exact hall j d (by omega) hd
            case measure => simp [intOf]; omega
          · have HNM : Hid (En.list l = false) := En.list_not he (fun h => hid (h.2 d (by omega) (by rw [show m + 1 - 1 = m by omega]; exact HD.out)))
            have hle : decide (e.id ≤ d.id) = true := by rw [decide_eq_true_iff]; omega
            clear hid
            refine wp_region_kept (by kernel_rfl) (by kernel_rfl) ?_
            repeat (go_big_quiet_step (first | (go_at_call 10; with_reducible exact kf _)))
            refine wpQuiet_nil ?_
            rintro _ ⟨y, rfl⟩
            go_wp2_with fail
            go_ret
            exact bool_ret HNM.out.symm (ht1.trans (Turned.ofBelow y.h) (by simp))
      · have HNM : Hid (En.list l = false) := En.list_not he (fun h => hfm h.1)
        have HFM : Hid (¬ En.Formed e) := hfm
        clear hfm
        go_wp2_with fail
        obtain ⟨W1, hW1⟩ : ∃ W1, W1 = wr.alloc (.cells #[.int .i64 e.id, .int .i64 e.kind, .int .i64 e.ax, .int .i64 e.ay, .int .i64 e.vx, .int .i64 e.vy, .int .i64 e.h, .int .i64 e.t] 29) := ⟨_, rfl⟩
        obtain ⟨B, hB⟩ : ∃ B, B = wr.heap.size := ⟨_, rfl⟩
        rw [← hW1, ← hB]
        have hS : Struct B (enEnc e) W1 := by rw [hW1, hB]; exact Struct.new wr (enEnc e) 29
        have hTa : Turned [] wr W1 := by rw [hW1]; exact (Turned.refl [] wr).alloc _
        have ht1 := ht.trans hTa (by simp)
        have hg1 : g < W1.heap.size := Nat.lt_of_lt_of_le hg hTa.size
        have ne : Nonempty (KeptW W1) := KeptW.one W1
        have d0 := KeptW.at hS.1 (hS.2 0 _ rfl).1
        have d1 := KeptW.at hS.1 (hS.2 1 _ rfl).1
        have d2 := KeptW.at hS.1 (hS.2 2 _ rfl).1
        have d3 := KeptW.at hS.1 (hS.2 3 _ rfl).1
        have d4 := KeptW.at hS.1 (hS.2 4 _ rfl).1
        have d5 := KeptW.at hS.1 (hS.2 5 _ rfl).1
        have d6 := KeptW.at hS.1 (hS.2 6 _ rfl).1
        have d7 := KeptW.at hS.1 (hS.2 7 _ rfl).1
        have kf := formed_kept (W := W1) e false (by simpa using HFM.out)
        clear hW1 hB p0 p1 p2 p3 p4 p5 p6 p7
        refine wp_region_kept (by kernel_rfl) (by kernel_rfl) ?_
        repeat (go_big_quiet_step (first | (go_at_call 10; with_reducible exact kf _)))
        refine wpQuiet_nil ?_
        rintro _ ⟨y, rfl⟩
        go_wp2_with fail
        go_ret
        exact bool_ret HNM.out.symm (ht1.trans (Turned.ofBelow y.h) (by simp))
    · have HL : Hid (En.list l = true) := (En.list_iff l).2 fun j e he => hall j e (by have := (List.getElem?_eq_some_iff.1 he).1; have := HN.out; omega) he
      clear hall
      go_wp2_with fail
      go_ret
      exact bool_ret HL.out.symm ht

set_option maxHeartbeats 1000000 in
theorem find_any (oa : Option Addr) (cap : Nat) (l : List En.E) (id : Int) (w : World) (hr : RowOf 8 enEnc oa l w) (hl : (l.length : Int) ≤ 9223372036854775807) :
    Calls Try.prog 14 #[.slice oa l.length cap, .int .i64 id] w fun r w' => r = .returned (.int .i64 (En.find l id)) ∧ Turned [] w w' := by
  obtain ⟨n, hn⟩ : ∃ n, n = l.length := ⟨_, rfl⟩
  rw [← hn] at hl ⊢
  have HN : Hid (n = l.length) := hn
  clear hn
  go_enter Try.func14, Try.ntmps14
  go_wp2_with fail
  go_loopw [9] (fun i wr => ∃ k : Nat, k ≤ n ∧ i = .int .i64 (k : Int) ∧ (∀ (j : Nat) (d : En.E), j < k → l[j]? = some d → d.id ≠ id) ∧ Turned [] w wr) (fun i _ => n - (intOf i).toNat)
  case atStart => exact ⟨0, by omega, rfl, fun j d h _ => absurd h (by omega), Turned.refl _ _⟩
  case round =>
    obtain ⟨k, hk, rfl, hno, ht⟩ := hrel
    by_cases hlt : (k : Int) < (n : Int)
    · obtain ⟨e, he⟩ : ∃ e, l[k]? = some e := ⟨_, List.getElem?_eq_getElem (by have := HN.out; omega)⟩
      have hrow := hr.turned ht (by simp)
      obtain ⟨g, off, rfl, hg, p0, p1, p2, p3, p4, p5, p6, p7⟩ := en_at hrow he
      by_cases hid : e.id = id
      · have HF : Hid (En.find l id = (k : Int)) := En.find_at he hid hno
        have i1 : (e.id == id) = true := by rw [beq_iff_eq]; exact hid
        have HID : Hid (e.id = id) := hid
        clear hno he hid hrow
        go_wp2_with fail
        go_ret
        exact nt_ret HF.out.symm (ht.alloc _)
      · have i1 : (e.id == id) = false := by rw [beq_eq_false_iff_ne]; exact hid
        have HNO : Hid (∀ (j : Nat) (d : En.E), j < k + 1 → l[j]? = some d → d.id ≠ id) := by
          intro j d hj hd
          by_cases hjk : j = k
          · subst hjk; rw [he] at hd; simp at hd; subst hd; exact hid
          · exact hno j d (by omega) hd
        clear hno he hid hrow
        go_wp2_with fail
        go_roundw
        case rel => exact ⟨k + 1, by omega, by go_num, HNO.out, ht.alloc _⟩
        case measure => simp [intOf]; omega
    · have HF : Hid (En.find l id = -1) := En.find_no fun j d hd => hno j d (by have := (List.getElem?_eq_some_iff.1 hd).1; have := HN.out; omega) hd
      clear hno
      go_wp2_with fail
      go_ret
      exact nt_ret HF.out.symm ht
end EnW
end Go.Proofs.Ytjphcbcbaiifhaa

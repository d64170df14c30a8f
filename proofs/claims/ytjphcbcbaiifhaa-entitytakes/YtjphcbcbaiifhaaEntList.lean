/- Whether entities are a list: the reference's (EnR). -/
import Derived.Test.YtjphcbcbaiifhaaEntRef
namespace Go.Proofs.Ytjphcbcbaiifhaa
open Go.RowKit
set_option linter.unusedVariables false
set_option linter.unusedSimpArgs false

namespace EnR
set_option maxHeartbeats 4000000 in
theorem list_any (oa : Option Addr) (cap : Nat) (l : List En.E) (w : World) (hr : RowOf 8 enEnc oa l w) (hl : (l.length : Int) ≤ 9223372036854775807) :
    Calls Try.prog 13 #[.slice oa l.length cap] w fun r w' => r = .returned (.bool (En.list l)) ∧ Turned [] w w' := by
  obtain ⟨n, hn⟩ : ∃ n, n = l.length := ⟨_, rfl⟩
  rw [← hn] at hl ⊢
  have HN : Hid (n = l.length) := hn
  clear hn
  go_enter Try.func13, Try.ntmps13
  go_wp2_with fail
  go_loopw [3] (fun i wr => ∃ k : Nat, k ≤ n ∧ i = .int .i64 (k : Int) ∧ (∀ (j : Nat) (e : En.E), j < k → l[j]? = some e → En.Formed e ∧ ∀ d, 0 < j → l[j - 1]? = some d → d.id < e.id) ∧ Turned [] w wr) (fun i _ => n - (intOf i).toNat)
  case atStart => exact ⟨0, by omega, rfl, fun j c h _ => absurd h (by omega), Turned.refl _ _⟩
  case round =>
    obtain ⟨k, hk, rfl, hall, ht⟩ := hrel
    by_cases hlt : (k : Int) < (n : Int)
    · obtain ⟨e, he⟩ : ∃ e, l[k]? = some e := ⟨_, List.getElem?_eq_getElem (by have := HN.out; omega)⟩
      have hrow := hr.turned ht (by simp)
      obtain ⟨g, off, rfl, hg, p0, p1, p2, p3, p4, p5, p6, p7⟩ := en_at hrow he
      have ne : Nonempty (KeptW wr) := KeptW.one wr
      have d0 := KeptW.at hg p0
      have d1 := KeptW.at hg p1
      have d2 := KeptW.at hg p2
      have d3 := KeptW.at hg p3
      have d4 := KeptW.at hg p4
      have d5 := KeptW.at hg p5
      have d6 := KeptW.at hg p6
      have d7 := KeptW.at hg p7
      by_cases hfm : En.Formed e
      · have kf := formed_kept (W := wr) e true (by simpa using hfm)
        by_cases hk0 : k = 0
        · subst hk0
          have HOK : Hid (En.Formed e ∧ ∀ d, 0 < 0 → l[0 - 1]? = some d → d.id < e.id) := ⟨hfm, fun d h => absurd h (by omega)⟩
          have i0 : decide ((0 : Int) < ((0 : Nat) : Int)) = false := by decide
          simp only [Nat.zero_mul, Nat.add_zero] at d0 d1 d2 d3 d4 d5 d6 d7
          clear hfm p0 p1 p2 p3 p4 p5 p6 p7
          go_wp2_with fail
          refine wp_region_kept (by kernel_rfl) (by kernel_rfl) ?_
          repeat (go_big_quiet_step (first | (go_at_call 11; with_reducible exact kf _)))
          refine wpQuiet_nil ?_
          rintro _ ⟨y, rfl⟩
          go_wp2_with fail
          go_roundw
          case rel =>
            refine ⟨0 + 1, by omega, by go_num, ?_, ht.trans (Turned.ofBelow y.h) (by simp)⟩
            intro j d hj hd
            by_cases hjk : j = 0
            · subst hjk
              rw [he] at hd
              simp at hd
              subst hd
              exact HOK.out
            · exact hall j d (by omega) hd
          case measure => simp [intOf]; omega
        · obtain ⟨m, rfl⟩ : ∃ m, k = m + 1 := ⟨k - 1, by omega⟩
          obtain ⟨d, hd⟩ : ∃ d, l[m]? = some d := ⟨_, List.getElem?_eq_getElem (by have := HN.out; omega)⟩
          obtain ⟨g', off', ho', _, q0, _⟩ := en_at hrow hd
          simp at ho'
          obtain ⟨rfl, rfl⟩ := ho'
          have e0 := KeptW.at hg q0
          have i0 : decide ((0 : Int) < ((m + 1 : Nat) : Int)) = true := by rw [decide_eq_true_iff]; omega
          have hwr : IntKind.i64.wrap (((m + 1 : Nat) : Int) - 1) = (m : Int) := by
            have : IntKind.i64.wrap (((m + 1 : Nat) : Int) - 1) = wrap64 (((m + 1 : Nat) : Int) - 1) := by simp [wrap64, IntKind.wrap, IntKind.bits, IntKind.signed]; split <;> omega
            rw [this]; unfold wrap64; omega
          have hmn : (m : Int) < (n : Int) := by omega
          by_cases hid : d.id < e.id
          · have HOK : Hid (En.Formed e ∧ ∀ c, 0 < m + 1 → l[m + 1 - 1]? = some c → c.id < e.id) := ⟨hfm, fun c _ hc => by rw [show m + 1 - 1 = m by omega, hd] at hc; simp at hc; subst hc; exact hid⟩
            have hle : decide (e.id ≤ d.id) = false := by rw [decide_eq_false_iff_not]; omega
            clear hfm hid hk0
            go_wp2_with fail
            refine wp_region_kept (by kernel_rfl) (by kernel_rfl) ?_
            repeat (go_big_quiet_step (first | (go_at_call 11; with_reducible exact kf _)))
            refine wpQuiet_nil ?_
            rintro _ ⟨y, rfl⟩
            go_wp2_with fail
            go_roundw
            case rel =>
              refine ⟨m + 1 + 1, by omega, by go_num, ?_, ht.trans (Turned.ofBelow y.h) (by simp)⟩
              intro j d hj hd
              by_cases hjk : j = m + 1
              · subst hjk
                rw [he] at hd
                simp at hd
                subst hd
                exact HOK.out
              · exact hall j d (by omega) hd
            case measure => simp [intOf]; omega
          · have HNM : Hid (En.list l = false) := En.list_not he (fun h => hid (h.2 d (by omega) (by rw [show m + 1 - 1 = m by omega]; exact hd)))
            have hle : decide (e.id ≤ d.id) = true := by rw [decide_eq_true_iff]; omega
            clear hfm hid hk0
            go_wp2_with fail
            refine wp_region_kept (by kernel_rfl) (by kernel_rfl) ?_
            repeat (go_big_quiet_step (first | (go_at_call 11; with_reducible exact kf _)))
            refine wpQuiet_nil ?_
            rintro _ ⟨y, rfl⟩
            go_wp2_with fail
            go_ret
            exact bool_ret HNM.out.symm (ht.trans (Turned.ofBelow y.h) (by simp))
      · have kf := formed_kept (W := wr) e false (by simpa using hfm)
        have HNM : Hid (En.list l = false) := En.list_not he (fun h => hfm h.1)
        go_wp2_with fail
        refine wp_region_kept (by kernel_rfl) (by kernel_rfl) ?_
        repeat (go_big_quiet_step (first | (go_at_call 11; with_reducible exact kf _)))
        refine wpQuiet_nil ?_
        rintro _ ⟨y, rfl⟩
        go_wp2_with fail
        go_ret
        exact bool_ret HNM.out.symm (ht.trans (Turned.ofBelow y.h) (by simp))
    · have HL : Hid (En.list l = true) := (En.list_iff l).2 fun j e he => hall j e (by have := (List.getElem?_eq_some_iff.1 he).1; have := HN.out; omega) he
      clear hall
      go_wp2_with fail
      go_ret
      exact bool_ret HL.out.symm ht
end EnR
end Go.Proofs.Ytjphcbcbaiifhaa

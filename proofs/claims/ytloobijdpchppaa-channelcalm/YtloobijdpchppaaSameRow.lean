/- Whether two rows of bytes are the same, as the reference of layer 5 asks it (BtL). -/
import Derived.Test.YtloobijdpchppaaByteMem
import Derived.WalkKit
import Derived.WalkSpells
import Derived.WalkSmall
import Derived.BigQuiet
import Derived.BigRegion
import Derived.Deep.QuietTactic
import Derived.Deep.RegionWith
import Derived.Deep.RegionLaw
namespace Go.Proofs.Ytloobijdpchppaa
open Go.RowKit
set_option linter.unusedVariables false

namespace BtL
theorem bool_ret {a b : Bool} {p : Prop} (h : a = b) (hp : p) : Ending.returned (.bool a) = .returned (.bool b) ∧ p := by rw [h]; exact ⟨rfl, hp⟩
theorem take_same {l s : List Nat} {k : Nat} {a b : Nat} (h : l.take k = s.take k) (ha : l[k]? = some a) (hb : s[k]? = some b) : (l.take (k + 1) = s.take (k + 1)) ↔ a = b := by
  rw [List.take_add_one, List.take_add_one, ha, hb, h]
  simp
theorem ne_of_take {l s : List Nat} {k : Nat} {a b : Nat} (ha : l[k]? = some a) (hb : s[k]? = some b) (hab : a ≠ b) : l ≠ s := by
  rintro rfl
  rw [ha] at hb
  exact hab (by simpa using hb)

set_option maxHeartbeats 1000000 in
theorem same_any (oa ob : Option Addr) (ca cb : Nat) (la lb : List Nat) (w : World) (ha : RowOf 1 byEnc oa la w) (hb : RowOf 1 byEnc ob lb w) (hla : la.length ≤ 1099511627776) (hlb : lb.length ≤ 1099511627776) :
    Calls Try.prog 22 #[.slice oa la.length ca, .slice ob lb.length cb] w fun e w' => e = .returned (.bool (decide (la = lb))) ∧ Turned [] w w' := by
  by_cases hlen : la.length = lb.length
  · go_enter Try.func22, Try.ntmps22
    go_wp2_with fail
    go_loopw [5] (fun i wr => ∃ k : Nat, k ≤ lb.length ∧ i = .int .i64 (k : Int) ∧ la.take k = lb.take k ∧ Turned [] w wr) (fun i _ => lb.length - (intOf i).toNat)
    case atStart => exact ⟨0, by omega, rfl, by simp, Turned.refl _ _⟩
    case round =>
      obtain ⟨k, hk, rfl, htk, hT2⟩ := hrel
      have ha2 := ha.turned hT2 (by simp)
      have hb2 := hb.turned hT2 (by simp)
      by_cases hlt : (k : Int) < (lb.length : Int)
      · have hk1 : k < la.length := by omega
        have hk2 : k < lb.length := by omega
        obtain ⟨a, hxa⟩ : ∃ a, la[k]? = some a := ⟨_, List.getElem?_eq_getElem hk1⟩
        obtain ⟨b, hxb⟩ : ∃ b, lb[k]? = some b := ⟨_, List.getElem?_eq_getElem hk2⟩
        obtain ⟨g1, o1, rfl, hg1, hc1⟩ := ha2 _ _ hxa
        obtain ⟨g2, o2, rfl, hg2, hc2⟩ := hb2 _ _ hxb
        have e1 := hc1 0 _ rfl
        have e2 := hc2 0 _ rfl
        rw [Nat.mul_one, Nat.add_zero] at e1 e2
        clear hc1 hc2 ha2 hb2
        by_cases hab : a = b
        · have HT : Hid (la.take (k + 1) = lb.take (k + 1)) := (take_same htk hxa hxb).2 hab
          clear htk hxa hxb
          subst hab
          go_wp2_with fail
          go_region
          go_wp2_with fail
          go_roundw
          case rel => exact ⟨k + 1, by omega, by go_num, HT.out, hT2.drew⟩
          case measure => simp [intOf]; omega
        · have HN : Hid (decide (la = lb) = false) := decide_eq_false (ne_of_take hxa hxb hab)
          have hne : ¬ (a : Int) = (b : Int) := by omega
          clear htk hxa hxb
          go_wp2_with fail
          go_region
          go_wp2_with fail
          go_ret
          exact bool_ret HN.out.symm hT2.drew
      · have hk' : k = lb.length := by omega
        subst hk'
        have HE : Hid (decide (la = lb) = true) := by
          show _ = _
          rw [List.take_length, ← hlen, List.take_length] at htk
          simpa using htk
        clear htk
        go_wp2_with fail
        go_ret
        exact bool_ret HE.out.symm hT2
  · have HN : Hid (decide (la = lb) = false) := decide_eq_false (by rintro rfl; exact hlen rfl)
    have hlen' : ¬ (la.length : Int) = (lb.length : Int) := by omega
    go_enter Try.func22, Try.ntmps22
    go_wp2_with fail
    go_ret
    exact bool_ret HN.out.symm (Turned.refl _ _)

end BtL
end Go.Proofs.Ytloobijdpchppaa

/- What the reference of channels answers, as calls (ChR). -/
import Derived.Test.YtloobijdpchppaaChMem
import Derived.Test.YtloobijdpchppaaSameRow
import Derived.Test.YtloobijdpchppaaBitRf2
import Derived.Test.YtloobijdpchppaaSerLaw
namespace Go.Proofs.Ytloobijdpchppaa
open Go.RowKit
set_option linter.unusedVariables false
set_option linter.unusedSimpArgs false

namespace ChR
theorem take_same {l s : List Int} {k : Nat} {a b : Int} (h : l.take k = s.take k) (ha : l[k]? = some a) (hb : s[k]? = some b) : (l.take (k + 1) = s.take (k + 1)) ↔ a = b := by
  rw [List.take_add_one, List.take_add_one, ha, hb, h]
  simp
theorem ne_of_take {l s : List Int} {k : Nat} {a b : Int} (ha : l[k]? = some a) (hb : s[k]? = some b) (hab : a ≠ b) : l ≠ s := by
  rintro rfl
  rw [ha] at hb
  exact hab (by simpa using hb)

set_option maxHeartbeats 1000000 in
theorem same_any (oa ob : Option Addr) (ca cb : Nat) (la lb : List Int) (w : World) (ha : RowOf 1 nEnc oa la w) (hb : RowOf 1 nEnc ob lb w) (hla : la.length ≤ 1099511627776) (hlb : lb.length ≤ 1099511627776) :
    Calls Try.prog 13 #[.slice oa la.length ca, .slice ob lb.length cb] w fun e w' => e = .returned (.bool (decide (la = lb))) ∧ Turned [] w w' := by
  by_cases hlen : la.length = lb.length
  · go_enter Try.func13, Try.ntmps13
    go_wp2_with fail
    go_loopw [5] (fun i wr => ∃ k : Nat, k ≤ lb.length ∧ i = .int .i64 (k : Int) ∧ la.take k = lb.take k ∧ Turned [] w wr) (fun i _ => lb.length - (intOf i).toNat)
    case atStart => exact ⟨0, by omega, rfl, by simp, Turned.refl _ _⟩
    case round =>
      obtain ⟨k, hk, rfl, htk, hT2⟩ := hrel
      have ha2 := ha.turned hT2 (by simp)
      have hb2 := hb.turned hT2 (by simp)
      by_cases hlt : (k : Int) < (lb.length : Int)
      · have hk1 : k < la.length := by omega
        have hk2 : k < lb.length := by omega
        obtain ⟨a, hxa⟩ : ∃ a, la[k]? = some a := ⟨_, List.getElem?_eq_getElem hk1⟩
        obtain ⟨b, hxb⟩ : ∃ b, lb[k]? = some b := ⟨_, List.getElem?_eq_getElem hk2⟩
        obtain ⟨g1, o1, rfl, hg1, hc1⟩ := ha2 _ _ hxa
        obtain ⟨g2, o2, rfl, hg2, hc2⟩ := hb2 _ _ hxb
        have e1 := hc1 0 _ rfl
        have e2 := hc2 0 _ rfl
        rw [Nat.mul_one, Nat.add_zero] at e1 e2
        clear hc1 hc2 ha2 hb2
        by_cases hab : a = b
        · have HT : Hid (la.take (k + 1) = lb.take (k + 1)) := (take_same htk hxa hxb).2 hab
          clear htk hxa hxb
          subst hab
          go_wp2_with fail
          go_region
          go_wp2_with fail
          go_roundw
          case rel => exact ⟨k + 1, by omega, by go_num, HT.out, hT2.drew⟩
          case measure => simp [intOf]; omega
        · have HN : Hid (decide (la = lb) = false) := decide_eq_false (ne_of_take hxa hxb hab)
          have hne : ¬ a = b := hab
          clear htk hxa hxb
          go_wp2_with fail
          go_region
          go_wp2_with fail
          go_ret
          exact BtL.bool_ret HN.out.symm hT2.drew
      · have hk' : k = lb.length := by omega
        subst hk'
        have HE : Hid (decide (la = lb) = true) := by
          show _ = _
          rw [List.take_length, ← hlen, List.take_length] at htk
          simpa using htk
        clear htk
        go_wp2_with fail
        go_ret
        exact BtL.bool_ret HE.out.symm hT2
  · have HN : Hid (decide (la = lb) = false) := decide_eq_false (by rintro rfl; exact hlen rfl)
    have hlen' : ¬ (la.length : Int) = (lb.length : Int) := by omega
    go_enter Try.func13, Try.ntmps13
    go_wp2_with fail
    go_ret
    exact BtL.bool_ret HN.out.symm (Turned.refl _ _)

theorem nums_next {f : List Bool} {k : Nat} {b : Bool} (h : f[k]? = some b) : Ch.nums 0 (f.take (k + 1)) = Ch.nums 0 (f.take k) ++ (if b = true then [((k % 65536 : Nat) : Int)] else []) := by
  have hk : k < f.length := (List.getElem?_eq_some_iff.1 h).1
  rw [List.take_add_one, h]
  show Ch.nums 0 (f.take k ++ [b]) = _
  rw [Ch.nums_add, List.length_take, Nat.min_eq_left (by omega), Nat.zero_add]

theorem nums_le (f : List Bool) (k : Nat) : (Ch.nums 0 (f.take k)).length ≤ k := by
  have h : ∀ (i : Nat) (f : List Bool), (Ch.nums i f).length ≤ f.length := by
    intro i f
    induction f generalizing i with
    | nil => exact Nat.le_refl _
    | cons b f ih =>
      cases b
      · exact Nat.le_trans (ih (i + 1)) (by rw [List.length_cons]; omega)
      · have := ih (i + 1)
        show (_ :: Ch.nums (i + 1) f).length ≤ _
        rw [List.length_cons, List.length_cons]; omega
  exact Nat.le_trans (h 0 _) (by rw [List.length_take]; omega)

set_option maxHeartbeats 1000000 in
theorem open_any (p : Nat) (y : Bool) (l m : Int) (f : List Bool) (v : Value) (w : World) (h : RChan p y l m f v w) (hf : f.length ≤ 65536) :
    Calls Try.prog 15 #[.pointer (some ⟨p, 0, none⟩)] w fun e w' => ∃ v', e = .returned v' ∧ NumsAt v' (Ch.nums 0 f) w' ∧ Turned [] w w' ∧ ∀ k ∈ blk v', w.heap.size ≤ k := by
  obtain ⟨hs, ho, hn⟩ := h
  obtain ⟨oa, cap, rfl, hlc, hcm⟩ := ho.form
  go_enter Try.func15, Try.ntmps15
  go_wp2_with fail
  go_loopw [3, 4] (fun o i wr => ∃ k : Nat, k ≤ f.length ∧ i = .int .i64 (k : Int) ∧ NumsAt o (Ch.nums 0 (f.take k)) wr ∧ Turned [] w wr ∧ ∀ q ∈ blk o, w.heap.size ≤ q) (fun _ i _ => f.length - (intOf i).toNat)
  case atStart => exact ⟨0, by omega, rfl, OwnL.nil _ _ _ _, Turned.refl _ _, by simp [blk, Value.ownBlock]⟩
  case round =>
    obtain ⟨k, hk, rfl, hout, ht, hnew⟩ := hrel
    have c4 := ((hs.keep ht (by simp)).2 4 _ rfl).1
    have ho2 := ho.keep ht (by simp)
    by_cases hlt : (k : Int) < (f.length : Int)
    · obtain ⟨b, hb⟩ : ∃ b, f[k]? = some b := ⟨_, List.getElem?_eq_getElem (by omega)⟩
      have HX := nums_next hb
      obtain ⟨g, cap', hv, hbk, hg, hc⟩ := ho2.cell bEnc_len hb
      simp at hv
      obtain ⟨rfl, rfl⟩ := hv
      have e0 := (hc 0 _ rfl).1
      rw [Nat.mul_one, Nat.add_zero] at e0
      have hle := nums_le f k
      clear hc hb
      cases b
      · rw [if_neg (by decide), List.append_nil] at HX
        have HN : Hid (Ch.nums 0 (f.take (k + 1)) = Ch.nums 0 (f.take k)) := HX
        clear HX
        go_wp2_with fail
        go_roundw
        case rel => exact ⟨k + 1, by omega, by go_num, by rw [HN.out]; exact hout, ht, hnew⟩
        case measure => simp [intOf]; omega
      · rw [if_pos rfl] at HX
        have HN : Hid (Ch.nums 0 (f.take (k + 1)) = Ch.nums 0 (f.take k) ++ [(k : Int) % 65536]) := HX
        clear HX
        obtain ⟨L, hL⟩ : ∃ L, L = Ch.nums 0 (f.take k) := ⟨_, rfl⟩
        rw [← hL] at hout HN hle
        clear hL
        have b1 : L.length + 1 ≤ maxLen := by unfold maxLen; omega
        have b2 : (L.length + 1) * 2 ≤ 140737488355328 := by omega
        go_wp2_with (at_builtin; refine wp_push (v := u3) elem_u16 rfl _ _ rfl rfl (hout.keep ((Turned.refl [] wr).alloc _) (by simp)) wr.heap.size 0 1 1 [(k : Int) % 65536] rfl rfl nEnc_len nEnc_one (one_cell rfl wr _) b1 b2 ?_; intro v' w1 ho1 ht1 hb1)
        go_roundw
        case rel => exact ⟨k + 1, by omega, by go_num, by rw [HN.out]; exact ho1, ht.trans (((Turned.refl (blk u3) wr).alloc _).trans ht1 (fun k hk _ => hk)) (fun k hk hl => by have := hnew k hk; omega), BtR.fresh hnew ht hb1⟩
        case measure => simp [intOf]; omega
    · have HJ : f.take k = f := by rw [List.take_of_length_le (by omega)]
      rw [HJ] at hout
      go_wp2_with fail
      go_ret
      exact ⟨_, rfl, hout, ht, hnew⟩
end ChR
end Go.Proofs.Ytloobijdpchppaa

/- The program's channel: which numbers hold (ChW). -/
import Derived.Test.YtloobijdpchppaaChWSend
import Derived.Test.YtloobijdpchppaaSerWalks
import Derived.Test.YtloobijdpchppaaBitRf2
namespace Go.Proofs.Ytloobijdpchppaa
open Go.RowKit
set_option linter.unusedVariables false
set_option linter.unusedSimpArgs false

namespace ChW
/-- what came there -/
theorem window_of (n : Int) (y : Bool) (a m : Int) (w : World) :
    Calls Try.prog 30 #[.agg #[.int .u16 n, .bool y, .int .u16 a, .int .u32 m]] w fun e w' => e = .returned (.agg #[.bool y, .int .u16 a, .int .u32 m]) ∧ Turned [] w w' := by
  go_enter Try.func30, Try.ntmps30
  go_wp2_with fail
  refine bodyPost_ret (by simp [results, Try.results30, go_sem]) rfl (And.intro rfl ?_)
  repeat (first | exact Turned.refl _ _ | refine Turned.drew ?_ | refine Turned.alloc ?_ _ | refine Turned.setCell ?_ (Or.inr (by simp)) _)

theorem isAcked (q : Int) (y : Bool) (a m : Int) (B : Nat) (w : World) (h : Struct B [.bool y, .int .u16 a, .int .u32 m] w) (m0 : 0 ≤ m) (m1 : m < 4294967296) :
    Calls Try.prog 32 #[.int .u16 q, .pointer (some ⟨B, 0, none⟩)] w fun e w' => e = .returned (.bool (Sr.has y a m q)) ∧ Turned [] w w' := by
  have p0 := (h.2 0 _ rfl).1
  have p1 := (h.2 1 _ rfl).1
  have p2 := (h.2 2 _ rfl).1
  have kh := fun (u : World) => SrW.has_any y a m q u m0 m1
  go_enter Try.func32, Try.ntmps32
  go_wp2_with (go_at_call 33; (with_reducible refine (kh _).mono ?_); rintro e u2 ⟨rfl, hb2⟩)
  go_ret
  exact ⟨rfl, Turned.ofBelow hb2⟩
theorem notAcked (q : Int) (y : Bool) (a m : Int) (B : Nat) (w : World) (h : Struct B [.bool y, .int .u16 a, .int .u32 m] w) (m0 : 0 ≤ m) (m1 : m < 4294967296) :
    Calls Try.prog 34 #[.int .u16 q, .pointer (some ⟨B, 0, none⟩)] w fun e w' => e = .returned (.bool (!Sr.has y a m q)) ∧ Turned [] w w' := by
  have p0 := (h.2 0 _ rfl).1
  have p1 := (h.2 1 _ rfl).1
  have p2 := (h.2 2 _ rfl).1
  have kh := fun (u : World) => SrW.has_any y a m q u m0 m1
  go_enter Try.func34, Try.ntmps34
  go_wp2_with (go_at_call 33; (with_reducible refine (kh _).mono ?_); rintro e u2 ⟨rfl, hb2⟩)
  go_ret
  exact ⟨rfl, Turned.ofBelow hb2⟩

theorem take_next {α : Type} {l : List α} {k : Nat} {a : α} {P : α → Bool} (h : l[k]? = some a) : (l.take (k + 1)).filter P = (l.take k).filter P ++ (if P a = true then [a] else []) := by
  rw [List.take_add_one, h, List.filter_append]
  show _ ++ [a].filter P = _
  rw [List.filter_cons]; rfl

theorem those1_any (B : Nat) (P : Int → Bool) (oa : Option Addr) (cap : Nat) (l : List Int) (w : World) (hr : RowOf 1 nEnc oa l w) (hl : l.length ≤ 65536)
    (hf : ∀ u q, Turned [] w u → Calls Try.prog 32 #[.int .u16 q, .pointer (some ⟨B, 0, none⟩)] u fun e w' => e = .returned (.bool (P q)) ∧ Turned [] u w') :
    Calls Try.prog 31 #[.slice oa l.length cap, .func (.func 32) #[] #[.pointer (some ⟨B, 0, none⟩)]] w fun e w' => ∃ v', e = .returned v' ∧ NumsAt v' (l.filter P) w' ∧ Turned [] w w' ∧ ∀ k ∈ blk v', w.heap.size ≤ k := by
  go_enter Try.func31, Try.ntmps31
  go_wp2_with fail
  go_loopw [5, 10] (fun o i wr => ∃ k : Nat, k ≤ l.length ∧ i = .int .i64 (k : Int) ∧ NumsAt o ((l.take k).filter P) wr ∧ Turned [] w wr ∧ ∀ q ∈ blk o, w.heap.size ≤ q) (fun _ i _ => l.length - (intOf i).toNat)
  case atStart => exact ⟨0, by omega, rfl, OwnL.nil _ _ _ _, Turned.refl _ _, by simp [blk, Value.ownBlock]⟩
  case round =>
    obtain ⟨k, hk, rfl, hout, ht, hnew⟩ := hrel
    have hr2 := hr.turned ht (by simp)
    by_cases hlt : (k : Int) < (l.length : Int)
    · obtain ⟨x, hx⟩ : ∃ x, l[k]? = some x := ⟨_, List.getElem?_eq_getElem (by omega)⟩
      have HX := take_next (P := P) hx
      obtain ⟨g, off, rfl, hg, hc⟩ := hr2 _ _ hx
      have e0 := hc 0 _ rfl
      rw [Nat.mul_one, Nat.add_zero] at e0
      have hf2 := hf wr x ht
      have hle : ((l.take k).filter P).length ≤ k := Nat.le_trans (List.length_filter_le _ _) (by rw [List.length_take]; omega)
      clear hc hx
      obtain ⟨L, hL⟩ : ∃ L, L = (l.take k).filter P := ⟨_, rfl⟩
      rw [← hL] at hout hle HX
      clear hL
      have b1 : L.length + 1 ≤ maxLen := by unfold maxLen; omega
      have b2 : (L.length + 1) * 2 ≤ 140737488355328 := by omega
      cases hP : P x
      · rw [hP] at hf2
        rw [hP, if_neg (by decide), List.append_nil] at HX
        have HN : Hid ((l.take (k + 1)).filter P = L) := HX
        clear HX
        go_wp2_with ((with_reducible refine hf2.mono ?_); rintro e u2 ⟨rfl, ht2⟩)
        go_roundw
        case rel => exact ⟨k + 1, by omega, by go_num, by rw [HN.out]; exact OwnL.keep hout ht2 (by simp), ht.trans ht2 (by simp), hnew⟩
        case measure => simp [intOf]; omega
      · rw [hP] at hf2
        rw [hP, if_pos rfl] at HX
        have HN : Hid ((l.take (k + 1)).filter P = L ++ [x]) := HX
        clear HX
        go_wp2_with (first | ((with_reducible refine hf2.mono ?_); rintro e u2 ⟨rfl, ht2⟩) | (at_builtin; refine wp_push (v := u5) elem_u16 rfl _ _ rfl rfl (OwnL.keep (OwnL.keep hout ht2 (by simp)) ((Turned.refl [] u2).alloc _) (by simp)) u2.heap.size 0 1 1 [x] rfl rfl nEnc_len nEnc_one (one_cell rfl u2 _) b1 b2 ?_; intro v' w1 ho1 ht1 hb1))
        go_roundw
        case rel => exact ⟨k + 1, by omega, by go_num, by rw [HN.out]; exact ho1, (ht.trans ht2 (by simp)).trans (((Turned.refl _ u2).alloc _).trans ht1 (fun k hk _ => hk)) (fun k hk hl => by have := hnew k hk; omega), BtR.fresh hnew (ht.trans ht2 (by simp)) hb1⟩
        case measure => simp [intOf]; omega
    · have HJ : l.take k = l := by rw [List.take_of_length_le (by omega)]
      rw [HJ] at hout
      go_wp2_with fail
      go_ret
      exact ⟨_, rfl, hout, ht, hnew⟩
theorem those2_any (B : Nat) (P : Int → Bool) (oa : Option Addr) (cap : Nat) (l : List Int) (w : World) (hr : RowOf 1 nEnc oa l w) (hl : l.length ≤ 65536)
    (hf : ∀ u q, Turned [] w u → Calls Try.prog 34 #[.int .u16 q, .pointer (some ⟨B, 0, none⟩)] u fun e w' => e = .returned (.bool (P q)) ∧ Turned [] u w') :
    Calls Try.prog 31 #[.slice oa l.length cap, .func (.func 34) #[] #[.pointer (some ⟨B, 0, none⟩)]] w fun e w' => ∃ v', e = .returned v' ∧ NumsAt v' (l.filter P) w' ∧ Turned [] w w' ∧ ∀ k ∈ blk v', w.heap.size ≤ k := by
  go_enter Try.func31, Try.ntmps31
  go_wp2_with fail
  go_loopw [5, 10] (fun o i wr => ∃ k : Nat, k ≤ l.length ∧ i = .int .i64 (k : Int) ∧ NumsAt o ((l.take k).filter P) wr ∧ Turned [] w wr ∧ ∀ q ∈ blk o, w.heap.size ≤ q) (fun _ i _ => l.length - (intOf i).toNat)
  case atStart => exact ⟨0, by omega, rfl, OwnL.nil _ _ _ _, Turned.refl _ _, by simp [blk, Value.ownBlock]⟩
  case round =>
    obtain ⟨k, hk, rfl, hout, ht, hnew⟩ := hrel
    have hr2 := hr.turned ht (by simp)
    by_cases hlt : (k : Int) < (l.length : Int)
    · obtain ⟨x, hx⟩ : ∃ x, l[k]? = some x := ⟨_, List.getElem?_eq_getElem (by omega)⟩
      have HX := take_next (P := P) hx
      obtain ⟨g, off, rfl, hg, hc⟩ := hr2 _ _ hx
      have e0 := hc 0 _ rfl
      rw [Nat.mul_one, Nat.add_zero] at e0
      have hf2 := hf wr x ht
      have hle : ((l.take k).filter P).length ≤ k := Nat.le_trans (List.length_filter_le _ _) (by rw [List.length_take]; omega)
      clear hc hx
      obtain ⟨L, hL⟩ : ∃ L, L = (l.take k).filter P := ⟨_, rfl⟩
      rw [← hL] at hout hle HX
      clear hL
      have b1 : L.length + 1 ≤ maxLen := by unfold maxLen; omega
      have b2 : (L.length + 1) * 2 ≤ 140737488355328 := by omega
      cases hP : P x
      · rw [hP] at hf2
        rw [hP, if_neg (by decide), List.append_nil] at HX
        have HN : Hid ((l.take (k + 1)).filter P = L) := HX
        clear HX
        go_wp2_with ((with_reducible refine hf2.mono ?_); rintro e u2 ⟨rfl, ht2⟩)
        go_roundw
        case rel => exact ⟨k + 1, by omega, by go_num, by rw [HN.out]; exact OwnL.keep hout ht2 (by simp), ht.trans ht2 (by simp), hnew⟩
        case measure => simp [intOf]; omega
      · rw [hP] at hf2
        rw [hP, if_pos rfl] at HX
        have HN : Hid ((l.take (k + 1)).filter P = L ++ [x]) := HX
        clear HX
        go_wp2_with (first | ((with_reducible refine hf2.mono ?_); rintro e u2 ⟨rfl, ht2⟩) | (at_builtin; refine wp_push (v := u5) elem_u16 rfl _ _ rfl rfl (OwnL.keep (OwnL.keep hout ht2 (by simp)) ((Turned.refl [] u2).alloc _) (by simp)) u2.heap.size 0 1 1 [x] rfl rfl nEnc_len nEnc_one (one_cell rfl u2 _) b1 b2 ?_; intro v' w1 ho1 ht1 hb1))
        go_roundw
        case rel => exact ⟨k + 1, by omega, by go_num, by rw [HN.out]; exact ho1, (ht.trans ht2 (by simp)).trans (((Turned.refl _ u2).alloc _).trans ht1 (fun k hk _ => hk)) (fun k hk hl => by have := hnew k hk; omega), BtR.fresh hnew (ht.trans ht2 (by simp)) hb1⟩
        case measure => simp [intOf]; omega
    · have HJ : l.take k = l := by rw [List.take_of_length_le (by omega)]
      rw [HJ] at hout
      go_wp2_with fail
      go_ret
      exact ⟨_, rfl, hout, ht, hnew⟩
end ChW
end Go.Proofs.Ytloobijdpchppaa

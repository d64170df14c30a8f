/- The program's channel, where it lies; its list is only read where it lies (ChW). -/
import Derived.Test.YtloobijdpchppaaChMem
import Derived.Test.YtloobijdpchppaaBitMem2
import Derived.Test.YtloobijdpchppaaSerLaw
import Derived.Deep.RegionLaw
namespace Go.Proofs.Ytloobijdpchppaa
open Go.RowKit
set_option linter.unusedVariables false

/-- block p is a channel that is s; its blocks are F -/
def CH (p : Nat) (F : List Nat) (s : Ch.S) (w : World) : Prop :=
  ∃ v, Struct p [.int .u16 s.x, .bool s.y, .int .u16 s.l, .int .u32 s.m, v] w ∧ (∃ oa cap, v = .slice oa s.o.length cap ∧ RowOf 1 nEnc oa s.o w ∧ ∀ a, oa = some a → a.block < w.heap.size) ∧ F = p :: rblk v ∧ p ∉ rblk v
section
variable {p : Nat} {F S : List Nat} {s : Ch.S} {w w' : World}
theorem CH.lt (h : CH p F s w) : ∀ k ∈ F, k < w.heap.size := by
  obtain ⟨v, hs, ⟨oa, cap, rfl, hr, hd⟩, rfl, hn⟩ := h
  intro k hk
  rcases List.mem_cons.1 hk with rfl | hk
  · exact hs.1
  · cases oa with
    | none => simp [rblk] at hk
    | some a => simp [rblk] at hk; subst hk; exact hd a rfl
theorem CH.at (h : CH p F s w) : p ∈ F := by
  obtain ⟨v, _, _, rfl, _⟩ := h; exact List.mem_cons_self ..
theorem CH.keep (h : CH p F s w) (ht : Turned S w w') (hd : ∀ k ∈ F, k ∉ S) : CH p F s w' := by
  obtain ⟨v, hs, ⟨oa, cap, rfl, hr, hb⟩, rfl, hn⟩ := h
  exact ⟨_, hs.keep ht (hd p (List.mem_cons_self ..)), ⟨oa, cap, rfl, hr.turned ht fun a ha => hd _ (List.mem_cons_of_mem _ (by subst ha; simp [rblk])), fun a ha => Nat.lt_of_lt_of_le (hb a ha) ht.size⟩, rfl, hn⟩
theorem CH.new (w : World) (t : TypeId) : CH w.heap.size [w.heap.size] Ch.zero (w.alloc (.cells #[.int .u16 0, .bool false, .int .u16 0, .int .u32 0, .slice none 0 0] t)) :=
  ⟨_, Struct.new w [_, _, _, _, _] t, ⟨none, 0, rfl, fun i a hi => (by cases hi), fun a ha => (by cases ha)⟩, rfl, by simp [rblk]⟩
/-- what the call itself built, as a row that is read -/
theorem rblk_blk {v : Value} {l : List Int} (h : NumsAt v l w) : rblk v = blk v := by
  rcases h.2 with ⟨rfl, _⟩ | ⟨g, cap, cur, rfl, _⟩
  · rfl
  · rfl
theorem NumsAt.row {v : Value} {l : List Int} (h : NumsAt v l w) : ∃ oa cap, v = .slice oa l.length cap ∧ RowOf 1 nEnc oa l w ∧ ∀ a, oa = some a → a.block < w.heap.size := by
  have hlt := OwnL.lt h
  obtain ⟨oa, cap, rfl, _, _, hr, hsp⟩ := OwnL.rowOf h nEnc_len
  refine ⟨oa, cap, rfl, hr, fun a ha => hlt _ ?_⟩
  subst ha
  obtain ⟨b, off, sp⟩ := a
  have : sp = none := hsp _ rfl
  subst this
  rcases h.2 with ⟨hv, _⟩ | ⟨g, cap', cur, hv, _⟩
  · cases hv
  · simp at hv; simp [blk, Value.ownBlock, hv.1]
/-- a struct that holds a list which the call built is a channel -/
theorem CH.of {v : Value} (hs : Struct p [.int .u16 s.x, .bool s.y, .int .u16 s.l, .int .u32 s.m, v] w) (h : NumsAt v s.o w) (hn : p ∉ blk v) : CH p (p :: blk v) s w :=
  ⟨v, hs, h.row, by rw [rblk_blk h], by rw [rblk_blk h]; exact hn⟩
end

namespace ChW
set_option maxHeartbeats 1000000 in
theorem clone_any (oa : Option Addr) (n cap : Nat) (bs : List Int) (w : World) (hn : bs.length = n) (hr : RowOf 1 nEnc oa bs w) (hl : n ≤ 1099511627776) :
    Calls Try.prog 37 #[.slice oa n cap] w fun e w' => ∃ v', e = .returned v' ∧ NumsAt v' bs w' ∧ Turned [] w w' ∧ ∀ k ∈ blk v', w.heap.size ≤ k := by
  have hnil : ∀ (u : World) (a : Option Addr) (l c : Nat), (binOp .eql 29 (.slice a l c) (.slice none 0 0)).run Try.prog u = .ok (.bool a.isNone) u := fun u a l c => Lib.run_eql_slice_nil (P := Try.prog) u 29 25 a l c 0 0 (by kernel_rfl)
  cases oa with
  | none =>
    have hb : bs = [] := by
      cases bs with
      | nil => rfl
      | cons a r => obtain ⟨b, off, ho, _⟩ := hr 0 a rfl; cases ho
    subst hb
    go_enter Try.func37, Try.ntmps37
    go_wp2
    go_ret
    exact ⟨_, rfl, OwnL.nil _ _ _ _, Turned.refl _ _, by simp [blk, Value.ownBlock]⟩
  | some a =>
    go_enter Try.func37, Try.ntmps37
    have h0 : OwnL 25 1 nEnc (.slice (some ⟨w.heap.size, 0, none⟩) 0 0) ([] : List Int) (w.alloc (.cells #[] 25)) := World.ownsRow_made (e := 25) (size := 1) w #[] 0 (Nat.zero_le _) (Nat.zero_le _) rfl
    go_wp2_with (at_builtin; refine wp_pushAll (v := .slice (some ⟨w.heap.size, 0, none⟩) 0 0) elem_u16 rfl (.tmp 5) (.tmp 6) rfl rfl h0 (some a) n cap bs hn rfl (hr.turned ((Turned.refl [] w).alloc _) (by simp)) nEnc_len nEnc_one (by unfold maxLen; simp; omega) (by simp; omega) ?_; intro v' w1 ho1 ht1 hb1)
    go_ret
    refine ⟨_, rfl, ?_, ?_, ?_⟩
    · show OwnL 25 1 nEnc v' bs w1; simpa using ho1
    · refine ((Turned.refl [] w).alloc _).trans ht1 ?_
      intro k hk hl
      simp [blk, Value.ownBlock] at hk
      omega
    · intro k hk
      have hk' : k ∈ blk v' := hk
      rcases hb1 with h | h
      · rw [h] at hk'; simp [blk, Value.ownBlock] at hk'; omega
      · rw [h] at hk'; simp at hk'; omega

set_option maxHeartbeats 1000000 in
theorem open_any (p : Nat) (F : List Nat) (s : Ch.S) (w : World) (h : CH p F s w) (hl : s.o.length ≤ 64) :
    Calls Try.prog 14 #[.pointer (some ⟨p, 0, none⟩)] w fun e w' => ∃ v', e = .returned v' ∧ NumsAt v' s.o w' ∧ Turned [] w w' ∧ ∀ k ∈ blk v', w.heap.size ≤ k := by
  obtain ⟨v, hs, ⟨oa, cap, rfl, hr, hd⟩, rfl, hn⟩ := h
  have c4 := (hs.2 4 _ rfl).1
  have kc := clone_any oa s.o.length cap s.o w rfl hr (by omega)
  go_enter Try.func14, Try.ntmps14
  go_wp2_with (go_at_call 37; with_reducible refine kc.mono ?_; rintro e w1 ⟨v', rfl, ho1, ht1, hb1⟩)
  go_ret
  exact ⟨v', rfl, ho1, ht1, hb1⟩
theorem open_nil (w : World) :
    Calls Try.prog 14 #[.pointer none] w fun e w' => e = .returned (.slice none 0 0) ∧ w' = w := by
  go_enter Try.func14, Try.ntmps14
  go_wp2
  go_ret
  exact ⟨rfl, rfl⟩

set_option maxHeartbeats 1000000 in
theorem window_any (p : Nat) (F : List Nat) (s : Ch.S) (w : World) (h : CH p F s w) :
    Calls Try.prog 16 #[.pointer (some ⟨p, 0, none⟩)] w fun e w' => e = .returned (.agg #[.bool s.y, .int .u16 s.l, .int .u32 s.m]) ∧ Below w.heap.size w w' := by
  obtain ⟨v, hs, _⟩ := h
  have c1 := (hs.2 1 _ rfl).1
  have c2 := (hs.2 2 _ rfl).1
  have c3 := (hs.2 3 _ rfl).1
  have hp := hs.1
  have hne : ¬ p = w.heap.size := by omega
  go_enter Try.func16, Try.ntmps16
  go_wp2
  refine bodyPost_ret (by simp [results, Try.results16, go_sem]) rfl (And.intro rfl ?_)
  repeat (first | exact Below.refl _ _ | refine Below.drew ?_ | refine Below.alloc ?_ (by simp <;> omega) _ | refine Below.setCell ?_ (by simp) _)
set_option maxHeartbeats 1000000 in
theorem window_nil (w : World) :
    Calls Try.prog 16 #[.pointer none] w fun e w' => e = .returned (.agg #[.bool false, .int .u16 0, .int .u32 0]) ∧ Below w.heap.size w w' := by
  go_enter Try.func16, Try.ntmps16
  go_wp2
  refine bodyPost_ret (by simp [results, Try.results16, go_sem]) rfl (And.intro rfl ?_)
  repeat (first | exact Below.refl _ _ | refine Below.drew ?_ | refine Below.alloc ?_ (by simp <;> omega) _ | refine Below.setCell ?_ (by simp) _)
end ChW
end Go.Proofs.Ytloobijdpchppaa

/- A header's bits are put: the reference's (ChR). -/
import Derived.Test.YtloobijdpchppaaChRef
import Derived.Test.YtloobijdpchppaaBitPutB
namespace Go.Proofs.Ytloobijdpchppaa
open Go.RowKit
set_option linter.unusedVariables false
set_option linter.unusedSimpArgs false

namespace Ch
/-- a header's bits -/
def bits (h : H) : List Bool := Bt.bits h.n.toNat 16 ++ (Bt.bits (if h.y = true then 1 else 0) 1 ++ (Bt.bits h.a.toNat 16 ++ Bt.bits h.m.toNat 32))
theorem bits_puts (L : List Bool) (h : H) {f : Int} (hf : f = if h.y = true then 1 else 0) : L ++ BtW.puts h.n.toNat 16 ++ BtW.puts f.toNat 1 ++ BtW.puts h.a.toNat 16 ++ BtW.puts h.m.toNat 32 = L ++ bits h := by
  have e1 := puts_nat h.n.toNat 16 (by omega)
  have e2 := puts_nat f.toNat 1 (by omega)
  have e3 := puts_nat h.a.toNat 16 (by omega)
  have e4 := puts_nat h.m.toNat 32 (by omega)
  simp only [Int.cast_ofNat_Int] at e1 e2 e3 e4
  unfold bits
  rw [e1, e2, e3, e4, show f.toNat = if h.y = true then 1 else 0 by rw [hf]; split <;> rfl]
  simp only [List.append_assoc]
end Ch

namespace ChR
set_option maxHeartbeats 2000000 in
theorem put_any (p : Nat) (L : List Bool) (F : List Nat) (h : Ch.H) (hw : Ch.HWf h) (w : World) (hp : BtR.RB p L F w) (hL : L.length ≤ 274877906944) :
    Calls Try.prog 18 #[.pointer (some ⟨p, 0, none⟩), .agg #[.int .u16 h.n, .bool h.y, .int .u16 h.a, .int .u32 h.m]] w fun e w' => e = .returned (.tuple #[]) ∧ ∃ F', BtR.RB p (L ++ Ch.bits h) F' w' ∧ Moved F F' w w' := by
  have hlt := hp.lt
  obtain ⟨n0, n1, a0, a1, m0, m1⟩ := hw
  obtain ⟨hn, hy, ha, hm⟩ := h
  simp only at n0 n1 a0 a1 m0 m1 ⊢
  obtain ⟨f, hf⟩ : ∃ f : Int, f = if hy = true then 1 else 0 := ⟨_, rfl⟩
  have HB : Hid (L ++ BtW.puts hn.toNat 16 ++ BtW.puts f.toNat 1 ++ BtW.puts ha.toNat 16 ++ BtW.puts hm.toNat 32 = L ++ Ch.bits ⟨hn, hy, ha, hm⟩) := Ch.bits_puts L ⟨hn, hy, ha, hm⟩ hf
  go_enter Try.func18, Try.ntmps18
  go_wp2_with fail
  obtain ⟨wa, hwa⟩ : ∃ wa, wa = w.alloc (.cells #[.int .u16 hn, .bool hy, .int .u16 ha, .int .u32 hm] 41) := ⟨_, rfl⟩
  rw [← hwa]
  have hs : Struct w.heap.size [.int .u16 hn, .bool hy, .int .u16 ha, .int .u32 hm] wa := by rw [hwa]; exact Struct.new w [.int .u16 hn, .bool hy, .int .u16 ha, .int .u32 hm] _
  have HTA : Hid (Turned F w wa) := by show Turned F w wa; rw [hwa]; exact (Turned.refl F w).alloc _
  have hp : BtR.RB p L F wa ∧ L.length ≤ 274877906944 := ⟨hp.keep (by rw [hwa]; exact (Turned.refl [] w).alloc _) (by simp), hL⟩
  have hmv : Moved F F wa wa := Moved.refl F wa
  have HLT : Hid ((∀ k ∈ F, k < w.heap.size) ∧ wa.heap.size = w.heap.size + 1) := ⟨hlt, by rw [hwa]; simp⟩
  have hout : ∀ F' u, Moved F F' wa u → w.heap.size ∉ F' := by
    intro F' u h hk
    rcases h.2 _ hk with h1 | h1
    · have := HLT.out.1 _ h1; omega
    · have := HLT.out.2; omega
  obtain ⟨c0, _⟩ := hs.2 0 _ rfl
  obtain ⟨c1, _⟩ := hs.2 1 _ rfl
  obtain ⟨c2, _⟩ := hs.2 2 _ rfl
  obtain ⟨c3, _⟩ := hs.2 3 _ rfl
  have HS : Hid (Struct w.heap.size [.int .u16 hn, .bool hy, .int .u16 ha, .int .u32 hm] wa) := hs
  clear hlt hL hwa hs
  cases hy
  all_goals
    (first | rw [if_neg (by decide)] at hf | rw [if_pos rfl] at hf)
    subst hf
    go_wp2_with (go_at_call 40; (with_reducible refine (BtR.put_b (by omega) (by omega) hp (by omega)).mono ?_); rintro e u ⟨rfl, F1, hp, hm1⟩; have hs := HS.out.keep hm1.1 (hout _ _ hmv); have c1 := (hs.2 1 _ rfl).1; have c2 := (hs.2 2 _ rfl).1; have c3 := (hs.2 3 _ rfl).1; have HS : Hid (Struct w.heap.size _ _) := hs; have hmv := hmv.trans hm1; clear hm1 hs)
    go_end0
    exact BtW.end0 ⟨F1, by rw [← HB.out]; exact hp.1, HTA.out.trans hmv.1 (fun k hk _ => hk), fun k hk => (hmv.2 k hk).imp id fun h => by have := HLT.out.2; omega⟩
end ChR
end Go.Proofs.Ytloobijdpchppaa

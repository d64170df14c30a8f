/- The words that the laws of layer 14 share: what they ask first, headers compared, what a script's acts are. -/
import Derived.Test.YtloobijdpchppaaChWTakeN
import Derived.Test.YtloobijdpchppaaChTakeN
import Derived.Test.YtloobijdpchppaaFlat
import Derived.Test.YtloobijdpchppaaInts
namespace Go.Proofs.Ytloobijdpchppaa
open Go.RowKit
set_option linter.unusedVariables false

/-- a header's cells -/
def hEnc (h : Ch.H) : List Value := [.int .u16 h.n, .bool h.y, .int .u16 h.a, .int .u32 h.m]
/-- an act's cells; a step's -/
def coEnc (a : Int × Ch.H) : List Value := [.int .i64 a.1, .int .u16 a.2.n, .bool a.2.y, .int .u16 a.2.a, .int .u32 a.2.m]
def paEnc (a : Int × Int) : List Value := [.int .i64 a.1, .int .i64 a.2]
theorem ch_leaf {k : IntKind} {v : Value} (h : (Leaf.int k).ok v) : ∃ z, v = .int k z := by
  obtain ⟨z, hz, _⟩ := h
  exact ⟨z, hz⟩
theorem ch_bool {v : Value} (h : Leaf.bool.ok v) : ∃ b, v = .bool b := h
theorem ch_int {k : IntKind} {z : Int} (h : (Leaf.int k).ok (.int k z)) : (Lit.int k z).wf = true := by
  obtain ⟨y, hy, hw⟩ := h
  rw [(Value.int.inj hy).2]
  exact hw
theorem coEnc_of (cs : List Value) (h : AllOk [.int .i64, .int .u16, .bool, .int .u16, .int .u32] cs) : ∃ a, cs = coEnc a := by
  have hl := h.length
  obtain ⟨c0, c1, c2, c3, c4, rfl⟩ : ∃ c0 c1 c2 c3 c4, cs = [c0, c1, c2, c3, c4] := by
    match cs, hl with
    | [a, b, c, d, e], _ => exact ⟨a, b, c, d, e, rfl⟩
  obtain ⟨x0, e0⟩ := ch_leaf h.1
  obtain ⟨x1, e1⟩ := ch_leaf h.2.1
  obtain ⟨x2, e2⟩ := ch_bool h.2.2.1
  obtain ⟨x3, e3⟩ := ch_leaf h.2.2.2.1
  obtain ⟨x4, e4⟩ := ch_leaf h.2.2.2.2.1
  rw [e0, e1, e2, e3, e4]
  exact ⟨(x0, ⟨x1, x2, x3, x4⟩), rfl⟩
theorem paEnc_of (cs : List Value) (h : AllOk [.int .i64, .int .i64] cs) : ∃ a, cs = paEnc a := by
  have hl := h.length
  obtain ⟨c0, c1, rfl⟩ : ∃ c0 c1, cs = [c0, c1] := by
    match cs, hl with
    | [a, b], _ => exact ⟨a, b, rfl⟩
  obtain ⟨x0, e0⟩ := ch_leaf h.1
  obtain ⟨x1, e1⟩ := ch_leaf h.2.1
  rw [e0, e1]
  exact ⟨(x0, x1), rfl⟩
theorem co_ok {l : List (Int × Ch.H)} (h : ∀ a ∈ l, AllOk [.int .i64, .int .u16, .bool, .int .u16, .int .u32] (coEnc a)) {k : Nat} {x : Int} {c : Ch.H} (hk : l[k]? = some (x, c)) : Ch.HWf c := by
  have h0 := h _ (List.mem_of_getElem? hk)
  have b1 := u16_bd (ch_int h0.2.1)
  have b2 := u16_bd (ch_int h0.2.2.2.1)
  have b3 := u32_bd (ch_int h0.2.2.2.2.1)
  exact ⟨b1.1, b1.2, b2.1, b2.2, b3.1, b3.2⟩
theorem co_at {oa : Option Addr} {l : List (Int × Ch.H)} {w : World} (h : RowOf 5 coEnc oa l w) {k : Nat} {x : Int} {c : Ch.H} (hk : l[k]? = some (x, c)) :
    ∃ g off, oa = some ⟨g, off, none⟩ ∧ g < w.heap.size ∧ w.cell? ⟨g, off + k * 5, none⟩ = some (.int .i64 x) ∧ w.cell? ⟨g, off + k * 5 + 1, none⟩ = some (.int .u16 c.n) ∧ w.cell? ⟨g, off + k * 5 + 2, none⟩ = some (.bool c.y) ∧ w.cell? ⟨g, off + k * 5 + 3, none⟩ = some (.int .u16 c.a) ∧ w.cell? ⟨g, off + k * 5 + 4, none⟩ = some (.int .u32 c.m) := by
  obtain ⟨g, off, ho, hlt, hc⟩ := h k _ hk
  exact ⟨g, off, ho, hlt, hc 0 _ rfl, hc 1 _ rfl, hc 2 _ rfl, hc 3 _ rfl, hc 4 _ rfl⟩
theorem pa_at {oa : Option Addr} {l : List (Int × Int)} {w : World} (h : RowOf 2 paEnc oa l w) {k : Nat} {x n : Int} (hk : l[k]? = some (x, n)) :
    ∃ g off, oa = some ⟨g, off, none⟩ ∧ g < w.heap.size ∧ w.cell? ⟨g, off + k * 2, none⟩ = some (.int .i64 x) ∧ w.cell? ⟨g, off + k * 2 + 1, none⟩ = some (.int .i64 n) := by
  obtain ⟨g, off, ho, hlt, hc⟩ := h k _ hk
  exact ⟨g, off, ho, hlt, hc 0 _ rfl, hc 1 _ rfl⟩

/-- two headers are the same -/
def hSame (n : Int) (y : Bool) (a m n' : Int) (y' : Bool) (a' m' : Int) : Bool := (n == n') && (y == y') && (a == a') && (m == m')

theorem hd_eql (n : Int) (y : Bool) (a m n' : Int) (y' : Bool) (a' m' : Int) (w : World) : (binOp .eql 38 (.agg #[.int .u16 n, .bool y, .int .u16 a, .int .u32 m]) (.agg #[.int .u16 n', .bool y', .int .u16 a', .int .u32 m'])).run Try.prog w = .ok (.bool ((n == n') && (y == y') && (a == a') && (m == m'))) w := by
  rw [run_eql_struct, run_equalIn_agg (d := 9999) (ht := by kernel_rfl) (hp := by kernel_rfl)]
  simp [go_sem]
  by_cases h0 : n = n' <;> by_cases h : y = y' <;> by_cases h' : a = a' <;> by_cases h2 : m = m' <;> simp [h0, h, h', h2]

theorem rhd_eql (n : Int) (y : Bool) (a m n' : Int) (y' : Bool) (a' m' : Int) (w : World) : (binOp .eql 41 (.agg #[.int .u16 n, .bool y, .int .u16 a, .int .u32 m]) (.agg #[.int .u16 n', .bool y', .int .u16 a', .int .u32 m'])).run Try.prog w = .ok (.bool ((n == n') && (y == y') && (a == a') && (m == m'))) w := by
  rw [run_eql_struct, run_equalIn_agg (d := 9999) (ht := by kernel_rfl) (hp := by kernel_rfl)]
  simp [go_sem]
  by_cases h0 : n = n' <;> by_cases h : y = y' <;> by_cases h' : a = a' <;> by_cases h2 : m = m' <;> simp [h0, h, h', h2]

theorem hd_field (n : Int) (y : Bool) (a m : Int) (u : World) : (Instr.field 38 (.agg #[.int .u16 n, .bool y, .int .u16 a, .int .u32 m]) 0).run Try.prog u = .ok (.int .u16 n) u := by unfold Instr.field; go_simp; rfl

theorem win_field (y : Bool) (a m : Int) (u : World) : (Instr.field 28 (.agg #[.bool y, .int .u16 a, .int .u32 m]) 0).run Try.prog u = .ok (.bool y) u := by unfold Instr.field; go_simp; rfl

namespace ChL
set_option maxRecDepth 20000 in
set_option maxHeartbeats 1000000 in
theorem awake_any (w : World) : Calls Try.prog 8 #[] w fun e w' => e = .returned (.bool true) ∧ Turned [] w w' := by
  have o1 : (Ch.send Ch.zero).o.length = 1 := by decide
  have x1 : (Ch.send Ch.zero).x = 1 := by decide
  have w1 := Ch.send_wf Ch.zero_wf
  have hc := CH.new w 31
  go_enter Try.func8, Try.ntmps8
  go_wp2_with fail
  refine (ChW.send_any w.heap.size _ Ch.zero _ hc Ch.zero_wf).mono ?_
  rintro e u1 ⟨rfl, F1, h1, m1⟩
  go_wp2_with fail
  refine (ChW.open_any _ F1 _ u1 h1 w1.o1).mono ?_
  rintro e u2 ⟨v2, rfl, ho2, ht2, _⟩
  obtain ⟨ob, cb, rfl, _, _⟩ := OwnL.form ho2
  rw [o1]
  have ks := ChW.send_any _ F1 _ u2 (h1.keep ht2 (by simp)) w1
  rw [x1] at ks
  generalize (Ch.send Ch.zero).y = sy at ks
  generalize (Ch.send Ch.zero).l = sl at ks
  generalize (Ch.send Ch.zero).m = sm at ks
  have hfl := hd_field
  clear o1 x1 w1 hc h1 ho2
  go_wp2_with (go_at_call 9; (with_reducible refine ks.mono ?_); rintro e u3 ⟨rfl, F2, h2, m2⟩)
  go_ret
  refine BtL.bool_ret rfl ?_
  have t1 : Turned [] w u1 := ((Turned.refl [] w).alloc _).trans m1.1 (by intro k hk hl; simp at hk; omega)
  refine (t1.trans ht2 (by simp)).trans m2.1 (fun k hk hl => ?_)
  rcases m1.2 k hk with h | h
  · simp at h; omega
  · simp at h; omega
end ChL
end Go.Proofs.Ytloobijdpchppaa

/- Two rows of the same commands are the same: the reference's Same (CmR). -/
import Derived.Test.YtodfgekhffeapaaCmdMem
namespace Go.Proofs.Ytodfgekhffeapaa
open Go.RowKit
set_option linter.unusedVariables false

theorem cm_neq (n x y : Int) (f : Bool) (v q n' x' y' : Int) (f' : Bool) (v' q' : Int) (w : World) : (binOp .neq 25 (.agg #[.int .u32 n, .int .i8 x, .int .i8 y, .bool f, .int .u32 v, .int .u8 q]) (.agg #[.int .u32 n', .int .i8 x', .int .i8 y', .bool f', .int .u32 v', .int .u8 q'])).run Try.prog w = .ok (.bool (!((n == n') && (x == x') && (y == y') && (f == f') && (v == v') && (q == q')))) w := by
  rw [run_neq_struct, run_equalIn_agg (d := 9999) (ht := by kernel_rfl) (hp := by kernel_rfl)]
  simp [go_sem]
  by_cases h0 : n = n' <;> by_cases h1 : x = x' <;> by_cases h2 : y = y' <;> by_cases h3 : f = f' <;> by_cases h4 : v = v' <;> by_cases h5 : q = q' <;> simp [h0, h1, h2, h3, h4, h5]
theorem cm_same (c : Cm.C) (w : World) : (binOp .neq 25 (.agg #[.int .u32 (c.n : Int), .int .i8 c.x, .int .i8 c.y, .bool c.f, .int .u32 (c.v : Int), .int .u8 (c.q : Int)]) (.agg #[.int .u32 (c.n : Int), .int .i8 c.x, .int .i8 c.y, .bool c.f, .int .u32 (c.v : Int), .int .u8 (c.q : Int)])).run Try.prog w = .ok (.bool false) w := by
  have := cm_neq c.n c.x c.y c.f c.v c.q c.n c.x c.y c.f c.v c.q w
  simpa using this

namespace CmR
set_option maxHeartbeats 2000000 in
theorem same_any (oa ob : Option Addr) (ca cb : Nat) (l : List Cm.C) (w : World) (ha : RowOf 6 cmEnc oa l w) (hb : RowOf 6 cmEnc ob l w) (hl : (l.length : Int) ≤ 1099511627776) :
    Calls Try.prog 23 #[.slice oa l.length ca, .slice ob l.length cb] w fun e w' => e = .returned (.bool true) ∧ Turned [] w w' := by
  obtain ⟨n, hn⟩ : ∃ n, n = l.length := ⟨_, rfl⟩
  rw [← hn] at hl ⊢
  have HN : Hid (n = l.length) := hn
  clear hn
  go_enter Try.func23, Try.ntmps23
  go_wp2_with fail
  go_loopw [5] (fun i wr => ∃ k : Nat, k ≤ n ∧ i = .int .i64 (k : Int) ∧ Turned [] w wr) (fun i _ => n - (intOf i).toNat)
  case atStart => exact ⟨0, by omega, rfl, Turned.refl _ _⟩
  case round =>
    obtain ⟨k, hk, rfl, ht⟩ := hrel
    by_cases hlt : (k : Int) < (n : Int)
    · obtain ⟨c, hc⟩ : ∃ c, l[k]? = some c := ⟨_, List.getElem?_eq_getElem (by have := HN.out; omega)⟩
      obtain ⟨g, off, rfl, hg, p0, p1, p2, p3, p4, p5⟩ := cm_at (ha.turned ht (by simp)) hc
      obtain ⟨g', off', rfl, hg', q0, q1, q2, q3, q4, q5⟩ := cm_at (hb.turned ht (by simp)) hc
      have hec := cm_same c
      go_wp2_with fail
      go_region
      go_wp2_with fail
      go_roundw
      case rel => exact ⟨k + 1, by omega, by go_num, ht.drew⟩
      case measure => simp [intOf]; omega
    · go_wp2_with fail
      go_ret
      exact ⟨rfl, ht⟩
end CmR
end Go.Proofs.Ytodfgekhffeapaa

/- What the functions of layer 8 answer, as a call: the program's (RaW) and the reference's (RaR). Nothing turns in memory. -/
import Derived.Test.YtnekpcclimcedaaRows
import Derived.Test.YtnekpcclimcedaaRandPlain
import Derived.WalkKit
import Derived.WalkSpells
import Derived.WalkSmall
import Derived.Below
namespace Go.Proofs.Ytnekpcclimcedaa
open Go.RowKit
set_option linter.unusedVariables false

namespace Ra
theorem u64_ret {a b : Int} {p : Prop} (h : a = b) (hp : p) : Ending.returned (.int .u64 a) = .returned (.int .u64 b) ∧ p := by rw [h]; exact ⟨rfl, hp⟩
theorem two_ret {a b b' : Int} {p : Prop} (h : b = b') (hp : p) : Ending.returned (.tuple #[.int .u64 a, .int .i64 b]) = .returned (.tuple #[.int .u64 a, .int .i64 b']) ∧ p := by rw [h]; exact ⟨rfl, hp⟩
theorem nxt_raw (x : Nat) : IntKind.u64.wrap ((x : Int) + 11400714819323198485) = ((nxt x : Nat) : Int) := by
  rw [IntKind.wrap_u64]; unfold nxt; omega
theorem fold_raw (x d : Nat) (h : x < 18446744073709551616) : bits .xor .u64 (x : Int) ((x : Int) / (d : Int)) = ((x ^^^ x / d : Nat) : Int) :=
  u64_xor_nat x (x / d) h (Nat.lt_of_le_of_lt (Nat.div_le_self _ _) h)
theorem a_raw (x : Nat) (h : x < 18446744073709551616) : IntKind.u64.wrap (bits .xor .u64 (x : Int) ((x : Int) / 1073741824) * 13787848793156543929) = ((mixA x : Nat) : Int) := by
  have e := fold_raw x 1073741824 h
  rw [show (((1073741824 : Nat) : Int)) = 1073741824 from rfl] at e
  rw [e, IntKind.wrap_u64]; unfold mixA
  generalize x ^^^ x / 1073741824 = y
  omega
theorem b_raw (x : Nat) (h : x < 18446744073709551616) : IntKind.u64.wrap (bits .xor .u64 (x : Int) ((x : Int) / 134217728) * 10723151780598845931) = ((mixB x : Nat) : Int) := by
  have e := fold_raw x 134217728 h
  rw [show (((134217728 : Nat) : Int)) = 134217728 from rfl] at e
  rw [e, IntKind.wrap_u64]; unfold mixB
  generalize x ^^^ x / 134217728 = y
  omega
theorem down_raw (x : Nat) (d : Int) (h : x < 18446744073709551616) (hd : 0 < d) : IntKind.u64.wrap ((x : Int) / d) = (x : Int) / d := by
  have h1 : (0 : Int) ≤ (x : Int) / d := Int.ediv_nonneg (by omega) (by omega)
  have h2 : (x : Int) / d ≤ (x : Int) := Int.ediv_le_self _ (by omega)
  rw [IntKind.wrap_u64]; omega
theorem mod_raw (x : Nat) (n : Int) (h1 : 1 ≤ n) (hm : n < 9223372036854775808) : wrap64 ((x : Int) % n) = (x : Int) % n := by
  have a := Int.emod_nonneg (x : Int) (show n ≠ 0 by omega)
  have b := Int.emod_lt_of_pos (x : Int) (show 0 < n by omega)
  unfold wrap64; omega
theorem c_raw (x : Nat) (h : x < 18446744073709551616) : bits .xor .u64 (x : Int) ((x : Int) / 2147483648) = ((mixC x : Nat) : Int) := by
  have e := fold_raw x 2147483648 h
  rw [show (((2147483648 : Nat) : Int)) = 2147483648 from rfl] at e
  exact e
end Ra

namespace RaW
set_option maxHeartbeats 400000 in
theorem number_any (x : Nat) (h : x < 18446744073709551616) (w : World) :
    Calls Try.prog 12 #[.int .u64 (x : Int)] w fun e w' => e = .returned (.int .u64 ((Ra.mixC (Ra.mixB (Ra.mixA x)) : Nat) : Int)) ∧ w' = w := by
  have ha := Ra.a_raw x h
  have hb := Ra.b_raw _ (Ra.mixA_lt x)
  have hc := Ra.c_raw _ (Ra.mixB_lt (Ra.mixA x))
  go_enter Try.func12, Try.ntmps12
  go_wp2
  go_ret
  exact ⟨rfl, rfl⟩

set_option maxHeartbeats 400000 in
theorem next_any (s : Nat) (w : World) :
    Calls Try.prog 7 #[.int .u64 (s : Int)] w fun e w' => e = .returned (.tuple #[.int .u64 ((Ra.nxt s : Nat) : Int), .int .u64 ((Ra.num s : Nat) : Int)]) ∧ w' = w := by
  have hn := Ra.nxt_raw s
  go_enter Try.func7, Try.ntmps7
  go_wp2_with (go_at_call 12; refine (number_any _ (Ra.nxt_lt s) _).mono ?_; rintro e w' ⟨rfl, rfl⟩)
  go_ret2
  exact ⟨rfl, rfl⟩

set_option maxHeartbeats 400000 in
theorem below_no (s : Nat) (n : Int) (hn : n < 1) (w : World) :
    Calls Try.prog 9 #[.int .u64 (s : Int), .int .i64 n] w fun e w' => e = .returned (.tuple #[.int .u64 (s : Int), .int .i64 0]) ∧ w' = w := by
  go_enter Try.func9, Try.ntmps9
  go_wp2
  go_ret2
  exact ⟨rfl, rfl⟩

set_option maxHeartbeats 400000 in
theorem below_any (s : Nat) (n : Int) (h1 : 1 ≤ n) (hm : n < 9223372036854775808) (w : World) :
    Calls Try.prog 9 #[.int .u64 (s : Int), .int .i64 n] w fun e w' => e = .returned (.tuple #[.int .u64 ((Ra.nxt s : Nat) : Int), .int .i64 (((Ra.num s : Nat) : Int) % n)]) ∧ w' = w.drew := by
  have hz := Ra.mod_raw (Ra.num s) n h1 hm
  go_enter Try.func9, Try.ntmps9
  go_wp2_with (go_at_call 7; refine (next_any _ _).mono ?_; rintro e w' ⟨rfl, rfl⟩)
  go_region
  go_wp2
  go_ret2
  exact Ra.two_ret hz rfl

end RaW

namespace RaR
set_option maxHeartbeats 400000 in
theorem next_any (s : Nat) (w : World) :
    Calls Try.prog 8 #[.int .u64 (s : Int)] w fun e w' => e = .returned (.tuple #[.int .u64 ((Ra.nxt s : Nat) : Int), .int .u64 ((Ra.num s : Nat) : Int)]) ∧ w' = w := by
  have hn := Ra.nxt_raw s
  have ha := Ra.a_raw _ (Ra.nxt_lt s)
  have hb := Ra.b_raw _ (Ra.mixA_lt (Ra.nxt s))
  have hc := Ra.c_raw _ (Ra.mixB_lt (Ra.mixA (Ra.nxt s)))
  have da := Ra.down_raw _ 1073741824 (Ra.nxt_lt s) (by omega)
  have db := Ra.down_raw _ 134217728 (Ra.mixA_lt (Ra.nxt s)) (by omega)
  have dc := Ra.down_raw _ 2147483648 (Ra.mixB_lt (Ra.mixA (Ra.nxt s))) (by omega)
  go_enter Try.func8, Try.ntmps8
  go_wp2
  go_ret2
  exact ⟨rfl, rfl⟩

set_option maxHeartbeats 400000 in
theorem below_no (s : Nat) (n : Int) (hn : n < 1) (w : World) :
    Calls Try.prog 10 #[.int .u64 (s : Int), .int .i64 n] w fun e w' => e = .returned (.tuple #[.int .u64 (s : Int), .int .i64 0]) ∧ w' = w := by
  go_enter Try.func10, Try.ntmps10
  go_wp2
  go_ret2
  exact ⟨rfl, rfl⟩

set_option maxHeartbeats 400000 in
theorem below_any (s : Nat) (n : Int) (h1 : 1 ≤ n) (hm : n < 9223372036854775808) (w : World) :
    Calls Try.prog 10 #[.int .u64 (s : Int), .int .i64 n] w fun e w' => e = .returned (.tuple #[.int .u64 ((Ra.nxt s : Nat) : Int), .int .i64 (((Ra.num s : Nat) : Int) % n)]) ∧ w' = w.drew := by
  have hz := Ra.mod_raw (Ra.num s) n h1 hm
  go_enter Try.func10, Try.ntmps10
  go_wp2_with (go_at_call 8; refine (next_any _ _).mono ?_; rintro e w' ⟨rfl, rfl⟩)
  go_region
  go_wp2
  go_ret2
  exact Ra.two_ret hz rfl

end RaR
end Go.Proofs.Ytnekpcclimcedaa

/- What the reference's reader of bits answers, as a call: small numbers, the whole (BtG). -/
import Derived.Test.YtloobijdpchppaaBitRg2
import Derived.Test.YtloobijdpchppaaKept
import Derived.Test.YtloobijdpchppaaBitRd2
namespace Go.Proofs.Ytloobijdpchppaa
open Go.RowKit
set_option linter.unusedVariables false

namespace BtG
open BtW (int_ret puts)
open BtD (eight lacks rest_on)
theorem u_mod {n c x : Nat} : (n % 18446744073709551616 + x * (c % 18446744073709551616) % 18446744073709551616) % 18446744073709551616 = (n + c * x) % 18446744073709551616 := by
  rw [Nat.mul_comm c x, Nat.add_mod n, Nat.mul_mod x c, Nat.mul_mod x (c % _), Nat.mod_mod]
theorem one_mod {c : Nat} : (c % 18446744073709551616 * 128) % 18446744073709551616 = (c * 128) % 18446744073709551616 := by
  rw [Nat.mul_mod (c % _), Nat.mod_mod, ← Nat.mul_mod]

end BtG
end Go.Proofs.Ytloobijdpchppaa

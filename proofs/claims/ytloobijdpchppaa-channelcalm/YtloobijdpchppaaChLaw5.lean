/- The words of the law on calm pairs. -/
import Derived.Test.YtloobijdpchppaaChLaw4
import Derived.Test.YtloobijdpchppaaChCalm
namespace Go.Proofs.Ytloobijdpchppaa
open Go.RowKit
set_option linter.unusedVariables false

namespace ChL
theorem sent_len (a : Ch.E) : (Ch.sendE a).sent.length = a.sent.length + 1 := by
  unfold Ch.sendE; rw [List.length_append, List.length_singleton]
theorem pairA_len (a b : Ch.E) : (Ch.pairA a b).sent.length = a.sent.length + 1 := sent_len a
theorem pairB_len (a b : Ch.E) : (Ch.pairB a b).sent.length = b.sent.length + 1 := sent_len (Ch.mid a b)
end ChL
end Go.Proofs.Ytloobijdpchppaa

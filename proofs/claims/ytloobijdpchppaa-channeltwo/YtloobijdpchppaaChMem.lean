/- Numbers in rows of the call's own; the reference's channel, where it lies. -/
import Derived.Test.YtloobijdpchppaaChPlain
import Derived.Test.YtloobijdpchppaaBitMem
import Derived.Test.YtloobijdpchppaaByteMem
namespace Go.Proofs.Ytloobijdpchppaa
open Go.RowKit
set_option linter.unusedVariables false

def nEnc (q : Int) : List Value := [.int .u16 q]
theorem nEnc_len {l : List Int} : ∀ a ∈ l, (nEnc a).length = 1 := fun _ _ => rfl
theorem nEnc_one {l : List Int} : ∀ a ∈ l, ∀ u ∈ nEnc a, u.oneCell' = true := by
  intro a _ u hu
  simp [nEnc] at hu
  subst hu
  rfl

theorem elem_u16 : ElemOk Try.prog 29 25 (.int .u16 0) 1 2 := ⟨by kernel_rfl, by kernel_rfl, rfl, by decide⟩

theorem elem_bool14 : ElemOk Try.prog 34 4 (.bool false) 1 1 := ⟨by kernel_rfl, by kernel_rfl, rfl, by decide⟩

/-- the numbers l, in a row of the call's own -/
def NumsAt (v : Value) (l : List Int) (w : World) : Prop := OwnL 25 1 nEnc v l w

/-- block p is the reference's channel: n were sent, the window, the flags f -/
def RChan (p : Nat) (y : Bool) (l m : Int) (f : List Bool) (v : Value) (w : World) : Prop :=
  Struct p [.int .i64 (f.length : Int), .bool y, .int .u16 l, .int .u32 m, v] w ∧ OwnL 4 1 bEnc v f w ∧ p ∉ blk v

theorem RChan.keep {p : Nat} {y : Bool} {l m : Int} {f : List Bool} {v : Value} {w w' : World} {S : List Nat} (h : RChan p y l m f v w) (ht : Turned S w w') (hd : ∀ k ∈ p :: blk v, k ∉ S) : RChan p y l m f v w' :=
  ⟨h.1.keep ht (hd p (List.mem_cons_self ..)), h.2.1.keep ht fun k hk => hd k (List.mem_cons_of_mem _ hk), h.2.2⟩
end Go.Proofs.Ytloobijdpchppaa

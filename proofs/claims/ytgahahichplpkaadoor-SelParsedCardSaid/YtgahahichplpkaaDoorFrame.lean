/-
  What the cards of this seat share: a world in which the listed variables hold what their text lays.
-/
import Derived.Test.YtgahahichplpkaaDoorCards
import Derived.Test.YtgahahichplpkaaDoorTie
import Derived.Test.YtgahahichplpkaaDoorRows
import Derived.WalkKit
import Derived.ProofKit
import Derived.OpenShut
import Derived.HandedShaped
import Derived.Deep.DeepHandedRow
import Derived.Lib.LaidTab
import Derived.Stop.LaidErr
namespace Go.Proofs.YtgahahichplpkaaDoor.Fr
open Go.ChangeShapes Go.WideShapes Go.ChangeAt Go.RowKit
theorem own : ownKnob Tryd.prog.godebug = none := by kernel_rfl
/-- The cells that a listed datum takes (nested no deeper than the first number). -/
def flat {H : Type} : Nat → DataW H → List Value
  | _, .lit (.int k z) => [.int k z]
  | _, .lit (.bool b) => [.bool b]
  | _, .lit (.string bs) => [.string ⟨bs.toArray⟩]
  | n + 1, .agg l => l.flatMap (flat n)
  | _, _ => []
def put (g : Nat) (d : DataW Unit) (h : Array Obj) : Array Obj :=
  match d with
  | .iface _ (.ptr e) => (h.push (.cells (flat 4 e).toArray 0)).modify g fun
    | .cells _ t frozen => .cells #[.iface 0 (.pointer (some ⟨h.size, 0, none⟩))] t frozen
    | o => o
  | d => h.modify g fun
    | .cells _ t frozen => .cells (flat 4 d).toArray t frozen
    | o => o
noncomputable def laidWorld (os : Os) : World :=
  let w := World.holding Tryd.prog os ⟨#[], #[], []⟩
  { w with heap := (put 1 Rows.laid_unicode_utf8_first (put 2 Rows.laid_unicode_utf8_acceptRanges w.heap)) }
end Go.Proofs.YtgahahichplpkaaDoor.Fr

/-
  What the cards of this seat share: a world in which the listed variables hold what their text lays.
-/
import Derived.Test.YtkoeggjfdcpokaaGreatDoorCards
import Derived.Test.YtkoeggjfdcpokaaGreatDoorTie
import Derived.Test.YtkoeggjfdcpokaaGreatDoorRows
import Derived.WalkKit
import Derived.ProofKit
import Derived.OpenShut
import Derived.HandedShaped
import Derived.Deep.DeepHandedRow
import Derived.Lib.LaidTab
import Derived.Stop.LaidErr
namespace Go.Proofs.YtkoeggjfdcpokaaGreatDoor.Fr
open Go.ChangeShapes Go.WideShapes Go.ChangeAt Go.RowKit
theorem own : ownKnob Tryz.prog.godebug = none := by kernel_rfl
/-- The cells that a listed datum takes (nested no deeper than the first number). -/
def flat {H : Type} : Nat → DataW H → List Value
  | _, .lit (.int k z) => [.int k z]
  | _, .lit (.bool b) => [.bool b]
  | _, .lit (.string bs) => [.string ⟨bs.toArray⟩]
  | n + 1, .agg l => l.flatMap (flat n)
  | _, _ => []
def put (g : Nat) (d : DataW Unit) (h : Array Obj) : Array Obj :=
  match d with
  | .iface _ (.ptr e) => (h.push (.cells (flat 4 e).toArray 0)).modify g fun
    | .cells _ t frozen => .cells #[.iface 0 (.pointer (some ⟨h.size, 0, none⟩))] t frozen
    | o => o
  | d => h.modify g fun
    | .cells _ t frozen => .cells (flat 4 d).toArray t frozen
    | o => o
noncomputable def laidWorld (os : Os) : World :=
  let w := World.holding Tryz.prog os ⟨#[], #[], []⟩
  { w with heap := (put 3 Rows.laid_unicode_utf8_first (put 0 Rows.laid_watchtower_cond_opposites (put 1 Rows.laid_watchtower_cond_signs (put 4 Rows.laid_unicode_utf8_acceptRanges (put 5 Rows.laid_internal_strconv_uint64pow10 (put 7 Rows.laid_math_bits_deBruijn64tab (put 6 Rows.laid_math_bits_deBruijn32tab w.heap))))))) }
end Go.Proofs.YtkoeggjfdcpokaaGreatDoor.Fr

/-
  What the cards of this seat share: a world in which the listed variables hold what their text lays, and what that gives to the walks.
-/
import Derived.Test.YtjndehdihjlcaaaDoorCards
import Derived.Test.YtjndehdihjlcaaaDoorTie
import Derived.Test.YtjndehdihjlcaaaDoorNumBase
import Derived.WalkKit
import Derived.ProofKit
import Derived.OpenShut
import Derived.HandedShaped
import Derived.Deep.DeepHandedRow
import Derived.Lib.LaidTab
import Derived.Stop.LaidErr
namespace Go.Proofs.YtjndehdihjlcaaaDoor.Fr
open Go.ChangeShapes Go.WideShapes Go.ChangeAt Go.RowKit
theorem own : ownKnob Tryd.prog.godebug = none := by kernel_rfl
/-- The cells that a listed datum takes (nested no deeper than the first number). -/
def flat {H : Type} : Nat → DataW H → List Value
  | _, .lit (.int k z) => [.int k z]
  | _, .lit (.bool b) => [.bool b]
  | _, .lit (.string bs) => [.string ⟨bs.toArray⟩]
  | n + 1, .agg l => l.flatMap (flat n)
  | _, _ => []
def put (g : Nat) (d : DataW Unit) (h : Array Obj) : Array Obj := h.modify g fun
  | .cells _ t frozen => .cells (flat 4 d).toArray t frozen
  | o => o
noncomputable def laidWorld (os : Os) : World :=
  let w := World.holding Tryd.prog os ⟨#[], #[], []⟩
  { w with heap := (put 2 Rows.laid_unicode_utf8_first (put 3 Rows.laid_unicode_utf8_acceptRanges (put 1 Rows.laid_internal_strconv_uint64pow10 (put 5 Rows.laid_math_bits_deBruijn64tab (put 4 Rows.laid_math_bits_deBruijn32tab w.heap))))) }
theorem gTab : Tryd.prog.globalNamed "internal/strconv.uint64pow10" = some 1 := by kernel_rfl
theorem gTabType : (Tryd.prog.globals[1]?).map (·.type) = some 68 := by kernel_rfl
theorem cellsA : Tryd.prog.cellsOf 68 = 20 := by kernel_rfl
theorem cellsE : Tryd.prog.cellsOf 61 = 1 := by kernel_rfl
theorem ok_of {W : World} (h : laidMet Tryd.prog Rows.numIsRow.laid W) (hsh : W.ShapedOpen Tryd.prog) : Ok W :=
  ⟨Lib.tabIs_of_head gTab gTabType Tryd.underlying68 Tryd.underlying61 cellsE cellsA h.tail.tail,
   cell_of_shapedOpen_int (zero := #[.int .i64 0]) (t := 3) hsh (of_decide_eq_true (by kernel_rfl)) (by kernel_rfl) rfl (by kernel_rfl) (by kernel_rfl) Tryd.underlying3⟩
end Go.Proofs.YtjndehdihjlcaaaDoor.Fr

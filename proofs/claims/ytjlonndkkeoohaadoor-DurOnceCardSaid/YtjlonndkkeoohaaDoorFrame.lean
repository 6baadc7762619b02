/-
  What the cards of this seat share: a world in which the listed variables hold what their text lays, and what that gives to the walks.
-/
import Derived.Test.YtjlonndkkeoohaaDoorCards
import Derived.Test.YtjlonndkkeoohaaDoorTie
import Derived.Test.YtjlonndkkeoohaaDoorDurOk
import Derived.WalkKit
import Derived.ProofKit
import Derived.OpenShut
import Derived.HandedShaped
import Derived.Deep.DeepHandedRow
import Derived.Lib.LaidTab
import Derived.Stop.LaidErr
namespace Go.Proofs.YtjlonndkkeoohaaDoor.Fr
open Go.ChangeShapes Go.WideShapes Go.ChangeAt Go.RowKit
theorem own : ownKnob Tryd.prog.godebug = none := by kernel_rfl
/-- The cells that a listed datum takes (nested no deeper than the first number). -/
def flat {H : Type} : Nat → DataW H → List Value
  | _, .lit (.int k z) => [.int k z]
  | _, .lit (.bool b) => [.bool b]
  | _, .lit (.string bs) => [.string ⟨bs.toArray⟩]
  | n + 1, .agg l => l.flatMap (flat n)
  | _, _ => []
def put (g : Nat) (d : DataW Unit) (h : Array Obj) : Array Obj :=
  match d with
  | .iface _ (.ptr e) => (h.push (.cells (flat 4 e).toArray 97)).modify g fun
    | .cells _ t frozen => .cells #[.iface 95 (.pointer (some ⟨h.size, 0, none⟩))] t frozen
    | o => o
  | d => h.modify g fun
    | .cells _ t frozen => .cells (flat 4 d).toArray t frozen
    | o => o
noncomputable def laidWorld (os : Os) : World :=
  let w := World.holding Tryd.prog os ⟨#[], #[], []⟩
  { w with heap := (put 5 Rows.laid_unicode_utf8_first (put 0 Rows.laid_watchtower_dur_units (put 2 Rows.laid_strconv_ErrSyntax (put 3 Rows.laid_strconv_ErrRange (put 6 Rows.laid_unicode_utf8_acceptRanges (put 4 Rows.laid_internal_strconv_uint64pow10 (put 8 Rows.laid_math_bits_deBruijn64tab (put 7 Rows.laid_math_bits_deBruijn32tab w.heap)))))))) }
theorem ok {W : World} (h : laidMet Tryd.prog Rows.durIsRow.laid W) : Ok W :=
  ok_of h (List.mem_of_getElem? (i := 2) rfl) (List.mem_of_getElem? (i := 6) rfl) (List.mem_of_getElem? (i := 4) rfl)
end Go.Proofs.YtjlonndkkeoohaaDoor.Fr

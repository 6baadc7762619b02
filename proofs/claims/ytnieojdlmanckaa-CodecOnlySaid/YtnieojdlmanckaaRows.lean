/-
  No cell of these rows narrows 'for every input' (looked for: loops, veiled, ifaces, maps, wideKeys, modest, calm, conditions, laid).
  DERIVED. THE GIVEN ROWS OF THIS SEAT. 5 by the template 'for every input the law returns true; each argument reads behind the call as it read before'; 0 by the template 'total and deterministic' (their statements: YtnieojdlmanckaaTotals.lean).
  GIVEN WITH THE SEED: the statements are not yours to turn. If you find one false, say at which input.
  Laid BY PROGRAM, IN A SANDBOX (cutbox-rows.mjs): the forced cells as the released guide's own fill.sh prints them over the translation b23b2ddf9adaad6c… (all of the seat's roots in one cut). By AI agents, Wed Nov 11 2026. No macro, syntax, notation, axiom, sorry.
-/
import Derived.Test.YtnieojdlmanckaaChecked
import GoSem.Claim
import GoSem.ClaimJoined
import GoSem.ClaimMapViews
import Derived.JoinedTies
import Derived.KernelRfl
namespace Go.Proofs.Ytnieojdlmanckaa
/- THE CELL 'sum', in the pinned program and in every row, IS THE sha256 OF THE DUMP (.gsa) THAT YtnieojdlmanckaaProg.lean LOADS. Nothing in Lean hashes anything: it is a label: what it is worth is what the hold of that sum in a sandbox is worth. -/
noncomputable def Try.pinned : Pinned := { name := "ytnieojdlmanckaa", sum := "b23b2ddf9adaad6cb3b065eea60065a85f06bdf44882868aa40d6a78727fa8ff", checked := Try.checked }
namespace Rows
def none {H : Type} : Left H := { results := [], args := [] }

/-- 'watchtowerlaw05.CodecBack': WHATEVER THE INPUT: true; the input reads as it did. -/
def codecBackSpec : ChangeSpec := { name := "codecBack", fn := fun _ => fun
  | [d1, d2, d3, d4, d5] => { results := [.lit (.bool true)], args := [d1, d2, d3, d4, d5] }
  | _ => none }
def codecBackRow : OpenClaim := { program := "ytnieojdlmanckaa", sum := "b23b2ddf9adaad6cb3b065eea60065a85f06bdf44882868aa40d6a78727fa8ff", func := "watchtower/watchtowerlaw05.CodecBack", spec := "codecBack", unfollowed := true, recurses := true, apart := false }
def CodecBackSaid : Prop := codecBackRow.holds Try.pinned (OpenSpec.ofChange codecBackSpec)

/-- ITS FALSE NEIGHBOUR: 'it returns false'. Refute it at one input. -/
def codecBackWrong : ChangeSpec := { name := "codecBack", fn := fun _ => fun
  | [d1, d2, d3, d4, d5] => { results := [.lit (.bool false)], args := [d1, d2, d3, d4, d5] }
  | _ => none }
def CodecBackWrongFalsely : Prop := codecBackRow.holds Try.pinned (OpenSpec.ofChange codecBackWrong)

/-- 'watchtowerlaw05.CodecOnly': WHATEVER THE INPUT: true; the input reads as it did. -/
def codecOnlySpec : ChangeSpec := { name := "codecOnly", fn := fun _ => fun
  | [d] => { results := [.lit (.bool true)], args := [d] }
  | _ => none }
def codecOnlyRow : OpenClaim := { program := "ytnieojdlmanckaa", sum := "b23b2ddf9adaad6cb3b065eea60065a85f06bdf44882868aa40d6a78727fa8ff", func := "watchtower/watchtowerlaw05.CodecOnly", spec := "codecOnly", unfollowed := true, recurses := true, apart := false }
def CodecOnlySaid : Prop := codecOnlyRow.holds Try.pinned (OpenSpec.ofChange codecOnlySpec)

/-- ITS FALSE NEIGHBOUR: 'it returns false'. Refute it at one input. -/
def codecOnlyWrong : ChangeSpec := { name := "codecOnly", fn := fun _ => fun
  | [d] => { results := [.lit (.bool false)], args := [d] }
  | _ => none }
def CodecOnlyWrongFalsely : Prop := codecOnlyRow.holds Try.pinned (OpenSpec.ofChange codecOnlyWrong)

/-- 'watchtowerlaw05.CodecShort': WHATEVER THE INPUT: true; the input reads as it did. -/
def codecShortSpec : ChangeSpec := { name := "codecShort", fn := fun _ => fun
  | [d1, d2, d3, d4] => { results := [.lit (.bool true)], args := [d1, d2, d3, d4] }
  | _ => none }
def codecShortRow : OpenClaim := { program := "ytnieojdlmanckaa", sum := "b23b2ddf9adaad6cb3b065eea60065a85f06bdf44882868aa40d6a78727fa8ff", func := "watchtower/watchtowerlaw05.CodecShort", spec := "codecShort", unfollowed := true, recurses := true, apart := false }
def CodecShortSaid : Prop := codecShortRow.holds Try.pinned (OpenSpec.ofChange codecShortSpec)

/-- ITS FALSE NEIGHBOUR: 'it returns false'. Refute it at one input. -/
def codecShortWrong : ChangeSpec := { name := "codecShort", fn := fun _ => fun
  | [d1, d2, d3, d4] => { results := [.lit (.bool false)], args := [d1, d2, d3, d4] }
  | _ => none }
def CodecShortWrongFalsely : Prop := codecShortRow.holds Try.pinned (OpenSpec.ofChange codecShortWrong)

/-- 'watchtowerlaw05.CodecSize': WHATEVER THE INPUT: true; the input reads as it did. -/
def codecSizeSpec : ChangeSpec := { name := "codecSize", fn := fun _ => fun
  | [d1, d2] => { results := [.lit (.bool true)], args := [d1, d2] }
  | _ => none }
def codecSizeRow : OpenClaim := { program := "ytnieojdlmanckaa", sum := "b23b2ddf9adaad6cb3b065eea60065a85f06bdf44882868aa40d6a78727fa8ff", func := "watchtower/watchtowerlaw05.CodecSize", spec := "codecSize", unfollowed := true, recurses := true, apart := false }
def CodecSizeSaid : Prop := codecSizeRow.holds Try.pinned (OpenSpec.ofChange codecSizeSpec)

/-- ITS FALSE NEIGHBOUR: 'it returns false'. Refute it at one input. -/
def codecSizeWrong : ChangeSpec := { name := "codecSize", fn := fun _ => fun
  | [d1, d2] => { results := [.lit (.bool false)], args := [d1, d2] }
  | _ => none }
def CodecSizeWrongFalsely : Prop := codecSizeRow.holds Try.pinned (OpenSpec.ofChange codecSizeWrong)

/-- 'watchtowerlaw05.CodecMany': WHATEVER THE INPUT: true; the input reads as it did. -/
def codecManySpec : ChangeSpec := { name := "codecMany", fn := fun _ => fun
  | [d] => { results := [.lit (.bool true)], args := [d] }
  | _ => none }
def codecManyRow : OpenClaim := { program := "ytnieojdlmanckaa", sum := "b23b2ddf9adaad6cb3b065eea60065a85f06bdf44882868aa40d6a78727fa8ff", func := "watchtower/watchtowerlaw05.CodecMany", spec := "codecMany", unfollowed := true, recurses := true, apart := false }
def CodecManySaid : Prop := codecManyRow.holds Try.pinned (OpenSpec.ofChange codecManySpec)

/-- ITS FALSE NEIGHBOUR: 'it returns false'. Refute it at one input. -/
def codecManyWrong : ChangeSpec := { name := "codecMany", fn := fun _ => fun
  | [d] => { results := [.lit (.bool false)], args := [d] }
  | _ => none }
def CodecManyWrongFalsely : Prop := codecManyRow.holds Try.pinned (OpenSpec.ofChange codecManyWrong)

/- THE SECOND FORM. 'bulk': how many values and letters a reading holds, each counted each time it is reached (what is shared counts as often as it is met; a slice's spare places count too). A statement '..UptoSaid' is the law's where the arguments, and the package variables that the reading takes, are together of bulk at most 1048576: NARROWER than '..Said'. Prove '..Said' where nothing that the law and all that it calls make is longer than what came in: it says more and counts as full. Else prove '..UptoSaid'. A law counts once. -/
mutual
def uptoBulk {H : Type} : DataW H → Nat
  | .lit (.string bytes) => bytes.length + 1
  | .lit _ => 1
  | .nil => 1
  | .ptr d => uptoBulk d + 1
  | .slice elems spare => uptoBulkAll elems + uptoBulkAll spare + 1
  | .agg parts => uptoBulkAll parts + 1
  | .iface _ d => uptoBulk d + 1
  | .map entries => uptoBulkEntries entries + 1
  | .held _ => 1
def uptoBulkAll {H : Type} : List (DataW H) → Nat
  | [] => 0
  | d :: r => uptoBulk d + uptoBulkAll r
def uptoBulkEntries {H : Type} : List (Lit × DataW H) → Nat
  | [] => 0
  | x :: r => uptoBulkEntry x + uptoBulkEntries r
def uptoBulkEntry {H : Type} : Lit × DataW H → Nat
  | (.string bytes, d) => bytes.length + uptoBulk d + 1
  | (_, d) => uptoBulk d + 1
 end
def uptoSmall : (H : Type) → List (DataW H) → Bool := fun _ ds => decide (uptoBulkAll ds ≤ 1048576)
def OpenSpec.upto (s : _root_.Go.ChangeSpec) : _root_.Go.OpenSpec := { _root_.Go.OpenSpec.ofChange s with cond := some uptoSmall }

/-- 'watchtowerlaw05.CodecBack', WHERE WHAT IT READS IS OF BULK AT MOST 1048576: true; the input reads as it did. -/
def codecBackUptoRow : OpenClaim := { program := "ytnieojdlmanckaa", sum := "b23b2ddf9adaad6cb3b065eea60065a85f06bdf44882868aa40d6a78727fa8ff", func := "watchtower/watchtowerlaw05.CodecBack", spec := "codecBack", unfollowed := true, recurses := true, apart := false, narrowed := true }
def CodecBackUptoSaid : Prop := codecBackUptoRow.holds Try.pinned (OpenSpec.upto codecBackSpec)

/-- 'watchtowerlaw05.CodecOnly', WHERE WHAT IT READS IS OF BULK AT MOST 1048576: true; the input reads as it did. -/
def codecOnlyUptoRow : OpenClaim := { program := "ytnieojdlmanckaa", sum := "b23b2ddf9adaad6cb3b065eea60065a85f06bdf44882868aa40d6a78727fa8ff", func := "watchtower/watchtowerlaw05.CodecOnly", spec := "codecOnly", unfollowed := true, recurses := true, apart := false, narrowed := true }
def CodecOnlyUptoSaid : Prop := codecOnlyUptoRow.holds Try.pinned (OpenSpec.upto codecOnlySpec)

/-- 'watchtowerlaw05.CodecShort', WHERE WHAT IT READS IS OF BULK AT MOST 1048576: true; the input reads as it did. -/
def codecShortUptoRow : OpenClaim := { program := "ytnieojdlmanckaa", sum := "b23b2ddf9adaad6cb3b065eea60065a85f06bdf44882868aa40d6a78727fa8ff", func := "watchtower/watchtowerlaw05.CodecShort", spec := "codecShort", unfollowed := true, recurses := true, apart := false, narrowed := true }
def CodecShortUptoSaid : Prop := codecShortUptoRow.holds Try.pinned (OpenSpec.upto codecShortSpec)

/-- 'watchtowerlaw05.CodecSize', WHERE WHAT IT READS IS OF BULK AT MOST 1048576: true; the input reads as it did. -/
def codecSizeUptoRow : OpenClaim := { program := "ytnieojdlmanckaa", sum := "b23b2ddf9adaad6cb3b065eea60065a85f06bdf44882868aa40d6a78727fa8ff", func := "watchtower/watchtowerlaw05.CodecSize", spec := "codecSize", unfollowed := true, recurses := true, apart := false, narrowed := true }
def CodecSizeUptoSaid : Prop := codecSizeUptoRow.holds Try.pinned (OpenSpec.upto codecSizeSpec)

/-- 'watchtowerlaw05.CodecMany', WHERE WHAT IT READS IS OF BULK AT MOST 1048576: true; the input reads as it did. -/
def codecManyUptoRow : OpenClaim := { program := "ytnieojdlmanckaa", sum := "b23b2ddf9adaad6cb3b065eea60065a85f06bdf44882868aa40d6a78727fa8ff", func := "watchtower/watchtowerlaw05.CodecMany", spec := "codecMany", unfollowed := true, recurses := true, apart := false, narrowed := true }
def CodecManyUptoSaid : Prop := codecManyUptoRow.holds Try.pinned (OpenSpec.upto codecManySpec)

end Rows
end Go.Proofs.Ytnieojdlmanckaa

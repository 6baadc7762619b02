/-
  What the proofs of this seat's statements share.
-/
import Derived.Test.YtkoeggjfdcpokaaGreatDoorMemA
import Derived.Test.YtkoeggjfdcpokaaGreatDoorRows
import Derived.ProofKit
import Derived.OpenShut
namespace Go.Proofs.YtkoeggjfdcpokaaGreatDoor
theorem own : ownKnob Tryz.prog.godebug = none := by kernel_rfl
theorem laidOut : laidOutB Tryz.prog = true := by kernel_rfl
end Go.Proofs.YtkoeggjfdcpokaaGreatDoor

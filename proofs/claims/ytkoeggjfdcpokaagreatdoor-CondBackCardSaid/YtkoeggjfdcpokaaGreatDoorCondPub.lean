/-
  The contracts of layer cond's calls, proved of what landed.
-/
import Derived.Test.YtkoeggjfdcpokaaGreatDoorCondSa
import Derived.Test.YtkoeggjfdcpokaaGreatDoorCondPr
import Derived.Test.YtkoeggjfdcpokaaGreatDoorLexA
namespace Go.Proofs.YtkoeggjfdcpokaaGreatDoor
theorem condC : CondC Okc := ⟨fun _ _ h hb => h.on hb, saneX_of, holds_of, other_of, printX_of, parseX_of, allz_of all_of⟩
end Go.Proofs.YtkoeggjfdcpokaaGreatDoor

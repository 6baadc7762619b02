/-
  The walk of law SelApart in the form that the frame asks for, over the calls' contracts as proved of what landed (selC).
-/
import Derived.Test.YtgahahichplpkaaDoorSelAll
import Derived.Test.YtgahahichplpkaaDoorSelApart
namespace Go.Proofs.YtgahahichplpkaaDoor
open Go.RowKit Go.Proofs.YtgahahichplpkaaDoor.Lp
open Go.Proofs.YtgahahichplpkaaDoor.Sl (Mt Sel Tf)

theorem selApart_law (N : ByteArray) (A : Option Addr) (c n : Nat) (l : List Mt) (M : ByteArray) (B : Option Addr) (d k : Nat) (m : List Mt) (w : World) (hNs : N.size ≤ 9223372036854775807) (hn : n = l.length) (hr : Rq w w.heap.size A l) (hnc : n ≤ c ∧ c ≤ 9223372036854775807) (hMs : M.size ≤ 9223372036854775807) (hk : k = m.length) (hs : Rq w w.heap.size B m) (hkd : k ≤ d ∧ d ≤ 9223372036854775807) :
    Calls Tryd.prog 7 #[sv N A n c, sv M B k d] w fun e w' => e = .returned (.bool true) ∧ Below w.heap.size w w' :=
  selApart_any selC N M A B c d n k l m w hNs hMs hn hr hnc hk hs hkd
end Go.Proofs.YtgahahichplpkaaDoor

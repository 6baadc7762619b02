/-
  The walk of law SelFits in the form that the frame asks for, over the calls' contracts as proved of what landed (selC).
-/
import Derived.Test.YtgahahichplpkaaDoorSelAll
import Derived.Test.YtgahahichplpkaaDoorSelFits
namespace Go.Proofs.YtgahahichplpkaaDoor
open Go.RowKit Go.Proofs.YtgahahichplpkaaDoor.Lp
open Go.Proofs.YtgahahichplpkaaDoor.Sl (Mt Sel Tf)

theorem selFits_law (N : ByteArray) (A : Option Addr) (c n : Nat) (l : List Mt) (B : Option Addr) (d q : Nat) (ps : List Pr) (a0 v0 : ByteArray) (t0 : Bool) (w : World) (hNs : N.size ≤ 2000000) (hn : n = l.length) (hr : Rq w w.heap.size A l) (hnc : n ≤ c ∧ c ≤ 9223372036854775807)
    (hq : q = ps.length) (ht : Rd w w.heap.size B ps) (hqd : q ≤ d ∧ d ≤ 9223372036854775807) (ha0 : a0.size ≤ 2000000) (hv0 : v0.size ≤ 2000000) :
    Calls Tryd.prog 6 #[sv N A n c, .slice B q d, .agg #[.string a0, .string v0, .bool t0]] w fun e w' => e = .returned (.bool true) ∧ Below w.heap.size w w' :=
  selFits_any selC N A c n l B d q ps a0 v0 t0 w hNs hn hr hnc hq ht hqd ha0 hv0
end Go.Proofs.YtgahahichplpkaaDoor

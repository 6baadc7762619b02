/-
  The walk of law SelBack in the form that the frame asks for, over the calls' contracts as proved of what landed (selC).
-/
import Derived.Test.YtgahahichplpkaaDoorSelAll
import Derived.Test.YtgahahichplpkaaDoorSelBack
namespace Go.Proofs.YtgahahichplpkaaDoor
open Go.RowKit Go.Proofs.YtgahahichplpkaaDoor.Lp
open Go.Proofs.YtgahahichplpkaaDoor.Sl (Mt Sel Tf)

theorem selBack_law (N : ByteArray) (A : Option Addr) (c n : Nat) (l : List Mt) (B : Option Addr) (d q : Nat) (ts : List Tz) (k0 a0 : Int) (s0 : ByteArray) (w : World) (hNs : N.size ≤ 9223372036854775807) (hn : n = l.length) (hr : Rq w w.heap.size A l) (hnc : n ≤ c ∧ c ≤ 9223372036854775807)
    (hq : q = ts.length) (ht : Rz w w.heap.size B ts) (hqd : q ≤ d ∧ d ≤ 9223372036854775807) (hs0 : s0.size ≤ 9223372036854775807) :
    Calls Tryd.prog 4 #[sv N A n c, .slice B q d, .agg #[.int .i64 k0, .int .i64 a0, .string s0]] w fun e w' => e = .returned (.bool true) ∧ Below w.heap.size w w' :=
  selBack_any selC N A c n l B d q ts k0 a0 s0 w hNs hn hr hnc hq ht hqd hs0
end Go.Proofs.YtgahahichplpkaaDoor

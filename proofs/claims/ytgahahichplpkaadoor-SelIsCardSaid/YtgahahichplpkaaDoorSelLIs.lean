/-
  The walk of law SelIs in the form that the frame asks for, over the calls' contracts as proved of what landed (selC).
-/
import Derived.Test.YtgahahichplpkaaDoorSelAll
import Derived.Test.YtgahahichplpkaaDoorSelIs
namespace Go.Proofs.YtgahahichplpkaaDoor
open Go.RowKit Go.Proofs.YtgahahichplpkaaDoor.Lp
open Go.Proofs.YtgahahichplpkaaDoor.Sl (Mt Sel Tf)

theorem wf_bounds {i : Int} (h : (Lit.int .i64 i).wf = true) : -9223372036854775808 ≤ i ∧ i ≤ 9223372036854775807 := by
  have h' : IntKind.i64.min ≤ i ∧ i ≤ 9223372036854775807 := by simpa [Lit.wf] using h
  exact h'
theorem selIs_law (N : ByteArray) (A : Option Addr) (c n : Nat) (l : List Mt) (B : Option Addr) (d q : Nat) (ts : List Tz) (i : Int) (C : Option Addr) (g r : Nat) (ps : List Pr) (w : World) (hNs : N.size ≤ 9223372036854775807) (hn : n = l.length) (hr : Rq w w.heap.size A l) (hnc : n ≤ c ∧ c ≤ 9223372036854775807)
    (hq : q = ts.length) (ht : Rz w w.heap.size B ts) (hqd : q ≤ d ∧ d ≤ 9223372036854775807) (hi : (Lit.int .i64 i).wf = true) (hg : r = ps.length) (hs : Rd w w.heap.size C ps) (hrg : r ≤ g ∧ g ≤ 9223372036854775807) :
    Calls Tryd.prog 3 #[sv N A n c, .slice B q d, .int .i64 i, .slice C r g] w fun e w' => e = .returned (.bool true) ∧ Below w.heap.size w w' := by
  have h := wf_bounds hi
  exact selIs_any selC N A c n l B d q ts i C g r ps w hNs hn hr hnc hq ht hqd h.1 h.2 hg hs hrg
end Go.Proofs.YtgahahichplpkaaDoor

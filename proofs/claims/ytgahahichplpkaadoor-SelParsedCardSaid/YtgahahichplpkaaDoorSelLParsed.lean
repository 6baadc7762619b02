/-
  The walk of law SelParsed in the form that the frame asks for, over the calls' contracts as proved of what landed (selC).
-/
import Derived.Test.YtgahahichplpkaaDoorSelAll
import Derived.Test.YtgahahichplpkaaDoorSelParsed
namespace Go.Proofs.YtgahahichplpkaaDoor
open Go.RowKit Go.Proofs.YtgahahichplpkaaDoor.Lp
open Go.Proofs.YtgahahichplpkaaDoor.Sl (Mt Sel Tf)

theorem wf_bounds {i : Int} (h : (Lit.int .i64 i).wf = true) : -9223372036854775808 ≤ i ∧ i ≤ 9223372036854775807 := by
  have h' : IntKind.i64.min ≤ i ∧ i ≤ 9223372036854775807 := by simpa [Lit.wf] using h
  exact h'
theorem selParsed_law (B : Option Addr) (d q : Nat) (ts : List Tz) (i : Int) (w : World) (hq : q = ts.length) (hr : Rz w w.heap.size B ts) (hqd : q ≤ d ∧ d ≤ 9223372036854775807) (hi : (Lit.int .i64 i).wf = true) :
    Calls Tryd.prog 5 #[.slice B q d, .int .i64 i] w fun e w' => e = .returned (.bool true) ∧ Below w.heap.size w w' := by
  have h := wf_bounds hi
  exact selParsed_any selC B d q ts i w h.1 h.2 hq hr hqd
end Go.Proofs.YtgahahichplpkaaDoor

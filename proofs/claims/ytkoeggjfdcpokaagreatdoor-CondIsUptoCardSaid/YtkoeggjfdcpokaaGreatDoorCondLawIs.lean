/-
  The walk of CondIs in the form that the frame asks for, over the calls' contracts as proved of what landed (CondPub: condC).
-/
import Derived.Test.YtkoeggjfdcpokaaGreatDoorCondPub
import Derived.Test.YtkoeggjfdcpokaaGreatDoorCondIs
namespace Go.Proofs.YtkoeggjfdcpokaaGreatDoor
open Go.RowKit Go.Proofs.YtkoeggjfdcpokaaGreatDoor.Lp
open Go.Proofs.YtkoeggjfdcpokaaGreatDoor.Sl (Mt Sel Tf)

theorem wf_bounds {i : Int} (h : (Lit.int .i64 i).wf = true) : -9223372036854775808 ≤ i ∧ i ≤ 9223372036854775807 := by
  have h' : IntKind.i64.min ≤ i ∧ i ≤ 9223372036854775807 := by simpa [Lit.wf] using h
  exact h'
theorem condIs_law (N : ByteArray) (A : Option Addr) (c n : Nat) (l : List Mt) (o v : Int) (B : Option Addr) (d q : Nat) (ts : List Tz) (i a b : Int) (w : World) (hok : Okc w) (hNs : N.size ≤ 9223372036854775807) (hn : n = l.length) (hr : Rq w w.heap.size A l) (hnc : n ≤ c ∧ c ≤ 9223372036854775807)
    (_ : (Lit.int .i64 o).wf = true) (_ : (Lit.int .i64 v).wf = true) (hq : q = ts.length) (ht : Rz w w.heap.size B ts) (hqd : q ≤ d ∧ d ≤ 9223372036854775807) (hts : ∀ t ∈ ts, t.2.2.size ≤ 1048576) (hi : (Lit.int .i64 i).wf = true) (_ : (Lit.int .i64 a).wf = true) (_ : (Lit.int .i64 b).wf = true) :
    Calls Tryz.prog 3 #[xv N A n c o v, .slice B q d, .int .i64 i, .int .i64 a, .int .i64 b] w fun e w' => e = .returned (.bool true) ∧ Below w.heap.size w w' := by
  have h := wf_bounds hi
  exact condIs_any condC N A c n l o v B d q ts i a b w hok hNs hn hr hnc hq ht hqd hts h.1 h.2
end Go.Proofs.YtkoeggjfdcpokaaGreatDoor

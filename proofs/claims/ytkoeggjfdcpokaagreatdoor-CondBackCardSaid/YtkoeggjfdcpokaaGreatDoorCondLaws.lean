/-
  The walks of four of layer cond's laws in the form that the frame asks for, over the calls' contracts as proved of what landed (CondPub: condC). (CondIs lies at a seat of its own: CondLawIs.)
-/
import Derived.Test.YtkoeggjfdcpokaaGreatDoorCondPub
import Derived.Test.YtkoeggjfdcpokaaGreatDoorCondNot
import Derived.Test.YtkoeggjfdcpokaaGreatDoorCondOrder
import Derived.Test.YtkoeggjfdcpokaaGreatDoorCondBack
import Derived.Test.YtkoeggjfdcpokaaGreatDoorCondParsed
namespace Go.Proofs.YtkoeggjfdcpokaaGreatDoor
open Go.RowKit Go.Proofs.YtkoeggjfdcpokaaGreatDoor.Lp
open Go.Proofs.YtkoeggjfdcpokaaGreatDoor.Sl (Mt Sel Tf)

theorem wf_bounds {i : Int} (h : (Lit.int .i64 i).wf = true) : -9223372036854775808 ≤ i ∧ i ≤ 9223372036854775807 := by
  have h' : IntKind.i64.min ≤ i ∧ i ≤ 9223372036854775807 := by simpa [Lit.wf] using h
  exact h'
theorem condNot_law (k v t : Int) (w : World) (hok : Okc w) (_ : (Lit.int .i64 k).wf = true) (_ : (Lit.int .i64 v).wf = true) (_ : (Lit.int .i64 t).wf = true) :
    Calls Tryz.prog 4 #[.int .i64 k, .int .i64 v, .int .i64 t] w fun e w' => e = .returned (.bool true) ∧ Below w.heap.size w w' :=
  condNot_any condC k v t w hok
theorem condOrder_law (v u t : Int) (w : World) (hok : Okc w) (_ : (Lit.int .i64 v).wf = true) (_ : (Lit.int .i64 u).wf = true) (_ : (Lit.int .i64 t).wf = true) :
    Calls Tryz.prog 7 #[.int .i64 v, .int .i64 u, .int .i64 t] w fun e w' => e = .returned (.bool true) ∧ Below w.heap.size w w' :=
  condOrder_any condC v u t w hok
theorem condBack_law (N : ByteArray) (A : Option Addr) (c n : Nat) (l : List Mt) (k v dp : Int) (w : World) (hok : Okc w) (hNs : N.size ≤ 9223372036854775807) (hn : n = l.length) (hr : Rq w w.heap.size A l) (hnc : n ≤ c ∧ c ≤ 9223372036854775807)
    (_ : (Lit.int .i64 k).wf = true) (_ : (Lit.int .i64 v).wf = true) (_ : (Lit.int .i64 dp).wf = true) :
    Calls Tryz.prog 5 #[xv N A n c k v, .int .i64 dp] w fun e w' => e = .returned (.bool true) ∧ Below w.heap.size w w' :=
  condBack_any condC N A c n l k v dp w hok hNs hn hr hnc
theorem condParsed_law (B : Option Addr) (d q : Nat) (ts : List Tz) (i : Int) (w : World) (hok : Okc w) (hq : q = ts.length) (hr : Rz w w.heap.size B ts) (hqd : q ≤ d ∧ d ≤ 9223372036854775807) (hts : ∀ t ∈ ts, t.2.2.size ≤ 1048576) (hi : (Lit.int .i64 i).wf = true) :
    Calls Tryz.prog 6 #[.slice B q d, .int .i64 i] w fun e w' => e = .returned (.bool true) ∧ Below w.heap.size w w' := by
  have h := wf_bounds hi
  exact condParsed_any condC B d q ts i w hok h.1 h.2 hq hr hqd hts
end Go.Proofs.YtkoeggjfdcpokaaGreatDoor

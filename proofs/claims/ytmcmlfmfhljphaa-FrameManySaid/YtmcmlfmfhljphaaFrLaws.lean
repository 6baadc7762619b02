/-
  The walks of layer frame's laws in the form that the frame asks for, over the calls' contracts as proved of what landed (FrPub: frm).
-/
import Derived.Test.YtmcmlfmfhljphaaFrPub
import Derived.Test.YtmcmlfmfhljphaaFrMany
import Derived.Test.YtmcmlfmfhljphaaFrCut
import Derived.Test.YtmcmlfmfhljphaaFrOnly
import Derived.Test.YtmcmlfmfhljphaaFrSeen
namespace Go.Proofs.Ytmcmlfmfhljphaa
open Go.RowKit

theorem frameCut_law (A : Option Addr) (c n : Nat) (L : List (List Nat)) (cut : Int) (w : World) (hn : n = L.length) (hr : Rl w w.heap.size A L) (hc : n ≤ c ∧ c ≤ 9223372036854775807) (_ : (Lit.int .i64 cut).wf = true) :
    Calls Try.prog 3 #[.slice A n c, .int .i64 cut] w fun e w' => e = .returned (.bool true) ∧ Below w.heap.size w w' :=
  frameCut_any frm A c n L cut w hn hr hc
theorem frameSeen_law (A : Option Addr) (c n : Nat) (p : List Nat) (at_ : Int) (y : Nat) (w : World) (hn : n = p.length) (hr : Rb w w.heap.size A p) (hc : n ≤ c ∧ c ≤ 9223372036854775807) (_ : (Lit.int .i64 at_).wf = true) (hy : y < 4294967296) :
    Calls Try.prog 4 #[.slice A n c, .int .i64 at_, .int .u32 (y : Int)] w fun e w' => e = .returned (.bool true) ∧ Below w.heap.size w w' :=
  frameSeen_any frm A c n p at_ y w hn hr hc hy
theorem frameOnly_law (A : Option Addr) (c n : Nat) (l : List Nat) (w : World) (hn : n = l.length) (hr : Rb w w.heap.size A l) (hc : n ≤ c ∧ c ≤ 9223372036854775807) :
    Calls Try.prog 5 #[.slice A n c] w fun e w' => e = .returned (.bool true) ∧ Below w.heap.size w w' :=
  frameOnly_any frm A c n l w hn hr hc
theorem frameMany_law (A : Option Addr) (c n : Nat) (L : List (List Nat)) (k : Int) (w : World) (hn : n = L.length) (hr : Rl w w.heap.size A L) (hc : n ≤ c ∧ c ≤ 9223372036854775807) (_ : (Lit.int .i64 k).wf = true) :
    Calls Try.prog 6 #[.slice A n c, .int .i64 k] w fun e w' => e = .returned (.bool true) ∧ Below w.heap.size w w' :=
  frameMany_any frm A c n L k w hn hr hc
end Go.Proofs.Ytmcmlfmfhljphaa

/-
  The walks of layer codec's laws in the form that the frame asks for, over the calls' contracts as proved of what landed (CodGetL: cod).
-/
import Derived.Test.YtnieojdlmanckaaCodGetL
import Derived.Test.YtnieojdlmanckaaCodSize
import Derived.Test.YtnieojdlmanckaaCodShort
import Derived.Test.YtnieojdlmanckaaCodMany
import Derived.Test.YtnieojdlmanckaaCodBack
import Derived.Test.YtnieojdlmanckaaCodOnly
namespace Go.Proofs.Ytnieojdlmanckaa
open Go.RowKit Go.Proofs.Ytnieojdlmanckaa.Lp

theorem codecBack_law (n i : Int) (s : ByteArray) (B : Option Addr) (d q : Nat) (ps : List Pr) (A : Option Addr) (c k : Nat) (l : List Nat) (w : World) (_ : (Lit.int .i64 n).wf = true) (_ : (Lit.int .i64 i).wf = true) (hs : s.size ≤ 9223372036854775807)
    (hq : q = ps.length) (hr : Rd w w.heap.size B ps) (hqd : q ≤ d ∧ d ≤ 9223372036854775807) (hk : k = l.length) (ht : Rb w w.heap.size A l) (hkc : k ≤ c ∧ c ≤ 9223372036854775807) :
    Calls Try.prog 3 #[.int .i64 n, .int .i64 i, .string s, .slice B q d, .slice A k c] w fun e w' => e = .returned (.bool true) ∧ Below w.heap.size w w' :=
  codecBack_any cod n i s B d q ps A c k l w hs hq hr hqd hk ht hkc
theorem codecOnly_law (A : Option Addr) (c n : Nat) (l : List Nat) (w : World) (hn : n = l.length) (hr : Rb w w.heap.size A l) (hnc : n ≤ c ∧ c ≤ 9223372036854775807) :
    Calls Try.prog 4 #[.slice A n c] w fun e w' => e = .returned (.bool true) ∧ Below w.heap.size w w' :=
  codecOnly_any cod A c n l w hn hr hnc
theorem codecShort_law (n : Int) (s : ByteArray) (B : Option Addr) (d q : Nat) (ps : List Pr) (cut : Int) (w : World) (_ : (Lit.int .i64 n).wf = true) (hs : s.size ≤ 9223372036854775807) (hq : q = ps.length) (hr : Rd w w.heap.size B ps) (hqd : q ≤ d ∧ d ≤ 9223372036854775807) (_ : (Lit.int .i64 cut).wf = true) :
    Calls Try.prog 5 #[.int .i64 n, .string s, .slice B q d, .int .i64 cut] w fun e w' => e = .returned (.bool true) ∧ Below w.heap.size w w' :=
  codecShort_any cod n s B d q ps cut w hs hq hr hqd
theorem codecSize_law (n m : Int) (w : World) (_ : (Lit.int .i64 n).wf = true) (_ : (Lit.int .i64 m).wf = true) :
    Calls Try.prog 6 #[.int .i64 n, .int .i64 m] w fun e w' => e = .returned (.bool true) ∧ Below w.heap.size w w' :=
  codecSize_any cod n m w
theorem codecMany_law (A : Option Addr) (c n : Nat) (l : List Int) (w : World) (hn : n = l.length) (hr : Ri w w.heap.size A l) (_ : n ≤ c ∧ c ≤ 9223372036854775807) :
    Calls Try.prog 7 #[.slice A n c] w fun e w' => e = .returned (.bool true) ∧ Below w.heap.size w w' :=
  codecMany_any cod A c n l w hn hr
end Go.Proofs.Ytnieojdlmanckaa

/-
  The walks of layer crc's laws in the form that the frame asks for, over the calls' contracts as proved of what landed (CrcPub: stepC, updC, sumC).
-/
import Derived.Test.YtahghjggkigehaaCrcPub
import Derived.Test.YtahghjggkigehaaCrcParts
import Derived.Test.YtahghjggkigehaaCrcOne
import Derived.Test.YtahghjggkigehaaCrcBurst
import Derived.Test.YtahghjggkigehaaCrcAdds
namespace Go.Proofs.Ytahghjggkigehaa
open Go.RowKit Go.Proofs.Ytahghjggkigehaa.Kp

theorem crcIs_law (c x : Nat) (A : Option Addr) (k n : Nat) (l : List Nat) (w : World) (hc : c < 4294967296) (hx : x < 256) (hn : n = l.length) (hr : Rb w w.heap.size A l) (_ : n ≤ k ∧ k ≤ 9223372036854775807) :
    Calls Try.prog 3 #[.int .u32 (c : Int), .int .u8 (x : Int), .slice A n k] w fun e w' => e = .returned (.bool true) ∧ Below w.heap.size w w' :=
  crcIs_any stepC updC sumC c x hc hx A n k l w hn hr
theorem crcParts_law (c : Nat) (A : Option Addr) (k n : Nat) (l : List Nat) (i : Int) (w : World) (hc : c < 4294967296) (hn : n = l.length) (hr : Rb w w.heap.size A l) (hk : n ≤ k ∧ k ≤ 9223372036854775807) (_ : (Lit.int .i64 i).wf = true) :
    Calls Try.prog 4 #[.int .u32 (c : Int), .slice A n k, .int .i64 i] w fun e w' => e = .returned (.bool true) ∧ Below w.heap.size w w' :=
  crcParts_any stepC updC sumC c hc A n k l i w hn hr hk
theorem crcBurst_law (A : Option Addr) (k n : Nat) (l : List Nat) (p : Int) (y : Nat) (w : World) (hn : n = l.length) (hr : Rb w w.heap.size A l) (_ : n ≤ k ∧ k ≤ 9223372036854775807) (_ : (Lit.int .i64 p).wf = true) (hy : y < 4294967296) :
    Calls Try.prog 5 #[.slice A n k, .int .i64 p, .int .u32 (y : Int)] w fun e w' => e = .returned (.bool true) ∧ Below w.heap.size w w' :=
  crcBurst_any stepC sumC A n k l p y hy w hn hr
theorem crcAdds_law (A : Option Addr) (k n : Nat) (l : List Nat) (B : Option Addr) (k2 n2 : Nat) (m : List Nat) (C : Option Addr) (k3 n3 : Nat) (o : List Nat) (w : World)
    (hn : n = l.length) (hr : Rb w w.heap.size A l) (hk : n ≤ k ∧ k ≤ 9223372036854775807) (hn2 : n2 = m.length) (hr2 : Rb w w.heap.size B m) (hk2 : n2 ≤ k2 ∧ k2 ≤ 9223372036854775807) (hn3 : n3 = o.length) (hr3 : Rb w w.heap.size C o) (hk3 : n3 ≤ k3 ∧ k3 ≤ 9223372036854775807) :
    Calls Try.prog 6 #[.slice A n k, .slice B n2 k2, .slice C n3 k3] w fun e w' => e = .returned (.bool true) ∧ Below w.heap.size w w' :=
  crcAdds_any stepC sumC A n k l B n2 k2 m C n3 k3 o w hn hr hk hn2 hr2 hk2 hn3 hr3 hk3
theorem crcStep_law (c d x y : Nat) (w : World) (hc : c < 4294967296) (hd : d < 4294967296) (hx : x < 256) (hy : y < 256) :
    Calls Try.prog 7 #[.int .u32 (c : Int), .int .u32 (d : Int), .int .u8 (x : Int), .int .u8 (y : Int)] w fun e w' => e = .returned (.bool true) ∧ Below w.heap.size w w' :=
  crcStep_any stepC sumC c d x y hc hd hx hy w
theorem crcOne_law (c : Nat) (A : Option Addr) (k n : Nat) (l : List Nat) (w : World) (hc : c < 4294967296) (hn : n = l.length) (hr : Rb w w.heap.size A l) (_ : n ≤ k ∧ k ≤ 9223372036854775807) :
    Calls Try.prog 8 #[.int .u32 (c : Int), .slice A n k] w fun e w' => e = .returned (.bool true) ∧ Below w.heap.size w w' :=
  crcOne_any stepC updC sumC c hc A n k l w hn hr
end Go.Proofs.Ytahghjggkigehaa

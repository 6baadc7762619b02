/-
  The calls of layer label with the names of what they answer handed in: the list, its length, the error's number.
-/
import Derived.Test.YthknoanhljonoaaLabAwake
import Derived.Test.YthknoanhljonoaaLabRefWith
namespace Go.Proofs.Ythknoanhljonoaa
open Go.RowKit Go.Maps Go.Proofs.Ythknoanhljonoaa.Lp

theorem make_as (A : Option Addr) (c n : Nat) (l : List Pr) (hn : n = l.length) (m : List Pr) (k : Nat) (z : Int) (hz : wrong l = z) (hm : makeS l = m) (hk : k = m.length) (w : World) (hr : Rd w w.heap.size A l) :
    Calls Try.prog 12 #[.slice A n c] w fun e w' => ∃ A' c', e = .returned (.tuple #[.slice A' k c', .int .i64 z]) ∧ Hid (Rd w' w'.heap.size A' m) ∧ Below w.heap.size w w' := by
  subst hm hk; exact make_of A c n l hn z hz w hr
theorem rmake_as (A : Option Addr) (c n : Nat) (l : List Pr) (hn : n = l.length) (m : List Pr) (k : Nat) (z : Int) (hz : wrong l = z) (hm : makeS l = m) (hk : k = m.length) (w : World) (hr : Rd w w.heap.size A l) :
    Calls Try.prog 13 #[.slice A n c] w fun e w' => ∃ A' c', e = .returned (.tuple #[.slice A' k c', .int .i64 z]) ∧ Hid (Rd w' w'.heap.size A' m) ∧ Below w.heap.size w w' := by
  subst hm hk; exact rmake_of A c n l hn z hz w hr
theorem with_as (A : Option Addr) (c n : Nat) (l : List Pr) (hn : n = l.length) (nm v : ByteArray) (h1 : nm.size ≤ 9223372036854775807) (h2 : v.size ≤ 9223372036854775807) (m : List Pr) (k : Nat) (z : Int) (hz : wrong (withP l nm v) = z) (hm : makeS (withP l nm v) = m) (hk : k = m.length) (w : World) (hr : Rd w w.heap.size A l) :
    Calls Try.prog 16 #[.slice A n c, .string nm, .string v] w fun e w' => ∃ A' c', e = .returned (.tuple #[.slice A' k c', .int .i64 z]) ∧ Hid (Rd w' w'.heap.size A' m) ∧ Below w.heap.size w w' := by
  subst hm hk; exact with_of A c n l hn nm v h1 h2 z hz w hr
theorem rwith_as (A : Option Addr) (c n : Nat) (l : List Pr) (hn : n = l.length) (nm v : ByteArray) (h1 : nm.size ≤ 9223372036854775807) (h2 : v.size ≤ 9223372036854775807) (m : List Pr) (k : Nat) (z : Int) (hz : wrong (withP l nm v) = z) (hm : makeS (withP l nm v) = m) (hk : k = m.length) (w : World) (hr : Rd w w.heap.size A l) :
    Calls Try.prog 17 #[.slice A n c, .string nm, .string v] w fun e w' => ∃ A' c', e = .returned (.tuple #[.slice A' k c', .int .i64 z]) ∧ Hid (Rd w' w'.heap.size A' m) ∧ Below w.heap.size w w' := by
  subst hm hk; exact rwith_of A c n l hn nm v h1 h2 z hz w hr
theorem merge_as (A B : Option Addr) (c d n q : Nat) (l o : List Pr) (hn : n = l.length) (hq : q = o.length) (m : List Pr) (k : Nat) (z : Int) (hz : wrong (merge l o) = z) (hm : makeS (merge l o) = m) (hk : k = m.length) (w : World) (hr : Rd w w.heap.size A l) (hs : Rd w w.heap.size B o) :
    Calls Try.prog 18 #[.slice A n c, .slice B q d] w fun e w' => ∃ A' c', e = .returned (.tuple #[.slice A' k c', .int .i64 z]) ∧ Hid (Rd w' w'.heap.size A' m) ∧ Below w.heap.size w w' := by
  subst hm hk; exact merge_of A B c d n q l o hn hq z hz w hr hs
theorem rmerge_as (A B : Option Addr) (c d n q : Nat) (l o : List Pr) (hn : n = l.length) (hq : q = o.length) (m : List Pr) (k : Nat) (z : Int) (hz : wrong (merge l o) = z) (hm : makeS (merge l o) = m) (hk : k = m.length) (w : World) (hr : Rd w w.heap.size A l) (hs : Rd w w.heap.size B o) :
    Calls Try.prog 19 #[.slice A n c, .slice B q d] w fun e w' => ∃ A' c', e = .returned (.tuple #[.slice A' k c', .int .i64 z]) ∧ Hid (Rd w' w'.heap.size A' m) ∧ Below w.heap.size w w' := by
  subst hm hk; exact rmerge_of A B c d n q l o hn hq z hz w hr hs
theorem without_as (A : Option Addr) (c n : Nat) (l : List Pr) (hn : n = l.length) (nm : ByteArray) (h1 : nm.size ≤ 9223372036854775807) (m : List Pr) (k : Nat) (hm : without l nm = m) (hk : k = m.length) (w : World) (hr : Rd w w.heap.size A l) :
    Calls Try.prog 25 #[.slice A n c, .string nm] w fun e w' => ∃ A' c', e = .returned (.slice A' k c') ∧ Hid (Rd w' w'.heap.size A' m) ∧ Below w.heap.size w w' := by
  subst hm hk; exact without_of A c n l hn nm h1 w hr
theorem rwithout_as (A : Option Addr) (c n : Nat) (l : List Pr) (hn : n = l.length) (nm : ByteArray) (m : List Pr) (k : Nat) (hm : without l nm = m) (hk : k = m.length) (w : World) (hr : Rd w w.heap.size A l) :
    Calls Try.prog 26 #[.slice A n c, .string nm] w fun e w' => ∃ A' c', e = .returned (.slice A' k c') ∧ Hid (Rd w' w'.heap.size A' m) ∧ Below w.heap.size w w' := by
  subst hm hk; exact rwithout_of A c n l hn nm w hr
theorem same_yes (A B : Option Addr) (c d n k : Nat) (l : List Pr) (hn : n = l.length) (hk : k = l.length) (w : World) (hr : Rd w w.heap.size A l) (hs : Rd w w.heap.size B l) :
    Calls Try.prog 20 #[.slice A n c, .slice B k d] w fun e w' => e = .returned (.bool true) ∧ Below w.heap.size w w' :=
  same_of A B c d n k l l hn hk true (by simp) w hr hs
end Go.Proofs.Ythknoanhljonoaa

/-
  The walk of layer num's awake: it answers true.
-/
import Derived.Test.YtjndehdihjlcaaaDoorNumPrint
import Derived.Test.YtjndehdihjlcaaaDoorNumParse
namespace Go.Proofs.YtjndehdihjlcaaaDoor
open Go.RowKit

/-- Parse and Print with the answers under names. -/
theorem parse_of (s : ByteArray) (hs : s.size ≤ 1000000) (x y : Int) (h : Np.parseS s.data.toList = (x, y)) (w : World) (hok : Ok w) :
    Calls Tryd.prog 10 #[.string s] w fun e w' => e = .returned (.tuple #[.int .i64 x, .int .i64 y]) ∧ Below w.heap.size w w' := by
  refine (parse_any s hs w hok).mono ?_
  rintro e w' ⟨rfl, hb⟩
  refine ⟨?_, hb⟩
  unfold Np.ans; rw [h]
theorem print_of (v : Int) (l : List UInt8) (h : Np.printS v = l) (w : World) (hok : Ok w) :
    Calls Tryd.prog 14 #[.int .i64 v] w fun e w' => e = .returned (.string ⟨l.toArray⟩) ∧ Below w.heap.size w w' := by
  subst h; exact print_any v w hok
theorem sane_of (v : Int) (b : Bool) (h : Np.saneB v = b) (w : World) :
    Calls Tryd.prog 12 #[.int .i64 v] w fun e w' => e = .returned (.bool b) ∧ w = w' := by
  subst h; exact sane_any v w
theorem Np.dec1 (n : Nat) (h : n < 10) : Lib.decDigits n = [Np.d8 n] := by rw [Lib.decDigits, dif_pos h]; rfl
theorem Np.ex1 : Np.printS (-1500) = [45, 49, 46, 53] := by
  have h : Np.saneB (-1500) = true := by decide
  unfold Np.printS
  rw [h, if_neg (by simp), if_pos (by omega)]
  unfold Np.printU
  rw [show (-1500 : Int).natAbs / 1000 = 1 from rfl, show (-1500 : Int).natAbs % 1000 = 500 from rfl, Np.dec1 1 (by omega)]
  decide
theorem Np.ex2 : Np.printS 20 = [48, 46, 48, 50] := by
  have h : Np.saneB 20 = true := by decide
  unfold Np.printS
  rw [h, if_neg (by simp), if_neg (by omega)]
  unfold Np.printU
  rw [show (20 : Int).natAbs / 1000 = 0 from rfl, show (20 : Int).natAbs % 1000 = 20 from rfl, Np.dec1 0 (by omega)]
  decide

set_option maxHeartbeats 800000 in
theorem awake1_any (w : World) (hok : Ok w) :
    Calls Tryd.prog 9 #[] w fun e w' => e = .returned (.bool true) ∧ Below w.heap.size w w' := by
  have Hok := Lib.hid hok
  clear hok
  go_enter Tryd.func9, Tryd.ntmps9
  go_wp2_with fail
  refine (parse_of ⟨#[48, 48, 55, 46, 53, 48]⟩ (by decide) 7500 0 (by decide) _ Hok.out).mono ?_
  rintro e w1 ⟨rfl, hw1⟩
  have Hok1 := Lib.hid (Hok.out.on hw1)
  go_wp2_with fail
  refine (parse_of ⟨#[49, 46]⟩ (by decide) 0 1 (by decide) _ Hok1.out).mono ?_
  rintro e w2 ⟨rfl, hw2⟩
  have Hok2 := Lib.hid (Hok1.out.on hw2)
  go_wp2_with fail
  refine (print_of (-1500) _ Np.ex1 _ Hok2.out).mono ?_
  rintro e w3 ⟨rfl, hw3⟩
  have Hok3 := Lib.hid (Hok2.out.on hw3)
  go_wp2_with fail
  refine (print_of 20 _ Np.ex2 _ Hok3.out).mono ?_
  rintro e w4 ⟨rfl, hw4⟩
  go_wp2_with fail
  refine (sane_of 9007199254740992 true (by decide) _).mono ?_
  rintro e w5 ⟨rfl, rfl⟩
  go_wp2_with fail
  refine (sane_of 9007199254740993 false (by decide) _).mono ?_
  rintro e w5 ⟨rfl, rfl⟩
  go_wp2_with fail
  go_ret
  exact ⟨rfl, below_on (below_on (below_on hw1 hw2) hw3) hw4⟩
end Go.Proofs.YtjndehdihjlcaaaDoor

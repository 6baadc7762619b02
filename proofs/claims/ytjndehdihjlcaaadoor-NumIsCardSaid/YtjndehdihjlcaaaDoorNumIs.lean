/-
  The walk of layer num's law NumIs: it answers true.
-/
import Derived.Test.YtjndehdihjlcaaaDoorNumRefEnd
import Derived.Test.YtjndehdihjlcaaaDoorNumAwake
import Derived.Test.YtjndehdihjlcaaaDoorNumLaws
namespace Go.Proofs.YtjndehdihjlcaaaDoor
open Go.RowKit

theorem refParse_of (s : ByteArray) (hs : s.size ≤ 1000000) (x y : Int) (h : Np.parseS s.data.toList = (x, y)) (w : World) :
    Calls Tryd.prog 11 #[.string s] w fun e w' => e = .returned (.tuple #[.int .i64 x, .int .i64 y]) ∧ w = w' := by
  refine (refParse_any s hs w).mono ?_
  rintro e w' ⟨rfl, rfl⟩
  refine ⟨?_, rfl⟩
  unfold Np.ans; rw [h]

set_option maxHeartbeats 800000 in
theorem numIs_any (v : Int) (s : ByteArray) (w : World) (hok : Ok w) :
    Calls Tryd.prog 3 #[.int .i64 v, .string s] w fun e w' => e = .returned (.bool true) ∧ Below w.heap.size w w' := by
  have Hok := Lib.hid hok
  clear hok
  by_cases hs : 1000 < s.size
  · have hs' : (1000 : Int) < (s.size : Int) := by omega
    go_enter Tryd.func3, Tryd.ntmps3
    go_wp2_with fail
    refine (awake1_any _ Hok.out).mono ?_
    rintro e w1 ⟨rfl, hw1⟩
    go_wp2_with fail
    go_ret
    exact ⟨rfl, hw1⟩
  · have hs' : ¬ (1000 : Int) < (s.size : Int) := by omega
    obtain ⟨⟨x, y⟩, hxy⟩ : ∃ r, Np.parseS s.data.toList = r := ⟨_, rfl⟩
    have H := Lib.hid hxy
    obtain ⟨b, hb⟩ : ∃ b, Np.saneB v = b := ⟨_, rfl⟩
    have HB := Lib.hid hb
    clear hxy hb
    go_enter Tryd.func3, Tryd.ntmps3
    go_wp2_with fail
    refine (awake1_any _ Hok.out).mono ?_
    rintro e w1 ⟨rfl, hw1⟩
    have Hok1 := Lib.hid (Hok.out.on hw1)
    go_wp2_with fail
    refine (parse_of s (by omega) x y H.out _ Hok1.out).mono ?_
    rintro e w2 ⟨rfl, hw2⟩
    have Hok2 := Lib.hid (Hok1.out.on hw2)
    go_wp2_with fail
    refine (refParse_of s (by omega) x y H.out _).mono ?_
    rintro e w3 ⟨rfl, rfl⟩
    go_wp2_with fail
    refine (sane_of v b HB.out _).mono ?_
    rintro e w3 ⟨rfl, rfl⟩
    go_wp2_with fail
    refine (refSane_of v b HB.out _).mono ?_
    rintro e w3 ⟨rfl, rfl⟩
    go_wp2_with fail
    refine (print_str _ _ Hok2.out).mono ?_
    rintro e w3 ⟨S, rfl, hS, HS, hw3⟩
    go_wp2_with fail
    refine (refPrint_any _ _).mono ?_
    rintro e w4 ⟨T, rfl, HT, hw4⟩
    have hST : S.toList = T.toList := by rw [toList_eq, toList_eq, HS.out, HT.out]
    go_wp2_with fail
    go_ret
    exact ⟨rfl, below_on (below_on (below_on hw1 hw2) hw3) hw4⟩
end Go.Proofs.YtjndehdihjlcaaaDoor

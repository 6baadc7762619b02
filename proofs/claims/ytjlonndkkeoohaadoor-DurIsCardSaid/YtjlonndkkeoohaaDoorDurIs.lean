/-
  The walk of layer dur's law DurIs: it answers true.
-/
import Derived.Test.YtjlonndkkeoohaaDoorDurAwake
import Derived.Test.YtjlonndkkeoohaaDoorDurRefPrint
import Derived.Test.YtjlonndkkeoohaaDoorDurRefParse
namespace Go.Proofs.YtjlonndkkeoohaaDoor
open Go.RowKit

theorem rprint_str (v : Int) (w : World) :
    Calls Tryd.prog 15 #[.int .i64 v] w fun e w' => ∃ S : ByteArray, e = .returned (.string S) ∧ S.size ≤ 90 ∧ Hid (S.data.toList = Dp.printS v) ∧ Below w.heap.size w w' := by
  refine (rprint_any v w).mono ?_
  rintro e w' ⟨rfl, hb⟩
  refine ⟨_, rfl, ?_, Lib.hid (by simp), hb⟩
  rw [str_size]; exact Dp.print_len v

set_option maxHeartbeats 4000000 in
theorem durIs_any (d : Int) (s : ByteArray) (w : World) (hok : Ok w) :
    Calls Tryd.prog 3 #[.int .i64 d, .string s] w fun e w' => e = .returned (.bool true) ∧ Below w.heap.size w w' := by
  have Hok := Lib.hid hok
  clear hok
  by_cases hs : 1000 < s.size
  · have hs' : (1000 : Int) < (s.size : Int) := by omega
    go_enter Tryd.func3, Tryd.ntmps3
    go_wp2_with fail
    refine (awake2_any _ Hok.out).mono ?_
    rintro e w1 ⟨rfl, hw1⟩
    go_wp2_with fail
    go_ret
    exact ⟨rfl, hw1⟩
  · have hs' : ¬ (1000 : Int) < (s.size : Int) := by omega
    obtain ⟨⟨x, y⟩, hxy⟩ : ∃ r, Dp.parseS s.data.toList = r := ⟨_, rfl⟩
    have HP := Lib.hid hxy
    obtain ⟨b, hb⟩ : ∃ b, Dp.saneB d = b := ⟨_, rfl⟩
    have HB := Lib.hid hb
    clear hxy hb
    go_enter Tryd.func3, Tryd.ntmps3
    go_wp2_with fail
    refine (awake2_any _ Hok.out).mono ?_
    rintro e w1 ⟨rfl, hw1⟩
    have Hok1 := Lib.hid (Hok.out.on hw1)
    go_wp2_with fail
    refine (dparse_of s (by omega) x y HP.out _ Hok1.out).mono ?_
    rintro e w2 ⟨rfl, hw2⟩
    have Hok2 := Lib.hid (Hok1.out.on hw2)
    go_wp2_with fail
    refine (rparse_any s (by omega) _).mono ?_
    rintro e w3 ⟨he, hw3⟩
    rw [HP.out] at he
    unfold Dp.ans2 at he
    subst he
    have Hok3 := Lib.hid (Hok2.out.on hw3)
    go_wp2_with fail
    refine (dsane_of d b HB.out _).mono ?_
    rintro e w4 ⟨rfl, rfl⟩
    go_wp2_with fail
    refine (rsane_any d _).mono ?_
    rintro e w4 ⟨he, rfl⟩
    rw [HB.out] at he
    subst he
    go_wp2_with fail
    refine (dprint_str d _ Hok3.out).mono ?_
    rintro e w4 ⟨S, rfl, hS, HS, hw4⟩
    go_wp2_with fail
    refine (rprint_str d _).mono ?_
    rintro e w5 ⟨T, rfl, hT, HT, hw5⟩
    have hST : S.toList = T.toList := by rw [toList_eq, toList_eq, HS.out, HT.out]
    go_wp2_with fail
    go_ret
    exact ⟨rfl, below_on (below_on (below_on (below_on hw1 hw2) hw3) hw4) hw5⟩
end Go.Proofs.YtjlonndkkeoohaaDoor

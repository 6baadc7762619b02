/-
  The walks of layer dur's laws DurBack, DurOnce and DurParts: each answers true.
-/
import Derived.Test.YtjlonndkkeoohaaDoorDurAwake
namespace Go.Proofs.YtjlonndkkeoohaaDoor
open Go.RowKit

set_option maxHeartbeats 1600000 in
theorem durBack_any (v : Int) (w : World) (hok : Ok w) :
    Calls Tryd.prog 4 #[.int .i64 v] w fun e w' => e = .returned (.bool true) ∧ Below w.heap.size w w' := by
  have Hok := Lib.hid hok
  clear hok
  cases hs : Dp.saneB v with
  | false =>
    have Hs := Lib.hid hs
    clear hs
    go_enter Tryd.func4, Tryd.ntmps4
    go_wp2_with fail
    refine (awake2_any _ Hok.out).mono ?_
    rintro e w1 ⟨rfl, hw1⟩
    have Hok1 := Lib.hid (Hok.out.on hw1)
    go_wp2_with fail
    refine (dprint_of v [] (Dp.print_no v Hs.out) _ Hok1.out).mono ?_
    rintro e w2 ⟨rfl, hw2⟩
    have Hok2 := Lib.hid (Hok1.out.on hw2)
    go_wp2_with fail
    refine (dparse_of _ (by decide) 0 1 rfl _ Hok2.out).mono ?_
    rintro e w3 ⟨rfl, hw3⟩
    go_wp2_with fail
    refine (dsane_of v false Hs.out _).mono ?_
    rintro e w4 ⟨rfl, rfl⟩
    go_wp2_with fail
    go_ret
    exact ⟨rfl, below_on (below_on hw1 hw2) hw3⟩
  | true =>
    have Hs := Lib.hid hs
    clear hs
    go_enter Tryd.func4, Tryd.ntmps4
    go_wp2_with fail
    refine (awake2_any _ Hok.out).mono ?_
    rintro e w1 ⟨rfl, hw1⟩
    have Hok1 := Lib.hid (Hok.out.on hw1)
    go_wp2_with fail
    refine (dprint_str v _ Hok1.out).mono ?_
    rintro e w2 ⟨S, rfl, hS, HS, hw2⟩
    have Hok2 := Lib.hid (Hok1.out.on hw2)
    have hSe : S.toList.isEmpty = false := by
      rw [toList_eq, HS.out]
      have := Dp.print_ne v Hs.out
      simpa using this
    go_wp2_with fail
    refine (dparse_of S (by omega) v 0 (by rw [HS.out]; exact Dp.parse_print v Hs.out) _ Hok2.out).mono ?_
    rintro e w3 ⟨rfl, hw3⟩
    go_wp2_with fail
    refine (dsane_of v true Hs.out _).mono ?_
    rintro e w4 ⟨rfl, rfl⟩
    go_wp2_with fail
    go_ret
    exact ⟨rfl, below_on (below_on hw1 hw2) hw3⟩

set_option maxHeartbeats 1600000 in
theorem durOnce_any (s : ByteArray) (w : World) (hok : Ok w) :
    Calls Tryd.prog 5 #[.string s] w fun e w' => e = .returned (.bool true) ∧ Below w.heap.size w w' := by
  have Hok := Lib.hid hok
  clear hok
  by_cases hs : 1000 < s.size
  · have hs' : (1000 : Int) < (s.size : Int) := by omega
    go_enter Tryd.func5, Tryd.ntmps5
    go_wp2_with fail
    refine (awake2_any _ Hok.out).mono ?_
    rintro e w1 ⟨rfl, hw1⟩
    go_wp2_with fail
    go_ret
    exact ⟨rfl, hw1⟩
  · have hs' : ¬ (1000 : Int) < (s.size : Int) := by omega
    rcases Dp.parse_three s.data.toList with h | h | ⟨v, h, hv⟩
    · have H := Lib.hid h
      clear h
      go_enter Tryd.func5, Tryd.ntmps5
      go_wp2_with fail
      refine (awake2_any _ Hok.out).mono ?_
      rintro e w1 ⟨rfl, hw1⟩
      have Hok1 := Lib.hid (Hok.out.on hw1)
      go_wp2_with fail
      refine (dparse_of s (by omega) 0 1 H.out _ Hok1.out).mono ?_
      rintro e w2 ⟨rfl, hw2⟩
      go_wp2_with fail
      go_ret
      exact ⟨rfl, below_on hw1 hw2⟩
    · have H := Lib.hid h
      clear h
      go_enter Tryd.func5, Tryd.ntmps5
      go_wp2_with fail
      refine (awake2_any _ Hok.out).mono ?_
      rintro e w1 ⟨rfl, hw1⟩
      have Hok1 := Lib.hid (Hok.out.on hw1)
      go_wp2_with fail
      refine (dparse_of s (by omega) 0 2 H.out _ Hok1.out).mono ?_
      rintro e w2 ⟨rfl, hw2⟩
      go_wp2_with fail
      go_ret
      exact ⟨rfl, below_on hw1 hw2⟩
    · have H := Lib.hid h
      have HV := Lib.hid hv
      clear h hv
      go_enter Tryd.func5, Tryd.ntmps5
      go_wp2_with fail
      refine (awake2_any _ Hok.out).mono ?_
      rintro e w1 ⟨rfl, hw1⟩
      have Hok1 := Lib.hid (Hok.out.on hw1)
      go_wp2_with fail
      refine (dparse_of s (by omega) v 0 H.out _ Hok1.out).mono ?_
      rintro e w2 ⟨rfl, hw2⟩
      have Hok2 := Lib.hid (Hok1.out.on hw2)
      go_wp2_with fail
      refine (dprint_str _ _ Hok2.out).mono ?_
      rintro e w3 ⟨T, rfl, hT, HT, hw3⟩
      have Hok3 := Lib.hid (Hok2.out.on hw3)
      go_wp2_with fail
      refine (dparse_of T (by omega) v 0 (by rw [HT.out]; exact Dp.parse_print v HV.out) _ Hok3.out).mono ?_
      rintro e w4 ⟨rfl, hw4⟩
      have Hok4 := Lib.hid (Hok3.out.on hw4)
      go_wp2_with fail
      refine (dsane_of v true HV.out _).mono ?_
      rintro e w5 ⟨rfl, rfl⟩
      go_wp2_with fail
      refine (dprint_str _ _ Hok4.out).mono ?_
      rintro e w6 ⟨U, rfl, hU, HU, hw6⟩
      have hUT : U.toList = T.toList := by rw [toList_eq, toList_eq, HU.out, HT.out]
      go_wp2_with fail
      go_ret
      exact ⟨rfl, below_on (below_on (below_on (below_on hw1 hw2) hw3) hw4) hw6⟩

set_option maxHeartbeats 1600000 in
theorem durParts_any (v : Int) (w : World) (hok : Ok w) :
    Calls Tryd.prog 6 #[.int .i64 v] w fun e w' => e = .returned (.bool true) ∧ Below w.heap.size w w' := by
  have Hok := Lib.hid hok
  clear hok
  cases hs : Dp.saneB v with
  | false =>
    go_enter Tryd.func6, Tryd.ntmps6
    go_wp2_with fail
    refine (awake2_any _ Hok.out).mono ?_
    rintro e w1 ⟨rfl, hw1⟩
    go_wp2_with fail
    refine (dsane_of v false hs _).mono ?_
    rintro e w2 ⟨rfl, rfl⟩
    go_wp2_with fail
    go_ret
    exact ⟨rfl, hw1⟩
  | true =>
    obtain ⟨h0, h1⟩ := (Dp.sane_iff v).mp hs
    by_cases hd : v < 86400000
    · go_enter Tryd.func6, Tryd.ntmps6
      go_wp2_with fail
      refine (awake2_any _ Hok.out).mono ?_
      rintro e w1 ⟨rfl, hw1⟩
      go_wp2_with fail
      refine (dsane_of v true hs _).mono ?_
      rintro e w2 ⟨rfl, rfl⟩
      go_wp2_with fail
      go_ret
      exact ⟨rfl, hw1⟩
    · by_cases hr : v % 86400000 = 0
      · have hrb : (v % 86400000 == 0) = true := by simpa using hr
        go_enter Tryd.func6, Tryd.ntmps6
        go_wp2_with fail
        refine (awake2_any _ Hok.out).mono ?_
        rintro e w1 ⟨rfl, hw1⟩
        go_wp2_with fail
        refine (dsane_of v true hs _).mono ?_
        rintro e w2 ⟨rfl, rfl⟩
        go_wp2_with fail
        go_ret
        exact ⟨rfl, hw1⟩
      · have hrb : (v % 86400000 == 0) = false := by simpa using hr
        have HP := Lib.hid (Dp.print_parts v hs (by omega) hr)
        have HA : Hid (Dp.saneB (v - v % 86400000) = true) := Lib.hid (by rw [Dp.sane_iff]; omega)
        have HB : Hid (Dp.saneB (v % 86400000) = true) := Lib.hid (by rw [Dp.sane_iff]; omega)
        have Hs := Lib.hid hs
        go_enter Tryd.func6, Tryd.ntmps6
        go_wp2_with fail
        refine (awake2_any _ Hok.out).mono ?_
        rintro e w1 ⟨rfl, hw1⟩
        have Hok1 := Lib.hid (Hok.out.on hw1)
        go_wp2_with fail
        refine (dsane_of v true Hs.out _).mono ?_
        rintro e w2 ⟨rfl, rfl⟩
        go_wp2_with fail
        refine (dprint_str (v - v % 86400000) _ Hok1.out).mono ?_
        rintro e w2 ⟨S, rfl, hS, HS, hw2⟩
        have Hok2 := Lib.hid (Hok1.out.on hw2)
        go_wp2_with fail
        refine (dprint_str (v % 86400000) _ Hok2.out).mono ?_
        rintro e w3 ⟨T, rfl, hT, HT, hw3⟩
        have Hok3 := Lib.hid (Hok2.out.on hw3)
        go_wp2_with fail
        refine (dparse_of S (by omega) (v - v % 86400000) 0 (by rw [HS.out]; exact Dp.parse_print _ HA.out) _ Hok3.out).mono ?_
        rintro e w4 ⟨rfl, hw4⟩
        have Hok4 := Lib.hid (Hok3.out.on hw4)
        go_wp2_with fail
        refine (dparse_of T (by omega) (v % 86400000) 0 (by rw [HT.out]; exact Dp.parse_print _ HB.out) _ Hok4.out).mono ?_
        rintro e w5 ⟨rfl, hw5⟩
        have Hok5 := Lib.hid (Hok4.out.on hw5)
        go_wp2_with fail
        refine (dprint_str v _ Hok5.out).mono ?_
        rintro e w6 ⟨U, rfl, hU, HU, hw6⟩
        have hUT : U.toList = (S ++ T).toList := by rw [toList_eq, toList_eq, HU.out, data_app, HS.out, HT.out, HP.out]
        have hlt : decide (v % 86400000 < 86400000) = true := by simp; omega
        go_wp2_with fail
        go_ret
        exact ⟨rfl, below_on (below_on (below_on (below_on (below_on hw1 hw2) hw3) hw4) hw5) hw6⟩
end Go.Proofs.YtjlonndkkeoohaaDoor

/-
  The walk of layer num's law NumOnce: it answers true.
-/
import Derived.Test.YtjndehdihjlcaaaDoorNumLaws
namespace Go.Proofs.YtjndehdihjlcaaaDoor
open Go.RowKit

theorem Np.three (l : List UInt8) : Np.parseS l = (0, 1) ∨ Np.parseS l = (0, 2) ∨ ∃ v, Np.parseS l = (v, 0) ∧ Np.saneB v = true := by
  by_cases h : (Np.parseS l).2 = 0
  · exact Or.inr (Or.inr ⟨(Np.parseS l).1, by rw [← h], Np.parse_sane l⟩)
  · obtain ⟨h1, h2 | h2⟩ := Np.parse_err l h
    · exact Or.inl (by rw [← h1, ← h2])
    · exact Or.inr (Or.inl (by rw [← h1, ← h2]))
theorem Np.once_pos (l : List UInt8) (v : Int) (c : UInt8) (hc : l.head? = some c) (h45 : ¬ c = 45) (h : Np.parseS l = (v, 0)) : Np.parseS (48 :: l) = (v, 0) := by
  rw [Np.parse_zero_pos l (by rw [h]) (by unfold Np.neg; rw [hc]; simpa using h45), h]
theorem Np.once_neg (l : List UInt8) (v : Int) (hc : l.head? = some 45) (h : Np.parseS l = (v, 0)) : Np.parseS (45 :: 48 :: l.drop 1) = (v, 0) := by
  cases l with
  | nil => simp at hc
  | cons c t =>
    obtain rfl : c = 45 := by simpa using hc
    rw [List.drop_succ_cons, List.drop_zero, Np.parse_zero_neg t (by rw [h]), h]
theorem Np.head_at (s : ByteArray) (h : 0 < s.size) : s.data.toList.head? = some (s[0]'h) := by
  have : s.data.toList[0]? = some (s[0]'h) := by
    rw [List.getElem?_eq_getElem (by rw [← Lib.size_eq]; exact h)]; rfl
  rw [← this, List.head?_eq_getElem?]

set_option maxHeartbeats 1600000 in
theorem numOnce_any (s : ByteArray) (w : World) (hok : Ok w) :
    Calls Tryd.prog 5 #[.string s] w fun e w' => e = .returned (.bool true) ∧ Below w.heap.size w w' := by
  have Hok := Lib.hid hok
  clear hok
  by_cases hs : 1000 < s.size
  · have hs' : (1000 : Int) < (s.size : Int) := by omega
    go_enter Tryd.func5, Tryd.ntmps5
    go_wp2_with fail
    refine (awake1_any _ Hok.out).mono ?_
    rintro e w1 ⟨rfl, hw1⟩
    go_wp2_with fail
    go_ret
    exact ⟨rfl, hw1⟩
  · have hs' : ¬ (1000 : Int) < (s.size : Int) := by omega
    rcases Np.three s.data.toList with h | h | ⟨v, h, hv⟩
    · have H := Lib.hid h
      clear h
      go_enter Tryd.func5, Tryd.ntmps5
      go_wp2_with fail
      refine (awake1_any _ Hok.out).mono ?_
      rintro e w1 ⟨rfl, hw1⟩
      have Hok1 := Lib.hid (Hok.out.on hw1)
      go_wp2_with fail
      refine (parse_of s (by omega) 0 1 H.out _ Hok1.out).mono ?_
      rintro e w2 ⟨rfl, hw2⟩
      go_wp2_with fail
      go_ret
      exact ⟨rfl, below_on hw1 hw2⟩
    · have H := Lib.hid h
      clear h
      go_enter Tryd.func5, Tryd.ntmps5
      go_wp2_with fail
      refine (awake1_any _ Hok.out).mono ?_
      rintro e w1 ⟨rfl, hw1⟩
      have Hok1 := Lib.hid (Hok.out.on hw1)
      go_wp2_with fail
      refine (parse_of s (by omega) 0 2 H.out _ Hok1.out).mono ?_
      rintro e w2 ⟨rfl, hw2⟩
      go_wp2_with fail
      go_ret
      exact ⟨rfl, below_on hw1 hw2⟩
    · have hpos : 0 < s.size := by
        have := Np.parse_ok_ne s.data.toList (by rw [h])
        rw [Lib.size_eq]; exact List.length_pos_iff.mpr this
      have hlen : (Np.printS v).length ≤ s.size := by
        have := Np.print_len s.data.toList (by rw [h])
        rw [h] at this
        rw [Lib.size_eq]; exact this
      have hhead := Lib.hid (Np.head_at s hpos)
      have hpos' : (0 : Int) < (s.size : Int) := by omega
      have H := Lib.hid h
      have HV := Lib.hid hv
      clear h hv
      obtain ⟨c, hc⟩ : ∃ c, s[0]'hpos = c := ⟨_, rfl⟩
      have Hh : Hid (s.data.toList.head? = some c) := Lib.hid (by rw [hhead.out, hc])
      clear hhead
      go_enter Tryd.func5, Tryd.ntmps5
      go_wp2_with fail
      refine (awake1_any _ Hok.out).mono ?_
      rintro e w1 ⟨rfl, hw1⟩
      have Hok1 := Lib.hid (Hok.out.on hw1)
      go_wp2_with fail
      refine (parse_of s (by omega) v 0 H.out _ Hok1.out).mono ?_
      rintro e w2 ⟨rfl, hw2⟩
      have Hok2 := Lib.hid (Hok1.out.on hw2)
      go_wp2_with fail
      refine (print_str _ _ Hok2.out).mono ?_
      rintro e w3 ⟨T, rfl, hT, HT, hw3⟩
      have Hok3 := Lib.hid (Hok2.out.on hw3)
      have hTs : (T.size : Int) ≤ (s.size : Int) := by
        have : T.size = (Np.printS v).length := by rw [Lib.size_eq, HT.out]
        omega
      go_wp2_with fail
      refine (parse_of T (by omega) v 0 (by rw [HT.out]; exact Np.parse_print v HV.out) _ Hok3.out).mono ?_
      rintro e w4 ⟨rfl, hw4⟩
      have Hok4 := Lib.hid (Hok3.out.on hw4)
      by_cases h45 : c = 45
      · have hc45 : (((c.toNat : Nat) : Int) == 45) = true := by rw [h45]; rfl
        have Hc := Lib.hid h45
        clear h45
        go_wp2_with fail
        refine (parse_of _ (by rw [ByteArray.size_append, ByteArray.size_extract, show (⟨#[45, 48]⟩ : ByteArray).size = 2 from rfl]; omega) v 0 (by rw [data_app, Lib.extract_to_end]; exact Np.once_neg _ v (by rw [Hh.out, Hc.out]) H.out) _ Hok4.out).mono ?_
        rintro e w5 ⟨rfl, hw5⟩
        have Hok5 := Lib.hid (Hok4.out.on hw5)
        go_wp2_with fail
        refine (sane_of v true HV.out _).mono ?_
        rintro e w6 ⟨rfl, rfl⟩
        go_wp2_with fail
        refine (print_str _ _ Hok5.out).mono ?_
        rintro e w6 ⟨U, rfl, hU, HU2, hw6⟩
        have hUT : U.toList = T.toList := by rw [toList_eq, toList_eq, HU2.out, HT.out]
        go_wp2_with fail
        go_ret
        exact ⟨rfl, below_on (below_on (below_on (below_on (below_on hw1 hw2) hw3) hw4) hw5) hw6⟩
      · have hc45 : (((c.toNat : Nat) : Int) == 45) = false := by
          simp only [beq_eq_false_iff_ne, ne_eq]
          intro h
          exact h45 (UInt8.toNat_inj.mp (by rw [show (45 : UInt8).toNat = 45 from rfl]; omega))
        have Hc := Lib.hid h45
        clear h45
        go_wp2_with fail
        refine (parse_of _ (by rw [ByteArray.size_append, show (⟨#[48]⟩ : ByteArray).size = 1 from rfl]; omega) v 0 (by rw [data_app]; exact Np.once_pos _ v c Hh.out Hc.out H.out) _ Hok4.out).mono ?_
        rintro e w5 ⟨rfl, hw5⟩
        have Hok5 := Lib.hid (Hok4.out.on hw5)
        go_wp2_with fail
        refine (sane_of v true HV.out _).mono ?_
        rintro e w6 ⟨rfl, rfl⟩
        go_wp2_with fail
        refine (print_str _ _ Hok5.out).mono ?_
        rintro e w6 ⟨U, rfl, hU, HU2, hw6⟩
        have hUT : U.toList = T.toList := by rw [toList_eq, toList_eq, HU2.out, HT.out]
        go_wp2_with fail
        go_ret
        exact ⟨rfl, below_on (below_on (below_on (below_on (below_on hw1 hw2) hw3) hw4) hw5) hw6⟩
end Go.Proofs.YtjndehdihjlcaaaDoor

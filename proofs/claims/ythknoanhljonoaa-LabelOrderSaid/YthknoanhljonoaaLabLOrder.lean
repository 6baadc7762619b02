/-
  The walk of layer label's law LabelOrder: it answers true.
-/
import Derived.Test.YthknoanhljonoaaLabAs
namespace Go.Proofs.Ythknoanhljonoaa
open Go.RowKit Go.Proofs.Ythknoanhljonoaa.Lp

set_option maxHeartbeats 6400000 in
theorem labelOrder_any (A : Option Addr) (c n : Nat) (la : List Pr) (B : Option Addr) (d m : Nat) (lb : List Pr) (C : Option Addr) (f k : Nat) (lc : List Pr) (w : World)
    (hn : n = la.length) (hra : Rd w w.heap.size A la) (hm : m = lb.length) (hrb : Rd w w.heap.size B lb) (hk : k = lc.length) (hrc : Rd w w.heap.size C lc) :
    Calls Try.prog 6 #[.slice A n c, .slice B m d, .slice C k f] w fun e w' => e = .returned (.bool true) ∧ Below w.heap.size w w' := by
  have HN := Lib.hid hn
  have HM := Lib.hid hm
  have HK := Lib.hid hk
  have HRa := Lib.hid hra
  have HRb := Lib.hid hrb
  have HRc := Lib.hid hrc
  clear hn hm hk hra hrb hrc
  go_enter Try.func6, Try.ntmps6
  go_wp2_with fail
  refine (awake_any _).mono ?_
  rintro e w1 ⟨rfl, hw1⟩
  go_wp2_with fail
  refine (few_of A c n la HN.out _ (HRa.out.on hw1)).mono ?_
  rintro e w2 ⟨b1, rfl, hb1, hw2⟩
  have hb2 := below_on hw1 hw2
  clear hb1 hw2
  cases b1 with
  | false =>
    go_wp2_with fail
    go_ret
    exact ⟨rfl, hb2⟩
  | true =>
  go_wp2_with fail
  refine (few_of B d m lb HM.out _ (HRb.out.on hb2)).mono ?_
  rintro e w3 ⟨b1, rfl, hb1, hw3⟩
  have hb3 := below_on hb2 hw3
  clear hb1 hw3
  cases b1 with
  | false =>
    go_wp2_with fail
    go_ret
    exact ⟨rfl, hb3⟩
  | true =>
  go_wp2_with fail
  refine (few_of C f k lc HK.out _ (HRc.out.on hb3)).mono ?_
  rintro e w4 ⟨b1, rfl, hb1, hw4⟩
  have hb4 := below_on hb3 hw4
  clear hb1 hw4
  cases b1 with
  | false =>
    go_wp2_with fail
    go_ret
    exact ⟨rfl, hb4⟩
  | true =>
  obtain ⟨sa, hsa⟩ : ∃ s, saneB la = s := ⟨_, rfl⟩
  have HSa := Lib.hid hsa
  clear hsa
  go_wp2_with fail
  refine (sane_of A c n la HN.out sa HSa.out _ (HRa.out.on hb4)).mono ?_
  rintro e w5 ⟨rfl, hw5⟩
  have hb5 := below_on hb4 hw5
  clear hw5
  cases sa with
  | false =>
    go_wp2_with fail
    go_ret
    exact ⟨rfl, hb5⟩
  | true =>
  obtain ⟨sb, hsb⟩ : ∃ s, saneB lb = s := ⟨_, rfl⟩
  have HSb := Lib.hid hsb
  clear hsb
  go_wp2_with fail
  refine (sane_of B d m lb HM.out sb HSb.out _ (HRb.out.on hb5)).mono ?_
  rintro e w6 ⟨rfl, hw6⟩
  have hb6 := below_on hb5 hw6
  clear hw6
  cases sb with
  | false =>
    go_wp2_with fail
    go_ret
    exact ⟨rfl, hb6⟩
  | true =>
  obtain ⟨sc, hsc⟩ : ∃ s, saneB lc = s := ⟨_, rfl⟩
  have HSc := Lib.hid hsc
  clear hsc
  go_wp2_with fail
  refine (sane_of C f k lc HK.out sc HSc.out _ (HRc.out.on hb6)).mono ?_
  rintro e w7 ⟨rfl, hw7⟩
  have hb7 := below_on hb6 hw7
  clear hw7
  cases sc with
  | false =>
    go_wp2_with fail
    go_ret
    exact ⟨rfl, hb7⟩
  | true =>
  clear hb2 hb3 hb4 hb5 hb6 hw1
  have HLa : Hid (asL la = la) := Lib.hid (asL_sane HSa.out)
  have HLb : Hid (asL lb = lb) := Lib.hid (asL_sane HSb.out)
  have HLc : Hid (asL lc = lc) := Lib.hid (asL_sane HSc.out)
  obtain ⟨x, hx⟩ : ∃ x, cmpL la lb = x := ⟨_, rfl⟩
  obtain ⟨y, hy⟩ : ∃ y, cmpL lb lc = y := ⟨_, rfl⟩
  obtain ⟨z, hz⟩ : ∃ z, cmpL la lc = z := ⟨_, rfl⟩
  have hx1 : -1 ≤ x := by rw [← hx]; exact (cmpL_bd _ _).1
  have hx2 : x ≤ 1 := by rw [← hx]; exact (cmpL_bd _ _).2
  have hxz : x ≤ 0 → y ≤ 0 → z ≤ 0 := by rw [← hx, ← hy, ← hz]; exact cmpL_trans
  have HX : Hid (cmpL (asL la) (asL lb) = x) := Lib.hid (by rw [HLa.out, HLb.out, hx])
  have HXf : Hid (cmpL (asL lb) (asL la) = -x) := Lib.hid (by rw [HLa.out, HLb.out, cmpL_flip la lb, hx])
  have HY : Hid (cmpL (asL lb) (asL lc) = y) := Lib.hid (by rw [HLc.out, HLb.out, hy])
  have HZ : Hid (cmpL (asL la) (asL lc) = z) := Lib.hid (by rw [HLc.out, HLa.out, hz])
  have HSelf : Hid (cmpL (asL la) (asL la) = 0) := Lib.hid (cmpL_self _)
  have HE : Hid ((x = 0) ↔ la = lb) := Lib.hid ⟨fun h => cmpL_zero (by rw [hx, h]), fun h => by rw [← hx, h]; exact cmpL_self _⟩
  have HXZ := Lib.hid hxz
  clear hx hy hz hxz
  go_wp2_with fail
  refine (compare_of A B c d n m la lb HN.out HM.out x HX.out _ (HRa.out.on hb7) (HRb.out.on hb7)).mono ?_
  rintro e w8 ⟨rfl, hw8⟩
  have hb8 := below_on hb7 hw8
  go_wp2_with fail
  refine (compare_of B C d f m k lb lc HM.out HK.out y HY.out _ (HRb.out.on hb8) (HRc.out.on hb8)).mono ?_
  rintro e w9 ⟨rfl, hw9⟩
  have hb9 := below_on hb8 hw9
  clear hb7 hb8 hw8 hw9
  have hlo : ¬ x < -1 := by omega
  have hhi : ¬ 1 < x := by omega
  have hlo' : decide (x < -1) = false := by simpa using hlo
  have hhi' : decide (1 < x) = false := by simpa using hhi
  go_wp2_with fail
  refine (compare_of B A d c m n lb la HM.out HN.out (-x) HXf.out _ (HRb.out.on hb9) (HRa.out.on hb9)).mono ?_
  rintro e w10 ⟨rfl, hw10⟩
  have hb10 := below_on hb9 hw10
  clear hw10 hb9
  by_cases hxle : x ≤ 0
  · by_cases hyle : y ≤ 0
    · have hzle := HXZ.out hxle hyle
      have hz0 : ¬ 0 < z := by omega
      have hzb : decide (0 < z) = false := by simpa using hz0
      go_wp2_with fail
      refine (compare_of A C c f n k la lc HN.out HK.out z HZ.out _ (HRa.out.on hb10) (HRc.out.on hb10)).mono ?_
      rintro e w11 ⟨rfl, hw11⟩
      have hb11 := below_on hb10 hw11
      by_cases hx0 : x = 0
      · have hS : Hid (decide (la = lb) = true) := Lib.hid (by simpa using HE.out.1 hx0)
        have hxe : (x == 0) = true := by simpa using hx0
        clear hx0
        go_wp2_with fail
        refine (same_of A B c d n m la lb HN.out HM.out true hS.out _ (HRa.out.on hb11) (HRb.out.on hb11)).mono ?_
        rintro e w12 ⟨rfl, hw12⟩
        have hb12 := below_on hb11 hw12
        go_wp2_with fail
        refine (compare_of A A c c n n la la HN.out HN.out 0 HSelf.out _ (HRa.out.on hb12) (HRa.out.on hb12)).mono ?_
        rintro e w13 ⟨rfl, hw13⟩
        go_wp2_with fail
        go_ret
        exact ⟨rfl, below_on hb12 hw13⟩
      · have hS : Hid (decide (la = lb) = false) := Lib.hid (by simpa using fun h => hx0 (HE.out.2 h))
        have hxe : (x == 0) = false := by simpa using hx0
        clear hx0
        go_wp2_with fail
        refine (same_of A B c d n m la lb HN.out HM.out false hS.out _ (HRa.out.on hb11) (HRb.out.on hb11)).mono ?_
        rintro e w12 ⟨rfl, hw12⟩
        have hb12 := below_on hb11 hw12
        go_wp2_with fail
        refine (compare_of A A c c n n la la HN.out HN.out 0 HSelf.out _ (HRa.out.on hb12) (HRa.out.on hb12)).mono ?_
        rintro e w13 ⟨rfl, hw13⟩
        go_wp2_with fail
        go_ret
        exact ⟨rfl, below_on hb12 hw13⟩
    · have hyb : decide (y ≤ 0) = false := by simpa using hyle
      by_cases hx0 : x = 0
      · have hS : Hid (decide (la = lb) = true) := Lib.hid (by simpa using HE.out.1 hx0)
        have hxe : (x == 0) = true := by simpa using hx0
        clear hx0
        go_wp2_with fail
        refine (same_of A B c d n m la lb HN.out HM.out true hS.out _ (HRa.out.on hb10) (HRb.out.on hb10)).mono ?_
        rintro e w12 ⟨rfl, hw12⟩
        have hb12 := below_on hb10 hw12
        go_wp2_with fail
        refine (compare_of A A c c n n la la HN.out HN.out 0 HSelf.out _ (HRa.out.on hb12) (HRa.out.on hb12)).mono ?_
        rintro e w13 ⟨rfl, hw13⟩
        go_wp2_with fail
        go_ret
        exact ⟨rfl, below_on hb12 hw13⟩
      · have hS : Hid (decide (la = lb) = false) := Lib.hid (by simpa using fun h => hx0 (HE.out.2 h))
        have hxe : (x == 0) = false := by simpa using hx0
        clear hx0
        go_wp2_with fail
        refine (same_of A B c d n m la lb HN.out HM.out false hS.out _ (HRa.out.on hb10) (HRb.out.on hb10)).mono ?_
        rintro e w12 ⟨rfl, hw12⟩
        have hb12 := below_on hb10 hw12
        go_wp2_with fail
        refine (compare_of A A c c n n la la HN.out HN.out 0 HSelf.out _ (HRa.out.on hb12) (HRa.out.on hb12)).mono ?_
        rintro e w13 ⟨rfl, hw13⟩
        go_wp2_with fail
        go_ret
        exact ⟨rfl, below_on hb12 hw13⟩
  · have hxb : decide (x ≤ 0) = false := by simpa using hxle
    by_cases hx0 : x = 0
    · have hS : Hid (decide (la = lb) = true) := Lib.hid (by simpa using HE.out.1 hx0)
      have hxe : (x == 0) = true := by simpa using hx0
      clear hx0
      go_wp2_with fail
      refine (same_of A B c d n m la lb HN.out HM.out true hS.out _ (HRa.out.on hb10) (HRb.out.on hb10)).mono ?_
      rintro e w12 ⟨rfl, hw12⟩
      have hb12 := below_on hb10 hw12
      go_wp2_with fail
      refine (compare_of A A c c n n la la HN.out HN.out 0 HSelf.out _ (HRa.out.on hb12) (HRa.out.on hb12)).mono ?_
      rintro e w13 ⟨rfl, hw13⟩
      go_wp2_with fail
      go_ret
      exact ⟨rfl, below_on hb12 hw13⟩
    · have hS : Hid (decide (la = lb) = false) := Lib.hid (by simpa using fun h => hx0 (HE.out.2 h))
      have hxe : (x == 0) = false := by simpa using hx0
      clear hx0
      go_wp2_with fail
      refine (same_of A B c d n m la lb HN.out HM.out false hS.out _ (HRa.out.on hb10) (HRb.out.on hb10)).mono ?_
      rintro e w12 ⟨rfl, hw12⟩
      have hb12 := below_on hb10 hw12
      go_wp2_with fail
      refine (compare_of A A c c n n la la HN.out HN.out 0 HSelf.out _ (HRa.out.on hb12) (HRa.out.on hb12)).mono ?_
      rintro e w13 ⟨rfl, hw13⟩
      go_wp2_with fail
      go_ret
      exact ⟨rfl, below_on hb12 hw13⟩
end Go.Proofs.Ythknoanhljonoaa

/-
  The walk of layer label's law LabelWith: it answers true.
-/
import Derived.Test.YthknoanhljonoaaLabAs
namespace Go.Proofs.Ythknoanhljonoaa
open Go.RowKit Go.Proofs.Ythknoanhljonoaa.Lp

set_option maxHeartbeats 6400000 in
set_option maxRecDepth 100000 in
theorem labelWith_any (A : Option Addr) (c n : Nat) (la : List Pr) (nm v ot : ByteArray) (w : World)
    (hn : n = la.length) (hra : Rd w w.heap.size A la) (hnm : nm.size ≤ 9223372036854775807) (hv : v.size ≤ 9223372036854775807) (hot : ot.size ≤ 9223372036854775807) :
    Calls Try.prog 5 #[.slice A n c, .string nm, .string v, .string ot] w fun e w' => e = .returned (.bool true) ∧ Below w.heap.size w w' := by
  have HN := Lib.hid hn
  have HRa := Lib.hid hra
  clear hn hra
  go_enter Try.func5, Try.ntmps5
  go_wp2_with fail
  refine (awake_any _).mono ?_
  rintro e w1 ⟨rfl, hw1⟩
  go_wp2_with fail
  refine (few_of A c n la HN.out _ (HRa.out.on hw1)).mono ?_
  rintro e w2 ⟨b1, rfl, hb1, hw2⟩
  have hb2 := below_on hw1 hw2
  clear hb1 hw2
  cases b1 with
  | false =>
    go_wp2_with fail
    go_ret
    exact ⟨rfl, hb2⟩
  | true =>
  by_cases h1 : 1000 < nm.size
  · have hz : decide ((1000 : Int) < (nm.size : Int)) = true := by simp; omega
    go_wp2_with fail
    go_ret
    exact ⟨rfl, hb2⟩
  have hz1 : decide ((1000 : Int) < (nm.size : Int)) = false := by simp; omega
  by_cases h2 : 1000 < v.size
  · have hz : decide ((1000 : Int) < (v.size : Int)) = true := by simp; omega
    go_wp2_with fail
    go_ret
    exact ⟨rfl, hb2⟩
  have hz2 : decide ((1000 : Int) < (v.size : Int)) = false := by simp; omega
  by_cases h3 : 1000 < ot.size
  · have hz : decide ((1000 : Int) < (ot.size : Int)) = true := by simp; omega
    go_wp2_with fail
    go_ret
    exact ⟨rfl, hb2⟩
  have hz3 : decide ((1000 : Int) < (ot.size : Int)) = false := by simp; omega
  obtain ⟨sa, hsa⟩ : ∃ s, saneB la = s := ⟨_, rfl⟩
  have HSa := Lib.hid hsa
  clear hsa
  go_wp2_with fail
  refine (sane_of A c n la HN.out sa HSa.out _ (HRa.out.on hb2)).mono ?_
  rintro e w5 ⟨rfl, hw5⟩
  have hb5 := below_on hb2 hw5
  clear hw5
  cases sa with
  | false =>
    go_wp2_with fail
    go_ret
    exact ⟨rfl, hb5⟩
  | true =>
  clear hb2 hw1
  have hn16 : n ≤ 16 := by rw [HN.out]; exact sane_len HSa.out
  obtain ⟨x, hx⟩ : ∃ x, makeS (withP la nm v) = x := ⟨_, rfl⟩
  obtain ⟨z, hz⟩ : ∃ z, wrong (withP la nm v) = z := ⟨_, rfl⟩
  obtain ⟨y, hy⟩ : ∃ y, without la nm = y := ⟨_, rfl⟩
  obtain ⟨j, hj⟩ : ∃ j, y.length = j := ⟨_, rfl⟩
  have HX := Lib.hid hx
  have HZ := Lib.hid hz
  have HY := Lib.hid hy
  have HJ := Lib.hid hj
  clear hx hz hy hj
  by_cases hz0 : z = 0
  · subst hz0
    have HK : Hid (j + 1 = x.length) := Lib.hid (by rw [← HX.out, with_len HSa.out HZ.out, HY.out, HJ.out])
    have hj16 : j ≤ 16 := by rw [← HJ.out, ← HY.out]; exact without_len _ _
    have HSx : Hid (saneB x = true) := Lib.hid (by rw [← HX.out]; exact make_sane HZ.out)
    have HSy : Hid (saneB y = true) := Lib.hid (by rw [← HY.out]; exact without_sane HSa.out nm)
    have HWx : Hid (without x nm = y) := Lib.hid (by rw [← HX.out, with_without HSa.out HZ.out, HY.out])
    have HGn : Hid (getS (asL x) nm = some v) := Lib.hid (by rw [asL_sane HSx.out, ← HX.out, with_got HSa.out HZ.out, if_pos rfl])
    obtain ⟨oa, hoa⟩ : ∃ o, getS la ot = o := ⟨_, rfl⟩
    have HGa : Hid (getS (asL la) ot = oa) := Lib.hid (by rw [asL_sane HSa.out, hoa])
    have HGx : Hid (getS (asL x) ot = if ot = nm then some v else oa) := Lib.hid (by rw [asL_sane HSx.out, ← HX.out, with_got HSa.out HZ.out, hoa])
    have HGy : Hid (getS (asL y) ot = if ot = nm then none else oa) := Lib.hid (by rw [asL_sane HSy.out, ← HY.out, without_got HSa.out, hoa])
    clear hoa
    go_wp2_with fail
    refine (with_as A c n la HN.out nm v hnm hv x (j + 1) 0 HZ.out HX.out HK.out _ (HRa.out.on hb5)).mono ?_
    rintro e w6 ⟨A6, c6, rfl, HR6, hw6⟩
    have hb6 := below_on hb5 hw6
    clear hb5
    go_wp2_with fail
    refine (get_of A6 c6 (j + 1) x HK.out nm (some v) HGn.out _ HR6.out).mono ?_
    rintro e w7 ⟨he, hw7⟩
    subst he
    unfold gotV
    have hb7 := below_on hb6 hw7
    have HR7 := Lib.hid (HR6.out.on hw7)
    clear hb6 hw6 hw7 HR6
    by_cases heq : ot = nm
    · have HGx' : Hid (getS (asL x) ot = some v) := Lib.hid (by rw [HGx.out, if_pos heq])
      have HGy' : Hid (getS (asL y) ot = none) := Lib.hid (by rw [HGy.out, if_pos heq])
      clear HGx HGy
      have het : ot.toList = nm.toList := by rw [heq]
      clear heq
      cases oa with
      | none =>
        go_wp2_with fail
        refine (get_of A c n la HN.out ot none HGa.out _ (HRa.out.on hb7)).mono ?_
        rintro e w8 ⟨he, hw8⟩
        subst he
        unfold gotV
        have hb8 := below_on hb7 hw8
        have HR8 := Lib.hid (HR7.out.on hw8)
        clear hb7 HR7 hw8
        go_wp2_with fail
        refine (get_of A6 c6 (j + 1) x HK.out ot (some v) HGx'.out _ HR8.out).mono ?_
        rintro e w9 ⟨he, hw9⟩
        subst he
        unfold gotV
        have hb9 := below_on hb8 hw9
        have HR9 := Lib.hid (HR8.out.on hw9)
        clear hb8 HR8 hw9
        go_wp2_with fail
        refine (without_as A6 c6 (j + 1) x HK.out nm hnm y j HWx.out HJ.out.symm _ HR9.out).mono ?_
        rintro e w10 ⟨A10, c10, rfl, HR10, hw10⟩
        have hb10 := below_on hb9 hw10
        have HRx := Lib.hid (HR9.out.on hw10)
        clear hb9 HR9 hw10
        go_wp2_with fail
        refine (get_of A10 c10 j y HJ.out.symm ot none HGy'.out _ HR10.out).mono ?_
        rintro e w11 ⟨he, hw11⟩
        subst he
        unfold gotV
        have hb11 := below_on hb10 hw11
        have HRx' := Lib.hid (HRx.out.on hw11)
        have HRy := Lib.hid (HR10.out.on hw11)
        clear hb10 HR10 HRx hw11
        go_wp2_with fail
        refine (sane_of A6 c6 (j + 1) x HK.out true HSx.out _ HRx'.out).mono ?_
        rintro e w12 ⟨rfl, hw12⟩
        have hb12 := below_on hb11 hw12
        have HRy' := Lib.hid (HRy.out.on hw12)
        go_wp2_with fail
        refine (sane_of A10 c10 j y HJ.out.symm true HSy.out _ HRy'.out).mono ?_
        rintro e w13 ⟨rfl, hw13⟩
        have hb13 := below_on hb12 hw13
        have HRy2 := Lib.hid (HRy'.out.on hw13)
        clear HRy' HRy
        go_wp2_with fail
        refine (without_as A c n la HN.out nm hnm y j HY.out HJ.out.symm _ (HRa.out.on hb13)).mono ?_
        rintro e w14 ⟨A14, c14, rfl, HR14, hw14⟩
        have hb14 := below_on hb13 hw14
        go_wp2_with fail
        refine (same_yes A10 A14 c10 c14 j j y HJ.out.symm HJ.out.symm _ (HRy2.out.on hw14) HR14.out).mono ?_
        rintro e w15 ⟨rfl, hw15⟩
        go_wp2_with fail
        go_ret
        exact ⟨rfl, below_on hb14 hw15⟩
      | some u =>
        go_wp2_with fail
        refine (get_of A c n la HN.out ot (some u) HGa.out _ (HRa.out.on hb7)).mono ?_
        rintro e w8 ⟨he, hw8⟩
        subst he
        unfold gotV
        have hb8 := below_on hb7 hw8
        have HR8 := Lib.hid (HR7.out.on hw8)
        clear hb7 HR7 hw8
        go_wp2_with fail
        refine (get_of A6 c6 (j + 1) x HK.out ot (some v) HGx'.out _ HR8.out).mono ?_
        rintro e w9 ⟨he, hw9⟩
        subst he
        unfold gotV
        have hb9 := below_on hb8 hw9
        have HR9 := Lib.hid (HR8.out.on hw9)
        clear hb8 HR8 hw9
        go_wp2_with fail
        refine (without_as A6 c6 (j + 1) x HK.out nm hnm y j HWx.out HJ.out.symm _ HR9.out).mono ?_
        rintro e w10 ⟨A10, c10, rfl, HR10, hw10⟩
        have hb10 := below_on hb9 hw10
        have HRx := Lib.hid (HR9.out.on hw10)
        clear hb9 HR9 hw10
        go_wp2_with fail
        refine (get_of A10 c10 j y HJ.out.symm ot none HGy'.out _ HR10.out).mono ?_
        rintro e w11 ⟨he, hw11⟩
        subst he
        unfold gotV
        have hb11 := below_on hb10 hw11
        have HRx' := Lib.hid (HRx.out.on hw11)
        have HRy := Lib.hid (HR10.out.on hw11)
        clear hb10 HR10 HRx hw11
        go_wp2_with fail
        refine (sane_of A6 c6 (j + 1) x HK.out true HSx.out _ HRx'.out).mono ?_
        rintro e w12 ⟨rfl, hw12⟩
        have hb12 := below_on hb11 hw12
        have HRy' := Lib.hid (HRy.out.on hw12)
        go_wp2_with fail
        refine (sane_of A10 c10 j y HJ.out.symm true HSy.out _ HRy'.out).mono ?_
        rintro e w13 ⟨rfl, hw13⟩
        have hb13 := below_on hb12 hw13
        have HRy2 := Lib.hid (HRy'.out.on hw13)
        clear HRy' HRy
        go_wp2_with fail
        refine (without_as A c n la HN.out nm hnm y j HY.out HJ.out.symm _ (HRa.out.on hb13)).mono ?_
        rintro e w14 ⟨A14, c14, rfl, HR14, hw14⟩
        have hb14 := below_on hb13 hw14
        go_wp2_with fail
        refine (same_yes A10 A14 c10 c14 j j y HJ.out.symm HJ.out.symm _ (HRy2.out.on hw14) HR14.out).mono ?_
        rintro e w15 ⟨rfl, hw15⟩
        go_wp2_with fail
        go_ret
        exact ⟨rfl, below_on hb14 hw15⟩
    · have hne := beq_no heq
      cases oa with
      | none =>
        have HGx' : Hid (getS (asL x) ot = none) := Lib.hid (by rw [HGx.out, if_neg heq])
        have HGy' : Hid (getS (asL y) ot = none) := Lib.hid (by rw [HGy.out, if_neg heq])
        clear HGx HGy heq
        go_wp2_with fail
        refine (get_of A c n la HN.out ot none HGa.out _ (HRa.out.on hb7)).mono ?_
        rintro e w8 ⟨he, hw8⟩
        subst he
        unfold gotV
        have hb8 := below_on hb7 hw8
        have HR8 := Lib.hid (HR7.out.on hw8)
        clear hb7 HR7 hw8
        go_wp2_with fail
        refine (get_of A6 c6 (j + 1) x HK.out ot none HGx'.out _ HR8.out).mono ?_
        rintro e w9 ⟨he, hw9⟩
        subst he
        unfold gotV
        have hb9 := below_on hb8 hw9
        have HR9 := Lib.hid (HR8.out.on hw9)
        clear hb8 HR8 hw9
        go_wp2_with fail
        refine (without_as A6 c6 (j + 1) x HK.out nm hnm y j HWx.out HJ.out.symm _ HR9.out).mono ?_
        rintro e w10 ⟨A10, c10, rfl, HR10, hw10⟩
        have hb10 := below_on hb9 hw10
        have HRx := Lib.hid (HR9.out.on hw10)
        clear hb9 HR9 hw10
        go_wp2_with fail
        refine (get_of A10 c10 j y HJ.out.symm ot none HGy'.out _ HR10.out).mono ?_
        rintro e w11 ⟨he, hw11⟩
        subst he
        unfold gotV
        have hb11 := below_on hb10 hw11
        have HRx' := Lib.hid (HRx.out.on hw11)
        have HRy := Lib.hid (HR10.out.on hw11)
        clear hb10 HR10 HRx hw11
        go_wp2_with fail
        refine (sane_of A6 c6 (j + 1) x HK.out true HSx.out _ HRx'.out).mono ?_
        rintro e w12 ⟨rfl, hw12⟩
        have hb12 := below_on hb11 hw12
        have HRy' := Lib.hid (HRy.out.on hw12)
        go_wp2_with fail
        refine (sane_of A10 c10 j y HJ.out.symm true HSy.out _ HRy'.out).mono ?_
        rintro e w13 ⟨rfl, hw13⟩
        have hb13 := below_on hb12 hw13
        have HRy2 := Lib.hid (HRy'.out.on hw13)
        clear HRy' HRy
        go_wp2_with fail
        refine (without_as A c n la HN.out nm hnm y j HY.out HJ.out.symm _ (HRa.out.on hb13)).mono ?_
        rintro e w14 ⟨A14, c14, rfl, HR14, hw14⟩
        have hb14 := below_on hb13 hw14
        go_wp2_with fail
        refine (same_yes A10 A14 c10 c14 j j y HJ.out.symm HJ.out.symm _ (HRy2.out.on hw14) HR14.out).mono ?_
        rintro e w15 ⟨rfl, hw15⟩
        go_wp2_with fail
        go_ret
        exact ⟨rfl, below_on hb14 hw15⟩
      | some u =>
        have HGx' : Hid (getS (asL x) ot = some u) := Lib.hid (by rw [HGx.out, if_neg heq])
        have HGy' : Hid (getS (asL y) ot = some u) := Lib.hid (by rw [HGy.out, if_neg heq])
        clear HGx HGy heq
        go_wp2_with fail
        refine (get_of A c n la HN.out ot (some u) HGa.out _ (HRa.out.on hb7)).mono ?_
        rintro e w8 ⟨he, hw8⟩
        subst he
        unfold gotV
        have hb8 := below_on hb7 hw8
        have HR8 := Lib.hid (HR7.out.on hw8)
        clear hb7 HR7 hw8
        go_wp2_with fail
        refine (get_of A6 c6 (j + 1) x HK.out ot (some u) HGx'.out _ HR8.out).mono ?_
        rintro e w9 ⟨he, hw9⟩
        subst he
        unfold gotV
        have hb9 := below_on hb8 hw9
        have HR9 := Lib.hid (HR8.out.on hw9)
        clear hb8 HR8 hw9
        go_wp2_with fail
        refine (without_as A6 c6 (j + 1) x HK.out nm hnm y j HWx.out HJ.out.symm _ HR9.out).mono ?_
        rintro e w10 ⟨A10, c10, rfl, HR10, hw10⟩
        have hb10 := below_on hb9 hw10
        have HRx := Lib.hid (HR9.out.on hw10)
        clear hb9 HR9 hw10
        go_wp2_with fail
        refine (get_of A10 c10 j y HJ.out.symm ot (some u) HGy'.out _ HR10.out).mono ?_
        rintro e w11 ⟨he, hw11⟩
        subst he
        unfold gotV
        have hb11 := below_on hb10 hw11
        have HRx' := Lib.hid (HRx.out.on hw11)
        have HRy := Lib.hid (HR10.out.on hw11)
        clear hb10 HR10 HRx hw11
        go_wp2_with fail
        refine (sane_of A6 c6 (j + 1) x HK.out true HSx.out _ HRx'.out).mono ?_
        rintro e w12 ⟨rfl, hw12⟩
        have hb12 := below_on hb11 hw12
        have HRy' := Lib.hid (HRy.out.on hw12)
        go_wp2_with fail
        refine (sane_of A10 c10 j y HJ.out.symm true HSy.out _ HRy'.out).mono ?_
        rintro e w13 ⟨rfl, hw13⟩
        have hb13 := below_on hb12 hw13
        have HRy2 := Lib.hid (HRy'.out.on hw13)
        clear HRy' HRy
        go_wp2_with fail
        refine (without_as A c n la HN.out nm hnm y j HY.out HJ.out.symm _ (HRa.out.on hb13)).mono ?_
        rintro e w14 ⟨A14, c14, rfl, HR14, hw14⟩
        have hb14 := below_on hb13 hw14
        go_wp2_with fail
        refine (same_yes A10 A14 c10 c14 j j y HJ.out.symm HJ.out.symm _ (HRy2.out.on hw14) HR14.out).mono ?_
        rintro e w15 ⟨rfl, hw15⟩
        go_wp2_with fail
        go_ret
        exact ⟨rfl, below_on hb14 hw15⟩
  · have hw0 := with_wrong HSa.out (n := nm) (v := v) (by rw [HZ.out]; exact hz0)
    have hx0 : x = [] := by rw [← HX.out]; exact make_no (by rw [HZ.out]; exact hz0)
    subst hx0
    have hne : (z == 0) = false := by simpa using hz0
    have hne' : (z != 0) = true := by simpa using hz0
    clear hz0
    go_wp2_with fail
    refine (with_as A c n la HN.out nm v hnm hv [] 0 z HZ.out HX.out rfl _ (HRa.out.on hb5)).mono ?_
    rintro e w6 ⟨A6, c6, rfl, HR6, hw6⟩
    have hb6 := below_on hb5 hw6
    obtain ⟨s, hs⟩ : ∃ s, nameB nm = s := ⟨_, rfl⟩
    have HSn := Lib.hid hs
    rw [hs, ← HN.out] at hw0
    clear hs
    go_wp2_with fail
    refine (name_of nm s HSn.out _).mono ?_
    rintro e w7 ⟨rfl, rfl⟩
    cases s with
    | false =>
      clear hw0
      go_wp2_with fail
      go_ret
      exact ⟨rfl, hb6⟩
    | true =>
      by_cases h64 : 64 < v.size
      · have hv64 : decide ((64 : Int) < (v.size : Int)) = true := by simp; omega
        clear hw0
        go_wp2_with fail
        go_ret
        exact ⟨rfl, hb6⟩
      · have hv64 : decide ((64 : Int) < (v.size : Int)) = false := by simp; omega
        have hn16' : n = 16 := by
          rcases hw0 with h | h | h
          · cases h
          · omega
          · exact h
        have hn16b : ((n : Int) == 16) = true := by rw [hn16']; rfl
        clear hw0 hn16'
        go_wp2_with fail
        go_ret
        exact ⟨rfl, hb6⟩
end Go.Proofs.Ythknoanhljonoaa

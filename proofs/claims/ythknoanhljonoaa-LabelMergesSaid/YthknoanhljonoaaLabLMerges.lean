/-
  The walk of layer label's law LabelMerges: it answers true.
-/
import Derived.Test.YthknoanhljonoaaLabAs
namespace Go.Proofs.Ythknoanhljonoaa
open Go.RowKit Go.Proofs.Ythknoanhljonoaa.Lp

theorem eq_bool {a b : Bool} (h : a = b) : (a == b) = true := by simp [h]
set_option maxHeartbeats 6400000 in
theorem labelMerges_any (A : Option Addr) (c n : Nat) (la : List Pr) (B : Option Addr) (d m : Nat) (lb : List Pr) (nm : ByteArray) (w : World)
    (hn : n = la.length) (hra : Rd w w.heap.size A la) (hm : m = lb.length) (hrb : Rd w w.heap.size B lb) (hnm : nm.size ≤ 9223372036854775807) :
    Calls Try.prog 7 #[.slice A n c, .slice B m d, .string nm] w fun e w' => e = .returned (.bool true) ∧ Below w.heap.size w w' := by
  have HN := Lib.hid hn
  have HM := Lib.hid hm
  have HRa := Lib.hid hra
  have HRb := Lib.hid hrb
  clear hn hm hra hrb
  go_enter Try.func7, Try.ntmps7
  go_wp2_with fail
  refine (awake_any _).mono ?_
  rintro e w1 ⟨rfl, hw1⟩
  go_wp2_with fail
  refine (few_of A c n la HN.out _ (HRa.out.on hw1)).mono ?_
  rintro e w2 ⟨b1, rfl, hb1, hw2⟩
  have hb2 := below_on hw1 hw2
  clear hb1 hw2
  cases b1 with
  | false =>
    go_wp2_with fail
    go_ret
    exact ⟨rfl, hb2⟩
  | true =>
  go_wp2_with fail
  refine (few_of B d m lb HM.out _ (HRb.out.on hb2)).mono ?_
  rintro e w3 ⟨b1, rfl, hb1, hw3⟩
  have hb3 := below_on hb2 hw3
  clear hb1 hw3
  cases b1 with
  | false =>
    go_wp2_with fail
    go_ret
    exact ⟨rfl, hb3⟩
  | true =>
  by_cases h1000 : 1000 < nm.size
  · have hz : decide ((1000 : Int) < (nm.size : Int)) = true := by simp; omega
    go_wp2_with fail
    go_ret
    exact ⟨rfl, hb3⟩
  have hz1000 : decide ((1000 : Int) < (nm.size : Int)) = false := by simp; omega
  obtain ⟨sa, hsa⟩ : ∃ s, saneB la = s := ⟨_, rfl⟩
  have HSa := Lib.hid hsa
  clear hsa
  go_wp2_with fail
  refine (sane_of A c n la HN.out sa HSa.out _ (HRa.out.on hb3)).mono ?_
  rintro e w5 ⟨rfl, hw5⟩
  have hb5 := below_on hb3 hw5
  clear hw5
  cases sa with
  | false =>
    go_wp2_with fail
    go_ret
    exact ⟨rfl, hb5⟩
  | true =>
  obtain ⟨sb, hsb⟩ : ∃ s, saneB lb = s := ⟨_, rfl⟩
  have HSb := Lib.hid hsb
  clear hsb
  go_wp2_with fail
  refine (sane_of B d m lb HM.out sb HSb.out _ (HRb.out.on hb5)).mono ?_
  rintro e w6 ⟨rfl, hw6⟩
  have hb6 := below_on hb5 hw6
  clear hw6
  cases sb with
  | false =>
    go_wp2_with fail
    go_ret
    exact ⟨rfl, hb6⟩
  | true =>
  clear hb2 hb3 hb5 hw1
  have hn16 : n ≤ 16 := by rw [HN.out]; exact sane_len HSa.out
  have hm16 : m ≤ 16 := by rw [HM.out]; exact sane_len HSb.out
  obtain ⟨x, hx⟩ : ∃ x, makeS (merge la lb) = x := ⟨_, rfl⟩
  obtain ⟨k, hk⟩ : ∃ k, x.length = k := ⟨_, rfl⟩
  obtain ⟨z, hz⟩ : ∃ z, wrong (merge la lb) = z := ⟨_, rfl⟩
  have HX := Lib.hid hx
  have HK := Lib.hid hk
  have HZ := Lib.hid hz
  clear hx hk hz
  go_wp2_with fail
  refine (merge_as A B c d n m la lb HN.out HM.out x k z HZ.out HX.out HK.out.symm _ (HRa.out.on hb6) (HRb.out.on hb6)).mono ?_
  rintro e w7 ⟨A7, c7, rfl, HR7, hw7⟩
  have hb7 := below_on hb6 hw7
  go_wp2_with fail
  refine (merge_as A none c 0 n 0 la [] HN.out rfl la n 0 (merge_none HSa.out).1 (merge_none HSa.out).2 HN.out _ (HRa.out.on hb7) (Rd.none_ _ _ _)).mono ?_
  rintro e w8 ⟨A8, c8, rfl, HR8, hw8⟩
  have hb8 := below_on hb7 hw8
  clear hb6 hw7
  by_cases hz0 : z = 0
  · subst hz0
    have hxl : k ≤ 16 := by
      rw [← HK.out, ← HX.out]
      exact sane_len (make_sane HZ.out)
    obtain ⟨oa, hoa⟩ : ∃ o, getS la nm = o := ⟨_, rfl⟩
    obtain ⟨ob, hob⟩ : ∃ o, getS lb nm = o := ⟨_, rfl⟩
    have HSx : Hid (saneB x = true) := Lib.hid (by rw [← HX.out]; exact make_sane HZ.out)
    have HGa : Hid (getS (asL la) nm = oa) := Lib.hid (by rw [asL_sane HSa.out, hoa])
    have HGb : Hid (getS (asL lb) nm = ob) := Lib.hid (by rw [asL_sane HSb.out, hob])
    have HGx : Hid (getS (asL x) nm = ob.or oa) := Lib.hid (by rw [asL_sane HSx.out, ← HX.out, merge_got HSa.out HSb.out HZ.out, hoa, hob])
    have HM2 := Lib.hid (merge_twice HSa.out HSb.out HZ.out)
    rw [HX.out] at HM2
    clear hoa hob
    have hb78 : Below w7.heap.size w7 w8 := hw8
    cases oa with
    | none =>
      cases ob with
      | none =>
        go_wp2_with fail
        refine (get_of A7 c7 k x HK.out.symm nm none HGx.out _ (HR7.out.on hb78)).mono ?_
        rintro e w9 ⟨he, hw9⟩
        subst he
        unfold gotV
        have hb9 := below_on hb8 hw9
        have hb79 := below_on hb78 hw9
        have HR9 := Lib.hid (HR8.out.on hw9)
        clear hb8 hb78
        go_wp2_with fail
        refine (get_of A c n la HN.out nm none HGa.out _ (HRa.out.on hb9)).mono ?_
        rintro e w10 ⟨he, hw10⟩
        subst he
        unfold gotV
        have hb10 := below_on hb9 hw10
        have hb710 := below_on hb79 hw10
        have HR10 := Lib.hid (HR9.out.on hw10)
        clear hb9 hb79 HR9
        go_wp2_with fail
        refine (get_of B d m lb HM.out nm none HGb.out _ (HRb.out.on hb10)).mono ?_
        rintro e w11 ⟨he, hw11⟩
        subst he
        unfold gotV
        have hb11 := below_on hb10 hw11
        have hb711 := below_on hb710 hw11
        have HR11 := Lib.hid (HR10.out.on hw11)
        clear hb10 hb710 HR10 hw10 hw11 hw9
        go_wp2_with fail
        refine (merge_as A7 B c7 d k m x lb HK.out.symm HM.out x k 0 HM2.out.1 HM2.out.2 HK.out.symm _ (HR7.out.on hb711) (HRb.out.on hb11)).mono ?_
        rintro e w12 ⟨A12, c12, rfl, HR12, hw12⟩
        have hb12 := below_on hb11 hw12
        have hb712 := below_on hb711 hw12
        go_wp2_with fail
        refine (same_yes A8 A c8 c n n la HN.out HN.out _ (HR11.out.on hw12) (HRa.out.on hb12)).mono ?_
        rintro e w13 ⟨rfl, hw13⟩
        have hb13 := below_on hb12 hw13
        have hb713 := below_on hb712 hw13
        go_wp2_with fail
        refine (same_yes A12 A7 c12 c7 k k x HK.out.symm HK.out.symm _ (HR12.out.on hw13) (HR7.out.on hb713)).mono ?_
        rintro e w14 ⟨rfl, hw14⟩
        have hb14 := below_on hb13 hw14
        have hb714 := below_on hb713 hw14
        go_wp2_with fail
        refine (sane_of A7 c7 k x HK.out.symm true HSx.out _ (HR7.out.on hb714)).mono ?_
        rintro e w15 ⟨rfl, hw15⟩
        go_wp2_with fail
        go_ret
        exact ⟨rfl, below_on hb14 hw15⟩
      | some y =>
        go_wp2_with fail
        refine (get_of A7 c7 k x HK.out.symm nm (some y) HGx.out _ (HR7.out.on hb78)).mono ?_
        rintro e w9 ⟨he, hw9⟩
        subst he
        unfold gotV
        have hb9 := below_on hb8 hw9
        have hb79 := below_on hb78 hw9
        have HR9 := Lib.hid (HR8.out.on hw9)
        clear hb8 hb78
        go_wp2_with fail
        refine (get_of A c n la HN.out nm none HGa.out _ (HRa.out.on hb9)).mono ?_
        rintro e w10 ⟨he, hw10⟩
        subst he
        unfold gotV
        have hb10 := below_on hb9 hw10
        have hb710 := below_on hb79 hw10
        have HR10 := Lib.hid (HR9.out.on hw10)
        clear hb9 hb79 HR9
        go_wp2_with fail
        refine (get_of B d m lb HM.out nm (some y) HGb.out _ (HRb.out.on hb10)).mono ?_
        rintro e w11 ⟨he, hw11⟩
        subst he
        unfold gotV
        have hb11 := below_on hb10 hw11
        have hb711 := below_on hb710 hw11
        have HR11 := Lib.hid (HR10.out.on hw11)
        clear hb10 hb710 HR10 hw10 hw11 hw9
        go_wp2_with fail
        refine (merge_as A7 B c7 d k m x lb HK.out.symm HM.out x k 0 HM2.out.1 HM2.out.2 HK.out.symm _ (HR7.out.on hb711) (HRb.out.on hb11)).mono ?_
        rintro e w12 ⟨A12, c12, rfl, HR12, hw12⟩
        have hb12 := below_on hb11 hw12
        have hb712 := below_on hb711 hw12
        go_wp2_with fail
        refine (same_yes A8 A c8 c n n la HN.out HN.out _ (HR11.out.on hw12) (HRa.out.on hb12)).mono ?_
        rintro e w13 ⟨rfl, hw13⟩
        have hb13 := below_on hb12 hw13
        have hb713 := below_on hb712 hw13
        go_wp2_with fail
        refine (same_yes A12 A7 c12 c7 k k x HK.out.symm HK.out.symm _ (HR12.out.on hw13) (HR7.out.on hb713)).mono ?_
        rintro e w14 ⟨rfl, hw14⟩
        have hb14 := below_on hb13 hw14
        have hb714 := below_on hb713 hw14
        go_wp2_with fail
        refine (sane_of A7 c7 k x HK.out.symm true HSx.out _ (HR7.out.on hb714)).mono ?_
        rintro e w15 ⟨rfl, hw15⟩
        go_wp2_with fail
        go_ret
        exact ⟨rfl, below_on hb14 hw15⟩
    | some u =>
      cases ob with
      | none =>
        go_wp2_with fail
        refine (get_of A7 c7 k x HK.out.symm nm (some u) HGx.out _ (HR7.out.on hb78)).mono ?_
        rintro e w9 ⟨he, hw9⟩
        subst he
        unfold gotV
        have hb9 := below_on hb8 hw9
        have hb79 := below_on hb78 hw9
        have HR9 := Lib.hid (HR8.out.on hw9)
        clear hb8 hb78
        go_wp2_with fail
        refine (get_of A c n la HN.out nm (some u) HGa.out _ (HRa.out.on hb9)).mono ?_
        rintro e w10 ⟨he, hw10⟩
        subst he
        unfold gotV
        have hb10 := below_on hb9 hw10
        have hb710 := below_on hb79 hw10
        have HR10 := Lib.hid (HR9.out.on hw10)
        clear hb9 hb79 HR9
        go_wp2_with fail
        refine (get_of B d m lb HM.out nm none HGb.out _ (HRb.out.on hb10)).mono ?_
        rintro e w11 ⟨he, hw11⟩
        subst he
        unfold gotV
        have hb11 := below_on hb10 hw11
        have hb711 := below_on hb710 hw11
        have HR11 := Lib.hid (HR10.out.on hw11)
        clear hb10 hb710 HR10 hw10 hw11 hw9
        go_wp2_with fail
        refine (merge_as A7 B c7 d k m x lb HK.out.symm HM.out x k 0 HM2.out.1 HM2.out.2 HK.out.symm _ (HR7.out.on hb711) (HRb.out.on hb11)).mono ?_
        rintro e w12 ⟨A12, c12, rfl, HR12, hw12⟩
        have hb12 := below_on hb11 hw12
        have hb712 := below_on hb711 hw12
        go_wp2_with fail
        refine (same_yes A8 A c8 c n n la HN.out HN.out _ (HR11.out.on hw12) (HRa.out.on hb12)).mono ?_
        rintro e w13 ⟨rfl, hw13⟩
        have hb13 := below_on hb12 hw13
        have hb713 := below_on hb712 hw13
        go_wp2_with fail
        refine (same_yes A12 A7 c12 c7 k k x HK.out.symm HK.out.symm _ (HR12.out.on hw13) (HR7.out.on hb713)).mono ?_
        rintro e w14 ⟨rfl, hw14⟩
        have hb14 := below_on hb13 hw14
        have hb714 := below_on hb713 hw14
        go_wp2_with fail
        refine (sane_of A7 c7 k x HK.out.symm true HSx.out _ (HR7.out.on hb714)).mono ?_
        rintro e w15 ⟨rfl, hw15⟩
        go_wp2_with fail
        go_ret
        exact ⟨rfl, below_on hb14 hw15⟩
      | some y =>
        go_wp2_with fail
        refine (get_of A7 c7 k x HK.out.symm nm (some y) HGx.out _ (HR7.out.on hb78)).mono ?_
        rintro e w9 ⟨he, hw9⟩
        subst he
        unfold gotV
        have hb9 := below_on hb8 hw9
        have hb79 := below_on hb78 hw9
        have HR9 := Lib.hid (HR8.out.on hw9)
        clear hb8 hb78
        go_wp2_with fail
        refine (get_of A c n la HN.out nm (some u) HGa.out _ (HRa.out.on hb9)).mono ?_
        rintro e w10 ⟨he, hw10⟩
        subst he
        unfold gotV
        have hb10 := below_on hb9 hw10
        have hb710 := below_on hb79 hw10
        have HR10 := Lib.hid (HR9.out.on hw10)
        clear hb9 hb79 HR9
        go_wp2_with fail
        refine (get_of B d m lb HM.out nm (some y) HGb.out _ (HRb.out.on hb10)).mono ?_
        rintro e w11 ⟨he, hw11⟩
        subst he
        unfold gotV
        have hb11 := below_on hb10 hw11
        have hb711 := below_on hb710 hw11
        have HR11 := Lib.hid (HR10.out.on hw11)
        clear hb10 hb710 HR10 hw10 hw11 hw9
        go_wp2_with fail
        refine (merge_as A7 B c7 d k m x lb HK.out.symm HM.out x k 0 HM2.out.1 HM2.out.2 HK.out.symm _ (HR7.out.on hb711) (HRb.out.on hb11)).mono ?_
        rintro e w12 ⟨A12, c12, rfl, HR12, hw12⟩
        have hb12 := below_on hb11 hw12
        have hb712 := below_on hb711 hw12
        go_wp2_with fail
        refine (same_yes A8 A c8 c n n la HN.out HN.out _ (HR11.out.on hw12) (HRa.out.on hb12)).mono ?_
        rintro e w13 ⟨rfl, hw13⟩
        have hb13 := below_on hb12 hw13
        have hb713 := below_on hb712 hw13
        go_wp2_with fail
        refine (same_yes A12 A7 c12 c7 k k x HK.out.symm HK.out.symm _ (HR12.out.on hw13) (HR7.out.on hb713)).mono ?_
        rintro e w14 ⟨rfl, hw14⟩
        have hb14 := below_on hb13 hw14
        have hb714 := below_on hb713 hw14
        go_wp2_with fail
        refine (sane_of A7 c7 k x HK.out.symm true HSx.out _ (HR7.out.on hb714)).mono ?_
        rintro e w15 ⟨rfl, hw15⟩
        go_wp2_with fail
        go_ret
        exact ⟨rfl, below_on hb14 hw15⟩
  · have HW := Lib.hid (merge_wrong HSa.out HSb.out (by rw [HZ.out]; exact hz0))
    have hz4 : z = 4 := by rw [← HZ.out]; exact HW.out.1
    subst hz4
    have hx0 : x = [] := by rw [← HX.out]; exact make_no (by rw [HZ.out]; decide)
    subst hx0
    have hk0 : k = 0 := by rw [← HK.out]; rfl
    subst hk0
    have hlen : (16 : Int) < (n : Int) + (m : Int) := by have := HW.out.2; rw [← HN.out, ← HM.out] at this; omega
    clear hz0
    go_wp2_with fail
    go_ret
    exact ⟨rfl, hb8⟩
end Go.Proofs.Ythknoanhljonoaa

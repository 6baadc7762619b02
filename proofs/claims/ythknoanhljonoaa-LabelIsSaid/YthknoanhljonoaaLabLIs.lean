/-
  The walk of layer label's law LabelIs: it answers true.
-/
import Derived.Test.YthknoanhljonoaaLabAs
namespace Go.Proofs.Ythknoanhljonoaa
open Go.RowKit Go.Proofs.Ythknoanhljonoaa.Lp

theorem got_form (o : Option ByteArray) : ∃ (V : ByteArray) (b : Bool), gotV o = .tuple #[.string V, .bool b] := by
  cases o with
  | none => exact ⟨_, _, rfl⟩
  | some V => exact ⟨_, _, rfl⟩

set_option maxHeartbeats 6400000 in
set_option maxRecDepth 100000 in
theorem labelIs_any (A : Option Addr) (c n : Nat) (la : List Pr) (B : Option Addr) (d m : Nat) (lb : List Pr) (nm v : ByteArray) (w : World)
    (hn : n = la.length) (hra : Rd w w.heap.size A la) (hm : m = lb.length) (hrb : Rd w w.heap.size B lb) (hnm : nm.size ≤ 9223372036854775807) (hv : v.size ≤ 9223372036854775807) :
    Calls Try.prog 3 #[.slice A n c, .slice B m d, .string nm, .string v] w fun e w' => e = .returned (.bool true) ∧ Below w.heap.size w w' := by
  have HN := Lib.hid hn
  have HM := Lib.hid hm
  have HRa := Lib.hid hra
  have HRb := Lib.hid hrb
  clear hn hm hra hrb
  go_enter Try.func3, Try.ntmps3
  go_wp2_with fail
  refine (awake_any _).mono ?_
  rintro e w1 ⟨rfl, hw1⟩
  go_wp2_with fail
  refine (few_of A c n la HN.out _ (HRa.out.on hw1)).mono ?_
  rintro e w2 ⟨b1, rfl, hb1, hw2⟩
  have hb2 := below_on hw1 hw2
  clear hb1 hw2
  cases b1 with
  | false =>
    go_wp2_with fail
    go_ret
    exact ⟨rfl, hb2⟩
  | true =>
  go_wp2_with fail
  refine (few_of B d m lb HM.out _ (HRb.out.on hb2)).mono ?_
  rintro e w3 ⟨b1, rfl, hb1, hw3⟩
  have hb3 := below_on hb2 hw3
  clear hb1 hw3
  cases b1 with
  | false =>
    go_wp2_with fail
    go_ret
    exact ⟨rfl, hb3⟩
  | true =>
  by_cases h1 : 1000 < nm.size
  · have hz : decide ((1000 : Int) < (nm.size : Int)) = true := by simp; omega
    go_wp2_with fail
    go_ret
    exact ⟨rfl, hb3⟩
  have hz1 : decide ((1000 : Int) < (nm.size : Int)) = false := by simp; omega
  by_cases h2 : 1000 < v.size
  · have hz : decide ((1000 : Int) < (v.size : Int)) = true := by simp; omega
    go_wp2_with fail
    go_ret
    exact ⟨rfl, hb3⟩
  have hz2 : decide ((1000 : Int) < (v.size : Int)) = false := by simp; omega
  clear hw1 hb2 h1 h2
  obtain ⟨x1, hx1⟩ : ∃ x, makeS la = x := ⟨_, rfl⟩
  obtain ⟨k1, hk1⟩ : ∃ k, x1.length = k := ⟨_, rfl⟩
  obtain ⟨z1, hy1⟩ : ∃ z, wrong la = z := ⟨_, rfl⟩
  obtain ⟨o, ho⟩ : ∃ o, getS (asL la) nm = o := ⟨_, rfl⟩
  obtain ⟨x2, hx2⟩ : ∃ x, makeS (withP la nm v) = x := ⟨_, rfl⟩
  obtain ⟨k2, hk2⟩ : ∃ k, x2.length = k := ⟨_, rfl⟩
  obtain ⟨z2, hy2⟩ : ∃ z, wrong (withP la nm v) = z := ⟨_, rfl⟩
  obtain ⟨x3, hx3⟩ : ∃ x, makeS (merge la lb) = x := ⟨_, rfl⟩
  obtain ⟨k3, hk3⟩ : ∃ k, x3.length = k := ⟨_, rfl⟩
  obtain ⟨z3, hy3⟩ : ∃ z, wrong (merge la lb) = z := ⟨_, rfl⟩
  obtain ⟨x4, hx4⟩ : ∃ x, without la nm = x := ⟨_, rfl⟩
  obtain ⟨k4, hk4⟩ : ∃ k, x4.length = k := ⟨_, rfl⟩
  obtain ⟨s1, hs1⟩ : ∃ s, nameB nm = s := ⟨_, rfl⟩
  obtain ⟨s2, hs2⟩ : ∃ s, saneB la = s := ⟨_, rfl⟩
  obtain ⟨z4, hy4⟩ : ∃ z, cmpL (asL la) (asL lb) = z := ⟨_, rfl⟩
  obtain ⟨V, q, hG⟩ := got_form o
  have X1 := Lib.hid hx1
  have K1 := Lib.hid hk1.symm
  have Y1 := Lib.hid hy1
  have HO := Lib.hid ho
  have X2 := Lib.hid hx2
  have K2 := Lib.hid hk2.symm
  have Y2 := Lib.hid hy2
  have X3 := Lib.hid hx3
  have K3 := Lib.hid hk3.symm
  have Y3 := Lib.hid hy3
  have X4 := Lib.hid hx4
  have K4 := Lib.hid hk4.symm
  have S1 := Lib.hid hs1
  have S2 := Lib.hid hs2
  have Y4 := Lib.hid hy4
  have HG := Lib.hid hG
  clear hx1 hk1 hy1 ho hx2 hk2 hy2 hx3 hk3 hy3 hx4 hk4 hs1 hs2 hy4 hG
  go_wp2_with fail
  refine (make_as A c n la HN.out x1 k1 z1 Y1.out X1.out K1.out _ (HRa.out.on hb3)).mono ?_
  rintro e w4 ⟨A4, c4, rfl, R4, hw4⟩
  have hb4 := below_on hb3 hw4
  clear hb3
  go_wp2_with fail
  refine (rmake_as A c n la HN.out x1 k1 z1 Y1.out X1.out K1.out _ (HRa.out.on hb4)).mono ?_
  rintro e w5 ⟨A5, c5, rfl, R5, hw5⟩
  have hb5 := below_on hb4 hw5
  have hb45 := hw5
  clear hb4
  go_wp2_with fail
  refine (get_of A c n la HN.out nm o HO.out _ (HRa.out.on hb5)).mono ?_
  rintro e w6 ⟨he, hw6⟩
  rw [HG.out] at he
  subst he
  have hb6 := below_on hb5 hw6
  go_wp2_with fail
  refine (rget_of A c n la HN.out nm o HO.out _ (HRa.out.on hb6)).mono ?_
  rintro e w7 ⟨he, hw7⟩
  rw [HG.out] at he
  subst he
  have hb7 := below_on hb6 hw7
  have hb57 := below_on hw6 hw7
  clear hb5 hb6
  go_wp2_with fail
  refine (with_as A c n la HN.out nm v hnm hv x2 k2 z2 Y2.out X2.out K2.out _ (HRa.out.on hb7)).mono ?_
  rintro e w8 ⟨A8, c8, rfl, R8, hw8⟩
  have hb8 := below_on hb7 hw8
  have hb58 := below_on hb57 hw8
  go_wp2_with fail
  refine (rwith_as A c n la HN.out nm v hnm hv x2 k2 z2 Y2.out X2.out K2.out _ (HRa.out.on hb8)).mono ?_
  rintro e w9 ⟨A9, c9, rfl, R9, hw9⟩
  have hb9 := below_on hb8 hw9
  have hb59 := below_on hb58 hw9
  go_wp2_with fail
  refine (merge_as A B c d n m la lb HN.out HM.out x3 k3 z3 Y3.out X3.out K3.out _ (HRa.out.on hb9) (HRb.out.on hb9)).mono ?_
  rintro e w10 ⟨A10, c10, rfl, R10, hw10⟩
  have hb10 := below_on hb9 hw10
  have hb510 := below_on hb59 hw10
  have hb910 := hw10
  clear hb7 hb8 hb9 hb57 hb58 hb59 hw6 hw7
  go_wp2_with fail
  refine (rmerge_as A B c d n m la lb HN.out HM.out x3 k3 z3 Y3.out X3.out K3.out _ (HRa.out.on hb10) (HRb.out.on hb10)).mono ?_
  rintro e w11 ⟨A11, c11, rfl, R11, hw11⟩
  have hb11 := below_on hb10 hw11
  have hb511 := below_on hb510 hw11
  have hb911 := below_on hb910 hw11
  have R8' := Lib.hid (R8.out.on (below_on hw9 hb911))
  have R9' := Lib.hid (R9.out.on hb911)
  have R10' := Lib.hid (R10.out.on hw11)
  have R4' := Lib.hid (R4.out.on (below_on hb45 hb511))
  have R5' := Lib.hid (R5.out.on hb511)
  clear R8 R9 R10 R4 R5 hb10 hb510 hb910 hb45 hw8 hw9 hw10 hw11 hb511 hb911
  go_wp2_with fail
  refine (same_yes A4 A5 c4 c5 k1 k1 x1 K1.out K1.out _ R4'.out R5'.out).mono ?_
  rintro e w12 ⟨rfl, hw12⟩
  have hb12 := below_on hb11 hw12
  have R8 := Lib.hid (R8'.out.on hw12)
  have R9 := Lib.hid (R9'.out.on hw12)
  have R10 := Lib.hid (R10'.out.on hw12)
  have R11' := Lib.hid (R11.out.on hw12)
  clear R8' R9' R10' R11 R4' R5' hb11 hw12
  go_wp2_with fail
  refine (same_yes A8 A9 c8 c9 k2 k2 x2 K2.out K2.out _ R8.out R9.out).mono ?_
  rintro e w13 ⟨rfl, hw13⟩
  have hb13 := below_on hb12 hw13
  go_wp2_with fail
  refine (same_yes A10 A11 c10 c11 k3 k3 x3 K3.out K3.out _ (R10.out.on hw13) (R11'.out.on hw13)).mono ?_
  rintro e w14 ⟨rfl, hw14⟩
  have hb14 := below_on hb13 hw14
  clear R8 R9 R10 R11' hb12 hb13 hw13 hw14
  go_wp2_with fail
  refine (name_of nm s1 S1.out _).mono ?_
  rintro e w15 ⟨rfl, rfl⟩
  go_wp2_with fail
  refine (rname_of nm hnm s1 S1.out _).mono ?_
  rintro e w15 ⟨rfl, rfl⟩
  go_wp2_with fail
  refine (sane_of A c n la HN.out s2 S2.out _ (HRa.out.on hb14)).mono ?_
  rintro e w15 ⟨rfl, hw15⟩
  have hb15 := below_on hb14 hw15
  go_wp2_with fail
  refine (rsane_of A c n la HN.out s2 S2.out _ (HRa.out.on hb15)).mono ?_
  rintro e w16 ⟨rfl, hw16⟩
  have hb16 := below_on hb15 hw16
  go_wp2_with fail
  refine (without_as A c n la HN.out nm hnm x4 k4 X4.out K4.out _ (HRa.out.on hb16)).mono ?_
  rintro e w17 ⟨A17, c17, rfl, R17, hw17⟩
  have hb17 := below_on hb16 hw17
  go_wp2_with fail
  refine (rwithout_as A c n la HN.out nm x4 k4 X4.out K4.out _ (HRa.out.on hb17)).mono ?_
  rintro e w18 ⟨A18, c18, rfl, R18, hw18⟩
  have hb18 := below_on hb17 hw18
  go_wp2_with fail
  refine (same_yes A17 A18 c17 c18 k4 k4 x4 K4.out K4.out _ (R17.out.on hw18) R18.out).mono ?_
  rintro e w19 ⟨rfl, hw19⟩
  have hb19 := below_on hb18 hw19
  go_wp2_with fail
  refine (compare_of A B c d n m la lb HN.out HM.out z4 Y4.out _ (HRa.out.on hb19) (HRb.out.on hb19)).mono ?_
  rintro e w20 ⟨rfl, hw20⟩
  have hb20 := below_on hb19 hw20
  go_wp2_with fail
  refine (rcompare_of A B c d n m la lb HN.out HM.out z4 Y4.out _ (HRa.out.on hb20) (HRb.out.on hb20)).mono ?_
  rintro e w21 ⟨rfl, hw21⟩
  go_wp2_with fail
  go_ret
  exact ⟨rfl, below_on hb20 hw21⟩
end Go.Proofs.Ythknoanhljonoaa

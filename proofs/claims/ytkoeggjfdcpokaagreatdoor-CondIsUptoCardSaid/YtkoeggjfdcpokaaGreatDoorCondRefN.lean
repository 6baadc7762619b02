/-
  The document's plain of layer cond: what is asked without signs around it.
-/
import Derived.Test.YtkoeggjfdcpokaaGreatDoorCondOp
import Derived.Test.YtkoeggjfdcpokaaGreatDoorCondPl
import Derived.Test.YtkoeggjfdcpokaaGreatDoorRefB
import Derived.Test.YtkoeggjfdcpokaaGreatDoorNumR
import Derived.Deep.RegionHeld
import Derived.Deep.MidRow
namespace Go.Proofs.YtkoeggjfdcpokaaGreatDoor
open Go.RowKit
open Go.Proofs.YtkoeggjfdcpokaaGreatDoor.Sl (Mt Sel Tf)

set_option maxHeartbeats 12800000 in
set_option maxRecDepth 100000 in
theorem rplain_of (B : Option Addr) (d q : Nat) (ts : List Tz) (i : Int) (M : ByteArray) (m : List Mt) (o v : Int) (k x : Nat) (z : Int) (hq : q = ts.length) (hq2 : q ≤ 1500) (hts : ∀ t ∈ ts, t.2.2.size ≤ 1048576) (hi1 : -9223372036854775808 ≤ i) (hi2 : i ≤ 9223372036854775807) (hm : plainI (ts.map flatK) i = (((M, m), o, v), x, z)) (hk : k = m.length) (w : World) (hr : Rz w w.heap.size B ts) :
    Calls Tryz.prog 44 #[.slice B q d, .int .i64 i] w fun e w' => ∃ A c, e = .returned (.tuple #[xv M A k c o v, .int .i64 (x : Int), .int .i64 z]) ∧ Hid (Rq w' w'.heap.size A m) ∧ Hid (Cap k c) ∧ Below w.heap.size w w' := by
  have HQ := Lib.hid hq
  have HR := Lib.hid hr
  have HK := Lib.hid hk
  have HTS := Lib.hid hts
  have hlen : q ≤ 9223372036854775807 := by omega
  rcases hp : Sl.parse (ts.map flatK) i with ⟨⟨N, n⟩, y, u⟩
  rw [plainI_is _ _ hp] at hm
  have HM := Lib.hid hm
  have HP := Lib.hid hp
  obtain ⟨r, hrr⟩ : ∃ r, r = n.length := ⟨_, rfl⟩
  have HRR := Lib.hid hrr
  clear hq hr hk hts hm hp hrr
  obtain ⟨R, hRe⟩ : ∃ R, w.heap.size = R := ⟨_, rfl⟩
  rw [hRe]
  go_enter Tryz.func44, Tryz.ntmps44
  go_wp2_with fail
  obtain ⟨W, R', hW, hR', hb0, z1, z2⟩ := box_zz w
  obtain rfl : R = R' := hRe.symm.trans hR'
  have Z1 := Lib.hid z1
  have Z2 := Lib.hid z2
  have HB0 := Lib.hid hb0
  have HRW := Lib.hid (HR.out.on hb0)
  clear hb0 HR z1 z2
  rw [hW]
  refine (rparse_of B d q ts i N n r y u HQ.out hq2 hi1 hi2 HP.out HRR.out W HRW.out).mono ?_
  rintro e w1 ⟨A1, c1, rfl, HN1, HC1, hw1⟩
  have hb1 : Below R w w1 := by rw [← hRe]; exact below_on HB0.out hw1
  have HB1 := Lib.hid hb1
  have HZ1 := Lib.hid (Z1.out.on hw1)
  have HZ2 := Lib.hid (Z2.out.on hw1)
  have HR1 := Lib.hid (HRW.out.on hw1)
  have hR1 := HZ1.out.lt
  clear hb1 hw1 Z1 Z2 HRW HB0 hW
  -- the selector's variable
  obtain ⟨V, hV⟩ : ∃ V, w1.alloc (.cells #[.string N, .slice A1 r c1] 24) = V := ⟨_, rfl⟩
  obtain ⟨Q0, hQ0⟩ : ∃ Q0, w1.heap.size = Q0 := ⟨_, rfl⟩
  have hbV : Below w1.heap.size w1 V := by rw [← hV]; exact below_alloc w1 _
  have hZ1 := HZ1.out.on hbV
  have hZ2 := HZ2.out.on hbV
  have hRV := HR1.out.on hbV
  have hNV := HN1.out.on hbV
  have hVw : Below R w V := HB1.out.trans (hbV.mono (by omega))
  have hVs : V.heap[Q0]? = some (.cells #[.string N, .slice A1 r c1] 24 (0, 0)) := by rw [← hV, ← hQ0]; exact cx_new w1 _
  have KZ1 := Lib.hid (fun (X : World) (h : Below V.heap.size V X) => hZ1.on h)
  have KZ2 := Lib.hid (fun (X : World) (h : Below V.heap.size V X) => hZ2.on h)
  have KRV := Lib.hid (fun (X : World) (h : Below V.heap.size V X) => hRV.on h)
  have KNV := Lib.hid (fun (X : World) (h : Below V.heap.size V X) => hNV.on h)
  have KW := Lib.hid (fun (X : World) (h : Below V.heap.size V X) => hVw.trans (h.mono (by have := hZ1.lt; omega)))
  have KS := Lib.hid (fun (X : World) (h : Below V.heap.size V X) => (h.block Q0 (Array.getElem?_eq_some_iff.1 hVs).1).trans hVs)
  clear hbV hZ1 hZ2 hRV hNV hVw hVs HZ1 HZ2 HR1 HN1 HB1
  by_cases hu : u = 0
  · subst hu
    have hm := HM.out
    rw [if_neg (by decide)] at hm
    have HM2 := Lib.hid hm
    clear hm HM
    have K0 : Hid (∀ (X : World) (_ : Below V.heap.size V X), X.cell? ⟨R + 1, 0, none⟩ = some (.string ⟨#[]⟩)) := Lib.hid (fun X h => cx_cell (KZ2.out X h) 0)
    have K1 : Hid (∀ (X : World) (_ : Below V.heap.size V X), X.cell? ⟨R + 1, 1, none⟩ = some (.slice none 0 0)) := Lib.hid (fun X h => cx_cell (KZ2.out X h) 1)
    have K2 : Hid (∀ (X : World) (_ : Below V.heap.size V X), X.cell? ⟨R + 1, 2, none⟩ = some (.int .i64 0)) := Lib.hid (fun X h => cx_cell (KZ2.out X h) 2)
    have K3 : Hid (∀ (X : World) (_ : Below V.heap.size V X), X.cell? ⟨R + 1, 3, none⟩ = some (.int .i64 0)) := Lib.hid (fun X h => cx_cell (KZ2.out X h) 3)
    have CF : Hid (∀ (X : World) (_ : Below V.heap.size V X), X.cell? ⟨R, 0, none⟩ = some (.string ⟨#[]⟩) ∧ X.cell? ⟨R, 1, none⟩ = some (.slice none 0 0) ∧ X.cell? ⟨R, 2, none⟩ = some (.int .i64 0) ∧ X.cell? ⟨R, 3, none⟩ = some (.int .i64 0) ∧ X.frozen? ⟨R, 0, none⟩ = false ∧ X.frozen? ⟨R, 1, none⟩ = false ∧ X.frozen? ⟨R, 2, none⟩ = false ∧ X.frozen? ⟨R, 3, none⟩ = false) := Lib.hid (fun X h => by
      have z := KZ1.out X h
      exact ⟨cx_cell z 0, cx_cell z 1, cx_cell z 2, cx_cell z 3, cx_frozen z 0, cx_frozen z 1, cx_frozen z 2, cx_frozen z 3⟩)
    have hne : R + 1 ≠ R := by omega
    have KP : Hid (∀ (i : Int) (y : Nat) (V : World), (if i < 0 then 0 else min i.toNat q) = y → Calls Tryz.prog 45 #[.slice B q d, .int .i64 i] V fun e w' => e = .returned (.int .i64 (y : Int)) ∧ Below V.heap.size V w') := Lib.hid (fun i y V h => place_of B d q i y hlen h V)
    obtain ⟨e0, he0⟩ : ∃ e, Cd.opAt (ts.map flatK) y = e := ⟨_, rfl⟩
    have HE0 := Lib.hid he0
    have hy1 : y ≤ 1500 := by
      have := parse_place HP.out
      have := HQ.out
      rw [List.length_map] at *
      omega
    clear he0
    go_wp2_with fail
    refine (rop_of B d q ts y e0 HQ.out HE0.out V (KRV.out V (Below.refl _ _))).mono ?_
    rintro e w2 ⟨rfl, hw2⟩
    by_cases h0 : e0 = 0
    · subst h0
      obtain ⟨e1, he1⟩ : ∃ z, Sl.want (ts.map flatK) y 4 ⟨#[]⟩ = z := ⟨_, rfl⟩
      have HE1 : Hid (wantI (ts.map flatK) (y : Int) 4 ⟨#[]⟩ = e1) := Lib.hid (by rw [wantI_at]; exact he1)
      have hm := HM2.out
      unfold Cd.behind at hm
      rw [HE0.out, if_pos rfl] at hm
      simp only [Cd.noX, Sl.none_, Cd.noOp, he1, Prod.mk.injEq] at hm
      obtain ⟨⟨⟨rfl, rfl⟩, rfl, rfl⟩, hx, hz⟩ := hm
      obtain rfl : k = 0 := HK.out
      have HX : Hid ((if (y : Int) < 0 then 0 else min ((y : Int)).toNat q) = x) := Lib.hid (by
        rw [if_neg (by omega), Int.toNat_natCast, HQ.out]; rw [List.length_map] at hx; exact hx)
      clear hx he1 HM2
      go_wp2_with fail
      refine (want_of B d q ts (y : Int) 4 ⟨#[]⟩ e1 HQ.out HE1.out w2 (KRV.out w2 hw2)).mono ?_
      rintro e w3 ⟨rfl, hw3⟩
      by_cases h1 : e1 = 0
      · subst h1
        rw [if_pos rfl] at hz
        subst hz
        have hcur : Below V.heap.size V w3.drew := (below_on hw2 hw3).drew
        go_upto_region 10 with fail
        first | (go_region_held (fun X => X.cell? ⟨R + 1, 0, none⟩ = some (.string ⟨#[]⟩) ∧ X.cell? ⟨R + 1, 1, none⟩ = some (.slice none 0 0) ∧ X.cell? ⟨R + 1, 2, none⟩ = some (.int .i64 0) ∧ X.cell? ⟨R + 1, 3, none⟩ = some (.int .i64 0))
          (first
            | exact ⟨K0.out _ hcur, K1.out _ hcur, K2.out _ hcur, K3.out _ hcur⟩
            | exact ⟨(put4_far hne _ _ _ _ 0).trans (K0.out _ hcur), (put4_far hne _ _ _ _ 1).trans (K1.out _ hcur), (put4_far hne _ _ _ _ 2).trans (K2.out _ hcur), (put4_far hne _ _ _ _ 3).trans (K3.out _ hcur)⟩)
          (first
            | (go_at_call 45; with_reducible refine (KP.out (y : Int) x _ HX.out).mono ?_; rintro e w' ⟨rfl, hw'⟩; replace hcur := below_on hcur hw'; obtain ⟨r0, r1, r2, r3, s0, s1, s2, s3⟩ := CF.out _ hcur))) | fail
        all_goals
          go_wp2_with fail
          exact x_end rfl (KW.out _ hcur) (KZ1.out _ hcur) ⟨#[]⟩ none 0 0 0 0 (Rq.none_ _ _ _) cap00 _ _ _ rfl rfl rfl rfl
      · have h1b : (e1 == 0) = false := by simpa using h1
        rw [if_neg h1] at hz
        subst hz
        have hcur : Below V.heap.size V w3.drew := (below_on hw2 hw3).drew
        go_upto_region 10 with fail
        first | (go_region_held (fun X => X.cell? ⟨R + 1, 0, none⟩ = some (.string ⟨#[]⟩) ∧ X.cell? ⟨R + 1, 1, none⟩ = some (.slice none 0 0) ∧ X.cell? ⟨R + 1, 2, none⟩ = some (.int .i64 0) ∧ X.cell? ⟨R + 1, 3, none⟩ = some (.int .i64 0))
          (first
            | exact ⟨K0.out _ hcur, K1.out _ hcur, K2.out _ hcur, K3.out _ hcur⟩
            | exact ⟨(put4_far hne _ _ _ _ 0).trans (K0.out _ hcur), (put4_far hne _ _ _ _ 1).trans (K1.out _ hcur), (put4_far hne _ _ _ _ 2).trans (K2.out _ hcur), (put4_far hne _ _ _ _ 3).trans (K3.out _ hcur)⟩)
          (first
            | (go_at_call 45; with_reducible refine (KP.out (y : Int) x _ HX.out).mono ?_; rintro e w' ⟨rfl, hw'⟩; replace hcur := below_on hcur hw'; obtain ⟨r0, r1, r2, r3, s0, s1, s2, s3⟩ := CF.out _ hcur))) | fail
        all_goals
          go_wp2_with fail
          exact x_end rfl (KW.out _ hcur) (KZ1.out _ hcur) ⟨#[]⟩ none 0 0 0 0 (Rq.none_ _ _ _) cap00 _ _ _ rfl rfl rfl rfl
    · have h0b : (e0 == 0) = false := by simpa using h0
      obtain ⟨e2, he2⟩ : ∃ z, Sl.want (ts.map flatK) (y + 1) 2 ⟨#[]⟩ = z := ⟨_, rfl⟩
      have HE2 : Hid (wantI (ts.map flatK) ((y : Int) + 1) 2 ⟨#[]⟩ = e2) := Lib.hid (by rw [show (y : Int) + 1 = ((y + 1 : Nat) : Int) by omega, wantI_at]; exact he2)
      have hyw : IntKind.i64.wrap ((y : Int) + 1) = (y : Int) + 1 := IntWalk.i64_in _ (by omega)
      have hm := HM2.out
      unfold Cd.behind at hm
      rw [HE0.out, if_neg h0, he2] at hm
      have HM3 := Lib.hid hm
      have HE2n := Lib.hid he2
      clear hm HM2 he2
      go_wp2_with fail
      refine (want_of B d q ts ((y : Int) + 1) 2 ⟨#[]⟩ e2 HQ.out HE2.out w2 (KRV.out w2 hw2)).mono ?_
      rintro e w3 ⟨rfl, hw3⟩
      have hb3 := below_on hw2 hw3
      by_cases h2 : e2 = 0
      · subst h2
        obtain ⟨t, ht1, _, _⟩ := Sl.want_zero.1 HE2n.out
        have hyl := (List.getElem?_eq_some_iff.1 ht1).1
        rw [List.length_map] at hyl
        obtain ⟨a1, a2, a3, ha⟩ := getZ hyl
        have ta : Sl.txtAt (ts.map flatK) (y + 1) = a3 := by unfold Sl.txtAt; rw [List.getElem?_map, ha]; rfl
        have hsz3 : a3.size ≤ 2000000 := Nat.le_trans (HTS.out _ (List.mem_of_getElem? ha)) (by decide)
        obtain ⟨g, off, rfl, hg, t0, t1, t2⟩ := (KRV.out w3 hb3).get ha
        have hyz : (y : Int) + 1 < (q : Int) := by have := HQ.out; omega
        have hm := HM3.out
        rw [if_neg (by decide), ta] at hm
        rcases hpp : Np.parseS a3.data.toList with ⟨nv, ne⟩
        rw [hpp] at hm
        have hans : Np.ans (Np.parseS a3.data.toList) = .returned (.tuple #[.int .i64 nv, .int .i64 ne]) := by rw [hpp]; rfl
        have HANS := Lib.hid hans
        have HM4 := Lib.hid hm
        clear hm HM3 ta ha hyl ht1 hpp hans t0 t1
        go_wp2_with fail
        refine (refParse_any a3 hsz3 w3).mono ?_
        rintro e w4 ⟨he, rfl⟩
        rw [HANS.out] at he
        subst he
        have zz1 := KZ1.out w3 hb3
        obtain ⟨r0, r1, r2, r3, s0, s1, s2, s3⟩ := CF.out w3 hb3
        by_cases hne0 : ne = 0
        · subst hne0
          have hm := HM4.out
          rw [if_neg (by decide)] at hm
          simp only [Prod.mk.injEq] at hm
          obtain ⟨⟨⟨rfl, rfl⟩, rfl, rfl⟩, rfl, rfl⟩ := hm
          obtain rfl : k = r := by rw [HK.out, HRR.out]
          have hs := KS.out w3 hb3
          have q0 := cx_cell hs 0
          have q1 := cx_cell hs 1
          have hyw2 : IntKind.i64.wrap ((y : Int) + 2) = (y : Int) + 2 := IntWalk.i64_in _ (by omega)
          go_wp2_with fail
          exact x_end rfl (KW.out _ hb3) zz1 N A1 k c1 e0 nv (KNV.out _ hb3) HC1.out _ _ _ rfl rfl rfl rfl
        · have hnb : (ne != 0) = true := by simpa using hne0
          have hm := HM4.out
          rw [if_pos hne0] at hm
          simp only [Cd.noX, Sl.none_, Prod.mk.injEq] at hm
          obtain ⟨⟨⟨rfl, rfl⟩, rfl, rfl⟩, rfl, rfl⟩ := hm
          obtain rfl : k = 0 := HK.out
          have q0 := K0.out w3 hb3
          have q1 := K1.out w3 hb3
          have q2 := K2.out w3 hb3
          have q3 := K3.out w3 hb3
          go_wp2_with fail
          exact x_end rfl (KW.out _ hb3) zz1 ⟨#[]⟩ none 0 0 0 0 (Rq.none_ _ _ _) cap00 _ _ _ rfl rfl rfl rfl
      · have h2b : (e2 != 0) = true := by simpa using h2
        have hm := HM3.out
        rw [if_pos h2] at hm
        simp only [Cd.noX, Sl.none_, Prod.mk.injEq] at hm
        obtain ⟨⟨⟨rfl, rfl⟩, rfl, rfl⟩, hx, rfl⟩ := hm
        obtain rfl : k = 0 := HK.out
        have HX : Hid ((if (y : Int) + 1 < 0 then 0 else min ((y : Int) + 1).toNat q) = x) := Lib.hid (by
          rw [if_neg (by omega), show ((y : Int) + 1).toNat = y + 1 by omega, HQ.out]; rw [List.length_map] at hx; exact hx)
        clear hx HM3
        have hcur : Below V.heap.size V w3.drew := hb3.drew
        go_upto_region 13 with fail
        first | (go_region_held (fun X => X.cell? ⟨R + 1, 0, none⟩ = some (.string ⟨#[]⟩) ∧ X.cell? ⟨R + 1, 1, none⟩ = some (.slice none 0 0) ∧ X.cell? ⟨R + 1, 2, none⟩ = some (.int .i64 0) ∧ X.cell? ⟨R + 1, 3, none⟩ = some (.int .i64 0))
          (first
            | exact ⟨K0.out _ hcur, K1.out _ hcur, K2.out _ hcur, K3.out _ hcur⟩
            | exact ⟨(put4_far hne _ _ _ _ 0).trans (K0.out _ hcur), (put4_far hne _ _ _ _ 1).trans (K1.out _ hcur), (put4_far hne _ _ _ _ 2).trans (K2.out _ hcur), (put4_far hne _ _ _ _ 3).trans (K3.out _ hcur)⟩)
          (first
            | (go_at_call 45; with_reducible refine (KP.out ((y : Int) + 1) x _ HX.out).mono ?_; rintro e w' ⟨rfl, hw'⟩; replace hcur := below_on hcur hw'; obtain ⟨r0, r1, r2, r3, s0, s1, s2, s3⟩ := CF.out _ hcur))) | fail
        all_goals
          go_wp2_with fail
          exact x_end rfl (KW.out _ hcur) (KZ1.out _ hcur) ⟨#[]⟩ none 0 0 0 0 (Rq.none_ _ _ _) cap00 _ _ _ rfl rfl rfl rfl
  · have hub : (u != 0) = true := by simpa using hu
    have hm := HM.out
    rw [if_pos hu] at hm
    simp only [Cd.noX, Sl.none_, Prod.mk.injEq] at hm
    obtain ⟨⟨⟨rfl, rfl⟩, rfl, rfl⟩, rfl, rfl⟩ := hm
    obtain rfl : k = 0 := HK.out
    have zz1 := KZ1.out V (Below.refl _ _)
    have zz2 := KZ2.out V (Below.refl _ _)
    have k0 := cx_cell zz2 0
    have k1 := cx_cell zz2 1
    have k2 := cx_cell zz2 2
    have k3 := cx_cell zz2 3
    have c0 := cx_cell zz1 0
    have c1' := cx_cell zz1 1
    have c2 := cx_cell zz1 2
    have c3 := cx_cell zz1 3
    have f0 := cx_frozen zz1 0
    have f1 := cx_frozen zz1 1
    have f2 := cx_frozen zz1 2
    have f3 := cx_frozen zz1 3
    go_wp2_with fail
    exact x_end rfl (KW.out V (Below.refl _ _)) zz1 ⟨#[]⟩ none 0 0 0 0 (Rq.none_ _ _ _) cap00 y u _ rfl rfl rfl rfl
end Go.Proofs.YtkoeggjfdcpokaaGreatDoor

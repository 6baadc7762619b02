/-
  The walks of the landed cond's parseBare and Parse.
-/
import Derived.Test.YtkoeggjfdcpokaaGreatDoorCondSm
import Derived.Test.YtkoeggjfdcpokaaGreatDoorSelA
import Derived.IntWalk
namespace Go.Proofs.YtkoeggjfdcpokaaGreatDoor
open Go.RowKit Go.Proofs.YtkoeggjfdcpokaaGreatDoor.Lp
open Go.Proofs.YtkoeggjfdcpokaaGreatDoor.Sl (Mt Sel Tf)

set_option maxHeartbeats 12800000 in
set_option maxRecDepth 100000 in
theorem bare_of (B : Option Addr) (d q : Nat) (ts : List Tz) (i : Int) (M : ByteArray) (m : List Mt) (o v : Int) (k x : Nat) (z : Int) (hq : q = ts.length) (hqd : Cap q d) (hts : ∀ t ∈ ts, t.2.2.size ≤ 1048576) (hi1 : -9223372036854775808 ≤ i) (hi2 : i ≤ 9223372036854775807) (hm : plainI (ts.map flatK) i = (((M, m), o, v), x, z)) (hk : k = m.length) (w : World) (hok : Okc w) (hr : Rz w w.heap.size B ts) :
    Calls Tryz.prog 24 #[.slice B q d, .int .i64 i] w fun e w' => ∃ A c, e = .returned (.tuple #[xv M A k c o v, .int .i64 (x : Int), .int .i64 z]) ∧ Hid (Rq w' w'.heap.size A m) ∧ Hid (Cap k c) ∧ Below w.heap.size w w' := by
  have HQ := Lib.hid hq
  have HQD := Lib.hid hqd
  have HK := Lib.hid hk
  have HTS := Lib.hid hts
  have hlen : q ≤ 9223372036854775807 := by rw [hq]; exact hr.len
  rcases hp : Sl.parse (ts.map flatK) i with ⟨⟨N, n⟩, y, u⟩
  rw [plainI_is _ _ hp] at hm
  have HM := Lib.hid hm
  have HP := Lib.hid hp
  obtain ⟨r, hrr⟩ : ∃ r, r = n.length := ⟨_, rfl⟩
  have HRR := Lib.hid hrr
  obtain ⟨R, hRe⟩ : ∃ R, w.heap.size = R := ⟨_, rfl⟩
  obtain ⟨W, hW⟩ : ∃ W, w.alloc (.cells #[.string ⟨#[]⟩, .slice none 0 0, .int .i64 0, .int .i64 0] 26) = W := ⟨_, rfl⟩
  have hb0 : Below w.heap.size w W := by rw [← hW]; exact below_alloc w _
  have hz0 : Xz W R := by rw [← hW, ← hRe]; exact cx_new w _
  have HRW := Lib.hid (hr.on hb0)
  have HOW := Lib.hid (hok.on hb0)
  have hbR : Below R w W := by rw [← hRe]; exact hb0
  have HBR := Lib.hid hbR
  have Z0 := Lib.hid hz0
  clear hq hqd hr hk hts hm hp hrr hb0 hz0 hok hbR
  rw [hRe]
  go_enter Tryz.func24, Tryz.ntmps24
  go_wp2_with fail
  try rw [hW]
  refine (parse_of B d q ts i N n r y u HQ.out HQD.out hi1 hi2 HP.out HRR.out W HRW.out).mono ?_
  rintro e w1 ⟨A1, c1, rfl, HN1, HC1, hw1⟩
  -- the selector's variable
  obtain ⟨V, hV⟩ : ∃ V, w1.alloc (.cells #[.string N, .slice A1 r c1] 24) = V := ⟨_, rfl⟩
  obtain ⟨Q0, hQ0⟩ : ∃ Q0, w1.heap.size = Q0 := ⟨_, rfl⟩
  have hbV : Below w1.heap.size w1 V := by rw [← hV]; exact below_alloc w1 _
  have hWV : Below W.heap.size W V := below_on hw1 hbV
  have hZV := Z0.out.on hWV
  have hRV := HRW.out.on hWV
  have hOV := HOW.out.on hWV
  have hNV := HN1.out.on hbV
  have hVw : Below R w V := HBR.out.trans (hWV.mono (Nat.le_of_lt Z0.out.lt))
  have hVs : V.heap[Q0]? = some (.cells #[.string N, .slice A1 r c1] 24 (0, 0)) := by rw [← hV, ← hQ0]; exact cx_new w1 _
  have KZ := Lib.hid (fun (X : World) (h : Below V.heap.size V X) => hZV.on h)
  have KR := Lib.hid (fun (X : World) (h : Below V.heap.size V X) => hRV.on h)
  have KO := Lib.hid (fun (X : World) (h : Below V.heap.size V X) => hOV.on h)
  have KN := Lib.hid (fun (X : World) (h : Below V.heap.size V X) => hNV.on h)
  have KW := Lib.hid (fun (X : World) (h : Below V.heap.size V X) => hVw.trans (h.mono (Nat.le_of_lt hZV.lt)))
  have KS := Lib.hid (fun (X : World) (h : Below V.heap.size V X) => (h.block Q0 (Array.getElem?_eq_some_iff.1 hVs).1).trans hVs)
  have CF : Hid (∀ (X : World) (_ : Below V.heap.size V X), X.cell? ⟨R, 0, none⟩ = some (.string ⟨#[]⟩) ∧ X.cell? ⟨R, 1, none⟩ = some (.slice none 0 0) ∧ X.cell? ⟨R, 2, none⟩ = some (.int .i64 0) ∧ X.cell? ⟨R, 3, none⟩ = some (.int .i64 0) ∧ X.frozen? ⟨R, 0, none⟩ = false ∧ X.frozen? ⟨R, 1, none⟩ = false ∧ X.frozen? ⟨R, 2, none⟩ = false ∧ X.frozen? ⟨R, 3, none⟩ = false) := Lib.hid (fun X h => by
    have z := KZ.out X h
    exact ⟨cx_cell z 0, cx_cell z 1, cx_cell z 2, cx_cell z 3, cx_frozen z 0, cx_frozen z 1, cx_frozen z 2, cx_frozen z 3⟩)
  clear hbV hWV hZV hRV hOV hNV hVw hVs hw1 Z0 HRW HOW HBR HN1
  by_cases hu : u = 0
  · subst hu
    have hyq : y ≤ q := by have := parse_place HP.out; rw [List.length_map] at this; rw [HQ.out]; exact this
    have hm := HM.out
    rw [if_neg (by decide), behind_op (N, n) (by rw [List.length_map, ← HQ.out]; exact hyq)] at hm
    rcases ho : opI (ts.map flatK) (y : Int) with ⟨oo, e1⟩
    rw [ho] at hm
    have HO := Lib.hid ho
    have HM2 := Lib.hid hm
    have hlt : e1 = 0 → y < q := fun h => by
      have := opI_lt (l := ts.map flatK) (i := y) (by rw [HO.out]; exact h)
      rw [List.length_map] at this; rw [HQ.out]; exact this
    have HLT := Lib.hid hlt
    clear hm HM ho hlt
    go_wp2_with fail
    refine (opAt_of B d q ts (y : Int) oo e1 HQ.out HO.out V (KO.out V (Below.refl _ _)) (KR.out V (Below.refl _ _))).mono ?_
    rintro e w2 ⟨rfl, hw2⟩
    by_cases h1 : e1 = 0
    · subst h1
      have hyl := HLT.out rfl
      have hm := HM2.out
      rw [if_neg (by simp)] at hm
      rcases hn : nbI (ts.map flatK) ((y : Int) + 1) with ⟨nv, e2⟩
      rw [hn] at hm
      have HNB := Lib.hid hn
      have HM3 := Lib.hid hm
      have hyw : IntKind.i64.wrap ((y : Int) + 1) = (y : Int) + 1 := IntWalk.i64_in _ (by omega)
      have hlt : e2 = 0 → y + 1 < q := fun h => by
        have := nbI_lt (l := ts.map flatK) (i := y + 1) (by rw [show ((y + 1 : Nat) : Int) = (y : Int) + 1 by omega, HNB.out]; exact h)
        rw [List.length_map] at this; rw [HQ.out]; exact this
      have HLT2 := Lib.hid hlt
      clear hm hn hlt HM2 HLT
      go_wp2_with fail
      refine (numberAt_of B d q ts HTS.out ((y : Int) + 1) nv e2 HQ.out HNB.out w2 (KO.out w2 hw2) (KR.out w2 hw2)).mono ?_
      rintro e w3 ⟨rfl, hw3⟩
      have hb3 := below_on hw2 hw3
      have zz1 := KZ.out w3 hb3
      obtain ⟨r0, r1, r2, r3, s0, s1, s2, s3⟩ := CF.out w3 hb3
      by_cases h2 : e2 = 0
      · subst h2
        have hyl2 := HLT2.out rfl
        have hm := HM3.out
        rw [if_neg (by simp)] at hm
        simp only [Prod.mk.injEq] at hm
        obtain ⟨⟨⟨rfl, rfl⟩, rfl, rfl⟩, rfl, rfl⟩ := hm
        obtain rfl : k = r := by rw [HK.out, HRR.out]
        have hs := KS.out w3 hb3
        have q0 := cx_cell hs 0
        have q1 := cx_cell hs 1
        have hyw2 : IntKind.i64.wrap ((y : Int) + 1 + 1) = (y : Int) + 2 := IntWalk.i64_in _ (by omega)
        have hyw3 : (y : Int) + 1 + 1 = (y : Int) + 2 := by omega
        clear HM3 HLT2 hs
        go_wp2_with fail
        exact x_end rfl (KW.out _ hb3) zz1 N A1 k c1 oo nv (KN.out _ hb3) HC1.out _ _ _ rfl rfl rfl rfl
      · have h2b : (e2 != 0) = true := by simpa using h2
        have hm := HM3.out
        rw [if_pos h2] at hm
        simp only [Cd.noX, Sl.none_, Prod.mk.injEq] at hm
        obtain ⟨⟨⟨rfl, rfl⟩, rfl, rfl⟩, rfl, rfl⟩ := hm
        obtain rfl : k = 0 := HK.out
        clear HM3 HLT2 h2
        go_wp2_with fail
        exact x_end rfl (KW.out _ hb3) zz1 ⟨#[]⟩ none 0 0 0 0 (Rq.none_ _ _ _) cap00 _ _ _ rfl rfl rfl rfl
    · have h1b : (e1 != 0) = true := by simpa using h1
      have hm := HM2.out
      rw [if_pos h1] at hm
      simp only [Cd.noX, Sl.none_, Prod.mk.injEq] at hm
      obtain ⟨⟨⟨rfl, rfl⟩, rfl, rfl⟩, rfl, rfl⟩ := hm
      obtain rfl : k = 0 := HK.out
      have zz1 := KZ.out w2 hw2
      obtain ⟨r0, r1, r2, r3, s0, s1, s2, s3⟩ := CF.out w2 hw2
      clear HM2 HLT h1
      go_wp2_with fail
      exact x_end rfl (KW.out _ hw2) zz1 ⟨#[]⟩ none 0 0 0 0 (Rq.none_ _ _ _) cap00 _ _ _ rfl rfl rfl rfl
  · have hub : (u != 0) = true := by simpa using hu
    have hm := HM.out
    rw [if_pos hu] at hm
    simp only [Cd.noX, Sl.none_, Prod.mk.injEq] at hm
    obtain ⟨⟨⟨rfl, rfl⟩, rfl, rfl⟩, rfl, rfl⟩ := hm
    obtain rfl : k = 0 := HK.out
    have zz1 := KZ.out V (Below.refl _ _)
    obtain ⟨r0, r1, r2, r3, s0, s1, s2, s3⟩ := CF.out V (Below.refl _ _)
    have hbv := KW.out V (Below.refl _ _)
    clear HM hu
    go_wp2_with fail
    exact x_end rfl hbv zz1 ⟨#[]⟩ none 0 0 0 0 (Rq.none_ _ _ _) cap00 _ _ _ rfl rfl rfl rfl

set_option maxHeartbeats 12800000 in
set_option maxRecDepth 100000 in
theorem parseX_of : XParseC Okc := by
  intro B d q ts i M m o v k x z hq hqd hts hi1 hi2 hp hk w hok hr
  have HQ := Lib.hid hq
  have HQD := Lib.hid hqd
  have HK := Lib.hid hk
  have HTS := Lib.hid hts
  have hlen : q ≤ 9223372036854775807 := by rw [hq]; exact hr.len
  obtain ⟨RR, hRR⟩ : ∃ RR, Cd.parse (ts.map flatK) i = RR := ⟨_, rfl⟩
  have hst0 : StI (ts.map flatK) RR 0 i := by rw [← hRR]; exact stI_start _ _
  have HST := Lib.hid hst0
  have HRR : Hid (RR = (((M, m), o, v), x, z)) := Lib.hid (by rw [← hRR]; exact hp)
  obtain ⟨R, hRe⟩ : ∃ R, w.heap.size = R := ⟨_, rfl⟩
  obtain ⟨W, hW⟩ : ∃ W, w.alloc (.cells #[.string ⟨#[]⟩, .slice none 0 0, .int .i64 0, .int .i64 0] 26) = W := ⟨_, rfl⟩
  have hb0 : Below w.heap.size w W := by rw [← hW]; exact below_alloc w _
  have hz0 : Xz W R := by rw [← hW, ← hRe]; exact cx_new w _
  have HRW := Lib.hid (hr.on hb0)
  have HOW := Lib.hid (hok.on hb0)
  have hbR : Below R w W := by rw [← hRe]; exact hb0
  have HBR := Lib.hid hbR
  have Z0 := Lib.hid hz0
  have HI : Hid (-9223372036854775808 ≤ i ∧ i ≤ 9223372036854775807) := Lib.hid ⟨hi1, hi2⟩
  clear hq hqd hr hk hts hp hb0 hz0 hok hbR hRR hst0 hi1 hi2
  rw [hRe]
  go_enter Tryz.func11, Tryz.ntmps11
  go_wp2_with fail
  try rw [hW]
  go_loopg [1, 7] 33 (fun g s1 s7 wx => ∃ (n : Nat) (j : Int), n + g = 33 ∧ s1 = .int .i64 j ∧ s7 = .int .i64 (n : Int) ∧ Hid (StI (ts.map flatK) RR n j) ∧ Hid (-9223372036854775808 ≤ j ∧ j ≤ 9223372036854775807) ∧ wx = W)
  case atStart => exact ⟨0, i, by omega, rfl, rfl, HST, HI, by first | rfl | exact hW⟩
  case round =>
    obtain ⟨n, j, hn, rfl, rfl, HS, HJ, rfl⟩ := hrel
    clear HST HI
    have hn32 : n ≤ 32 := stI_le HS.out
    obtain ⟨g, rfl⟩ : ∃ g, gk = g + 1 := ⟨gk - 1, by omega⟩
    obtain ⟨e0, he0⟩ : ∃ e, sgI (ts.map flatK) j (Sl.sg [40]) = e := ⟨_, rfl⟩
    have HE0 := Lib.hid he0
    clear he0
    go_wp2_with fail
    refine (signAt_of B d q ts j (Sl.sg [40]) (by decide) e0 HQ.out HE0.out wr HRW.out).mono ?_
    rintro e w1 ⟨rfl, rfl⟩
    by_cases h0 : e0 = 0
    · subst h0
      by_cases h32 : n = 32
      · subst h32
        obtain ⟨a, rfl, ha, hal⟩ := sgI_nat HE0.out
        have hR := stI_deep HS.out ha
        have h := HRR.out
        rw [hR] at h
        simp only [Cd.noX, Sl.none_, Prod.mk.injEq] at h
        obtain ⟨⟨⟨rfl, rfl⟩, rfl, rfl⟩, rfl, rfl⟩ := h
        obtain rfl : k = 0 := HK.out
        have zz1 := Z0.out
        have r0 := cx_cell zz1 0
        have r1 := cx_cell zz1 1
        have r2 := cx_cell zz1 2
        have r3 := cx_cell zz1 3
        have s0 := cx_frozen zz1 0
        have s1 := cx_frozen zz1 1
        have s2 := cx_frozen zz1 2
        have s3 := cx_frozen zz1 3
        clear hR ha hal HS HRR
        go_wp2_with fail
        exact x_end rfl HBR.out zz1 ⟨#[]⟩ none 0 0 0 0 (Rq.none_ _ _ _) cap00 _ _ _ rfl rfl rfl rfl
      · have hnz : ((n : Int) == 32) = false := by rw [beq_eq_false_iff_ne]; omega
        have hst := stI_more HS.out HE0.out h32
        obtain ⟨a, rfl, ha, hal⟩ := sgI_nat HE0.out
        rw [List.length_map, ← HQ.out] at hal
        have hjw : IntKind.i64.wrap ((a : Int) + 1) = (a : Int) + 1 := IntWalk.i64_in _ (by omega)
        have HS' := Lib.hid hst
        have HJ' : Hid (-9223372036854775808 ≤ (a : Int) + 1 ∧ (a : Int) + 1 ≤ 9223372036854775807) := Lib.hid (by omega)
        clear hst ha HS HJ h32
        go_wp2_with fail
        go_roundg g
        case measure => omega
        case rel => exact ⟨n + 1, (a : Int) + 1, by omega, rfl, by simp, HS', HJ', rfl⟩
    · have h0b : (e0 == 0) = false := by simpa using h0
      have hbare := stI_bare HS.out (by rw [HE0.out]; exact h0)
      rcases hin : plainI (ts.map flatK) j with ⟨⟨⟨M1, m1⟩, o1, v1⟩, x1, z1⟩
      have hx1 : z1 = 0 → x1 ≤ q := fun h => by
        have := plainI_len (l := ts.map flatK) (j := j) (by rw [hin]; exact h)
        rw [hin, List.length_map] at this
        rw [HQ.out]; exact this
      rw [hin] at hbare
      simp only at hbare
      have HB1 := Lib.hid hbare
      have HIN := Lib.hid hin
      have HX1 := Lib.hid hx1
      obtain ⟨k1, hk1⟩ : ∃ k1, k1 = m1.length := ⟨_, rfl⟩
      have HK1 := Lib.hid hk1
      clear hbare hin hx1 hk1 h0 HS
      go_wp2_with fail
      refine (bare_of B d q ts j M1 m1 o1 v1 k1 x1 z1 HQ.out HQD.out HTS.out HJ.out.1 HJ.out.2 HIN.out HK1.out wr HOW.out HRW.out).mono ?_
      rintro e w2 ⟨A2, c2, rfl, HN2, HC2, hw2⟩
      -- the question's variable
      obtain ⟨V, hV⟩ : ∃ V, w2.alloc (.cells #[.string M1, .slice A2 k1 c2, .int .i64 o1, .int .i64 v1] 26) = V := ⟨_, rfl⟩
      obtain ⟨Q0, hQ0⟩ : ∃ Q0, w2.heap.size = Q0 := ⟨_, rfl⟩
      have hbV : Below w2.heap.size w2 V := by rw [← hV]; exact below_alloc w2 _
      have hWV : Below wr.heap.size wr V := below_on hw2 hbV
      have hZV := Z0.out.on hWV
      have hVw : Below R w V := HBR.out.trans (hWV.mono (Nat.le_of_lt Z0.out.lt))
      have hVs : V.heap[Q0]? = some (.cells #[.string M1, .slice A2 k1 c2, .int .i64 o1, .int .i64 v1] 26 (0, 0)) := by rw [← hV, ← hQ0]; exact cx_new w2 _
      have HNV := Lib.hid (HN2.out.on hbV)
      have HRV := Lib.hid (HRW.out.on hWV)
      have HZV := Lib.hid hZV
      have HVW := Lib.hid hVw
      have HVS := Lib.hid hVs
      have hrel0 : RR = if z1 ≠ 0 then (Cd.noX, x1, z1) else Cd.clN (ts.map flatK) n (((M1, m1), o1, v1), x1, 0) := HB1.out
      have HREL := Lib.hid hrel0
      clear hbV hWV hZV hVw hVs hw2 HN2 HB1 hrel0 Z0 HRW HOW HBR
      go_wp2_with fail
      try rw [hV]
      go_loopg [1, 7, 9] (n + 1) (fun g s1 s7 s9 wx => ∃ (a y : Nat) (u : Int), (u = 0 → a + 1 ≤ g) ∧ s1 = .int .i64 (y : Int) ∧ s7 = .int .i64 (a : Int) ∧ s9 = .int .i64 u ∧ Hid (RR = if u ≠ 0 then (Cd.noX, y, u) else Cd.clN (ts.map flatK) a (((M1, m1), o1, v1), y, 0)) ∧ Hid (u = 0 → y ≤ q) ∧ a ≤ 32 ∧ wx = V)
      case atStart => exact ⟨n, x1, z1, fun _ => Nat.le_refl _, rfl, rfl, rfl, HREL, HX1, hn32, by first | rfl | exact hV⟩
      case round =>
        obtain ⟨a, y, u, hag, rfl, rfl, rfl, HR2, HY, ha32, rfl⟩ := hrel
        clear HREL HX1
        have zz1 := HZV.out
        have r0 := cx_cell zz1 0
        have r1 := cx_cell zz1 1
        have r2 := cx_cell zz1 2
        have r3 := cx_cell zz1 3
        have s0 := cx_frozen zz1 0
        have s1 := cx_frozen zz1 1
        have s2 := cx_frozen zz1 2
        have s3 := cx_frozen zz1 3
        by_cases hu : u = 0
        · subst hu
          have h := HR2.out
          rw [if_neg (by simp)] at h
          by_cases ha0 : a = 0
          · subst ha0
            rw [HRR.out] at h
            simp only [Cd.clN, Prod.mk.injEq] at h
            obtain ⟨⟨⟨rfl, rfl⟩, rfl, rfl⟩, rfl, rfl⟩ := h
            obtain rfl : k = k1 := by rw [HK.out, HK1.out]
            have hs := HVS.out
            have q0 := cx_cell hs 0
            have q1 := cx_cell hs 1
            have q2 := cx_cell hs 2
            have q3 := cx_cell hs 3
            clear HR2 HRR hs hag
            go_wp2_with fail
            exact x_end rfl HVW.out zz1 M A2 k c2 o v HNV.out HC2.out _ _ _ rfl rfl rfl rfl
          · obtain ⟨b, hb⟩ : ∃ b, a = b + 1 := ⟨a - 1, by omega⟩
            have hyq := HY.out rfl
            rw [hb, Cd.clN_step (by rw [List.length_map, ← HQ.out]; exact hyq)] at h
            obtain ⟨e1, he1⟩ : ∃ e, Sl.want (ts.map flatK) y 4 (Sl.sg [41]) = e := ⟨_, rfl⟩
            rw [he1] at h
            have HE1 : Hid (sgI (ts.map flatK) (y : Int) (Sl.sg [41]) = e1) := Lib.hid (by rw [sgI_at]; exact he1)
            have HW1 := Lib.hid he1
            have H := Lib.hid h
            obtain ⟨g', rfl⟩ : ∃ g', gk = g' + 1 := ⟨gk - 1, by have := hag rfl; omega⟩
            have hgb : b + 1 ≤ g' := by have := hag rfl; omega
            have hpos : (0 : Int) < (a : Int) := by omega
            have hsub : IntKind.i64.wrap ((a : Int) - 1) = (b : Int) := by rw [hb]; rw [show ((b + 1 : Nat) : Int) - 1 = (b : Int) by omega]; exact IntWalk.i64_in _ (by omega)
            have hb32 : b ≤ 32 := by omega
            have HBE := Lib.hid hb
            clear h he1 HR2 hag ha0 hb
            go_wp2_with fail
            refine (signAt_of B d q ts (y : Int) (Sl.sg [41]) (by decide) e1 HQ.out HE1.out wr HRV.out).mono ?_
            rintro e w3 ⟨rfl, rfl⟩
            by_cases h1 : e1 = 0
            · subst h1
              have hyl : y < q := by
                have := Sl.want_lt (l := ts.map flatK) (i := y) (k := 4) (s := Sl.sg [41]) (by rw [HW1.out]; decide)
                rw [List.length_map] at this; rw [HQ.out]; exact this
              have hyw : IntKind.i64.wrap ((y : Int) + 1) = (y : Int) + 1 := IntWalk.i64_in _ (by omega)
              have h := H.out
              rw [if_neg (by simp)] at h
              have HR3 : Hid (RR = if (0 : Int) ≠ 0 then (Cd.noX, y + 1, 0) else Cd.clN (ts.map flatK) b (((M1, m1), o1, v1), y + 1, 0)) := Lib.hid (by rw [if_neg (by simp)]; exact h)
              clear h H HW1
              go_wp2_with fail
              go_roundg g'
              case measure => omega
              case rel => exact ⟨b, y + 1, 0, fun _ => hgb, by simp, rfl, rfl, HR3, Lib.hid (fun _ => by omega), hb32, rfl⟩
            · have h1b : (e1 == 0) = false := by simpa using h1
              have h := H.out
              rw [if_pos h1] at h
              have HR3 : Hid (RR = if e1 ≠ 0 then (Cd.noX, y, e1) else Cd.clN (ts.map flatK) b (((M1, m1), o1, v1), y, 0)) := Lib.hid (by rw [if_pos h1]; exact h)
              have H1 : Hid (e1 = 0 → y ≤ q) := Lib.hid (fun _ => hyq)
              have H2 : e1 = 0 → b + 1 ≤ g' := fun _ => hgb
              clear h H HW1 h1
              go_wp2_with fail
              go_roundg g'
              case measure => omega
              case rel => exact ⟨b, y, e1, H2, rfl, rfl, rfl, HR3, H1, hb32, rfl⟩
        · have hub : (u != 0) = true := by simpa using hu
          have hub2 : (u == 0) = false := by simpa using hu
          have h := HR2.out
          rw [if_pos hu, HRR.out] at h
          simp only [Cd.noX, Sl.none_, Prod.mk.injEq] at h
          obtain ⟨⟨⟨rfl, rfl⟩, rfl, rfl⟩, rfl, rfl⟩ := h
          obtain rfl : k = 0 := HK.out
          clear HR2 HRR hu hag
          go_wp2_with fail
          exact x_end rfl HVW.out zz1 ⟨#[]⟩ none 0 0 0 0 (Rq.none_ _ _ _) cap00 _ _ _ rfl rfl rfl rfl
end Go.Proofs.YtkoeggjfdcpokaaGreatDoor

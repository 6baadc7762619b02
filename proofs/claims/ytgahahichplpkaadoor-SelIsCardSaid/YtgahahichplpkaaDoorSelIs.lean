/-
  The walk of SelIs: what is a selector, printed, parsed, and whether labels fit, is what the document says.
-/
import Derived.Test.YtgahahichplpkaaDoorSelRefR
import Derived.Test.YtgahahichplpkaaDoorSelRefF
import Derived.Test.YtgahahichplpkaaDoorSelBack
namespace Go.Proofs.YtgahahichplpkaaDoor
open Go.RowKit Go.Proofs.YtgahahichplpkaaDoor.Lp
open Go.Proofs.YtgahahichplpkaaDoor.Sl (Mt Sel Tf)

set_option maxHeartbeats 12800000 in
set_option maxRecDepth 100000 in
theorem selIs_any (H : SelC) (N : ByteArray) (A : Option Addr) (c n : Nat) (l : List Mt) (B : Option Addr) (d q : Nat) (ts : List Tz) (i : Int) (C : Option Addr) (g r : Nat) (ps : List Pr) (w : World) (hNs : N.size ≤ 9223372036854775807) (hn : n = l.length) (hr : Rq w w.heap.size A l) (hnc : n ≤ c ∧ c ≤ 9223372036854775807)
    (hq : q = ts.length) (ht : Rz w w.heap.size B ts) (hqd : q ≤ d ∧ d ≤ 9223372036854775807) (hi1 : -9223372036854775808 ≤ i) (hi2 : i ≤ 9223372036854775807) (hg : r = ps.length) (hs : Rd w w.heap.size C ps) (hrg : r ≤ g ∧ g ≤ 9223372036854775807) :
    Calls Tryd.prog 3 #[sv N A n c, .slice B q d, .int .i64 i, .slice C r g] w fun e w' => e = .returned (.bool true) ∧ Below w.heap.size w w' := by
  have HN := Lib.hid hn
  have HQ := Lib.hid hq
  have HG := Lib.hid hg
  have HNC := Lib.hid hnc
  have HQD := Lib.hid hqd
  have HRG := Lib.hid hrg
  have HR := Lib.hid hr
  have HT := Lib.hid ht
  have HS := Lib.hid hs
  clear hn hq hg hnc hqd hrg hr ht hs
  go_enter Tryd.func3, Tryd.ntmps3
  obtain ⟨W, P, hW, hP, hb0, d0, d1, hPW⟩ := box_sel w N A n c
  have X1 : Hid (Bx W P N A n c) := Lib.hid ⟨d0, d1, hPW⟩
  have HB0 : Hid (Below w.heap.size w W) := Lib.hid (hP ▸ hb0)
  have HRW := Lib.hid (HR.out.on HB0.out)
  have HTW := Lib.hid (HT.out.on HB0.out)
  have HSW := Lib.hid (HS.out.on HB0.out)
  clear hb0 HR HT HS d0 d1
  go_wp2_with fail
  refine (awake_any H W).mono ?_
  rintro e w1 ⟨rfl, hV1⟩
  obtain ⟨c0, c1, _⟩ := X1.out.on hV1
  go_wp2_with fail
  refine (fewS_of N A c n l HN.out w1 (HRW.out.on hV1)).mono ?_
  rintro e w2 ⟨q1, rfl, HQ1, hw2⟩
  have hV2 : Below W.heap.size W w2 := below_on hV1 hw2
  clear c0 c1 hV1 hw2 HQ1
  cases q1 with
  | false =>
    go_wp2_with fail
    go_ret
    exact ⟨rfl, below_on HB0.out hV2⟩
  | true =>
    go_wp2_with fail
    refine (short_of B d q ts HQ.out w2 (HTW.out.on hV2)).mono ?_
    rintro e w3 ⟨q2, rfl, HQ2, hw3⟩
    have hV3 := below_on hV2 hw3
    have HQ2 := Lib.hid HQ2
    clear hV2 hw3
    cases q2 with
    | false =>
      go_wp2_with fail
      go_ret
      exact ⟨rfl, below_on HB0.out hV3⟩
    | true =>
      have hq1500 := HQ2.out rfl
      clear HQ2
      go_wp2_with fail
      refine (few_of C g r ps HG.out w3 (HSW.out.on hV3)).mono ?_
      rintro e w4 ⟨q3, rfl, HQ3, hw4⟩
      have hV4 := below_on hV3 hw4
      clear hV3 hw4 HQ3
      cases q3 with
      | false =>
        go_wp2_with fail
        go_ret
        exact ⟨rfl, below_on HB0.out hV4⟩
      | true =>
        rcases hp : Sl.parse (ts.map flatK) i with ⟨⟨M, m⟩, x, z⟩
        have HP := Lib.hid hp
        obtain ⟨k, hk⟩ : ∃ k, k = m.length := ⟨_, rfl⟩
        have HK := Lib.hid hk
        clear hp hk
        go_wp2_with fail
        refine (H.parse B d q ts i M m k x z HQ.out HQD.out hi1 hi2 HP.out HK.out w4 (HTW.out.on hV4)).mono ?_
        rintro e w5 ⟨A5, c5, rfl, HM5, HC5, hw5⟩
        have hV5 := below_on hV4 hw5
        obtain ⟨V1, P1, hE1, hP1, hb1, x0, x1, x2⟩ := box_sel w5 M A5 k c5
        have hb1' : Below w5.heap.size w5 V1 := hP1 ▸ hb1
        have hVV1 := below_on hV5 hb1'
        have X2 : Hid (Bx V1 P1 M A5 k c5) := Lib.hid ⟨x0, x1, x2⟩
        have HM6 := Lib.hid (HM5.out.on hb1')
        clear hV4 hw5 hV5 hb1 hb1' x0 x1 x2 HM5
        go_wp2_with fail
        refine (rparse_of B d q ts i M m k x z HQ.out hq1500 hi1 hi2 HP.out HK.out V1 (HTW.out.on hVV1)).mono ?_
        rintro e w7 ⟨A7, c7, rfl, HM7, HC7, hw7⟩
        have hV7 := below_on hVV1 hw7
        have X2' := Lib.hid (X2.out.on hw7)
        have HM8 := Lib.hid (HM6.out.on hw7)
        obtain ⟨V2, P2, hE2, hP2, hb2, y0, y1, y2⟩ := box_sel w7 M A7 k c7
        have hb2' : Below w7.heap.size w7 V2 := hP2 ▸ hb2
        have hVV2 := below_on hV7 hb2'
        have X3 : Hid (Bx V2 P2 M A7 k c7) := Lib.hid ⟨y0, y1, y2⟩
        have X4 := Lib.hid (X2'.out.on hb2')
        have X5 := Lib.hid (X1.out.on hVV2)
        have HMa := Lib.hid (HM8.out.on hb2')
        have HMb := Lib.hid (HM7.out.on hb2')
        have HBV := Lib.hid (below_on HB0.out hVV2)
        have HRV := Lib.hid (HRW.out.on hVV2)
        have HSV := Lib.hid (HSW.out.on hVV2)
        clear hVV1 hw7 hV7 hb2 hb2' y0 y1 y2 X2 X2' HM6 HM7 HM8 HRW HTW HSW HB0 X1 hVV2
        obtain ⟨b1, hbs⟩ : ∃ b, Sl.saneS (N, l) = b := ⟨_, rfl⟩
        obtain ⟨f, hf⟩ : ∃ b, Sl.fits (N, l) ps = b := ⟨_, rfl⟩
        obtain ⟨S, hS⟩ : ∃ S : ByteArray, S.data.toList = Sl.prS (N, l) := ⟨str (Sl.prS (N, l)), rfl⟩
        have K1 : Hid (∀ V, Below V2.heap.size V2 V → Calls Tryd.prog 14 #[sv N A n c] V fun e w' => e = .returned (.bool b1) ∧ Below V.heap.size V w') := Lib.hid (fun V h => H.sane N A n c l b1 hNs HN.out HNC.out hbs V (HRV.out.on h))
        have K2 : Hid (∀ V, Below V2.heap.size V2 V → Calls Tryd.prog 15 #[sv N A n c] V fun e w' => e = .returned (.bool b1) ∧ Below V.heap.size V w') := Lib.hid (fun V h => rsaneS_of N A c n l b1 hNs HN.out hbs V (HRV.out.on h))
        have K3 : Hid (∀ V, Below V2.heap.size V2 V → Calls Tryd.prog 16 #[sv N A n c] V fun e w' => e = .returned (.string S) ∧ Below V.heap.size V w') := Lib.hid (fun V h => H.print N A n c l S hNs HN.out HNC.out hS V (HRV.out.on h))
        have K4 : Hid (∀ V, Below V2.heap.size V2 V → Calls Tryd.prog 17 #[sv N A n c] V fun e w' => e = .returned (.string S) ∧ Below V.heap.size V w') := Lib.hid (fun V h => rprintS_of N A c n l S hNs HN.out hS V (HRV.out.on h))
        have K5 : Hid (∀ V, Below V2.heap.size V2 V → Calls Tryd.prog 18 #[sv M A5 k c5, sv M A7 k c7] V fun e w' => e = .returned (.bool true) ∧ Below V.heap.size V w') := Lib.hid (fun V h => sameS_of M M A5 A7 c5 c7 k k m m HK.out HK.out true (by simp) V (HMa.out.on h) (HMb.out.on h))
        have K6 : Hid (∀ V, Below V2.heap.size V2 V → Calls Tryd.prog 19 #[sv N A n c, .slice C r g] V fun e w' => e = .returned (.bool f) ∧ Below V.heap.size V w') := Lib.hid (fun V h => H.fits N A n c l C r g ps f hNs HN.out HNC.out HG.out HRG.out hf V (HRV.out.on h) (HSV.out.on h))
        have K7 : Hid (∀ V, Below V2.heap.size V2 V → Calls Tryd.prog 20 #[sv N A n c, .slice C r g] V fun e w' => e = .returned (.bool f) ∧ Below V.heap.size V w') := Lib.hid (fun V h => rfitsS_of N A c n l C g r ps f hNs HN.out HG.out hf V (HRV.out.on h) (HSV.out.on h))
        have Y1 := Lib.hid (fun (V : World) (h : Below V2.heap.size V2 V) => (X5.out.on h).c0)
        have Y2 := Lib.hid (fun (V : World) (h : Below V2.heap.size V2 V) => (X5.out.on h).c1)
        have Y3 := Lib.hid (fun (V : World) (h : Below V2.heap.size V2 V) => (X4.out.on h).c0)
        have Y4 := Lib.hid (fun (V : World) (h : Below V2.heap.size V2 V) => (X4.out.on h).c1)
        have Y5 := Lib.hid (fun (V : World) (h : Below V2.heap.size V2 V) => (X3.out.on h).c0)
        have Y6 := Lib.hid (fun (V : World) (h : Below V2.heap.size V2 V) => (X3.out.on h).c1)
        have hcur : Below V2.heap.size V2 V2.drew := (Below.refl _ _).drew
        have h1b : (b1 == b1) = true := by simp
        have h2b : (S.toList == S.toList) = true := by simp
        have h3b : ((x : Int) == (x : Int)) = true := by simp
        have h4b : (z == z) = true := by simp
        have h5b : (f == f) = true := by simp
        clear hbs hf hS X3 X4 X5
        go_upto_region 6 with fail
        first | (go_region_held (fun V => V.cell? ⟨P, 0, none⟩ = some (.string N) ∧ V.cell? ⟨P, 1, none⟩ = some (.slice A n c) ∧ V.cell? ⟨P1, 0, none⟩ = some (.string M) ∧ V.cell? ⟨P1, 1, none⟩ = some (.slice A5 k c5) ∧ V.cell? ⟨P2, 0, none⟩ = some (.string M) ∧ V.cell? ⟨P2, 1, none⟩ = some (.slice A7 k c7))
          (first | exact ⟨Y1.out _ hcur, Y2.out _ hcur, Y3.out _ hcur, Y4.out _ hcur, Y5.out _ hcur, Y6.out _ hcur⟩)
          (first
            | (go_at_call 14; with_reducible refine (K1.out _ hcur).mono ?_; rintro e w' ⟨rfl, hw'⟩; replace hcur := below_on hcur hw')
            | (go_at_call 15; with_reducible refine (K2.out _ hcur).mono ?_; rintro e w' ⟨rfl, hw'⟩; replace hcur := below_on hcur hw')
            | (go_at_call 16; with_reducible refine (K3.out _ hcur).mono ?_; rintro e w' ⟨rfl, hw'⟩; replace hcur := below_on hcur hw')
            | (go_at_call 17; with_reducible refine (K4.out _ hcur).mono ?_; rintro e w' ⟨rfl, hw'⟩; replace hcur := below_on hcur hw')
            | (go_at_call 18; with_reducible refine (K5.out _ hcur).mono ?_; rintro e w' ⟨rfl, hw'⟩; replace hcur := below_on hcur hw')
            | (go_at_call 19; with_reducible refine (K6.out _ hcur).mono ?_; rintro e w' ⟨rfl, hw'⟩; replace hcur := below_on hcur hw')
            | (go_at_call 20; with_reducible refine (K7.out _ hcur).mono ?_; rintro e w' ⟨rfl, hw'⟩; replace hcur := below_on hcur hw'))) | fail
        all_goals
          go_wp2_with fail
          go_ret
          exact ⟨rfl, below_on HBV.out hcur⟩
end Go.Proofs.YtgahahichplpkaaDoor

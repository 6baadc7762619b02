/-
  The walk of CondIs: what may be asked, what holds, what is printed and parsed is what the document says.
-/
import Derived.Test.YtkoeggjfdcpokaaGreatDoorCondRefW
import Derived.Test.YtkoeggjfdcpokaaGreatDoorCondRefP
namespace Go.Proofs.YtkoeggjfdcpokaaGreatDoor
open Go.RowKit Go.Proofs.YtkoeggjfdcpokaaGreatDoor.Lp
open Go.Proofs.YtkoeggjfdcpokaaGreatDoor.Sl (Mt Sel Tf)

set_option maxHeartbeats 12800000 in
set_option maxRecDepth 100000 in
theorem condIs_any {Ok : World → Prop} (H : CondC Ok) (N : ByteArray) (A : Option Addr) (c n : Nat) (l : List Mt) (o v : Int) (B : Option Addr) (d q : Nat) (ts : List Tz) (i a b : Int) (w : World) (hok : Ok w) (hNs : N.size ≤ 9223372036854775807) (hn : n = l.length) (hr : Rq w w.heap.size A l) (hnc : n ≤ c ∧ c ≤ 9223372036854775807)
    (hq : q = ts.length) (ht : Rz w w.heap.size B ts) (hqd : q ≤ d ∧ d ≤ 9223372036854775807) (hts : ∀ t ∈ ts, t.2.2.size ≤ 1048576) (hi1 : -9223372036854775808 ≤ i) (hi2 : i ≤ 9223372036854775807) :
    Calls Tryz.prog 3 #[xv N A n c o v, .slice B q d, .int .i64 i, .int .i64 a, .int .i64 b] w fun e w' => e = .returned (.bool true) ∧ Below w.heap.size w w' := by
  have HOK := Lib.hid hok
  have HN := Lib.hid hn
  have HQ := Lib.hid hq
  have HNC := Lib.hid hnc
  have HQD := Lib.hid hqd
  have HR := Lib.hid hr
  have HT := Lib.hid ht
  have HTS := Lib.hid hts
  clear hok hn hq hnc hqd hr ht hts
  go_enter Tryz.func3, Tryz.ntmps3
  obtain ⟨W, P, hW, hP, hb0, X⟩ := box_x w N A n c o v
  have X1 := Lib.hid X
  have HB0 := Lib.hid hb0
  have HOW := Lib.hid (H.on _ _ HOK.out hb0)
  have HRW := Lib.hid (HR.out.on hb0)
  have HTW := Lib.hid (HT.out.on hb0)
  clear hb0 HR HT X HOK
  go_wp2_with fail
  refine (awakeX_any H W HOW.out).mono ?_
  rintro e w1 ⟨rfl, hV1⟩
  obtain ⟨c0, c1, c2, c3, _⟩ := X1.out.on hV1
  go_wp2_with fail
  refine (fewS_of N A c n l HN.out w1 (HRW.out.on hV1)).mono ?_
  rintro e w2 ⟨q1, rfl, HQ1, hw2⟩
  have hV2 : Below W.heap.size W w2 := below_on hV1 hw2
  clear c0 c1 c2 c3 hV1 hw2 HQ1
  cases q1 with
  | false =>
    go_wp2_with fail
    go_ret
    exact ⟨rfl, below_on HB0.out hV2⟩
  | true =>
    go_wp2_with fail
    refine (short_of B d q ts HQ.out w2 (HTW.out.on hV2)).mono ?_
    rintro e w3 ⟨q2, rfl, HQ2, hw3⟩
    have hV3 := below_on hV2 hw3
    have HQ2 := Lib.hid HQ2
    clear hV2 hw3
    cases q2 with
    | false =>
      go_wp2_with fail
      go_ret
      exact ⟨rfl, below_on HB0.out hV3⟩
    | true =>
      have hq1500 := HQ2.out rfl
      clear HQ2
      rcases hp : Cd.parse (ts.map flatK) i with ⟨⟨⟨M, m⟩, p, u⟩, x, z⟩
      have HP := Lib.hid hp
      obtain ⟨k, hk⟩ : ∃ k, k = m.length := ⟨_, rfl⟩
      have HK := Lib.hid hk
      clear hp hk
      go_wp2_with fail
      refine (H.parse B d q ts i M m p u k x z HQ.out HQD.out HTS.out hi1 hi2 HP.out HK.out w3 (H.on _ _ HOW.out hV3) (HTW.out.on hV3)).mono ?_
      rintro e w5 ⟨A5, c5, rfl, HM5, HC5, hw5⟩
      have hV5 := below_on hV3 hw5
      obtain ⟨V1, P1, hE1, hP1, hb1, x1⟩ := box_x w5 M A5 k c5 p u
      have hVV1 := below_on hV5 hb1
      have X2 := Lib.hid x1
      have HM6 := Lib.hid (HM5.out.on hb1)
      clear hV3 hw5 hV5 hb1 x1 HM5
      go_wp2_with fail
      refine (rparseX_of B d q ts i M m p u k x z HQ.out hq1500 HTS.out hi1 hi2 HP.out HK.out V1 (HTW.out.on hVV1)).mono ?_
      rintro e w7 ⟨A7, c7, rfl, HM7, HC7, hw7⟩
      have hV7 := below_on hVV1 hw7
      have X2' := Lib.hid (X2.out.on hw7)
      have HM8 := Lib.hid (HM6.out.on hw7)
      obtain ⟨V2, P2, hE2, hP2, hb2, y1⟩ := box_x w7 M A7 k c7 p u
      have hVV2 := below_on hV7 hb2
      have X3 := Lib.hid y1
      have X4 := Lib.hid (X2'.out.on hb2)
      have X5 := Lib.hid (X1.out.on hVV2)
      have HMa := Lib.hid (HM8.out.on hb2)
      have HMb := Lib.hid (HM7.out.on hb2)
      have HBV := Lib.hid (below_on HB0.out hVV2)
      have HRV := Lib.hid (HRW.out.on hVV2)
      have HOV := Lib.hid (H.on _ _ HOW.out hVV2)
      clear hVV1 hw7 hV7 hb2 y1 X2 X2' HM6 HM7 HM8 HRW HTW HB0 X1 hVV2 HOW
      obtain ⟨b1, hbs⟩ : ∃ b, Cd.sane ((N, l), o, v) = b := ⟨_, rfl⟩
      obtain ⟨b2, hbh⟩ : ∃ f, Cd.holds o a b = f := ⟨_, rfl⟩
      obtain ⟨r2, hrn⟩ : ∃ r, Cd.other o = r := ⟨_, rfl⟩
      obtain ⟨S, hS⟩ : ∃ S : ByteArray, S.data.toList = Cd.pr ((N, l), o, v) := ⟨str (Cd.pr ((N, l), o, v)), rfl⟩
      have K1 : Hid (∀ V, Below V2.heap.size V2 V → Calls Tryz.prog 13 #[xv N A n c o v] V fun e w' => e = .returned (.bool b1) ∧ Below V.heap.size V w') := Lib.hid (fun V h => H.sane N A n c l o v b1 hNs HN.out HNC.out hbs V (HRV.out.on h))
      have K2 : Hid (∀ V, Below V2.heap.size V2 V → Calls Tryz.prog 14 #[xv N A n c o v] V fun e w' => e = .returned (.bool b1) ∧ Below V.heap.size V w') := Lib.hid (fun V h => rsaneX_of N A c n l o v b1 hNs HN.out hbs V (HRV.out.on h))
      have K3 : Hid (∀ V, Below V2.heap.size V2 V → Calls Tryz.prog 15 #[.int .i64 o, .int .i64 a, .int .i64 b] V fun e w' => e = .returned (.bool b2) ∧ Below V.heap.size V w') := Lib.hid (fun V _ => H.holds o a b b2 hbh V)
      have K4 : Hid (∀ V, Below V2.heap.size V2 V → Calls Tryz.prog 16 #[.int .i64 o, .int .i64 a, .int .i64 b] V fun e w' => e = .returned (.bool b2) ∧ Below V.heap.size V w') := Lib.hid (fun V _ => rholds_of o a b b2 hbh V)
      have K5 : Hid (∀ V, Below V2.heap.size V2 V → Calls Tryz.prog 17 #[.int .i64 o] V fun e w' => e = .returned (.int .i64 r2) ∧ Below V.heap.size V w') := Lib.hid (fun V h => H.other o r2 hrn V (H.on _ _ HOV.out h))
      have K6 : Hid (∀ V, Below V2.heap.size V2 V → Calls Tryz.prog 18 #[.int .i64 o] V fun e w' => e = .returned (.int .i64 r2) ∧ Below V.heap.size V w') := Lib.hid (fun V _ => rother_of o r2 hrn V)
      have K7 : Hid (∀ V, Below V2.heap.size V2 V → Calls Tryz.prog 19 #[xv N A n c o v] V fun e w' => e = .returned (.string S) ∧ Below V.heap.size V w') := Lib.hid (fun V h => H.print N A n c l o v S hNs HN.out HNC.out hS V (H.on _ _ HOV.out h) (HRV.out.on h))
      have K8 : Hid (∀ V, Below V2.heap.size V2 V → Calls Tryz.prog 20 #[xv N A n c o v] V fun e w' => e = .returned (.string S) ∧ Below V.heap.size V w') := Lib.hid (fun V h => rprintX_of N A c n l o v S hNs HN.out hS V (HRV.out.on h))
      have K9 : Hid (∀ V, Below V2.heap.size V2 V → Calls Tryz.prog 21 #[xv M A5 k c5 p u, xv M A7 k c7 p u] V fun e w' => e = .returned (.bool true) ∧ Below V.heap.size V w') := Lib.hid (fun V h => sameX_of M A5 A7 c5 c7 k m p u HK.out V (HMa.out.on h) (HMb.out.on h))
      have Y1 : Hid (∀ (V : World) (_ : Below V2.heap.size V2 V), V.cell? ⟨P, 0, none⟩ = some (.string N) ∧ V.cell? ⟨P, 1, none⟩ = some (.slice A n c) ∧ V.cell? ⟨P, 2, none⟩ = some (.int .i64 o) ∧ V.cell? ⟨P, 3, none⟩ = some (.int .i64 v)) := Lib.hid (fun V h => ⟨(X5.out.on h).c0, (X5.out.on h).c1, (X5.out.on h).c2, (X5.out.on h).c3⟩)
      have Y2 : Hid (∀ (V : World) (_ : Below V2.heap.size V2 V), V.cell? ⟨P1, 0, none⟩ = some (.string M) ∧ V.cell? ⟨P1, 1, none⟩ = some (.slice A5 k c5) ∧ V.cell? ⟨P1, 2, none⟩ = some (.int .i64 p) ∧ V.cell? ⟨P1, 3, none⟩ = some (.int .i64 u)) := Lib.hid (fun V h => ⟨(X4.out.on h).c0, (X4.out.on h).c1, (X4.out.on h).c2, (X4.out.on h).c3⟩)
      have Y3 : Hid (∀ (V : World) (_ : Below V2.heap.size V2 V), V.cell? ⟨P2, 0, none⟩ = some (.string M) ∧ V.cell? ⟨P2, 1, none⟩ = some (.slice A7 k c7) ∧ V.cell? ⟨P2, 2, none⟩ = some (.int .i64 p) ∧ V.cell? ⟨P2, 3, none⟩ = some (.int .i64 u)) := Lib.hid (fun V h => ⟨(X3.out.on h).c0, (X3.out.on h).c1, (X3.out.on h).c2, (X3.out.on h).c3⟩)
      have hcur : Below V2.heap.size V2 V2.drew := (Below.refl _ _).drew
      have h1b : (b1 == b1) = true := by simp
      have h2b : (S.toList == S.toList) = true := by simp
      have h3b : ((x : Int) == (x : Int)) = true := by simp
      have h4b : (z == z) = true := by simp
      have h5b : (b2 == b2) = true := by simp
      have h6b : (r2 == r2) = true := by simp
      clear hbs hbh hrn hS X3 X4 X5
      go_upto_region 6 with fail
      first | (go_region_held (fun V => (V.cell? ⟨P, 0, none⟩ = some (.string N) ∧ V.cell? ⟨P, 1, none⟩ = some (.slice A n c) ∧ V.cell? ⟨P, 2, none⟩ = some (.int .i64 o) ∧ V.cell? ⟨P, 3, none⟩ = some (.int .i64 v)) ∧ (V.cell? ⟨P1, 0, none⟩ = some (.string M) ∧ V.cell? ⟨P1, 1, none⟩ = some (.slice A5 k c5) ∧ V.cell? ⟨P1, 2, none⟩ = some (.int .i64 p) ∧ V.cell? ⟨P1, 3, none⟩ = some (.int .i64 u)) ∧ (V.cell? ⟨P2, 0, none⟩ = some (.string M) ∧ V.cell? ⟨P2, 1, none⟩ = some (.slice A7 k c7) ∧ V.cell? ⟨P2, 2, none⟩ = some (.int .i64 p) ∧ V.cell? ⟨P2, 3, none⟩ = some (.int .i64 u)))
        (first | exact ⟨Y1.out _ hcur, Y2.out _ hcur, Y3.out _ hcur⟩)
        (first
          | (go_at_call 13; with_reducible refine (K1.out _ hcur).mono ?_; rintro e w' ⟨rfl, hw'⟩; replace hcur := below_on hcur hw')
          | (go_at_call 14; with_reducible refine (K2.out _ hcur).mono ?_; rintro e w' ⟨rfl, hw'⟩; replace hcur := below_on hcur hw')
          | (go_at_call 15; with_reducible refine (K3.out _ hcur).mono ?_; rintro e w' ⟨rfl, hw'⟩; replace hcur := below_on hcur hw')
          | (go_at_call 16; with_reducible refine (K4.out _ hcur).mono ?_; rintro e w' ⟨rfl, hw'⟩; replace hcur := below_on hcur hw')
          | (go_at_call 17; with_reducible refine (K5.out _ hcur).mono ?_; rintro e w' ⟨rfl, hw'⟩; replace hcur := below_on hcur hw')
          | (go_at_call 18; with_reducible refine (K6.out _ hcur).mono ?_; rintro e w' ⟨rfl, hw'⟩; replace hcur := below_on hcur hw')
          | (go_at_call 19; with_reducible refine (K7.out _ hcur).mono ?_; rintro e w' ⟨rfl, hw'⟩; replace hcur := below_on hcur hw')
          | (go_at_call 20; with_reducible refine (K8.out _ hcur).mono ?_; rintro e w' ⟨rfl, hw'⟩; replace hcur := below_on hcur hw')
          | (go_at_call 21; with_reducible refine (K9.out _ hcur).mono ?_; rintro e w' ⟨rfl, hw'⟩; replace hcur := below_on hcur hw'))) | fail
      all_goals
        go_wp2_with fail
        go_ret
        exact ⟨rfl, below_on HBV.out hcur⟩
end Go.Proofs.YtkoeggjfdcpokaaGreatDoor

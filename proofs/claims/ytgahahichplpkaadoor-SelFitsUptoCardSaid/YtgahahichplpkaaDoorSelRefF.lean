/-
  The document's Fits of layer sel.
-/
import Derived.Test.YtgahahichplpkaaDoorSelRefS
import Derived.Test.YtgahahichplpkaaDoorRfLab
namespace Go.Proofs.YtgahahichplpkaaDoor
open Go.RowKit Go.Proofs.YtgahahichplpkaaDoor.Lp
open Go.Proofs.YtgahahichplpkaaDoor.Sl (Mt Sel Tf)

/-- A value that is got, or none. -/
theorem got_is (o : Option ByteArray) : ∃ (V : ByteArray) (b : Bool), gotV o = .tuple #[.string V, .bool b] ∧ o.getD ⟨#[]⟩ = V ∧ (b = true ↔ o = some V) ∧ (b = false → o = none) := by
  cases o with
  | none => exact ⟨⟨#[]⟩, false, rfl, rfl, by simp, fun _ => rfl⟩
  | some V => exact ⟨V, true, rfl, rfl, by simp, fun h => by simp at h⟩
set_option maxHeartbeats 6400000 in
theorem rfitsS_of (N : ByteArray) (A : Option Addr) (c n : Nat) (l : List Mt) (B : Option Addr) (d q : Nat) (ps : List Pr) (f : Bool) (hNs : N.size ≤ 9223372036854775807) (hn : n = l.length) (hq : q = ps.length) (hf : Sl.fits (N, l) ps = f) (w : World) (hr : Rq w w.heap.size A l) (hs : Rd w w.heap.size B ps) :
    Calls Tryd.prog 20 #[sv N A n c, .slice B q d] w fun e w' => e = .returned (.bool f) ∧ Below w.heap.size w w' := by
  have HN := Lib.hid hn
  have HQ := Lib.hid hq
  have HF := Lib.hid hf
  have HR := Lib.hid hr
  have HS := Lib.hid hs
  have hlen : n ≤ 9223372036854775807 := by rw [hn]; exact hr.len
  clear hn hq hf hr hs
  obtain ⟨b1, hb1⟩ : ∃ b, Sl.saneS (N, l) = b := ⟨_, rfl⟩
  obtain ⟨b2, hb2⟩ : ∃ b, saneB ps = b := ⟨_, rfl⟩
  have H1 := Lib.hid hb1
  have H2 := Lib.hid hb2
  clear hb1 hb2
  go_enter Tryd.func20, Tryd.ntmps20
  obtain ⟨W, P, hW, hP, hb0, d0, d1, hPW⟩ := box_sel w N A n c
  have X1 : Hid (Bx W P N A n c) := Lib.hid ⟨d0, d1, hPW⟩
  have HB0 : Hid (Below w.heap.size w W) := Lib.hid (hP ▸ hb0)
  have HRW := Lib.hid (HR.out.on HB0.out)
  have HSW := Lib.hid (HS.out.on HB0.out)
  clear hb0 HR HS
  go_wp2_with fail
  refine (rsaneS_of N A c n l b1 hNs HN.out H1.out W HRW.out).mono ?_
  rintro e w1 ⟨rfl, hV1⟩
  clear d0 d1
  cases b1 with
  | false =>
    have : f = false := by rw [← HF.out]; unfold Sl.fits; rw [H1.out]; rfl
    subst this
    go_wp2_with fail
    go_ret
    exact ⟨rfl, below_on HB0.out hV1⟩
  | true =>
    go_wp2_with fail
    refine (rsane_of B d q ps HQ.out b2 H2.out w1 (HSW.out.on hV1)).mono ?_
    rintro e w2 ⟨rfl, hw2⟩
    have hV2 : Below W.heap.size W w2 := by first | exact below_on hV1 hw2 | exact hw2 ▸ hV1
    clear hV1 hw2
    cases b2 with
    | false =>
      have : f = false := by rw [← HF.out]; unfold Sl.fits; rw [H2.out]; simp
      subst this
      go_wp2_with fail
      go_ret
      exact ⟨rfl, below_on HB0.out hV2⟩
    | true =>
      obtain ⟨o, ho⟩ : ∃ o, getS (asL ps) Sl.nameL = o := ⟨_, rfl⟩
      have HO := Lib.hid ho
      clear ho
      obtain ⟨V, b, hgV, hoV, hob, hon⟩ := got_is o
      go_wp2_with fail
      refine (rget_of B d q ps HQ.out Sl.nameL o HO.out w2 (HSW.out.on hV2)).mono ?_
      rintro e w3 ⟨rfl, hw3⟩
      rw [hgV]
      have hV3 := below_on hV2 hw3
      have HGt : Hid (getS ps Sl.nameL = o) := Lib.hid (by rw [← HO.out, asL_sane H2.out])
      obtain ⟨d0, d1, _⟩ := X1.out.on hV3
      clear hV2 hw3
      cases b with
      | false =>
        have : f = false := by
          rw [← HF.out]; unfold Sl.fits
          rw [HGt.out, hon rfl]; simp
        subst this
        clear hgV hoV hob hon
        go_wp2_with fail
        go_ret
        exact ⟨rfl, below_on HB0.out hV3⟩
      | true =>
        have hoS := hob.1 rfl
        by_cases hVN : V = N
        · subst hVN
          have HFl : Hid (l.all (Sl.mFits ps) = f) := Lib.hid (by
            rw [← HF.out]; unfold Sl.fits
            rw [H1.out, H2.out, HGt.out, hoS]; simp)
          have hnv := neq_of (rfl : V = V)
          clear hgV hoV hob hon hoS
          go_wp2_with fail
          go_loopg [7, 8, 9] n (fun g s7 _ _ wx => ∃ i : Nat, i + g = n ∧ s7 = .int .i64 i ∧ Hid ((l.take i).all (Sl.mFits ps) = true) ∧ Below W.heap.size W wx)
          case atStart => exact ⟨0, by omega, rfl, Lib.hid rfl, hV3⟩
          case round =>
            obtain ⟨i, hi, rfl, HA, hwx⟩ := hrel
            clear d0 d1
            obtain ⟨d0, d1, _⟩ := X1.out.on hwx
            cases gk with
            | zero =>
              obtain rfl : i = n := by omega
              have : f = true := by
                rw [← HFl.out]
                have := HA.out
                rwa [List.take_of_length_le (by rw [HN.out]; exact Nat.le_refl _)] at this
              subst this
              go_wp2_with fail
              go_ret
              exact ⟨rfl, below_on HB0.out hwx⟩
            | succ g =>
              have hlt : i < n := by omega
              have hltz : (i : Int) < (n : Int) := by omega
              obtain ⟨a1, a2, a3, ha⟩ := getM (l := l) (k := i) (by have := HN.out; omega)
              obtain ⟨bk, off, rfl, hbk, c0, c1, c2⟩ := (HRW.out.on hwx).get ha
              have HM := Lib.hid ha
              clear ha
              obtain ⟨o2, ho2⟩ : ∃ o, getS (asL ps) a1 = o := ⟨_, rfl⟩
              have HO2 := Lib.hid ho2
              clear ho2
              obtain ⟨V2, b2, hgV2, hoV2, _, _⟩ := got_is o2
              go_wp2_with fail
              refine (rget_of B d q ps HQ.out a1 o2 HO2.out wr (HSW.out.on hwx)).mono ?_
              rintro e w4 ⟨rfl, hw4⟩
              rw [hgV2]
              have hmf : Hid (Sl.mFits ps (a1, a2, a3) = (decide (V2 = a2) != a3)) := Lib.hid (by
                unfold Sl.mFits
                rw [← asL_sane H2.out, HO2.out, hoV2])
              have hV4 := below_on hwx hw4
              have hlt4 : bk < w4.heap.size := Nat.lt_of_lt_of_le hbk hw4.size
              have k0 := (hw4.cell (p := ⟨bk, off + i * 3 + 1, none⟩) hbk).trans c1
              have k1 := (hw4.cell (p := ⟨bk, off + i * 3 + 2, none⟩) hbk).trans c2
              clear d0 d1 c0 c1 c2 hgV2 hoV2
              obtain ⟨d0, d1, _⟩ := X1.out.on hV4
              obtain ⟨t, ht⟩ : ∃ t, decide (V2 = a2) = t := ⟨_, rfl⟩
              have hte : (V2.toList == a2.toList) = t := by rw [Lp.beq_tl]; exact ht
              rw [ht] at hmf
              clear ht
              by_cases hcmp : t = a3
              · subst hcmp
                have htt : (t == t) = true := by simp
                have hfm : Sl.mFits ps (a1, a2, t) = false := by rw [hmf.out]; simp
                have : f = false := by rw [← HFl.out]; exact all_no _ HM.out hfm
                subst this
                go_wp2_with fail
                go_quiet (fail)
                go_wp2_with fail
                go_ret
                exact ⟨rfl, below_on HB0.out (below_on hV4 (below_drewN w4 _))⟩
              · have htt : (t == a3) = false := by simpa using hcmp
                have HA' : Hid ((l.take (i + 1)).all (Sl.mFits ps) = true) := Lib.hid (by
                  rw [all_take _ HM.out HA.out, hmf.out]
                  simpa using hcmp)
                clear hcmp
                go_wp2_with fail
                go_quiet (fail)
                go_wp2_with fail
                go_roundg g
                case measure => omega
                case rel => exact ⟨i + 1, by omega, by simp, HA', below_on hV4 (below_drewN w4 _)⟩
        · have hnv := neq_no hVN
          have hnv2 : (V.toList == N.toList) = false := by rw [Lp.beq_tl]; simpa using hVN
          have : f = false := by
            rw [← HF.out]; unfold Sl.fits
            rw [HGt.out, hoS]; simp [hVN]
          subst this
          clear hgV hoV hob hon hoS hVN
          go_wp2_with fail
          go_ret
          exact ⟨rfl, below_on HB0.out hV3⟩
end Go.Proofs.YtgahahichplpkaaDoor

/-
  The walk of layer codec's law CodecOnly: it answers true.
-/
import Derived.Test.YtnieojdlmanckaaCodLaw
import Derived.Deep.DeepCutAuto
import Derived.Deep.RegionWith
import Derived.Deep.RegionHeld
namespace Go.Proofs.Ytnieojdlmanckaa
open Go.RowKit Go.Proofs.Ytnieojdlmanckaa.Lp

theorem tx_glue {a b l : List Nat} (h : l = a ++ b) (hl : l.length ≤ 1000) {S T U : ByteArray} (ha : Kc.tx a = S) (hb : Kc.tx b = T) (hu : Kc.tx l = U) : ∀ w : World, (Op.stringOp .add S T).run Try.prog w = .ok (.string U) w := by
  intro w
  have e : U = S ++ T := by rw [← ha, ← hb, ← hu, h, Kc.tx_app]
  have h1 : S.size = a.length := by rw [← ha, Kc.tx_size]
  have h2 : T.size = b.length := by rw [← hb, Kc.tx_size]
  have h3 : a.length + b.length = l.length := by rw [h, List.length_append]
  rw [e]
  exact run_string_add_sum w S T (by omega)
theorem held_take {P : Program} {ops : Array Oper} {Q : Exit → Act → World → Prop} {md : Region.Mode} {S : World → Prop} {i d : Nat} {oi : Oper} {v : Value} {fuel : Nat} {listed : Array Bool} {T : Array Value} {D : _} {w : World} (hi : ops[i]? = some oi) (hd : oi.dst = some d)
    (hs : Region.noSelect ops = true) (hf : Region.free md ops listed i = true) (hr : (Region.ready md ops listed).contains i = true)
    (hQ : ∀ c a w, Q (.panic c) (a.put oi.dst v) w → Q (.panic c) a w) (hy : YieldsIf P ops S oi v ⟨T, D⟩) (hS : S w)
    (h : wpAnyH P md ops Q S fuel (listed.setIfInBounds i true) ⟨T.setIfInBounds d v, D⟩ w) : wpAnyH P md ops Q S (fuel + 1) listed ⟨T, D⟩ w :=
  wpAnyH_take hi hs hf hr hQ hy hS (by rw [hd]; exact h)
set_option maxHeartbeats 6400000 in
set_option maxRecDepth 100000 in
theorem codecOnly_any (H : Cod) (A : Option Addr) (c n : Nat) (b : List Nat) (w : World) (hn : n = b.length) (hr : Rb w w.heap.size A b) (hnc : Cap n c) :
    Calls Try.prog 4 #[.slice A n c] w fun e w' => e = .returned (.bool true) ∧ Below w.heap.size w w' := by
  have HN := Lib.hid hn
  have HR := Lib.hid hr
  have HC := Lib.hid hnc
  have hlen : n ≤ 9223372036854775807 := by rw [hn]; exact hr.len
  clear hn hr hnc
  go_enter Try.func4, Try.ntmps4
  go_wp2_with fail
  refine (awake_any H _).mono ?_
  rintro e w1 ⟨rfl, hb1⟩
  by_cases h0 : (1000 : Int) < (n : Int)
  · go_wp2_with fail
    go_ret
    exact ⟨rfl, hb1⟩
  have hb1000 : b.length ≤ 1000 := by have := HN.out; omega
  have HBL := Lib.hid hb1000
  obtain ⟨⟨x, r1, z1⟩, hg1⟩ : ∃ g, Kc.getU b = g := ⟨_, rfl⟩
  obtain ⟨⟨i, r2, z2⟩, hg2⟩ : ∃ g, Kc.getI b = g := ⟨_, rfl⟩
  obtain ⟨⟨a3, r3, z3⟩, hg3⟩ : ∃ g, Kc.getT b = g := ⟨_, rfl⟩
  obtain ⟨⟨ps, r4, z4⟩, hg4⟩ : ∃ g, Kc.getL b = g := ⟨_, rfl⟩
  have hz2 : z2 = z1 := by
    have := Kc.getI_err b
    rw [hg1, hg2] at this
    exact this
  subst hz2
  have G1 := Lib.hid hg1
  have G2 := Lib.hid hg2
  have G3 := Lib.hid hg3
  have G4 := Lib.hid hg4
  obtain ⟨T3, hT3⟩ : ∃ T, Kc.tx a3 = T := ⟨_, rfl⟩
  have HT3 := Lib.hid hT3
  obtain ⟨k1, hk1⟩ : ∃ k, r1.length = k := ⟨_, rfl⟩
  obtain ⟨k2, hk2⟩ : ∃ k, r2.length = k := ⟨_, rfl⟩
  obtain ⟨k3, hk3⟩ : ∃ k, r3.length = k := ⟨_, rfl⟩
  obtain ⟨k4, hk4⟩ : ∃ k, r4.length = k := ⟨_, rfl⟩
  obtain ⟨q4, hq4⟩ : ∃ k, ps.length = k := ⟨_, rfl⟩
  have HK1 := Lib.hid hk1.symm
  have HK2 := Lib.hid hk2.symm
  have HK3 := Lib.hid hk3.symm
  have HK4 := Lib.hid hk4.symm
  have HQ4 := Lib.hid hq4.symm
  clear hg1 hg2 hg3 hg4 hk1 hk2 hk3 hk4 hq4 hT3 hb1000
  go_wp2_with fail
  refine (H.getU A n c b r1 x k1 z2 HN.out HC.out G1.out HK1.out _ (HR.out.on hb1)).mono ?_
  rintro e w2 ⟨A1, c1, rfl, HR1, HC1, hw2⟩
  have hb2 := below_on hb1 hw2
  clear hw2 hb1
  go_wp2_with fail
  refine (H.getI A n c b r2 i k2 z2 HN.out HC.out G2.out HK2.out _ (HR.out.on hb2)).mono ?_
  rintro e w3 ⟨A2, c2, rfl, HR2, HC2, hw3⟩
  have hb3 := below_on hb2 hw3
  have HR1' := Lib.hid (HR1.out.on hw3)
  clear hw3 hb2 HR1
  go_wp2_with fail
  refine (H.getT A n c b a3 r3 T3 k3 z3 HN.out HC.out G3.out HT3.out HK3.out _ (HR.out.on hb3)).mono ?_
  rintro e w4 ⟨A3, c3, rfl, HR3, HC3, hw4⟩
  have hb4 := below_on hb3 hw4
  have HR1 := Lib.hid (HR1'.out.on hw4)
  have HR2' := Lib.hid (HR2.out.on hw4)
  clear hw4 hb3 HR1' HR2
  go_wp2_with fail
  refine (H.getL A n c b r4 ps q4 k4 z4 HN.out HC.out G4.out HQ4.out HK4.out _ (HR.out.on hb4)).mono ?_
  rintro e w5 ⟨B4, d4, A4, c4, rfl, HP4, HQC4, HR4, HC4, hw5⟩
  have hb5 := below_on hb4 hw5
  obtain ⟨SB, hSB⟩ : ∃ S, Kc.tx b = S := ⟨_, rfl⟩
  obtain ⟨S1, hS1⟩ : ∃ S, Kc.tx r1 = S := ⟨_, rfl⟩
  obtain ⟨S2, hS2⟩ : ∃ S, Kc.tx r2 = S := ⟨_, rfl⟩
  obtain ⟨S3, hS3⟩ : ∃ S, Kc.tx r3 = S := ⟨_, rfl⟩
  obtain ⟨S4, hS4⟩ : ∃ S, Kc.tx r4 = S := ⟨_, rfl⟩
  have X0 : Hid (Txt w5 A n c SB) := Lib.hid (txt_of HN.out (HR.out.on hb5) hSB)
  have X1 : Hid (Txt w5 A1 k1 c1 S1) := Lib.hid (txt_of HK1.out (HR1.out.on hw5) hS1)
  have X2 : Hid (Txt w5 A2 k2 c2 S2) := Lib.hid (txt_of HK2.out (HR2'.out.on hw5) hS2)
  have X3 : Hid (Txt w5 A3 k3 c3 S3) := Lib.hid (txt_of HK3.out (HR3.out.on hw5) hS3)
  have X4 : Hid (Txt w5 A4 k4 c4 S4) := Lib.hid (txt_of HK4.out HR4.out hS4)
  have HSB := Lib.hid hSB
  have HS1 := Lib.hid hS1
  have HS2 := Lib.hid hS2
  have HS3 := Lib.hid hS3
  have HS4 := Lib.hid hS4
  have hSS : (SB.toList == SB.toList) = true := by simp
  have hzz : (z2 == z2) = true := by simp
  have HSm : Hid (∀ y ∈ b, y < 256) := Lib.hid HR.out.small
  clear hw5 hb4 HR1 HR2' HR3 HR4 HC1 HC2 HC3 HC4 hSB hS1 hS2 hS3 hS4
  go_upto_region 8 with fail
  go_cut [75] (fun s75 wx => s75 = .bool false ∧ Below w5.heap.size w5 wx)
  case first =>
    by_cases hz : z2 = 0
    · subst hz
      obtain ⟨e1, e2⟩ := Kc.getU_only HSm.out G1.out
      obtain ⟨U, hU⟩ : ∃ S, Kc.tx (Kc.enc x) = S := ⟨_, rfl⟩
      have hadd := tx_glue e1 HBL.out hU HS1.out HSB.out
      have HP : Hid (Kc.putU [] (x : Int) = Kc.enc x) := Lib.hid (Kc.putU_ok e2 [])
      obtain ⟨m, hm⟩ : ∃ k, (Kc.enc x).length = k := ⟨_, rfl⟩
      have HM := Lib.hid hm.symm
      have HU := Lib.hid hU
      have hxb : Hid ((-9223372036854775808 : Int) ≤ (x : Int) ∧ (x : Int) ≤ 9223372036854775807) := Lib.hid (by omega)
      clear hm hU e1 e2
      have hund : undef = Value.tuple #[] := rfl
      first | ((go_region_held (fun W => (convert 23 9 (.slice A1 k1 c1)).run Try.prog W = .ok (.string S1) W ∧ (convert 23 9 (.slice A n c)).run Try.prog W = .ok (.string SB) W)
        (first | exact ⟨X1.out _ (Below.refl _ _).drew, X0.out _ (Below.refl _ _).drew⟩ | exact ⟨X1.out _ hbc, X0.out _ hbc⟩)
        (first | (go_at_call 14; refine (H.putU _ none 0 0 [] (Kc.enc x) m hxb.out.1 hxb.out.2 rfl (by decide) cap0 HP.out HM.out _ (Rb.none_ _ _ _)).mono ?_; rintro e w6 ⟨A6, c6, rfl, HR6, HC6, hw6⟩; have hcv := conv_rb (c := c6) HM.out HR6.out HU.out; have hbc := below_on (Below.refl w5.heap.size w5).drew hw6)))) | fail
      clear hund
      all_goals
        go_wp2_with fail
        go_meet
        exact ⟨rfl, hbc⟩
    · obtain ⟨e1, e2⟩ := Kc.getU_no G1.out hz
      subst e1
      have hk0 : k1 = 0 := by rw [HK1.out, e2]; rfl
      subst hk0
      have hz1 : (z2 == 0) = false := by simpa using hz
      have hz2 : (z2 != 0) = true := by simpa using hz
      have hz3 : (z2 != z2) = false := by simp
      clear e2 hz
      go_quiet (fail)
      go_wp2_with fail
      go_meet
      exact ⟨rfl, below_drewN _ _⟩
  case rest =>
    generalize wc = V at hcut ⊢
    obtain ⟨rfl, hbV⟩ := hcut
    have hbV0 := below_on hb5 hbV
    have Y0 : Hid (Txt V A n c SB) := Lib.hid (fun W h => X0.out W (below_on hbV h))
    have Y2 : Hid (Txt V A2 k2 c2 S2) := Lib.hid (fun W h => X2.out W (below_on hbV h))
    have Y3 : Hid (Txt V A3 k3 c3 S3) := Lib.hid (fun W h => X3.out W (below_on hbV h))
    have Y4 : Hid (Txt V A4 k4 c4 S4) := Lib.hid (fun W h => X4.out W (below_on hbV h))
    have HP4' := Lib.hid (HP4.out.on hbV)
    clear X0 X1 X2 X3 X4 hbV hb5 HP4
    go_upto_region 10 with fail
    go_cut [103] (fun s103 wx => s103 = .bool false ∧ Below V.heap.size V wx)
    case first =>
      have hund : undef = Value.tuple #[] := rfl
      have hib := Kc.getI_bd HSm.out G2.out
      have hib' : Hid (-9223372036854775808 ≤ i ∧ i ≤ 9223372036854775807) := Lib.hid (by omega)
      clear hib
      by_cases hz : z2 = 0
      · subst hz
        have e2 := Kc.getI_only HSm.out G2.out
        obtain ⟨E2, hE2⟩ : ∃ E, Kc.putI [] i = E := ⟨_, rfl⟩
        rw [hE2] at e2
        obtain ⟨U2, hU2⟩ : ∃ S, Kc.tx E2 = S := ⟨_, rfl⟩
        have hadd2 := tx_glue e2 HBL.out hU2 HS2.out HSB.out
        obtain ⟨m2, hm2⟩ : ∃ k, E2.length = k := ⟨_, rfl⟩
        have HE2 := Lib.hid hE2
        have HM2 := Lib.hid hm2.symm
        have HU2 := Lib.hid hU2
        clear hE2 hU2 hm2 e2
        by_cases hg : z3 = 0
        · subst hg
          obtain ⟨e3, h3⟩ := Kc.getT_only HSm.out G3.out
          obtain ⟨E3, hE3⟩ : ∃ E, Kc.encT a3 = E := ⟨_, rfl⟩
          rw [hE3] at e3
          obtain ⟨U3, hU3⟩ : ∃ S, Kc.tx E3 = S := ⟨_, rfl⟩
          have hadd3 := tx_glue e3 HBL.out hU3 HS3.out HSB.out
          obtain ⟨m3, hm3⟩ : ∃ k, E3.length = k := ⟨_, rfl⟩
          have hbs3 : Kc.bs T3 = a3 := by
            rw [← HT3.out]
            refine Kc.bs_tx fun y hy => HSm.out y ?_
            have := Kc.getT_text b
            rw [G3.out] at this
            exact this y hy
          have HE3 : Hid (Kc.putT [] (Kc.bs T3) = E3) := Lib.hid (by rw [hbs3, Kc.putT_ok h3, hE3, List.nil_append])
          have hsz3 : Hid (T3.size ≤ 9223372036854775807) := Lib.hid (by rw [← HT3.out, Kc.tx_size]; omega)
          have HM3 := Lib.hid hm3.symm
          have HU3 := Lib.hid hU3
          clear hE3 hU3 hm3 e3 hbs3 h3
          first | ((go_region_held (fun W => (convert 23 9 (.slice A2 k2 c2)).run Try.prog W = .ok (.string S2) W ∧ (convert 23 9 (.slice A3 k3 c3)).run Try.prog W = .ok (.string S3) W ∧ (convert 23 9 (.slice A n c)).run Try.prog W = .ok (.string SB) W)
            (first | exact ⟨Y2.out _ hbd, Y3.out _ hbd, Y0.out _ hbd⟩ | exact ⟨Y2.out _ hbc, Y3.out _ hbc, Y0.out _ hbc⟩ | exact ⟨Y2.out _ (Below.refl _ _).drew, Y3.out _ (Below.refl _ _).drew, Y0.out _ (Below.refl _ _).drew⟩)
            (first
              | (go_at_call 13; refine (H.putI i none 0 0 [] E2 m2 hib'.out.1 hib'.out.2 rfl (by decide) cap0 HE2.out HM2.out _ (Rb.none_ _ _ _)).mono ?_; rintro e w6 ⟨A6, c6, rfl, HR6, HC6, hw6⟩; have hcv := conv_rb (c := c6) HM2.out HR6.out HU2.out; have hbc := below_on (Below.refl V.heap.size V).drew hw6)
              | (go_at_call 12; have h := hbc; refine (H.putT T3 none 0 0 [] E3 m3 hsz3.out rfl (by decide) cap0 HE3.out HM3.out _ (Rb.none_ _ _ _)).mono ?_; rintro e w7 ⟨A7, c7, rfl, HR7, HC7, hw7⟩; have hcv2 := conv_rb (c := c7) HM3.out HR7.out HU3.out; have hbd := below_on h hw7)))) | fail
          clear hund
          all_goals
            go_wp2_with fail
            go_meet
            exact ⟨rfl, hbd⟩
        · have hg1 : (z3 == 0) = false := by simpa using hg
          clear hg
          refine wp_region_held_drew (S := (fun W => (convert 23 9 (.slice A2 k2 c2)).run Try.prog W = .ok (.string S2) W ∧ (convert 23 9 (.slice A n c)).run Try.prog W = .ok (.string SB) W)) (by kernel_rfl) ⟨Y2.out _ (Below.refl _ _).drew, Y0.out _ (Below.refl _ _).drew⟩ (fun hHeld => ?_)
          refine held_take (i := 0) (d := 76) (v := ?v0) rfl rfl (by kernel_rfl) (by kernel_rfl) (by kernel_rfl) (fun _ _ _ h => h) (Or.inl ⟨by rfl, ?y0⟩) (by assumption) ?r0
          case y0 => (intro w hSw; (try dsimp only at hSw); go_simp <;> with_reducible rfl)
          (simp only [List.setIfInBounds_toArray, List.set_cons_zero, List.set_cons_succ])
          refine held_take (i := 1) (d := 77) (v := ?v1) rfl rfl (by kernel_rfl) (by kernel_rfl) (by kernel_rfl) (fun _ _ _ h => h) (Or.inl ⟨by rfl, ?y1⟩) (by assumption) ?r1
          case y1 => (intro w hSw; (try dsimp only at hSw); go_simp <;> with_reducible rfl)
          (simp only [List.setIfInBounds_toArray, List.set_cons_zero, List.set_cons_succ])
          refine held_take (i := 2) (d := 78) (v := ?v2) rfl rfl (by kernel_rfl) (by kernel_rfl) (by kernel_rfl) (fun _ _ _ h => h) (Or.inl ⟨by rfl, ?y2⟩) (by assumption) ?r2
          case y2 => (intro w hSw; (try dsimp only at hSw); go_simp <;> with_reducible rfl)
          (simp only [List.setIfInBounds_toArray, List.set_cons_zero, List.set_cons_succ])
          refine held_take (i := 3) (d := 79) (v := ?v3) rfl rfl (by kernel_rfl) (by kernel_rfl) (by kernel_rfl) (fun _ _ _ h => h) (Or.inl ⟨by rfl, ?y3⟩) (by assumption) ?r3
          case y3 => (intro w hSw; (try dsimp only at hSw); go_simp <;> with_reducible rfl)
          (simp only [List.setIfInBounds_toArray, List.set_cons_zero, List.set_cons_succ])
          refine held_take (i := 6) (d := 82) (v := ?v6) rfl rfl (by kernel_rfl) (by kernel_rfl) (by kernel_rfl) (fun _ _ _ h => h) (Or.inl ⟨by rfl, ?y6⟩) (by assumption) ?r6
          case y6 => (intro w hSw; (try dsimp only at hSw); go_simp <;> with_reducible rfl)
          (simp only [List.setIfInBounds_toArray, List.set_cons_zero, List.set_cons_succ])
          refine held_take (i := 7) (d := 83) (v := ?v7) rfl rfl (by kernel_rfl) (by kernel_rfl) (by kernel_rfl) (fun _ _ _ h => h) (Or.inl ⟨by rfl, ?y7⟩) (by assumption) ?r7
          case y7 => (intro w hSw; (try dsimp only at hSw); go_simp <;> with_reducible rfl)
          (simp only [List.setIfInBounds_toArray, List.set_cons_zero, List.set_cons_succ])
          refine held_take (i := 9) (d := 85) (v := ?v9) rfl rfl (by kernel_rfl) (by kernel_rfl) (by kernel_rfl) (fun _ _ _ h => h) (Or.inl ⟨by rfl, ?y9⟩) (by assumption) ?r9
          case y9 => (intro w hSw; (try dsimp only at hSw); go_simp <;> with_reducible rfl)
          (simp only [List.setIfInBounds_toArray, List.set_cons_zero, List.set_cons_succ])
          refine held_take (i := 10) (d := 86) (v := ?v10) rfl rfl (by kernel_rfl) (by kernel_rfl) (by kernel_rfl) (fun _ _ _ h => h) (Or.inl ⟨by rfl, ?y10⟩) (by assumption) ?r10
          case y10 => (intro w hSw; (try dsimp only at hSw); go_simp <;> with_reducible rfl)
          (simp only [List.setIfInBounds_toArray, List.set_cons_zero, List.set_cons_succ])
          refine wpAnyH_ready (rs := [4]) (by kernel_rfl) (by simp) ?_
          refine AllReadyH.cons rfl (fun K hK => ?_) AllReadyH.nil
          go_simp
          go_wp2_with (go_at_call 13; refine (H.putI i none 0 0 [] E2 m2 hib'.out.1 hib'.out.2 rfl (by decide) cap0 HE2.out HM2.out _ (Rb.none_ _ _ _)).mono ?_; rintro e w6 ⟨A6, c6, rfl, HR6, HC6, hw6⟩; have hcv := conv_rb (c := c6) HM2.out HR6.out HU2.out; have hbc := below_on (Below.refl V.heap.size V).drew hw6)
          refine hK.out _ _ (⟨Y2.out _ hbc, Y0.out _ hbc⟩) (fun hHeld => ?_)
          clear hK K
          refine wpAnyH_ready (rs := [5]) (by kernel_rfl) (by simp) ?_
          refine AllReadyH.cons rfl (fun K hK => ?_) AllReadyH.nil
          go_simp
          refine hK.out _ _ (⟨Y2.out _ hbc, Y0.out _ hbc⟩) (fun hHeld => ?_)
          clear hK K
          refine held_take (i := 8) (d := 84) (v := ?v8) rfl rfl (by kernel_rfl) (by kernel_rfl) (by kernel_rfl) (fun _ _ _ h => h) (Or.inl ⟨by rfl, ?y8⟩) (by assumption) ?r8
          case y8 => (intro w hSw; (try dsimp only at hSw); go_simp <;> with_reducible rfl)
          (simp only [List.setIfInBounds_toArray, List.set_cons_zero, List.set_cons_succ])
          refine held_take (i := 11) (d := 87) (v := ?v11) rfl rfl (by kernel_rfl) (by kernel_rfl) (by kernel_rfl) (fun _ _ _ h => h) (Or.inl ⟨by rfl, ?y11⟩) (by assumption) ?r11
          case y11 => (intro w hSw; (try dsimp only at hSw); go_simp <;> with_reducible rfl)
          (simp only [List.setIfInBounds_toArray, List.set_cons_zero, List.set_cons_succ])
          refine held_take (i := 12) (d := 88) (v := ?v12) rfl rfl (by kernel_rfl) (by kernel_rfl) (by kernel_rfl) (fun _ _ _ h => h) (Or.inl ⟨by rfl, ?y12⟩) (by assumption) ?r12
          case y12 => (intro w hSw; (try dsimp only at hSw); go_simp <;> with_reducible rfl)
          (simp only [List.setIfInBounds_toArray, List.set_cons_zero, List.set_cons_succ])
          refine held_take (i := 13) (d := 89) (v := ?v13) rfl rfl (by kernel_rfl) (by kernel_rfl) (by kernel_rfl) (fun _ _ _ h => h) (Or.inl ⟨by rfl, ?y13⟩) (by assumption) ?r13
          case y13 => (intro w hSw; (try dsimp only at hSw); go_simp <;> with_reducible rfl)
          (simp only [List.setIfInBounds_toArray, List.set_cons_zero, List.set_cons_succ])
          refine held_take (i := 14) (d := 90) (v := ?v14) rfl rfl (by kernel_rfl) (by kernel_rfl) (by kernel_rfl) (fun _ _ _ h => h) (Or.inl ⟨by rfl, ?y14⟩) (by assumption) ?r14
          case y14 => (intro w hSw; (try dsimp only at hSw); go_simp <;> with_reducible rfl)
          (simp only [List.setIfInBounds_toArray, List.set_cons_zero, List.set_cons_succ])
          refine held_take (i := 15) (d := 91) (v := ?v15) rfl rfl (by kernel_rfl) (by kernel_rfl) (by kernel_rfl) (fun _ _ _ h => h) (Or.inl ⟨by rfl, ?y15⟩) (by assumption) ?r15
          case y15 => (intro w hSw; (try dsimp only at hSw); go_simp <;> with_reducible rfl)
          (simp only [List.setIfInBounds_toArray, List.set_cons_zero, List.set_cons_succ])
          refine held_take (i := 16) (d := 92) (v := ?v16) rfl rfl (by kernel_rfl) (by kernel_rfl) (by kernel_rfl) (fun _ _ _ h => h) (Or.inl ⟨by rfl, ?y16⟩) (by assumption) ?r16
          case y16 => (intro w hSw; (try dsimp only at hSw); go_simp <;> with_reducible rfl)
          (simp only [List.setIfInBounds_toArray, List.set_cons_zero, List.set_cons_succ])
          refine held_take (i := 17) (d := 93) (v := undef) rfl rfl (by kernel_rfl) (by kernel_rfl) (by kernel_rfl) (fun _ _ _ h => h) (Or.inr ⟨by rfl, rfl⟩) (by assumption) ?_
          (simp only [List.setIfInBounds_toArray, List.set_cons_zero, List.set_cons_succ])
          refine held_take (i := 20) (d := 96) (v := undef) rfl rfl (by kernel_rfl) (by kernel_rfl) (by kernel_rfl) (fun _ _ _ h => h) (Or.inr ⟨by rfl, rfl⟩) (by assumption) ?_
          (simp only [List.setIfInBounds_toArray, List.set_cons_zero, List.set_cons_succ])
          refine held_take (i := 21) (d := 97) (v := undef) rfl rfl (by kernel_rfl) (by kernel_rfl) (by kernel_rfl) (fun _ _ _ h => h) (Or.inr ⟨by rfl, rfl⟩) (by assumption) ?_
          (simp only [List.setIfInBounds_toArray, List.set_cons_zero, List.set_cons_succ])
          refine held_take (i := 23) (d := 99) (v := undef) rfl rfl (by kernel_rfl) (by kernel_rfl) (by kernel_rfl) (fun _ _ _ h => h) (Or.inr ⟨by rfl, rfl⟩) (by assumption) ?_
          (simp only [List.setIfInBounds_toArray, List.set_cons_zero, List.set_cons_succ])
          refine held_take (i := 24) (d := 100) (v := undef) rfl rfl (by kernel_rfl) (by kernel_rfl) (by kernel_rfl) (fun _ _ _ h => h) (Or.inr ⟨by rfl, rfl⟩) (by assumption) ?_
          (simp only [List.setIfInBounds_toArray, List.set_cons_zero, List.set_cons_succ])
          refine wpAnyH_ready (rs := [18]) (by kernel_rfl) (by simp) ?_
          refine AllReadyH.cons rfl (fun K hK => ?_) AllReadyH.nil
          go_simp
          refine hK.out _ _ (⟨Y2.out _ hbc, Y0.out _ hbc⟩) (fun hHeld => ?_)
          clear hK K
          refine held_take (i := 19) (d := 95) (v := undef) rfl rfl (by kernel_rfl) (by kernel_rfl) (by kernel_rfl) (fun _ _ _ h => h) (Or.inr ⟨by rfl, rfl⟩) (by assumption) ?_
          (simp only [List.setIfInBounds_toArray, List.set_cons_zero, List.set_cons_succ])
          refine held_take (i := 22) (d := 98) (v := undef) rfl rfl (by kernel_rfl) (by kernel_rfl) (by kernel_rfl) (fun _ _ _ h => h) (Or.inr ⟨by rfl, rfl⟩) (by assumption) ?_
          (simp only [List.setIfInBounds_toArray, List.set_cons_zero, List.set_cons_succ])
          refine held_take (i := 25) (d := 101) (v := undef) rfl rfl (by kernel_rfl) (by kernel_rfl) (by kernel_rfl) (fun _ _ _ h => h) (Or.inr ⟨by rfl, rfl⟩) (by assumption) ?_
          (simp only [List.setIfInBounds_toArray, List.set_cons_zero, List.set_cons_succ])
          refine held_take (i := 26) (d := 102) (v := ?v26) rfl rfl (by kernel_rfl) (by kernel_rfl) (by kernel_rfl) (fun _ _ _ h => h) (Or.inl ⟨by rfl, ?y26⟩) (by assumption) ?r26
          case y26 => (intro w hSw; (try dsimp only at hSw); go_simp <;> with_reducible rfl)
          (simp only [List.setIfInBounds_toArray, List.set_cons_zero, List.set_cons_succ])
          refine held_take (i := 27) (d := 103) (v := ?v27) rfl rfl (by kernel_rfl) (by kernel_rfl) (by kernel_rfl) (fun _ _ _ h => h) (Or.inl ⟨by rfl, ?y27⟩) (by assumption) ?r27
          case y27 => (intro w hSw; (try dsimp only at hSw); go_simp <;> with_reducible rfl)
          (simp only [List.setIfInBounds_toArray, List.set_cons_zero, List.set_cons_succ])
          refine wpAnyH_done (by kernel_rfl) ?_ _
          clear hund
          all_goals
            go_wp2_with fail
            go_meet
            exact ⟨rfl, hbc⟩
      · have hz1 : (z2 == 0) = false := by simpa using hz
        clear hz
        by_cases hg : z3 = 0
        · subst hg
          obtain ⟨e3, h3⟩ := Kc.getT_only HSm.out G3.out
          obtain ⟨E3, hE3⟩ : ∃ E, Kc.encT a3 = E := ⟨_, rfl⟩
          rw [hE3] at e3
          obtain ⟨U3, hU3⟩ : ∃ S, Kc.tx E3 = S := ⟨_, rfl⟩
          have hadd3 := tx_glue e3 HBL.out hU3 HS3.out HSB.out
          obtain ⟨m3, hm3⟩ : ∃ k, E3.length = k := ⟨_, rfl⟩
          have hbs3 : Kc.bs T3 = a3 := by
            rw [← HT3.out]
            refine Kc.bs_tx fun y hy => HSm.out y ?_
            have := Kc.getT_text b
            rw [G3.out] at this
            exact this y hy
          have HE3 : Hid (Kc.putT [] (Kc.bs T3) = E3) := Lib.hid (by rw [hbs3, Kc.putT_ok h3, hE3, List.nil_append])
          have hsz3 : Hid (T3.size ≤ 9223372036854775807) := Lib.hid (by rw [← HT3.out, Kc.tx_size]; omega)
          have HM3 := Lib.hid hm3.symm
          have HU3 := Lib.hid hU3
          clear hE3 hU3 hm3 e3 hbs3 h3
          refine wp_region_held_drew (S := (fun W => (convert 23 9 (.slice A3 k3 c3)).run Try.prog W = .ok (.string S3) W ∧ (convert 23 9 (.slice A n c)).run Try.prog W = .ok (.string SB) W)) (by kernel_rfl) ⟨Y3.out _ (Below.refl _ _).drew, Y0.out _ (Below.refl _ _).drew⟩ (fun hHeld => ?_)
          refine held_take (i := 0) (d := 76) (v := ?vb0) rfl rfl (by kernel_rfl) (by kernel_rfl) (by kernel_rfl) (fun _ _ _ h => h) (Or.inl ⟨by rfl, ?yb0⟩) (by assumption) ?rb0
          case yb0 => (intro w hSw; (try dsimp only at hSw); go_simp <;> with_reducible rfl)
          (simp only [List.setIfInBounds_toArray, List.set_cons_zero, List.set_cons_succ])
          refine held_take (i := 1) (d := 77) (v := ?vb1) rfl rfl (by kernel_rfl) (by kernel_rfl) (by kernel_rfl) (fun _ _ _ h => h) (Or.inl ⟨by rfl, ?yb1⟩) (by assumption) ?rb1
          case yb1 => (intro w hSw; (try dsimp only at hSw); go_simp <;> with_reducible rfl)
          (simp only [List.setIfInBounds_toArray, List.set_cons_zero, List.set_cons_succ])
          refine held_take (i := 2) (d := 78) (v := ?vb2) rfl rfl (by kernel_rfl) (by kernel_rfl) (by kernel_rfl) (fun _ _ _ h => h) (Or.inl ⟨by rfl, ?yb2⟩) (by assumption) ?rb2
          case yb2 => (intro w hSw; (try dsimp only at hSw); go_simp <;> with_reducible rfl)
          (simp only [List.setIfInBounds_toArray, List.set_cons_zero, List.set_cons_succ])
          refine held_take (i := 3) (d := 79) (v := undef) rfl rfl (by kernel_rfl) (by kernel_rfl) (by kernel_rfl) (fun _ _ _ h => h) (Or.inr ⟨by rfl, rfl⟩) (by assumption) ?_
          (simp only [List.setIfInBounds_toArray, List.set_cons_zero, List.set_cons_succ])
          refine held_take (i := 6) (d := 82) (v := undef) rfl rfl (by kernel_rfl) (by kernel_rfl) (by kernel_rfl) (fun _ _ _ h => h) (Or.inr ⟨by rfl, rfl⟩) (by assumption) ?_
          (simp only [List.setIfInBounds_toArray, List.set_cons_zero, List.set_cons_succ])
          refine held_take (i := 7) (d := 83) (v := undef) rfl rfl (by kernel_rfl) (by kernel_rfl) (by kernel_rfl) (fun _ _ _ h => h) (Or.inr ⟨by rfl, rfl⟩) (by assumption) ?_
          (simp only [List.setIfInBounds_toArray, List.set_cons_zero, List.set_cons_succ])
          refine held_take (i := 9) (d := 85) (v := undef) rfl rfl (by kernel_rfl) (by kernel_rfl) (by kernel_rfl) (fun _ _ _ h => h) (Or.inr ⟨by rfl, rfl⟩) (by assumption) ?_
          (simp only [List.setIfInBounds_toArray, List.set_cons_zero, List.set_cons_succ])
          refine held_take (i := 10) (d := 86) (v := undef) rfl rfl (by kernel_rfl) (by kernel_rfl) (by kernel_rfl) (fun _ _ _ h => h) (Or.inr ⟨by rfl, rfl⟩) (by assumption) ?_
          (simp only [List.setIfInBounds_toArray, List.set_cons_zero, List.set_cons_succ])
          refine wpAnyH_ready (rs := [4]) (by kernel_rfl) (by simp) ?_
          refine AllReadyH.cons rfl (fun K hK => ?_) AllReadyH.nil
          go_simp
          refine hK.out _ _ (⟨Y3.out _ (Below.refl _ _).drew, Y0.out _ (Below.refl _ _).drew⟩) (fun hHeld => ?_)
          clear hK K
          refine held_take (i := 5) (d := 81) (v := undef) rfl rfl (by kernel_rfl) (by kernel_rfl) (by kernel_rfl) (fun _ _ _ h => h) (Or.inr ⟨by rfl, rfl⟩) (by assumption) ?_
          (simp only [List.setIfInBounds_toArray, List.set_cons_zero, List.set_cons_succ])
          refine held_take (i := 8) (d := 84) (v := undef) rfl rfl (by kernel_rfl) (by kernel_rfl) (by kernel_rfl) (fun _ _ _ h => h) (Or.inr ⟨by rfl, rfl⟩) (by assumption) ?_
          (simp only [List.setIfInBounds_toArray, List.set_cons_zero, List.set_cons_succ])
          refine held_take (i := 11) (d := 87) (v := undef) rfl rfl (by kernel_rfl) (by kernel_rfl) (by kernel_rfl) (fun _ _ _ h => h) (Or.inr ⟨by rfl, rfl⟩) (by assumption) ?_
          (simp only [List.setIfInBounds_toArray, List.set_cons_zero, List.set_cons_succ])
          refine held_take (i := 12) (d := 88) (v := ?vb12) rfl rfl (by kernel_rfl) (by kernel_rfl) (by kernel_rfl) (fun _ _ _ h => h) (Or.inl ⟨by rfl, ?yb12⟩) (by assumption) ?rb12
          case yb12 => (intro w hSw; (try dsimp only at hSw); go_simp <;> with_reducible rfl)
          (simp only [List.setIfInBounds_toArray, List.set_cons_zero, List.set_cons_succ])
          refine held_take (i := 13) (d := 89) (v := ?vb13) rfl rfl (by kernel_rfl) (by kernel_rfl) (by kernel_rfl) (fun _ _ _ h => h) (Or.inl ⟨by rfl, ?yb13⟩) (by assumption) ?rb13
          case yb13 => (intro w hSw; (try dsimp only at hSw); go_simp <;> with_reducible rfl)
          (simp only [List.setIfInBounds_toArray, List.set_cons_zero, List.set_cons_succ])
          refine held_take (i := 14) (d := 90) (v := ?vb14) rfl rfl (by kernel_rfl) (by kernel_rfl) (by kernel_rfl) (fun _ _ _ h => h) (Or.inl ⟨by rfl, ?yb14⟩) (by assumption) ?rb14
          case yb14 => (intro w hSw; (try dsimp only at hSw); go_simp <;> with_reducible rfl)
          (simp only [List.setIfInBounds_toArray, List.set_cons_zero, List.set_cons_succ])
          refine held_take (i := 15) (d := 91) (v := ?vb15) rfl rfl (by kernel_rfl) (by kernel_rfl) (by kernel_rfl) (fun _ _ _ h => h) (Or.inl ⟨by rfl, ?yb15⟩) (by assumption) ?rb15
          case yb15 => (intro w hSw; (try dsimp only at hSw); go_simp <;> with_reducible rfl)
          (simp only [List.setIfInBounds_toArray, List.set_cons_zero, List.set_cons_succ])
          refine held_take (i := 16) (d := 92) (v := ?vb16) rfl rfl (by kernel_rfl) (by kernel_rfl) (by kernel_rfl) (fun _ _ _ h => h) (Or.inl ⟨by rfl, ?yb16⟩) (by assumption) ?rb16
          case yb16 => (intro w hSw; (try dsimp only at hSw); go_simp <;> with_reducible rfl)
          (simp only [List.setIfInBounds_toArray, List.set_cons_zero, List.set_cons_succ])
          refine held_take (i := 17) (d := 93) (v := ?vb17) rfl rfl (by kernel_rfl) (by kernel_rfl) (by kernel_rfl) (fun _ _ _ h => h) (Or.inl ⟨by rfl, ?yb17⟩) (by assumption) ?rb17
          case yb17 => (intro w hSw; (try dsimp only at hSw); go_simp <;> with_reducible rfl)
          (simp only [List.setIfInBounds_toArray, List.set_cons_zero, List.set_cons_succ])
          refine held_take (i := 20) (d := 96) (v := ?vb20) rfl rfl (by kernel_rfl) (by kernel_rfl) (by kernel_rfl) (fun _ _ _ h => h) (Or.inl ⟨by rfl, ?yb20⟩) (by assumption) ?rb20
          case yb20 => (intro w hSw; (try dsimp only at hSw); go_simp <;> with_reducible rfl)
          (simp only [List.setIfInBounds_toArray, List.set_cons_zero, List.set_cons_succ])
          refine held_take (i := 21) (d := 97) (v := ?vb21) rfl rfl (by kernel_rfl) (by kernel_rfl) (by kernel_rfl) (fun _ _ _ h => h) (Or.inl ⟨by rfl, ?yb21⟩) (by assumption) ?rb21
          case yb21 => (intro w hSw; (try dsimp only at hSw); go_simp <;> with_reducible rfl)
          (simp only [List.setIfInBounds_toArray, List.set_cons_zero, List.set_cons_succ])
          refine held_take (i := 23) (d := 99) (v := ?vb23) rfl rfl (by kernel_rfl) (by kernel_rfl) (by kernel_rfl) (fun _ _ _ h => h) (Or.inl ⟨by rfl, ?yb23⟩) (by assumption) ?rb23
          case yb23 => (intro w hSw; (try dsimp only at hSw); go_simp <;> with_reducible rfl)
          (simp only [List.setIfInBounds_toArray, List.set_cons_zero, List.set_cons_succ])
          refine held_take (i := 24) (d := 100) (v := ?vb24) rfl rfl (by kernel_rfl) (by kernel_rfl) (by kernel_rfl) (fun _ _ _ h => h) (Or.inl ⟨by rfl, ?yb24⟩) (by assumption) ?rb24
          case yb24 => (intro w hSw; (try dsimp only at hSw); go_simp <;> with_reducible rfl)
          (simp only [List.setIfInBounds_toArray, List.set_cons_zero, List.set_cons_succ])
          refine wpAnyH_ready (rs := [18]) (by kernel_rfl) (by simp) ?_
          refine AllReadyH.cons rfl (fun K hK => ?_) AllReadyH.nil
          go_simp
          go_wp2_with (go_at_call 12; refine (H.putT T3 none 0 0 [] E3 m3 hsz3.out rfl (by decide) cap0 HE3.out HM3.out _ (Rb.none_ _ _ _)).mono ?_; rintro e w7 ⟨A7, c7, rfl, HR7, HC7, hw7⟩; have hcv2 := conv_rb (c := c7) HM3.out HR7.out HU3.out; have hbc := below_on (Below.refl V.heap.size V).drew hw7)
          refine hK.out _ _ (⟨Y3.out _ hbc, Y0.out _ hbc⟩) (fun hHeld => ?_)
          clear hK K
          refine wpAnyH_ready (rs := [19]) (by kernel_rfl) (by simp) ?_
          refine AllReadyH.cons rfl (fun K hK => ?_) AllReadyH.nil
          go_simp
          refine hK.out _ _ (⟨Y3.out _ hbc, Y0.out _ hbc⟩) (fun hHeld => ?_)
          clear hK K
          refine held_take (i := 22) (d := 98) (v := ?vb22) rfl rfl (by kernel_rfl) (by kernel_rfl) (by kernel_rfl) (fun _ _ _ h => h) (Or.inl ⟨by rfl, ?yb22⟩) (by assumption) ?rb22
          case yb22 => (intro w hSw; (try dsimp only at hSw); go_simp <;> with_reducible rfl)
          (simp only [List.setIfInBounds_toArray, List.set_cons_zero, List.set_cons_succ])
          refine held_take (i := 25) (d := 101) (v := ?vb25) rfl rfl (by kernel_rfl) (by kernel_rfl) (by kernel_rfl) (fun _ _ _ h => h) (Or.inl ⟨by rfl, ?yb25⟩) (by assumption) ?rb25
          case yb25 => (intro w hSw; (try dsimp only at hSw); go_simp <;> with_reducible rfl)
          (simp only [List.setIfInBounds_toArray, List.set_cons_zero, List.set_cons_succ])
          refine held_take (i := 26) (d := 102) (v := ?vb26) rfl rfl (by kernel_rfl) (by kernel_rfl) (by kernel_rfl) (fun _ _ _ h => h) (Or.inl ⟨by rfl, ?yb26⟩) (by assumption) ?rb26
          case yb26 => (intro w hSw; (try dsimp only at hSw); go_simp <;> with_reducible rfl)
          (simp only [List.setIfInBounds_toArray, List.set_cons_zero, List.set_cons_succ])
          refine held_take (i := 27) (d := 103) (v := ?vb27) rfl rfl (by kernel_rfl) (by kernel_rfl) (by kernel_rfl) (fun _ _ _ h => h) (Or.inl ⟨by rfl, ?yb27⟩) (by assumption) ?rb27
          case yb27 => (intro w hSw; (try dsimp only at hSw); go_simp <;> with_reducible rfl)
          (simp only [List.setIfInBounds_toArray, List.set_cons_zero, List.set_cons_succ])
          refine wpAnyH_done (by kernel_rfl) ?_ _
          clear hund
          all_goals
            go_wp2_with fail
            go_meet
            exact ⟨rfl, hbc⟩
        · have hg1 : (z3 == 0) = false := by simpa using hg
          clear hg hund
          go_quiet (fail)
          go_wp2_with fail
          go_meet
          exact ⟨rfl, below_drewN _ _⟩
    case rest =>
      generalize wc = U at hcut ⊢
      obtain ⟨rfl, hbU⟩ := hcut
      have hbU0 := below_on hbV0 hbU
      have Z0 : Hid (Txt U A n c SB) := Lib.hid (fun W h => Y0.out W (below_on hbU h))
      have Z4 : Hid (Txt U A4 k4 c4 S4) := Lib.hid (fun W h => Y4.out W (below_on hbU h))
      have HP5 := Lib.hid (HP4'.out.on hbU)
      clear Y0 Y2 Y3 Y4 hbU hbV0 HP4'
      go_upto_region 12 with fail
      by_cases hh : z4 = 0
      · subst hh
        obtain ⟨e4, hsan⟩ := Kc.getL_only HSm.out G4.out
        obtain ⟨E4, hE4⟩ : ∃ E, Kc.encL ps = E := ⟨_, rfl⟩
        rw [hE4] at e4
        obtain ⟨U4, hU4⟩ : ∃ S, Kc.tx E4 = S := ⟨_, rfl⟩
        have hadd4 := tx_glue e4 HBL.out hU4 HS4.out HSB.out
        obtain ⟨m4, hm4⟩ : ∃ k, E4.length = k := ⟨_, rfl⟩
        have HE4 : Hid (Kc.putL [] ps = E4) := Lib.hid (by unfold Kc.putL; rw [asL_sane hsan, hE4, List.nil_append])
        have HSan := Lib.hid hsan
        have HM4 := Lib.hid hm4.symm
        have HU4 := Lib.hid hU4
        clear hE4 hU4 hm4 e4 hsan
        have hund : undef = Value.tuple #[] := rfl
        rcases (show z3 = 0 ∨ (z3 ≠ 0 ∧ T3 = ⟨#[]⟩ ∧ k3 = 0) by
          by_cases hg : z3 = 0
          · exact .inl hg
          · obtain ⟨e1, e2⟩ := Kc.getT_no G3.out hg
            exact .inr ⟨hg, by rw [← HT3.out, e1]; rfl, by rw [HK3.out, e2]; rfl⟩) with rfl | ⟨hg, rfl, rfl⟩
        · first | ((go_region_held (fun W => (convert 23 9 (.slice A4 k4 c4)).run Try.prog W = .ok (.string S4) W ∧ (convert 23 9 (.slice A n c)).run Try.prog W = .ok (.string SB) W)
            (first | exact ⟨Z4.out _ hbd, Z0.out _ hbd⟩ | exact ⟨Z4.out _ hbc, Z0.out _ hbc⟩ | exact ⟨Z4.out _ (Below.refl _ _).drew, Z0.out _ (Below.refl _ _).drew⟩)
            (first
              | (go_at_call 10; refine (sane_of B4 d4 q4 ps HQ4.out true HSan.out _ (HP5.out.on (Below.refl _ _).drew)).mono ?_; rintro e w6 ⟨rfl, hw6⟩; have hbc := below_on (Below.refl U.heap.size U).drew hw6)
              | (go_at_call 11; have h := hbc; refine (H.putL none B4 0 0 q4 d4 [] E4 ps m4 rfl (by decide) cap0 HQ4.out HQC4.out HE4.out HM4.out _ (Rb.none_ _ _ _) (HP5.out.on h)).mono ?_; rintro e w7 ⟨A7, c7, rfl, HR7, HC7, hw7⟩; have hcv2 := conv_rb (c := c7) HM4.out HR7.out HU4.out; have hbd := below_on h hw7)))) | fail
          clear hund
          all_goals
            go_wp2_with fail
            go_ret
            exact ⟨rfl, below_on hbU0 hbd⟩
        · have hg1 : (z3 == 0) = false := by simpa using hg
          have hemp : ((⟨#[]⟩ : ByteArray).toList == (⟨#[]⟩ : ByteArray).toList) = true := by simp
          clear hg
          first | ((go_region_held (fun W => (convert 23 9 (.slice A4 k4 c4)).run Try.prog W = .ok (.string S4) W ∧ (convert 23 9 (.slice A n c)).run Try.prog W = .ok (.string SB) W)
            (first | exact ⟨Z4.out _ hbd, Z0.out _ hbd⟩ | exact ⟨Z4.out _ hbc, Z0.out _ hbc⟩ | exact ⟨Z4.out _ (Below.refl _ _).drew, Z0.out _ (Below.refl _ _).drew⟩)
            (first
              | (go_at_call 10; refine (sane_of B4 d4 q4 ps HQ4.out true HSan.out _ (HP5.out.on (Below.refl _ _).drew)).mono ?_; rintro e w6 ⟨rfl, hw6⟩; have hbc := below_on (Below.refl U.heap.size U).drew hw6)
              | (go_at_call 11; have h := hbc; refine (H.putL none B4 0 0 q4 d4 [] E4 ps m4 rfl (by decide) cap0 HQ4.out HQC4.out HE4.out HM4.out _ (Rb.none_ _ _ _) (HP5.out.on h)).mono ?_; rintro e w7 ⟨A7, c7, rfl, HR7, HC7, hw7⟩; have hcv2 := conv_rb (c := c7) HM4.out HR7.out HU4.out; have hbd := below_on h hw7)))) | fail
          clear hund
          all_goals
            go_wp2_with fail
            go_ret
            exact ⟨rfl, below_on hbU0 hbd⟩
      · obtain ⟨e1, e2⟩ := Kc.getL_no G4.out hh
        have hq0 : q4 = 0 := by rw [HQ4.out, e1]; rfl
        have hk0 : k4 = 0 := by rw [HK4.out, e2]; rfl
        subst hq0 hk0
        have hh1 : (z4 == 0) = false := by simpa using hh
        have hh2 : (z4 != 0) = true := by simpa using hh
        clear e1 e2 hh
        rcases (show z3 = 0 ∨ (z3 ≠ 0 ∧ T3 = ⟨#[]⟩ ∧ k3 = 0) by
          by_cases hg : z3 = 0
          · exact .inl hg
          · obtain ⟨e1, e2⟩ := Kc.getT_no G3.out hg
            exact .inr ⟨hg, by rw [← HT3.out, e1]; rfl, by rw [HK3.out, e2]; rfl⟩) with rfl | ⟨hg, rfl, rfl⟩
        · go_quiet (fail)
          go_wp2_with fail
          go_ret
          exact ⟨rfl, below_on hbU0 (below_drewN _ _)⟩
        · have hg1 : (z3 == 0) = false := by simpa using hg
          have hemp : ((⟨#[]⟩ : ByteArray).toList == (⟨#[]⟩ : ByteArray).toList) = true := by simp
          clear hg
          go_quiet (fail)
          go_wp2_with fail
          go_ret
          exact ⟨rfl, below_on hbU0 (below_drewN _ _)⟩
end Go.Proofs.Ytnieojdlmanckaa

/-
  The walk of layer frame's law FrameOnly: it answers true.
-/
import Derived.Test.YtmcmlfmfhljphaaFrMany
import Derived.Deep.DeepCutAuto
import Derived.Deep.RegionWith
namespace Go.Proofs.Ytmcmlfmfhljphaa
open Go.RowKit

theorem tx_glue {a b l : List Nat} (h : l = a ++ b) (hl : l.length ≤ 1000) {S T U : ByteArray} (ha : Kc.tx a = S) (hb : Kc.tx b = T) (hu : Kc.tx l = U) : ∀ w : World, (Op.stringOp .add S T).run Try.prog w = .ok (.string U) w := by
  intro w
  have e : U = S ++ T := by rw [← ha, ← hb, ← hu, h, Kc.tx_app]
  have h1 : S.size = a.length := by rw [← ha, Kc.tx_size]
  have h2 : T.size = b.length := by rw [← hb, Kc.tx_size]
  have h3 : a.length + b.length = l.length := by rw [h, List.length_append]
  rw [e]
  exact run_string_add_sum w S T (by omega)
theorem held_take {P : Program} {ops : Array Oper} {Q : Exit → Act → World → Prop} {md : Region.Mode} {S : World → Prop} {i d : Nat} {oi : Oper} {v : Value} {fuel : Nat} {listed : Array Bool} {T : Array Value} {D : _} {w : World} (hi : ops[i]? = some oi) (hd : oi.dst = some d)
    (hs : Region.noSelect ops = true) (hf : Region.free md ops listed i = true) (hr : (Region.ready md ops listed).contains i = true)
    (hQ : ∀ c a w, Q (.panic c) (a.put oi.dst v) w → Q (.panic c) a w) (hy : YieldsIf P ops S oi v ⟨T, D⟩) (hS : S w)
    (h : wpAnyH P md ops Q S fuel (listed.setIfInBounds i true) ⟨T.setIfInBounds d v, D⟩ w) : wpAnyH P md ops Q S (fuel + 1) listed ⟨T, D⟩ w :=
  wpAnyH_take hi hs hf hr hQ hy hS (by rw [hd]; exact h)
set_option maxHeartbeats 6400000 in
set_option maxRecDepth 100000 in
theorem frameOnly_any (H : Frm) (A : Option Addr) (c n : Nat) (b : List Nat) (w : World) (hn : n = b.length) (hr : Rb w w.heap.size A b) (hnc : Cap n c) :
    Calls Try.prog 5 #[.slice A n c] w fun e w' => e = .returned (.bool true) ∧ Below w.heap.size w w' := by
  have HN := Lib.hid hn
  have HR := Lib.hid hr
  have HC := Lib.hid hnc
  clear hn hr hnc
  go_enter Try.func5, Try.ntmps5
  go_wp2_with fail
  refine (awake_any H _).mono ?_
  rintro e w1 ⟨rfl, hb1⟩
  by_cases h0 : (1000 : Int) < (n : Int)
  · go_wp2_with fail
    go_ret
    exact ⟨rfl, hb1⟩
  have HBL : Hid (b.length ≤ 1000) := Lib.hid (by have := HN.out; omega)
  obtain ⟨⟨p, r1, z1⟩, hg1⟩ : ∃ g, Kf.get b = g := ⟨_, rfl⟩
  obtain ⟨⟨L, x, z2⟩, hg2⟩ : ∃ g, Kf.all b = g := ⟨_, rfl⟩
  have G1 := Lib.hid hg1
  have G2 := Lib.hid hg2
  obtain ⟨q1, hq1⟩ : ∃ k, p.length = k := ⟨_, rfl⟩
  obtain ⟨k1, hk1⟩ : ∃ k, r1.length = k := ⟨_, rfl⟩
  obtain ⟨q2, hq2⟩ : ∃ k, L.length = k := ⟨_, rfl⟩
  have HQ1 := Lib.hid hq1.symm
  have HK1 := Lib.hid hk1.symm
  have HQ2 := Lib.hid hq2.symm
  have HSm : Hid (∀ y ∈ b, y < 256) := Lib.hid HR.out.small
  have hnn : n ≤ 1000 := by omega
  clear hg1 hg2 hq1 hk1 hq2
  go_wp2_with fail
  refine (H.get A n c b p r1 q1 k1 z1 HN.out HC.out G1.out HQ1.out HK1.out _ (HR.out.on hb1)).mono ?_
  rintro e w2 ⟨B1, d1, A1, c1, rfl, HP1, HD1, HR1, HC1, hw2⟩
  have hb2 := below_on hb1 hw2
  obtain ⟨SB, hSB⟩ : ∃ S, Kc.tx b = S := ⟨_, rfl⟩
  obtain ⟨S1, hS1⟩ : ∃ S, Kc.tx r1 = S := ⟨_, rfl⟩
  have X0 : Hid (Txt w2 A n c SB) := Lib.hid (txt_of HN.out (HR.out.on hb2) hSB)
  have X1 : Hid (Txt w2 A1 k1 c1 S1) := Lib.hid (txt_of HK1.out HR1.out hS1)
  have HSB := Lib.hid hSB
  have HS1 := Lib.hid hS1
  have hSS : (SB.toList == SB.toList) = true := by simp
  clear hw2 hb1 HR1 HC1 hSB hS1
  go_upto_region 5 with fail
  go_cut [45] (fun s45 wx => s45 = .bool false ∧ Below w2.heap.size w2 wx)
  case first =>
    by_cases hz : z1 = 0
    · subst hz
      obtain ⟨e1, e2⟩ := Kf.get_only HSm.out G1.out
      obtain ⟨E, hE⟩ : ∃ E, Kf.rcd p = E := ⟨_, rfl⟩
      rw [hE] at e1
      obtain ⟨U, hU⟩ : ∃ S, Kc.tx E = S := ⟨_, rfl⟩
      have hadd := tx_glue e1 HBL.out hU HS1.out HSB.out
      have HE : Hid (Kf.put [] p = E) := Lib.hid (by rw [Kf.put_ok e2, hE, List.nil_append])
      obtain ⟨m, hm⟩ : ∃ k, E.length = k := ⟨_, rfl⟩
      have HM := Lib.hid hm.symm
      have HU := Lib.hid hU
      clear hm hU e1 e2 hE
      refine wp_region_held_drew (S := (fun W => (convert 25 9 (.slice A1 k1 c1)).run Try.prog W = .ok (.string S1) W ∧ (convert 25 9 (.slice A n c)).run Try.prog W = .ok (.string SB) W)) (by kernel_rfl) ⟨X1.out _ (Below.refl _ _).drew, X0.out _ (Below.refl _ _).drew⟩ (fun hHeld => ?_)
      refine held_take (i := 0) (d := 21) (v := ?vf0) rfl rfl (by kernel_rfl) (by kernel_rfl) (by kernel_rfl) (fun _ _ _ h => h) (Or.inl ⟨by rfl, ?yf0⟩) (by assumption) ?rf0
      case yf0 => (intro w hSw; (try dsimp only at hSw); go_simp <;> with_reducible rfl)
      (simp only [List.setIfInBounds_toArray, List.set_cons_zero, List.set_cons_succ])
      refine held_take (i := 1) (d := 22) (v := ?vf1) rfl rfl (by kernel_rfl) (by kernel_rfl) (by kernel_rfl) (fun _ _ _ h => h) (Or.inl ⟨by rfl, ?yf1⟩) (by assumption) ?rf1
      case yf1 => (intro w hSw; (try dsimp only at hSw); go_simp <;> with_reducible rfl)
      (simp only [List.setIfInBounds_toArray, List.set_cons_zero, List.set_cons_succ])
      refine held_take (i := 2) (d := 23) (v := ?vf2) rfl rfl (by kernel_rfl) (by kernel_rfl) (by kernel_rfl) (fun _ _ _ h => h) (Or.inl ⟨by rfl, ?yf2⟩) (by assumption) ?rf2
      case yf2 => (intro w hSw; (try dsimp only at hSw); go_simp <;> with_reducible rfl)
      (simp only [List.setIfInBounds_toArray, List.set_cons_zero, List.set_cons_succ])
      refine held_take (i := 3) (d := 24) (v := ?vf3) rfl rfl (by kernel_rfl) (by kernel_rfl) (by kernel_rfl) (fun _ _ _ h => h) (Or.inl ⟨by rfl, ?yf3⟩) (by assumption) ?rf3
      case yf3 => (intro w hSw; (try dsimp only at hSw); go_simp <;> with_reducible rfl)
      (simp only [List.setIfInBounds_toArray, List.set_cons_zero, List.set_cons_succ])
      refine held_take (i := 6) (d := 27) (v := ?vf6) rfl rfl (by kernel_rfl) (by kernel_rfl) (by kernel_rfl) (fun _ _ _ h => h) (Or.inl ⟨by rfl, ?yf6⟩) (by assumption) ?rf6
      case yf6 => (intro w hSw; (try dsimp only at hSw); go_simp <;> with_reducible rfl)
      (simp only [List.setIfInBounds_toArray, List.set_cons_zero, List.set_cons_succ])
      refine held_take (i := 7) (d := 28) (v := ?vf7) rfl rfl (by kernel_rfl) (by kernel_rfl) (by kernel_rfl) (fun _ _ _ h => h) (Or.inl ⟨by rfl, ?yf7⟩) (by assumption) ?rf7
      case yf7 => (intro w hSw; (try dsimp only at hSw); go_simp <;> with_reducible rfl)
      (simp only [List.setIfInBounds_toArray, List.set_cons_zero, List.set_cons_succ])
      refine held_take (i := 9) (d := 30) (v := ?vf9) rfl rfl (by kernel_rfl) (by kernel_rfl) (by kernel_rfl) (fun _ _ _ h => h) (Or.inl ⟨by rfl, ?yf9⟩) (by assumption) ?rf9
      case yf9 => (intro w hSw; (try dsimp only at hSw); go_simp <;> with_reducible rfl)
      (simp only [List.setIfInBounds_toArray, List.set_cons_zero, List.set_cons_succ])
      refine held_take (i := 10) (d := 31) (v := ?vf10) rfl rfl (by kernel_rfl) (by kernel_rfl) (by kernel_rfl) (fun _ _ _ h => h) (Or.inl ⟨by rfl, ?yf10⟩) (by assumption) ?rf10
      case yf10 => (intro w hSw; (try dsimp only at hSw); go_simp <;> with_reducible rfl)
      (simp only [List.setIfInBounds_toArray, List.set_cons_zero, List.set_cons_succ])
      refine wpAnyH_ready (rs := [4]) (by kernel_rfl) (by simp) ?_
      refine AllReadyH.cons rfl (fun K hK => ?_) AllReadyH.nil
      go_simp
      go_wp2_with (go_at_call 12; refine (H.put none B1 0 0 q1 d1 [] p E m rfl (by decide) cap0 HQ1.out HD1.out HE.out HM.out _ (Rb.none_ _ _ _) (HP1.out.on (Below.refl _ _).drew)).mono ?_; rintro e w6 ⟨A6, c6, rfl, HR6, HC6, hw6⟩; have hcv := conv_rb (c := c6) HM.out HR6.out HU.out; have hbc := below_on (Below.refl w2.heap.size w2).drew hw6)
      refine hK.out _ _ (⟨X1.out _ hbc, X0.out _ hbc⟩) (fun hHeld => ?_)
      clear hK K
      refine wpAnyH_ready (rs := [5]) (by kernel_rfl) (by simp) ?_
      refine AllReadyH.cons rfl (fun K hK => ?_) AllReadyH.nil
      go_simp
      refine hK.out _ _ (⟨X1.out _ hbc, X0.out _ hbc⟩) (fun hHeld => ?_)
      clear hK K
      refine held_take (i := 8) (d := 29) (v := ?vf8) rfl rfl (by kernel_rfl) (by kernel_rfl) (by kernel_rfl) (fun _ _ _ h => h) (Or.inl ⟨by rfl, ?yf8⟩) (by assumption) ?rf8
      case yf8 => (intro w hSw; (try dsimp only at hSw); go_simp <;> with_reducible rfl)
      (simp only [List.setIfInBounds_toArray, List.set_cons_zero, List.set_cons_succ])
      refine held_take (i := 11) (d := 32) (v := ?vf11) rfl rfl (by kernel_rfl) (by kernel_rfl) (by kernel_rfl) (fun _ _ _ h => h) (Or.inl ⟨by rfl, ?yf11⟩) (by assumption) ?rf11
      case yf11 => (intro w hSw; (try dsimp only at hSw); go_simp <;> with_reducible rfl)
      (simp only [List.setIfInBounds_toArray, List.set_cons_zero, List.set_cons_succ])
      refine held_take (i := 12) (d := 33) (v := ?vf12) rfl rfl (by kernel_rfl) (by kernel_rfl) (by kernel_rfl) (fun _ _ _ h => h) (Or.inl ⟨by rfl, ?yf12⟩) (by assumption) ?rf12
      case yf12 => (intro w hSw; (try dsimp only at hSw); go_simp <;> with_reducible rfl)
      (simp only [List.setIfInBounds_toArray, List.set_cons_zero, List.set_cons_succ])
      refine held_take (i := 13) (d := 34) (v := ?vf13) rfl rfl (by kernel_rfl) (by kernel_rfl) (by kernel_rfl) (fun _ _ _ h => h) (Or.inl ⟨by rfl, ?yf13⟩) (by assumption) ?rf13
      case yf13 => (intro w hSw; (try dsimp only at hSw); go_simp <;> with_reducible rfl)
      (simp only [List.setIfInBounds_toArray, List.set_cons_zero, List.set_cons_succ])
      refine held_take (i := 14) (d := 35) (v := ?vf14) rfl rfl (by kernel_rfl) (by kernel_rfl) (by kernel_rfl) (fun _ _ _ h => h) (Or.inl ⟨by rfl, ?yf14⟩) (by assumption) ?rf14
      case yf14 => (intro w hSw; (try dsimp only at hSw); go_simp <;> with_reducible rfl)
      (simp only [List.setIfInBounds_toArray, List.set_cons_zero, List.set_cons_succ])
      refine held_take (i := 15) (d := 36) (v := ?vf15) rfl rfl (by kernel_rfl) (by kernel_rfl) (by kernel_rfl) (fun _ _ _ h => h) (Or.inl ⟨by rfl, ?yf15⟩) (by assumption) ?rf15
      case yf15 => (intro w hSw; (try dsimp only at hSw); go_simp <;> with_reducible rfl)
      (simp only [List.setIfInBounds_toArray, List.set_cons_zero, List.set_cons_succ])
      refine held_take (i := 16) (d := 37) (v := ?vf16) rfl rfl (by kernel_rfl) (by kernel_rfl) (by kernel_rfl) (fun _ _ _ h => h) (Or.inl ⟨by rfl, ?yf16⟩) (by assumption) ?rf16
      case yf16 => (intro w hSw; (try dsimp only at hSw); go_simp <;> with_reducible rfl)
      (simp only [List.setIfInBounds_toArray, List.set_cons_zero, List.set_cons_succ])
      refine held_take (i := 17) (d := 38) (v := undef) rfl rfl (by kernel_rfl) (by kernel_rfl) (by kernel_rfl) (fun _ _ _ h => h) (Or.inr ⟨by rfl, rfl⟩) (by assumption) ?_
      (simp only [List.setIfInBounds_toArray, List.set_cons_zero, List.set_cons_succ])
      refine held_take (i := 18) (d := 39) (v := undef) rfl rfl (by kernel_rfl) (by kernel_rfl) (by kernel_rfl) (fun _ _ _ h => h) (Or.inr ⟨by rfl, rfl⟩) (by assumption) ?_
      (simp only [List.setIfInBounds_toArray, List.set_cons_zero, List.set_cons_succ])
      refine held_take (i := 19) (d := 40) (v := undef) rfl rfl (by kernel_rfl) (by kernel_rfl) (by kernel_rfl) (fun _ _ _ h => h) (Or.inr ⟨by rfl, rfl⟩) (by assumption) ?_
      (simp only [List.setIfInBounds_toArray, List.set_cons_zero, List.set_cons_succ])
      refine held_take (i := 20) (d := 41) (v := undef) rfl rfl (by kernel_rfl) (by kernel_rfl) (by kernel_rfl) (fun _ _ _ h => h) (Or.inr ⟨by rfl, rfl⟩) (by assumption) ?_
      (simp only [List.setIfInBounds_toArray, List.set_cons_zero, List.set_cons_succ])
      refine held_take (i := 21) (d := 42) (v := undef) rfl rfl (by kernel_rfl) (by kernel_rfl) (by kernel_rfl) (fun _ _ _ h => h) (Or.inr ⟨by rfl, rfl⟩) (by assumption) ?_
      (simp only [List.setIfInBounds_toArray, List.set_cons_zero, List.set_cons_succ])
      refine held_take (i := 22) (d := 43) (v := undef) rfl rfl (by kernel_rfl) (by kernel_rfl) (by kernel_rfl) (fun _ _ _ h => h) (Or.inr ⟨by rfl, rfl⟩) (by assumption) ?_
      (simp only [List.setIfInBounds_toArray, List.set_cons_zero, List.set_cons_succ])
      refine held_take (i := 23) (d := 44) (v := ?vf23) rfl rfl (by kernel_rfl) (by kernel_rfl) (by kernel_rfl) (fun _ _ _ h => h) (Or.inl ⟨by rfl, ?yf23⟩) (by assumption) ?rf23
      case yf23 => (intro w hSw; (try dsimp only at hSw); go_simp <;> with_reducible rfl)
      (simp only [List.setIfInBounds_toArray, List.set_cons_zero, List.set_cons_succ])
      refine held_take (i := 24) (d := 45) (v := ?vf24) rfl rfl (by kernel_rfl) (by kernel_rfl) (by kernel_rfl) (fun _ _ _ h => h) (Or.inl ⟨by rfl, ?yf24⟩) (by assumption) ?rf24
      case yf24 => (intro w hSw; (try dsimp only at hSw); go_simp <;> with_reducible rfl)
      (simp only [List.setIfInBounds_toArray, List.set_cons_zero, List.set_cons_succ])
      refine wpAnyH_done (by kernel_rfl) ?_ _
      go_wp2_with fail
      go_meet
      exact ⟨rfl, hbc⟩
    · obtain ⟨e1, e2⟩ := Kf.get_no G1.out hz
      have hq0 : q1 = 0 := by rw [HQ1.out, e1]; rfl
      have hk0 : k1 = 0 := by rw [HK1.out, e2]; rfl
      subst hq0 hk0
      have hz1 : (z1 == 0) = false := by simpa using hz
      have hz2 : (z1 != 0) = true := by simpa using hz
      clear e1 e2 hz
      go_quiet (fail)
      go_wp2_with fail
      go_meet
      exact ⟨rfl, below_drewN _ _⟩
  case rest =>
    generalize wc = V at hcut ⊢
    obtain ⟨rfl, hbV⟩ := hcut
    have hbV0 := below_on hb2 hbV
    clear X0 X1 hbV hb2 HP1 HD1
    obtain ⟨hx1, hx2, hx3, hx4⟩ := Kf.all_only HSm.out G2.out
    have HXn := Lib.hid hx1
    have HE := Lib.hid hx2
    have HZ := Lib.hid hx3
    have H65 := Lib.hid hx4
    have hxn : x ≤ n := by have := HN.out; omega
    clear hx1 hx2 hx3 hx4
    go_wp2_with fail
    refine (H.all A n c b L q2 x z2 HN.out (Nat.le_trans HBL.out (by decide)) HC.out G2.out HQ2.out _ (HR.out.on hbV0)).mono ?_
    rintro e w3 ⟨B3, d3, rfl, HR3, HC3, hw3⟩
    have hb3 := below_on hbV0 hw3
    obtain ⟨SX, hSX⟩ : ∃ S, Kc.tx (b.take x) = S := ⟨_, rfl⟩
    have hxt : x = (b.take x).length := by rw [List.length_take]; have := HXn.out; omega
    have Y0 : Hid (Txt w3 A x c SX) := Lib.hid (txt_of hxt ((HR.out.on hb3).take x) hSX)
    have HSX : Hid (Kc.tx (Kf.recs L) = SX) := Lib.hid (by rw [HE.out]; exact hSX)
    have HXl : Hid (x = (Kf.recs L).length) := Lib.hid (by rw [HE.out]; exact hxt)
    have HBx : Hid ((Kf.recs L).length ≤ 1000000) := Lib.hid (by have := HXl.out; omega)
    have hXX : (SX.toList == SX.toList) = true := by simp
    obtain ⟨hnc1, hnc2⟩ := HC.out
    have hx0 : (0 : Int) ≤ (x : Int) := by omega
    have hxz : (x : Int) ≤ (n : Int) := by omega
    have hxc : (x : Int) ≤ (c : Int) := by omega
    clear hw3 hbV0 hSX hxt
    go_upto_region 8 with fail
    rcases (show (z2 = 0 ∧ x = n) ∨ (z2 ≠ 0 ∧ x ≠ n) by
      by_cases h : z2 = 0
      · exact .inl ⟨h, by have := HZ.out.1 h; have := HN.out; omega⟩
      · exact .inr ⟨h, fun e => h (HZ.out.2 (by have := HN.out; omega))⟩) with ⟨rfl, hxe⟩ | ⟨hz, hxe⟩
    · have hxx : ((x : Int) == (n : Int)) = true := by simp; omega
      clear hxe
      first | (go_region_held (fun W => (convert 25 9 (.slice A x c)).run Try.prog W = .ok (.string SX) W)
        (first | exact Y0.out _ hbd | exact Y0.out _ hbc | exact Y0.out _ (Below.refl _ _).drew)
        (first | (go_at_call 9; refine (records_of H B3 d3 q2 L _ x HQ2.out H65.out HBx.out rfl HXl.out _ (HR3.out.on (Below.refl _ _).drew)).mono ?_; rintro e w6 ⟨A6, c6, rfl, HR6, HC6, hw6⟩; have hcv := conv_rb (c := c6) HXl.out HR6.out HSX.out; have hbc := below_on (Below.refl w3.heap.size w3).drew hw6))) | fail
      all_goals
        go_wp2_with fail
        go_ret
        exact ⟨rfl, below_on hb3 hbc⟩
    · have hxx : ((x : Int) == (n : Int)) = false := by simp; omega
      have hz1 : (z2 == 0) = false := by simpa using hz
      clear hxe hz
      first | (go_region_held (fun W => (convert 25 9 (.slice A x c)).run Try.prog W = .ok (.string SX) W)
        (first | exact Y0.out _ hbd | exact Y0.out _ hbc | exact Y0.out _ (Below.refl _ _).drew)
        (first | (go_at_call 9; refine (records_of H B3 d3 q2 L _ x HQ2.out H65.out HBx.out rfl HXl.out _ (HR3.out.on (Below.refl _ _).drew)).mono ?_; rintro e w6 ⟨A6, c6, rfl, HR6, HC6, hw6⟩; have hcv := conv_rb (c := c6) HXl.out HR6.out HSX.out; have hbc := below_on (Below.refl w3.heap.size w3).drew hw6))) | fail
      all_goals
        go_wp2_with fail
        go_ret
        exact ⟨rfl, below_on hb3 hbc⟩
end Go.Proofs.Ytmcmlfmfhljphaa

/-
  The walks of the landed cond's Sane and Print.
-/
import Derived.Test.YtkoeggjfdcpokaaGreatDoorCondSm
import Derived.Test.YtkoeggjfdcpokaaGreatDoorSelA
import Derived.Test.YtkoeggjfdcpokaaGreatDoorCondBase
import Derived.Deep.RegionHeld
import Derived.Deep.Cut
import Derived.IntWalk
namespace Go.Proofs.YtkoeggjfdcpokaaGreatDoor
open Go.RowKit Go.Proofs.YtkoeggjfdcpokaaGreatDoor.Lp
open Go.Proofs.YtkoeggjfdcpokaaGreatDoor.Sl (Mt Sel Tf)

set_option maxHeartbeats 3200000 in
theorem saneX_of : XSaneC := by
  intro N A n c l k v b hNs hn hnc hb w hr
  have HN := Lib.hid hn
  have HNC := Lib.hid hnc
  have HR := Lib.hid hr
  obtain ⟨b1, hb1⟩ : ∃ b, Sl.saneS (N, l) = b := ⟨_, rfl⟩
  obtain ⟨b2, hb2⟩ : ∃ b, decide (1 ≤ k ∧ k ≤ 6) = b := ⟨_, rfl⟩
  have hbb : ((b1 && b2) && Np.saneB v) = b := by rw [← hb]; unfold Cd.sane; rw [← hb1, ← hb2]
  have H1 := Lib.hid hb1
  have H2 := Lib.hid hb2
  have HB := Lib.hid hbb
  clear hn hnc hr hb hb1 hb2 hbb
  obtain ⟨W, P, hW, hP, hb0, X⟩ := box_x w N A n c k v
  have HX := Lib.hid X
  have HB0 := Lib.hid hb0
  have HRW := Lib.hid (HR.out.on hb0)
  obtain ⟨c0, c1, c2, c3, _⟩ := X
  clear hb0 HR
  go_enter Tryz.func13, Tryz.ntmps13
  go_wp2_with fail
  refine (saneP_of N A n c l b1 hNs HN.out HNC.out H1.out W HRW.out).mono ?_
  rintro e w1 ⟨rfl, hw1⟩
  clear c0 c1 c2 c3
  have hb1 := below_on HB0.out hw1
  obtain ⟨c0, c1, c2, c3, _⟩ := HX.out.on hw1
  cases b1 with
  | false =>
    obtain rfl : b = false := by rw [← HB.out]; rfl
    go_wp2_with fail
    go_ret
    exact ⟨rfl, hb1⟩
  | true =>
    go_wp2_with fail
    refine (isOp_of k b2 H2.out w1).mono ?_
    rintro e w2 ⟨rfl, rfl⟩
    cases b2 with
    | false =>
      obtain rfl : b = false := by rw [← HB.out]; rfl
      go_wp2_with fail
      go_ret
      exact ⟨rfl, hb1⟩
    | true =>
      obtain rfl : Np.saneB v = b := by rw [← HB.out]; rfl
      go_wp2_with fail
      refine (sane_any v w1).mono ?_
      rintro e w3 ⟨rfl, rfl⟩
      go_wp2_with fail
      go_ret
      exact ⟨rfl, hb1⟩
theorem printV_of (v : Int) (w : World) (hok : Ok w) : Calls Tryz.prog 32 #[.int .i64 v] w fun e w' => e = .returned (.string ⟨(Np.printS v).toArray⟩) ∧ Below w.heap.size w w' := print_any v w hok
set_option maxHeartbeats 6400000 in
theorem printX_of : XPrintC Okc := by
  intro N A n c l k v S hNs hn hnc hS w hok hr
  have HN := Lib.hid hn
  have HNC := Lib.hid hnc
  have HS := Lib.hid hS
  have HR := Lib.hid hr
  have HOK := Lib.hid hok
  clear hn hnc hS hr hok
  obtain ⟨b, hb⟩ : ∃ b, Cd.sane ((N, l), k, v) = b := ⟨_, rfl⟩
  have HB := Lib.hid hb
  clear hb
  go_enter Tryz.func19, Tryz.ntmps19
  obtain ⟨W, P, hW, hP, hb0, X⟩ := box_x w N A n c k v
  have HX := Lib.hid X
  have HB0 := Lib.hid hb0
  have HRW := Lib.hid (HR.out.on hb0)
  have HOW := Lib.hid (HOK.out.on hb0)
  obtain ⟨c0, c1, c2, c3, _⟩ := X
  clear hb0 HR HOK
  go_wp2_with fail
  refine (saneX_of N A n c l k v b hNs HN.out HNC.out HB.out W HRW.out).mono ?_
  rintro e w1 ⟨rfl, hw1⟩
  clear c0 c1 c2 c3
  have hb1 := below_on HB0.out hw1
  cases b with
  | false =>
    have : S = str [] := by
      apply str_of
      rw [HS.out]; unfold Cd.pr; rw [HB.out]; rfl
    subst this
    go_wp2_with fail
    go_ret
    exact ⟨rfl, hb1⟩
  | true =>
    obtain ⟨hs1, hs2⟩ := Cd.sane_parts HB.out
    have hk : 1 ≤ k ∧ k ≤ 6 := hs2.1
    obtain ⟨j, rfl⟩ : ∃ j : Nat, k = (j : Int) := ⟨k.toNat, by omega⟩
    have hj7 : j < 7 := by omega
    have hj7z : (j : Int) < 7 := by omega
    have hpr : S.data.toList = Sl.prS (N, l) ++ 32 :: (Cd.sign (j : Int) ++ 32 :: Np.printS v) := by
      rw [HS.out]; unfold Cd.pr; rw [HB.out]; rfl
    have HPR := Lib.hid hpr
    obtain ⟨SA, hSA⟩ : ∃ SA, str (Sl.prS (N, l)) = SA := ⟨_, rfl⟩
    obtain ⟨SV, hSV⟩ : ∃ SV, str (Np.printS v) = SV := ⟨_, rfl⟩
    obtain ⟨SO, hSO⟩ : ∃ SO, opB j = SO := ⟨_, rfl⟩
    have K1 : Hid (∀ V, Below W.heap.size W V → Calls Tryz.prog 31 #[sv N A n c] V fun e w' => e = .returned (.string SA) ∧ Below V.heap.size V w') := Lib.hid (fun V h => printP_of N A n c l SA hNs HN.out HNC.out (by rw [← hSA]; rfl) V (HRW.out.on h))
    have K3 : Hid (∀ V, Below W.heap.size W V → Calls Tryz.prog 32 #[.int .i64 v] V fun e w' => e = .returned (.string SV) ∧ Below V.heap.size V w') := Lib.hid (fun V h => by rw [← hSV]; exact printV_of v V (HOW.out.on h).num)
    have Y0 := Lib.hid (fun (V : World) (h : Below W.heap.size W V) => (HX.out.on h).c0)
    have Y1 := Lib.hid (fun (V : World) (h : Below W.heap.size W V) => (HX.out.on h).c1)
    have Y2 := Lib.hid (fun (V : World) (h : Below W.heap.size W V) => (HX.out.on h).c2)
    have Y3 := Lib.hid (fun (V : World) (h : Below W.heap.size W V) => (HX.out.on h).c3)
    have Y4 : Hid (∀ (V : World) (_ : Below W.heap.size W V), V.cell? ⟨1, j, none⟩ = some (.string SO)) := Lib.hid (fun V h => by rw [← hSO]; exact (HOW.out.on h).sgc j hj7)
    have hz1 : SA.size ≤ 100000 := by rw [← hSA, str_len]; exact print_len
    have hz2 : SO.size ≤ 2 := by
      rw [← hSO]
      match j, hj7 with
      | 0, _ => decide
      | 1, _ => decide
      | 2, _ => decide
      | 3, _ => decide
      | 4, _ => decide
      | 5, _ => decide
      | 6, _ => decide
    have hz3 : SV.size ≤ 40 := by rw [← hSV, str_len]; exact num_len hs2.2
    obtain ⟨T1, hT1⟩ : ∃ T, SA ++ (⟨#[32]⟩ : ByteArray) = T := ⟨_, rfl⟩
    obtain ⟨T2, hT2⟩ : ∃ T, T1 ++ SO = T := ⟨_, rfl⟩
    obtain ⟨T3, hT3⟩ : ∃ T, T2 ++ (⟨#[32]⟩ : ByteArray) = T := ⟨_, rfl⟩
    obtain ⟨T4, hT4⟩ : ∃ T, T3 ++ SV = T := ⟨_, rfl⟩
    have s1 : T1.size = SA.size + 1 := by rw [← hT1, ByteArray.size_append]; rfl
    have s2 : T2.size = T1.size + SO.size := by rw [← hT2, ByteArray.size_append]
    have s3 : T3.size = T2.size + 1 := by rw [← hT3, ByteArray.size_append]; rfl
    have A1 : ∀ V : World, (Op.stringOp .add SA ⟨#[32]⟩).run Tryz.prog V = .ok (.string T1) V := fun V => by rw [← hT1]; exact run_string_add_sum V SA _ (by show _ + 1 ≤ _; omega)
    have A2 : ∀ V : World, (Op.stringOp .add T1 SO).run Tryz.prog V = .ok (.string T2) V := fun V => by rw [← hT2]; exact run_string_add_sum V T1 SO (by omega)
    have A3 : ∀ V : World, (Op.stringOp .add T2 ⟨#[32]⟩).run Tryz.prog V = .ok (.string T3) V := fun V => by rw [← hT3]; exact run_string_add_sum V T2 _ (by show _ + 1 ≤ _; omega)
    have A4 : ∀ V : World, (Op.stringOp .add T3 SV).run Tryz.prog V = .ok (.string T4) V := fun V => by rw [← hT4]; exact run_string_add_sum V T3 SV (by omega)
    have hfin : S = T4 := by
      apply Lp.ext
      rw [Lp.tl, Lp.tl, ← hT4, ← hT3, ← hT2, ← hT1, HPR.out, ← hSA, ← hSV, ← hSO]
      simp [str, opB, Sl.sg]
    have HFIN := Lib.hid hfin
    have hj0 : (0 : Int) ≤ (j : Int) := by omega
    have hcur : Below W.heap.size W w1.drew := hw1.drew
    clear hT1 hT2 hT3 hT4 hSA hSV hSO hfin
    clear hpr hs1 hs2 hk
    go_upto_region 3 with fail
    first | (go_region_held (fun V => V.cell? ⟨P, 0, none⟩ = some (.string N) ∧ V.cell? ⟨P, 1, none⟩ = some (.slice A n c) ∧ V.cell? ⟨P, 2, none⟩ = some (.int .i64 (j : Int)) ∧ V.cell? ⟨P, 3, none⟩ = some (.int .i64 v) ∧ V.cell? ⟨1, j, none⟩ = some (.string SO))
      (first | exact ⟨Y0.out _ hcur, Y1.out _ hcur, Y2.out _ hcur, Y3.out _ hcur, Y4.out _ hcur⟩)
      (first
        | (go_at_call 31; with_reducible refine (K1.out _ hcur).mono ?_; rintro e w' ⟨rfl, hw'⟩; replace hcur := below_on hcur hw')
        | (go_at_call 32; with_reducible refine (K3.out _ hcur).mono ?_; rintro e w' ⟨rfl, hw'⟩; replace hcur := below_on hcur hw'))) | fail
    all_goals
      go_wp2_with fail
      go_ret
      exact ⟨by rw [HFIN.out]; rfl, below_on HB0.out hcur⟩
end Go.Proofs.YtkoeggjfdcpokaaGreatDoor

/-
  The walk of the document's Print: what is answered is the text of Np.printS.
-/
import Derived.Test.YtjndehdihjlcaaaDoorNumRef
namespace Go.Proofs.YtjndehdihjlcaaaDoor
open Go.RowKit

theorem refDigits_str (n : Int) (h0 : 0 ≤ n) (h1 : n ≤ 9007199254740992) (w : World) :
    Calls Tryd.prog 21 #[.int .i64 n] w fun e w' => ∃ S : ByteArray, e = .returned (.string S) ∧ S.size ≤ 16 ∧ Hid (S.data.toList = Lib.decDigits n.toNat) ∧ Below w.heap.size w w' := by
  refine (refDigits_any (n.toNat + 1) n w h0 (by omega) h1).mono ?_
  rintro e w' ⟨rfl, hb⟩
  refine ⟨_, rfl, ?_, Lib.hid (by simp), hb⟩
  have := nd_le 15 n.toNat (by omega)
  rw [Lib.size_eq]; simpa [Lib.decDigits_length] using this

theorem Np.ref_0 (v : Int) (h0 : 0 ≤ v) (h : v % 1000 = 0) : Lib.decDigits (v / 1000).toNat = Np.printU v.toNat := by
  obtain ⟨u, rfl⟩ := Int.eq_ofNat_of_zero_le h0
  unfold Np.printU Np.tailU
  rw [if_pos (by omega), List.append_nil]; congr 1
theorem Np.ref_1 (v : Int) (h0 : 0 ≤ v) (h : ¬ v % 1000 = 0) (h1 : v % 1000 % 100 = 0) :
    Lib.decDigits (v / 1000).toNat ++ [46] ++ Lib.decDigits (v % 1000 / 100).toNat = Np.printU v.toNat := by
  obtain ⟨u, rfl⟩ := Int.eq_ofNat_of_zero_le h0
  rw [show ((u : Int) / 1000).toNat = u / 1000 by omega, show ((u : Int) % 1000 / 100).toNat = u % 1000 / 100 by omega, Np.dec_small (u % 1000 / 100) (by omega)]
  unfold Np.printU Np.tailU Np.frac Np.d8
  rw [Int.toNat_natCast, if_neg (by omega), if_pos (by omega)]; simp
theorem Np.ref_2 (v : Int) (h0 : 0 ≤ v) (h1 : ¬ v % 1000 % 100 = 0) (h2 : v % 1000 % 10 = 0) :
    Lib.decDigits (v / 1000).toNat ++ [46] ++ Lib.decDigits (v % 1000 / 100).toNat ++ Lib.decDigits (v % 1000 / 10 % 10).toNat = Np.printU v.toNat := by
  obtain ⟨u, rfl⟩ := Int.eq_ofNat_of_zero_le h0
  rw [show ((u : Int) / 1000).toNat = u / 1000 by omega, show ((u : Int) % 1000 / 100).toNat = u % 1000 / 100 by omega, show ((u : Int) % 1000 / 10 % 10).toNat = u % 1000 / 10 % 10 by omega, Np.dec_small (u % 1000 / 100) (by omega), Np.dec_small (u % 1000 / 10 % 10) (by omega)]
  unfold Np.printU Np.tailU Np.frac Np.d8
  rw [Int.toNat_natCast, if_neg (by omega), if_neg (by omega), if_pos (by omega)]; simp
theorem Np.ref_3 (v : Int) (h0 : 0 ≤ v) (h2 : ¬ v % 1000 % 10 = 0) :
    Lib.decDigits (v / 1000).toNat ++ [46] ++ Lib.decDigits (v % 1000 / 100).toNat ++ Lib.decDigits (v % 1000 / 10 % 10).toNat ++ Lib.decDigits (v % 1000 % 10).toNat = Np.printU v.toNat := by
  obtain ⟨u, rfl⟩ := Int.eq_ofNat_of_zero_le h0
  rw [show ((u : Int) / 1000).toNat = u / 1000 by omega, show ((u : Int) % 1000 / 100).toNat = u % 1000 / 100 by omega, show ((u : Int) % 1000 / 10 % 10).toNat = u % 1000 / 10 % 10 by omega, show ((u : Int) % 1000 % 10).toNat = u % 1000 % 10 by omega,
    Np.dec_small (u % 1000 / 100) (by omega), Np.dec_small (u % 1000 / 10 % 10) (by omega), Np.dec_small (u % 1000 % 10) (by omega)]
  unfold Np.printU Np.tailU Np.frac Np.d8
  rw [Int.toNat_natCast, if_neg (by omega), if_neg (by omega), if_neg (by omega)]; simp

set_option maxHeartbeats 1600000 in
theorem refPrint_pos (v : Int) (h0 : 0 ≤ v) (h1 : v ≤ 9007199254740992) (w : World) :
    Calls Tryd.prog 15 #[.int .i64 v] w fun e w' => ∃ S : ByteArray, e = .returned (.string S) ∧ S.size ≤ 80 ∧ Hid (S.data.toList = Np.printU v.toNat) ∧ Below w.heap.size w w' := by
  have Hs : Hid (Np.saneB v = true) := Lib.hid ((Np.sane_iff v).mpr ⟨by omega, h1⟩)
  have hneg : ¬ v < 0 := by omega
  by_cases c0 : v % 1000 = 0
  · have HE := Lib.hid (Np.ref_0 v h0 c0)
    have b0 : (v % 1000 == 0) = true := by simpa using c0
    clear c0
    go_enter Tryd.func15, Tryd.ntmps15
    go_wp2_with fail
    refine (refSane_of v true Hs.out _).mono ?_
    rintro e w1 ⟨rfl, rfl⟩
    go_wp2_with fail
    refine (refDigits_str _ (by omega) (by omega) _).mono ?_
    rintro e w1 ⟨S1, rfl, hS1, HS1, hw1⟩
    go_wp2_with fail
    go_ret
    exact ⟨S1, rfl, by omega, Lib.hid (by rw [HS1.out, HE.out]), hw1⟩
  · have b0 : (v % 1000 == 0) = false := by simpa using c0
    by_cases c1 : v % 1000 % 100 = 0
    · have HE := Lib.hid (Np.ref_1 v h0 c0 c1)
      have c2 : v % 1000 % 10 = 0 := by omega
      have b1 : (v % 1000 % 100 != 0) = false := by simpa using c1
      have b2 : (v % 1000 % 10 != 0) = false := by simpa using c2
      clear c0 c1 c2
      go_enter Tryd.func15, Tryd.ntmps15
      go_wp2_with fail
      refine (refSane_of v true Hs.out _).mono ?_
      rintro e w1 ⟨rfl, rfl⟩
      go_wp2_with fail
      refine (refDigits_str _ (by omega) (by omega) _).mono ?_
      rintro e w1 ⟨S1, rfl, hS1, HS1, hw1⟩
      go_wp2_with fail
      refine (refDigits_str _ (by omega) (by omega) _).mono ?_
      rintro e w2 ⟨S2, rfl, hS2, HS2, hw2⟩
      go_wp2_with fail
      go_ret
      refine ⟨_, rfl, ?_, Lib.hid ?_, below_on hw1 hw2⟩
      · simp only [ByteArray.size_append]; rw [show (⟨#[46]⟩ : ByteArray).size = 1 from rfl]; omega
      · rw [data_app, data_app, HS1.out, HS2.out, ← HE.out]
    · have b1 : (v % 1000 % 100 != 0) = true := by simpa using c1
      by_cases c2 : v % 1000 % 10 = 0
      · have HE := Lib.hid (Np.ref_2 v h0 c1 c2)
        have b2 : (v % 1000 % 10 != 0) = false := by simpa using c2
        clear c0 c1 c2
        go_enter Tryd.func15, Tryd.ntmps15
        go_wp2_with fail
        refine (refSane_of v true Hs.out _).mono ?_
        rintro e w1 ⟨rfl, rfl⟩
        go_wp2_with fail
        refine (refDigits_str _ (by omega) (by omega) _).mono ?_
        rintro e w1 ⟨S1, rfl, hS1, HS1, hw1⟩
        go_wp2_with fail
        refine (refDigits_str _ (by omega) (by omega) _).mono ?_
        rintro e w2 ⟨S2, rfl, hS2, HS2, hw2⟩
        go_wp2_with fail
        refine (refDigits_str _ (by omega) (by omega) _).mono ?_
        rintro e w3 ⟨S3, rfl, hS3, HS3, hw3⟩
        go_wp2_with fail
        go_ret
        refine ⟨_, rfl, ?_, Lib.hid ?_, below_on (below_on hw1 hw2) hw3⟩
        · simp only [ByteArray.size_append]; rw [show (⟨#[46]⟩ : ByteArray).size = 1 from rfl]; omega
        · rw [data_app, data_app, data_app, HS1.out, HS2.out, HS3.out, ← HE.out]
      · have HE := Lib.hid (Np.ref_3 v h0 c2)
        have b2 : (v % 1000 % 10 != 0) = true := by simpa using c2
        clear c0 c1 c2
        go_enter Tryd.func15, Tryd.ntmps15
        go_wp2_with fail
        refine (refSane_of v true Hs.out _).mono ?_
        rintro e w1 ⟨rfl, rfl⟩
        go_wp2_with fail
        refine (refDigits_str _ (by omega) (by omega) _).mono ?_
        rintro e w1 ⟨S1, rfl, hS1, HS1, hw1⟩
        go_wp2_with fail
        refine (refDigits_str _ (by omega) (by omega) _).mono ?_
        rintro e w2 ⟨S2, rfl, hS2, HS2, hw2⟩
        go_wp2_with fail
        refine (refDigits_str _ (by omega) (by omega) _).mono ?_
        rintro e w3 ⟨S3, rfl, hS3, HS3, hw3⟩
        go_wp2_with fail
        refine (refDigits_str _ (by omega) (by omega) _).mono ?_
        rintro e w4 ⟨S4, rfl, hS4, HS4, hw4⟩
        go_wp2_with fail
        go_ret
        refine ⟨_, rfl, ?_, Lib.hid ?_, below_on (below_on (below_on hw1 hw2) hw3) hw4⟩
        · simp only [ByteArray.size_append]; rw [show (⟨#[46]⟩ : ByteArray).size = 1 from rfl]; omega
        · rw [data_app, data_app, data_app, data_app, HS1.out, HS2.out, HS3.out, HS4.out, show v % 10 = v % 1000 % 10 by omega, ← HE.out]

theorem refPrint_any (v : Int) (w : World) :
    Calls Tryd.prog 15 #[.int .i64 v] w fun e w' => ∃ S : ByteArray, e = .returned (.string S) ∧ Hid (S.data.toList = Np.printS v) ∧ Below w.heap.size w w' := by
  cases hs : Np.saneB v with
  | false =>
    have Hs := Lib.hid hs
    have HE := Lib.hid (Np.print_no v hs)
    clear hs
    go_enter Tryd.func15, Tryd.ntmps15
    go_wp2_with fail
    refine (refSane_of v false Hs.out _).mono ?_
    rintro e w1 ⟨rfl, rfl⟩
    go_wp2_with fail
    go_ret
    exact ⟨_, rfl, Lib.hid (by rw [HE.out]), Below.refl _ _⟩
  | true =>
    obtain ⟨h1, h2⟩ := (Np.sane_iff v).mp hs
    by_cases hn : v < 0
    · have Hp : Hid (Np.printS v = 45 :: Np.printU (-v).toNat) := Lib.hid (by
        unfold Np.printS
        rw [hs, if_neg (by simp), if_pos hn, show v.natAbs = (-v).toNat by omega])
      have Hs := Lib.hid hs
      clear hs
      go_enter Tryd.func15, Tryd.ntmps15
      go_wp2_with fail
      refine (refSane_of v true Hs.out _).mono ?_
      rintro e w1 ⟨rfl, rfl⟩
      go_wp2_with fail
      refine (refPrint_pos (-v) (by omega) (by omega) _).mono ?_
      rintro e w1 ⟨S, rfl, hS, HS, hw1⟩
      go_wp2_with fail
      go_ret
      refine ⟨_, rfl, Lib.hid ?_, hw1⟩
      rw [data_app, HS.out, Hp.out]; rfl
    · have Hp : Hid (Np.printS v = Np.printU v.toNat) := Lib.hid (by
        unfold Np.printS
        rw [hs, if_neg (by simp), if_neg hn, show v.natAbs = v.toNat by omega])
      refine (refPrint_pos v (by omega) (by omega) _).mono ?_
      rintro e w1 ⟨S, rfl, hS, HS, hw1⟩
      exact ⟨S, rfl, Lib.hid (by rw [HS.out, Hp.out]), hw1⟩
end Go.Proofs.YtjndehdihjlcaaaDoor

/-
  The walk of CondNot: just one holds.
-/
import Derived.Test.YtkoeggjfdcpokaaGreatDoorCndA
namespace Go.Proofs.YtkoeggjfdcpokaaGreatDoor
open Go.RowKit

set_option maxHeartbeats 6400000 in
theorem condNot_any {Ok : World → Prop} (H : CondC Ok) (k v t : Int) (w : World) (hok : Ok w) :
    Calls Tryz.prog 4 #[.int .i64 k, .int .i64 v, .int .i64 t] w fun e w' => e = .returned (.bool true) ∧ Below w.heap.size w w' := by
  have HOK := Lib.hid hok
  clear hok
  obtain ⟨r, hr⟩ : ∃ r, Cd.other k = r := ⟨_, rfl⟩
  have HR := Lib.hid hr
  go_enter Tryz.func4, Tryz.ntmps4
  by_cases hk : 1 ≤ k ∧ k ≤ 6
  · obtain ⟨k1, k2⟩ := hk
    have hk1 : ¬ k < 1 := by omega
    have hk2 : ¬ (6 : Int) < k := by omega
    obtain ⟨b, hb⟩ : ∃ b, Cd.holds k v t = b := ⟨_, rfl⟩
    have hnb : Cd.holds r v t = !b := by rw [← hr, Cd.holds_other ⟨k1, k2⟩, hb]
    have hrr : Cd.other r = k := by rw [← hr]; exact Cd.other_two ⟨k1, k2⟩
    obtain ⟨x2, h2⟩ : ∃ x, Cd.holds 2 v t = x := ⟨_, rfl⟩
    obtain ⟨x1, h1⟩ : ∃ x, Cd.holds 1 v t = x := ⟨_, rfl⟩
    obtain ⟨x5, h5⟩ : ∃ x, Cd.holds 5 v t = x := ⟨_, rfl⟩
    obtain ⟨x3, h3⟩ : ∃ x, Cd.holds 3 v t = x := ⟨_, rfl⟩
    have h4 : Cd.holds 1 t v = x3 := by rw [← h3]; simp [Cd.holds]
    have hor : x2 = (x1 || x5) := by
      rw [← h2, ← h1, ← h5]
      simp only [Cd.holds]
      rw [Bool.eq_iff_iff]
      simp
      omega
    have HB := Lib.hid hb
    have HNB := Lib.hid hnb
    have HRR := Lib.hid hrr
    have H2 := Lib.hid h2
    have H1 := Lib.hid h1
    have H5 := Lib.hid h5
    have H3 := Lib.hid h3
    have H4 := Lib.hid h4
    have HOR := Lib.hid hor
    clear hb hnb hrr h2 h1 h5 h3 h4 hor hr k1 k2
    go_wp2_with fail
    refine (awakeX_any H w HOK.out).mono ?_
    rintro e w1 ⟨rfl, hw1⟩
    go_wp2_with fail
    refine (H.other k r HR.out _ (H.on _ _ HOK.out hw1)).mono ?_
    rintro e w2 ⟨rfl, hw2⟩
    have hb2 := below_on hw1 hw2
    clear hw1 hw2
    go_wp2_with fail
    refine (H.holds k v t b HB.out _).mono ?_
    rintro e w3 ⟨rfl, hw3⟩
    have hb3 := below_on hb2 hw3
    clear hb2 hw3
    go_wp2_with fail
    refine (H.holds r v t (!b) HNB.out _).mono ?_
    rintro e w4 ⟨rfl, hw4⟩
    have hb4 := below_on hb3 hw4
    clear hb3 hw4
    have hne : (b != !b) = true := by cases b <;> rfl
    go_wp2_with fail
    refine (H.other r k HRR.out _ (H.on _ _ HOK.out hb4)).mono ?_
    rintro e w5 ⟨rfl, hw5⟩
    have hb5 := below_on hb4 hw5
    clear hb4 hw5
    go_wp2_with fail
    refine (H.holds 2 v t x2 H2.out _).mono ?_
    rintro e w6 ⟨rfl, hw6⟩
    have hb6 := below_on hb5 hw6
    clear hb5 hw6
    go_wp2_with fail
    refine (H.holds 1 v t x1 H1.out _).mono ?_
    rintro e w7 ⟨rfl, hw7⟩
    have hb7 := below_on hb6 hw7
    clear hb6 hw7
    cases x1 with
    | true =>
      obtain rfl : x2 = true := by rw [HOR.out]; rfl
      go_wp2_with fail
      refine (H.holds 3 v t x3 H3.out _).mono ?_
      rintro e w8 ⟨rfl, hw8⟩
      have hb8 := below_on hb7 hw8
      clear hb7 hw8
      go_wp2_with fail
      refine (H.holds 1 t v x3 H4.out _).mono ?_
      rintro e w9 ⟨rfl, hw9⟩
      have hb9 := below_on hb8 hw9
      go_wp2_with fail
      go_ret
      exact ⟨by simp, hb9⟩
    | false =>
      go_wp2_with fail
      refine (H.holds 5 v t x5 H5.out _).mono ?_
      rintro e wa ⟨rfl, hwa⟩
      have hba := below_on hb7 hwa
      clear hb7 hwa
      obtain rfl : x2 = x5 := by rw [HOR.out]; rfl
      have heq : (x2 == x2) = true := by simp
      go_wp2_with fail
      refine (H.holds 3 v t x3 H3.out _).mono ?_
      rintro e w8 ⟨rfl, hw8⟩
      have hb8 := below_on hba hw8
      clear hba hw8
      go_wp2_with fail
      refine (H.holds 1 t v x3 H4.out _).mono ?_
      rintro e w9 ⟨rfl, hw9⟩
      have hb9 := below_on hb8 hw9
      go_wp2_with fail
      go_ret
      exact ⟨by simp, hb9⟩
  · have hr0 : r = 0 := by rw [← hr]; exact Cd.other_no hk
    subst hr0
    have h1 := Cd.holds_no hk v t
    have h0 := Cd.holds_no (k := 0) (by omega) v t
    have H1 := Lib.hid h1
    have H0 := Lib.hid h0
    clear h1 h0 hr
    by_cases hlt : k < 1
    · go_wp2_with fail
      refine (awakeX_any H w HOK.out).mono ?_
      rintro e w1 ⟨rfl, hw1⟩
      go_wp2_with fail
      refine (H.other k 0 HR.out _ (H.on _ _ HOK.out hw1)).mono ?_
      rintro e w2 ⟨rfl, hw2⟩
      have hb2 := below_on hw1 hw2
      clear hw1 hw2
      go_wp2_with fail
      refine (H.holds k v t false H1.out _).mono ?_
      rintro e w3 ⟨rfl, hw3⟩
      have hb3 := below_on hb2 hw3
      go_wp2_with fail
      refine (H.holds 0 v t false H0.out _).mono ?_
      rintro e w4 ⟨rfl, hw4⟩
      have hb4 := below_on hb3 hw4
      go_wp2_with fail
      go_ret
      exact ⟨rfl, hb4⟩
    · have hgt : (6 : Int) < k := by omega
      go_wp2_with fail
      refine (awakeX_any H w HOK.out).mono ?_
      rintro e w1 ⟨rfl, hw1⟩
      go_wp2_with fail
      refine (H.other k 0 HR.out _ (H.on _ _ HOK.out hw1)).mono ?_
      rintro e w2 ⟨rfl, hw2⟩
      have hb2 := below_on hw1 hw2
      clear hw1 hw2
      go_wp2_with fail
      refine (H.holds k v t false H1.out _).mono ?_
      rintro e w3 ⟨rfl, hw3⟩
      have hb3 := below_on hb2 hw3
      go_wp2_with fail
      refine (H.holds 0 v t false H0.out _).mono ?_
      rintro e w4 ⟨rfl, hw4⟩
      have hb4 := below_on hb3 hw4
      go_wp2_with fail
      go_ret
      exact ⟨rfl, hb4⟩
end Go.Proofs.YtkoeggjfdcpokaaGreatDoor

/-
  The walk of layer dur's law DurUnits: it answers true.
-/
import Derived.Test.YtjlonndkkeoohaaDoorDurAwake
import Derived.Test.YtjlonndkkeoohaaDoorDurDigits
namespace Go.Proofs.YtjlonndkkeoohaaDoor
open Go.RowKit

theorem Dp.units_at (n : Int) (h0 : 0 ≤ n) (h1 : n ≤ 1000000) (k i : Nat) (hi : i < 5) (hk : k * Dp.sz i = 86400000) :
    Dp.parseS (Lib.decDigits ((k : Int) * n).toNat ++ Dp.nm i) = (86400000 * n, 0) := by
  obtain ⟨u, rfl⟩ := Int.eq_ofNat_of_zero_le h0
  have e : ((k : Int) * (u : Int)).toNat = k * u := by
    rw [show (k : Int) * (u : Int) = ((k * u : Nat) : Int) by simp]; rfl
  have e2 : k * u * Dp.sz i = 86400000 * u := by rw [Nat.mul_right_comm, hk]
  rw [e, Dp.parse_one (k * u) i hi (by rw [e2]; unfold Np.mx; omega), e2]
  simp
/-- One digits' text with a unit behind, parsed. -/
theorem unit_text (S : ByteArray) (x : Int) (l : List UInt8) (hS : 1 ≤ S.size ∧ S.size ≤ 16) (hl : l.length ≤ 2) (HS : Hid (S.data.toList = Lib.decDigits x.toNat)) (D : Int) (h : Dp.parseS (Lib.decDigits x.toNat ++ l) = (D, 0)) (w : World) (hok : Ok w) :
    Calls Tryd.prog 10 #[.string (S ++ ⟨l.toArray⟩)] w fun e w' => e = .returned (.tuple #[.int .i64 D, .int .i64 0]) ∧ Below w.heap.size w w' :=
  dparse_of _ (by have := str_size l; rw [ByteArray.size_append]; omega) D 0 (by rw [data_app, str_data, HS.out]; exact h) w hok

set_option maxHeartbeats 4000000 in
theorem durUnits_any (n : Int) (w : World) (hok : Ok w) :
    Calls Tryd.prog 7 #[.int .i64 n] w fun e w' => e = .returned (.bool true) ∧ Below w.heap.size w w' := by
  have Hok := Lib.hid hok
  clear hok
  by_cases h0 : n < 0
  · go_enter Tryd.func7, Tryd.ntmps7
    go_wp2_with fail
    refine (awake2_any _ Hok.out).mono ?_
    rintro e w1 ⟨rfl, hw1⟩
    go_wp2_with fail
    go_ret
    exact ⟨rfl, hw1⟩
  · by_cases h1 : 1000000 < n
    · go_enter Tryd.func7, Tryd.ntmps7
      go_wp2_with fail
      refine (awake2_any _ Hok.out).mono ?_
      rintro e w1 ⟨rfl, hw1⟩
      go_wp2_with fail
      go_ret
      exact ⟨rfl, hw1⟩
    · have HD := Lib.hid (show 0 ≤ n ∧ n ≤ 1000000 by omega)
      go_enter Tryd.func7, Tryd.ntmps7
      go_wp2_with fail
      refine (awake2_any _ Hok.out).mono ?_
      rintro e w1 ⟨rfl, hw1⟩
      have Hok1 := Lib.hid (Hok.out.on hw1)
      go_wp2_with fail
      refine (lawDigits_str n _ (by omega) (by omega)).mono ?_
      rintro e w2 ⟨S0, rfl, hS0, HS0, hw2⟩
      have Hok2 := Lib.hid (Hok1.out.on hw2)
      go_wp2_with fail
      refine (unit_text S0 n [100] hS0 (by decide) HS0 (86400000 * n) (by have := Dp.units_at n HD.out.1 HD.out.2 1 0 (by omega) rfl; rw [show ((1 : Nat) : Int) * n = n by omega] at this; exact this) _ Hok2.out).mono ?_
      rintro e w3 ⟨rfl, hw3⟩
      have Hok3 := Lib.hid (Hok2.out.on hw3)
      clear hS0 HS0
      go_wp2_with fail
      refine (lawDigits_str (24 * n) _ (by omega) (by omega)).mono ?_
      rintro e w4 ⟨S1, rfl, hS1, HS1, hw4⟩
      have Hok4 := Lib.hid (Hok3.out.on hw4)
      go_wp2_with fail
      refine (unit_text S1 (24 * n) [104] hS1 (by decide) HS1 (86400000 * n) (by have := Dp.units_at n HD.out.1 HD.out.2 24 1 (by omega) rfl; exact this) _ Hok4.out).mono ?_
      rintro e w5 ⟨rfl, hw5⟩
      have Hok5 := Lib.hid (Hok4.out.on hw5)
      clear hS1 HS1
      go_wp2_with fail
      refine (lawDigits_str (1440 * n) _ (by omega) (by omega)).mono ?_
      rintro e w6 ⟨S2, rfl, hS2, HS2, hw6⟩
      have Hok6 := Lib.hid (Hok5.out.on hw6)
      go_wp2_with fail
      refine (unit_text S2 (1440 * n) [109] hS2 (by decide) HS2 (86400000 * n) (by have := Dp.units_at n HD.out.1 HD.out.2 1440 2 (by omega) rfl; exact this) _ Hok6.out).mono ?_
      rintro e w7 ⟨rfl, hw7⟩
      have Hok7 := Lib.hid (Hok6.out.on hw7)
      clear hS2 HS2
      go_wp2_with fail
      refine (lawDigits_str (86400 * n) _ (by omega) (by omega)).mono ?_
      rintro e w8 ⟨S3, rfl, hS3, HS3, hw8⟩
      have Hok8 := Lib.hid (Hok7.out.on hw8)
      go_wp2_with fail
      refine (unit_text S3 (86400 * n) [115] hS3 (by decide) HS3 (86400000 * n) (by have := Dp.units_at n HD.out.1 HD.out.2 86400 3 (by omega) rfl; exact this) _ Hok8.out).mono ?_
      rintro e w9 ⟨rfl, hw9⟩
      have Hok9 := Lib.hid (Hok8.out.on hw9)
      clear hS3 HS3
      go_wp2_with fail
      refine (lawDigits_str (86400000 * n) _ (by omega) (by omega)).mono ?_
      rintro e w10 ⟨S4, rfl, hS4, HS4, hw10⟩
      have Hok10 := Lib.hid (Hok9.out.on hw10)
      go_wp2_with fail
      refine (unit_text S4 (86400000 * n) [109, 115] hS4 (by decide) HS4 (86400000 * n) (by have := Dp.units_at n HD.out.1 HD.out.2 86400000 4 (by omega) rfl; exact this) _ Hok10.out).mono ?_
      rintro e w11 ⟨rfl, hw11⟩
      have Hok11 := Lib.hid (Hok10.out.on hw11)
      clear hS4 HS4
      go_wp2_with fail
      go_ret
      exact ⟨rfl, below_on (below_on (below_on (below_on (below_on (below_on (below_on (below_on (below_on (below_on hw1 hw2) hw3) hw4) hw5) hw6) hw7) hw8) hw9) hw10) hw11⟩
end Go.Proofs.YtjlonndkkeoohaaDoor

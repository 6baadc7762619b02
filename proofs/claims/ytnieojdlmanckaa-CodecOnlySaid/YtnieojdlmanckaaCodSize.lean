/-
  The walk of layer codec's law CodecSize: it answers true.
-/
import Derived.Test.YtnieojdlmanckaaCodLaw
namespace Go.Proofs.Ytnieojdlmanckaa
open Go.RowKit Go.Proofs.Ytnieojdlmanckaa.Lp

set_option maxHeartbeats 3200000 in
theorem codecSize_any (H : Cod) (n m : Int) (w : World) :
    Calls Try.prog 6 #[.int .i64 n, .int .i64 m] w fun e w' => e = .returned (.bool true) ∧ Below w.heap.size w w' := by
  go_enter Try.func6, Try.ntmps6
  go_wp2_with fail
  refine (awake_any H _).mono ?_
  rintro e w1 ⟨rfl, hb1⟩
  by_cases h1 : n < 0
  · go_wp2_with fail
    go_ret
    exact ⟨rfl, hb1⟩
  by_cases h2 : 1152921504606846976 < n
  · go_wp2_with fail
    go_ret
    exact ⟨rfl, hb1⟩
  by_cases h3 : m < 0
  · go_wp2_with fail
    go_ret
    exact ⟨rfl, hb1⟩
  by_cases h4 : 1152921504606846976 < m
  · go_wp2_with fail
    go_ret
    exact ⟨rfl, hb1⟩
  obtain ⟨x, rfl⟩ : ∃ x : Nat, n = (x : Int) := ⟨n.toNat, by omega⟩
  obtain ⟨y, rfl⟩ : ∃ y : Nat, m = (y : Int) := ⟨m.toNat, by omega⟩
  obtain ⟨p, hp⟩ : ∃ p : Nat, min x y = p := ⟨_, rfl⟩
  obtain ⟨q, hq⟩ : ∃ q : Nat, max x y = q := ⟨_, rfl⟩
  have hmin : min (x : Int) (y : Int) = (p : Int) := by omega
  have hmax : max (x : Int) (y : Int) = (q : Int) := by omega
  have hpx : p ≤ 1152921504606846976 := by omega
  have hqx : q ≤ 1152921504606846976 := by omega
  have hx : x ≤ 1152921504606846976 := by omega
  obtain ⟨kp, hkp⟩ : ∃ k, (Kc.enc p).length = k := ⟨_, rfl⟩
  obtain ⟨kq, hkq⟩ : ∃ k, (Kc.enc q).length = k := ⟨_, rfl⟩
  obtain ⟨kx, hkx⟩ : ∃ k, (Kc.enc x).length = k := ⟨_, rfl⟩
  have hpq : (kp : Int) ≤ (kq : Int) := by
    have := Kc.enc_mono p q (by omega)
    omega
  have hx9 : kx ≤ 9 := by rw [← hkx]; exact Kc.enc_len9 hx
  have hx1 : 0 < kx := by rw [← hkx]; exact Kc.enc_pos x
  have HKP := Lib.hid hkp.symm
  have HKQ := Lib.hid hkq.symm
  have HKX := Lib.hid hkx.symm
  clear hkp hkq hkx h3 h4 hp hq
  go_wp2_with fail
  refine (H.putU _ none 0 0 [] (Kc.enc p) kp (by omega) (by omega) rfl (by decide) cap0 (Kc.putU_ok hpx []) HKP.out _ (Rb.none_ _ _ _)).mono ?_
  rintro e w2 ⟨A2, c2, rfl, _, _, hw2⟩
  have hb2 := below_on hb1 hw2
  clear hw2 hb1 hmin
  go_wp2_with fail
  refine (H.putU _ none 0 0 [] (Kc.enc q) kq (by omega) (by omega) rfl (by decide) cap0 (Kc.putU_ok hqx []) HKQ.out _ (Rb.none_ _ _ _)).mono ?_
  rintro e w3 ⟨A3, c3, rfl, _, _, hw3⟩
  have hb3 := below_on hb2 hw3
  clear hw3 hb2 hmax
  go_wp2_with fail
  go_loopg [8, 9] x (fun g s8 s9 wx => ∃ (k v : Nat), v = g ∧ v ≤ 1152921504606846976 ∧ k ≤ 9 ∧ s8 = .int .i64 k ∧ s9 = .int .i64 v ∧ Hid (k + (Kc.enc v).length = kx + 1) ∧ wx = w3)
  case atStart => exact ⟨1, x, rfl, hx, by omega, rfl, rfl, Lib.hid (by rw [← HKX.out]; omega), rfl⟩
  case round =>
    obtain ⟨k, v, rfl, hv, hk9, rfl, rfl, HI, rfl⟩ := hrel
    by_cases h8 : v < 128
    · have hk : k = kx := by
        have := HI.out
        rw [Kc.enc_lo h8] at this
        simpa using this
      subst hk
      have h8z : ¬ (128 : Int) ≤ (v : Int) := by omega
      go_wp2_with fail
      refine (H.putU _ none 0 0 [] (Kc.enc x) k (by omega) (by omega) rfl (by decide) cap0 (Kc.putU_ok hx []) HKX.out _ (Rb.none_ _ _ _)).mono ?_
      rintro e w4 ⟨A4, c4, rfl, _, _, hw4⟩
      have hb4 := below_on hb3 hw4
      clear hw4 hb3
      go_wp2_with fail
      refine (H.putU _ none 0 0 [] [] 0 (by omega) (by omega) rfl (by decide) cap0 (Kc.putU_no (by omega) []) rfl _ (Rb.none_ _ _ _)).mono ?_
      rintro e w5 ⟨A5, c5, rfl, _, _, hw5⟩
      go_wp2_with fail
      go_ret
      exact ⟨rfl, below_on hb4 hw5⟩
    · have h8z : (128 : Int) ≤ (v : Int) := by omega
      obtain ⟨u, hu⟩ : ∃ u, v / 128 = u := ⟨_, rfl⟩
      have e1 : (v : Int) / 128 = (u : Int) := by omega
      have HU : Hid (k + 1 + (Kc.enc u).length = kx + 1) := Lib.hid (by
        have := HI.out
        rw [Kc.enc_hi h8, List.length_cons, hu] at this
        omega)
      have hu2 : u < v := by omega
      have hk8 : k + 1 ≤ 9 := by
        have := HU.out
        have := Kc.enc_pos u
        omega
      clear hu
      go_wp2_with fail
      go_roundg u
      case measure => omega
      case rel => exact ⟨k + 1, u, rfl, by omega, hk8, by simp, rfl, HU, rfl⟩
end Go.Proofs.Ytnieojdlmanckaa

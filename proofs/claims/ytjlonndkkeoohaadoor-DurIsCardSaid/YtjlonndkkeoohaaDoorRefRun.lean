/-
  The walks of the document's Digit and Run.
-/
import Derived.Test.YtjlonndkkeoohaaDoorWorld
namespace Go.Proofs.YtjlonndkkeoohaaDoor
open Go.RowKit

theorem refDigit_any (c : UInt8) (w : World) :
    Calls Tryd.prog 27 #[.int .u8 c.toNat] w fun e w' => e = .returned (.bool (Np.dig c)) ∧ w = w' := by
  by_cases h1 : 48 ≤ c.toNat
  · by_cases h2 : c.toNat ≤ 57
    · have H : Hid (Np.dig c = true) := Lib.hid (by unfold Np.dig; simp; omega)
      have hb : decide ((c.toNat : Int) ≤ 57) = true := by simp; omega
      go_enter Tryd.func27, Tryd.ntmps27
      go_wp2
      go_ret
      exact ⟨by rw [H.out]; rfl, rfl⟩
    · have H : Hid (Np.dig c = false) := Lib.hid (by unfold Np.dig; simp; omega)
      have hb : decide ((c.toNat : Int) ≤ 57) = false := by simp; omega
      go_enter Tryd.func27, Tryd.ntmps27
      go_wp2
      go_ret
      exact ⟨by rw [H.out]; rfl, rfl⟩
  · have H : Hid (Np.dig c = false) := Lib.hid (by unfold Np.dig; simp; omega)
    go_enter Tryd.func27, Tryd.ntmps27
    go_wp2
    go_ret
    exact ⟨by rw [H.out]; rfl, rfl⟩

/-- How many digits stand from a place on. -/
def Np.runN (l : List UInt8) (a : Nat) : Nat := ((l.drop a).takeWhile Np.dig).length
theorem Np.run_step (s : ByteArray) (a k : Nat) (hk : k ≤ Np.runN s.data.toList a) (h : a + k < s.size) (hd : Np.dig s[a + k] = true) : k + 1 ≤ Np.runN s.data.toList a := by
  have hl : (s.data.toList.drop a)[k]? = some s[a + k] := by
    rw [List.getElem?_drop, List.getElem?_eq_getElem (by simpa using h)]; rfl
  unfold Np.runN at *
  revert hk hl
  generalize s.data.toList.drop a = t
  generalize s[a + k] = c at *
  induction t generalizing k with
  | nil => intro _ hl; simp at hl
  | cons x t ih =>
    intro hk hl
    cases k with
    | zero =>
      obtain rfl : x = c := by simpa using hl
      rw [List.takeWhile_cons, if_pos hd]; simp
    | succ k =>
      rw [List.takeWhile_cons] at hk ⊢
      split at hk
      · rename_i hx
        rw [if_pos hx]
        have := ih k (by omega) (by simpa using hk) (by simpa using hl)
        simp; omega
      · simp at hk
theorem Np.run_stop (s : ByteArray) (a k : Nat) (hk : k ≤ Np.runN s.data.toList a) (h : ∀ (h : a + k < s.size), Np.dig s[a + k] = false) : k = Np.runN s.data.toList a := by
  rcases Nat.lt_or_ge k (Np.runN s.data.toList a) with h1 | h1
  · exfalso
    unfold Np.runN at h1
    have hlen : k < (s.data.toList.drop a).length := Nat.lt_of_lt_of_le h1 (List.takeWhile_sublist _).length_le
    have hs : a + k < s.size := by rw [List.length_drop, ← Lib.size_eq] at hlen; omega
    have e1 : ((s.data.toList.drop a).takeWhile Np.dig)[k] = (s.data.toList.drop a)[k] := (List.takeWhile_prefix _).getElem h1
    have e2 : (s.data.toList.drop a)[k] = s[a + k] := by rw [List.getElem_drop]; rfl
    have e3 : Np.dig ((s.data.toList.drop a).takeWhile Np.dig)[k] = true := List.all_eq_true.mp List.all_takeWhile _ (List.getElem_mem _)
    rw [e1, e2, h hs] at e3
    exact absurd e3 (by simp)
  · omega

set_option maxHeartbeats 800000 in
theorem refRun_any (s : ByteArray) (a : Nat) (w : World) (hs : s.size ≤ 1000000) (ha : a ≤ s.size) :
    Calls Tryd.prog 20 #[.string s, .int .i64 a] w fun e w' => e = .returned (.int .i64 (Np.runN s.data.toList a)) ∧ w = w' := by
  go_enter Tryd.func20, Tryd.ntmps20
  go_wp2
  go_loop [5] (fun n => ∃ k : Nat, k ≤ Np.runN s.data.toList a ∧ a + k ≤ s.size ∧ n = .int .i64 k) (fun n => s.size - (intOf n).toNat)
  case atStart => exact ⟨0, Nat.zero_le _, by omega, rfl⟩
  case round =>
    obtain ⟨k, hk, hka, rfl⟩ := hrel
    have Hk := Lib.hid hk
    clear hk
    by_cases hlt : a + k < s.size
    · generalize hc : s[a + k]'hlt = c
      cases hd : Np.dig c with
      | true =>
        have Hst := Lib.hid (Np.run_step s a k Hk.out hlt (by rw [hc]; exact hd))
        have Hc := Lib.hid hc
        clear Hc
        go_wp2_with (go_at_call 27; refine (refDigit_any _ _).mono ?_; rintro e w' ⟨rfl, rfl⟩)
        go_round
        case rel => exact ⟨k + 1, Hst.out, by omega, by go_num⟩
        case measure => simp [intOf]; omega
      | false =>
        have Hst := Lib.hid (Np.run_stop s a k Hk.out (fun _ => by rw [hc]; exact hd))
        go_wp2_with (go_at_call 27; refine (refDigit_any _ _).mono ?_; rintro e w' ⟨rfl, rfl⟩)
        go_ret
        exact ⟨by rw [← Hst.out]; rfl, rfl⟩
    · have Hst := Lib.hid (Np.run_stop s a k Hk.out (fun h => absurd h hlt))
      go_wp2_with fail
      go_ret
      exact ⟨by rw [← Hst.out]; rfl, rfl⟩

end Go.Proofs.YtjlonndkkeoohaaDoor

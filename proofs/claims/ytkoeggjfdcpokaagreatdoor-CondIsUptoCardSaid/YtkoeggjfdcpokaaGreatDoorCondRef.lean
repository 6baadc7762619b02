/-
  The document's Holds and Not of layer cond.
-/
import Derived.Test.YtkoeggjfdcpokaaGreatDoorCondBase
namespace Go.Proofs.YtkoeggjfdcpokaaGreatDoor
open Go.RowKit

set_option maxHeartbeats 3200000 in
theorem rholds_of (k v t : Int) (b : Bool) (hb : Cd.holds k v t = b) (w : World) : Calls Tryz.prog 16 #[.int .i64 k, .int .i64 v, .int .i64 t] w fun e w' => e = .returned (.bool b) ∧ Below w.heap.size w w' := by
  subst hb
  go_enter Tryz.func16, Tryz.ntmps16
  by_cases hk : 1 ≤ k ∧ k ≤ 6
  · have : k = 1 ∨ k = 2 ∨ k = 3 ∨ k = 4 ∨ k = 5 ∨ k = 6 := by omega
    clear hk
    rcases this with rfl | rfl | rfl | rfl | rfl | rfl
    all_goals
      by_cases h : v = t
      all_goals
        go_wp2_with fail
        go_ret
        refine ⟨?_, Below.refl _ _⟩
        first | rfl | (simp [Cd.holds, h]) | (simp [Cd.holds, h]; omega)
  · rw [Cd.holds_no hk]
    have h1 : (k == 1) = false := by simp; omega
    have h2 : (k == 2) = false := by simp; omega
    have h3 : (k == 3) = false := by simp; omega
    have h4 : (k == 4) = false := by simp; omega
    have h5 : (k == 5) = false := by simp; omega
    have h6 : (k == 6) = false := by simp; omega
    clear hk
    go_wp2_with fail
    go_ret
    exact ⟨rfl, Below.refl _ _⟩
set_option maxHeartbeats 3200000 in
theorem rother_of (k r : Int) (hr : Cd.other k = r) (w : World) : Calls Tryz.prog 18 #[.int .i64 k] w fun e w' => e = .returned (.int .i64 r) ∧ Below w.heap.size w w' := by
  subst hr
  go_enter Tryz.func18, Tryz.ntmps18
  by_cases hk : 1 ≤ k ∧ k ≤ 6
  · have : k = 1 ∨ k = 2 ∨ k = 3 ∨ k = 4 ∨ k = 5 ∨ k = 6 := by omega
    clear hk
    rcases this with rfl | rfl | rfl | rfl | rfl | rfl
    all_goals
      go_wp2_with fail
      go_ret
      exact ⟨rfl, Below.refl _ _⟩
  · rw [Cd.other_no hk]
    have h1 : (k == 1) = false := by simp; omega
    have h2 : (k == 2) = false := by simp; omega
    have h3 : (k == 3) = false := by simp; omega
    have h4 : (k == 4) = false := by simp; omega
    have h5 : (k == 5) = false := by simp; omega
    have h6 : (k == 6) = false := by simp; omega
    clear hk
    go_wp2_with fail
    go_ret
    exact ⟨rfl, Below.refl _ _⟩
end Go.Proofs.YtkoeggjfdcpokaaGreatDoor

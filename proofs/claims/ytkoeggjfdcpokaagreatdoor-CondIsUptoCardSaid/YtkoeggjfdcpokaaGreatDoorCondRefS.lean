/-
  The document's Sane of layers num and cond.
-/
import Derived.Test.YtkoeggjfdcpokaaGreatDoorCondRef
import Derived.Test.YtkoeggjfdcpokaaGreatDoorRefA
namespace Go.Proofs.YtkoeggjfdcpokaaGreatDoor
open Go.RowKit
open Go.Proofs.YtkoeggjfdcpokaaGreatDoor.Sl (Mt Sel Tf)

theorem rsaneV_of (v : Int) (b : Bool) (hb : Np.saneB v = b) (w : World) : Calls Tryz.prog 30 #[.int .i64 v] w fun e w' => e = .returned (.bool b) ∧ Below w.heap.size w w' := by
  subst hb
  unfold Np.saneB
  go_enter Tryz.func30, Tryz.ntmps30
  by_cases h1 : -9007199254740992 ≤ v
  · by_cases h2 : v ≤ 9007199254740992
    · go_wp2_with fail
      go_ret
      exact ⟨by simp [h1, h2], Below.refl _ _⟩
    · go_wp2_with fail
      go_ret
      exact ⟨by simp [h2], Below.refl _ _⟩
  · go_wp2_with fail
    go_ret
    exact ⟨by simp; omega, Below.refl _ _⟩
set_option maxHeartbeats 3200000 in
theorem rsaneX_of (N : ByteArray) (A : Option Addr) (c n : Nat) (l : List Mt) (k v : Int) (b : Bool) (hNs : N.size ≤ 9223372036854775807) (hn : n = l.length) (hb : Cd.sane ((N, l), k, v) = b) (w : World) (hr : Rq w w.heap.size A l) :
    Calls Tryz.prog 14 #[xv N A n c k v] w fun e w' => e = .returned (.bool b) ∧ Below w.heap.size w w' := by
  have HN := Lib.hid hn
  have HR := Lib.hid hr
  clear hn hr
  obtain ⟨s, hs⟩ : ∃ s, Sl.saneS (N, l) = s := ⟨_, rfl⟩
  obtain ⟨t, ht⟩ : ∃ t, Np.saneB v = t := ⟨_, rfl⟩
  have hb' : (s && decide (1 ≤ k ∧ k ≤ 6) && t) = b := by rw [← hb, ← hs, ← ht]; rfl
  have HS := Lib.hid hs
  have HT := Lib.hid ht
  have HB := Lib.hid hb'
  clear hs ht hb hb'
  go_enter Tryz.func14, Tryz.ntmps14
  obtain ⟨W, P, hW, hP, hb0, X⟩ := box_x w N A n c k v
  have HX := Lib.hid X
  have HB0 := Lib.hid hb0
  have HRW := Lib.hid (HR.out.on hb0)
  obtain ⟨c0, c1, c2, c3, _⟩ := X
  clear hb0 HR
  go_wp2_with fail
  refine (rsaneS_of N A c n l s hNs HN.out HS.out W HRW.out).mono ?_
  rintro e w1 ⟨rfl, hw1⟩
  clear c0 c1 c2 c3
  obtain ⟨c0, c1, c2, c3, _⟩ := HX.out.on hw1
  have hb1 := below_on HB0.out hw1
  clear hw1
  cases s with
  | false =>
    obtain rfl : b = false := by rw [← HB.out]; rfl
    go_wp2_with fail
    go_ret
    exact ⟨rfl, hP ▸ hb1⟩
  | true =>
    by_cases h1 : 1 ≤ k
    · by_cases h6 : k ≤ 6
      · obtain rfl : t = b := by rw [← HB.out]; simp [h1, h6]
        go_wp2_with fail
        refine (rsaneV_of v t HT.out _).mono ?_
        rintro e w2 ⟨rfl, hw2⟩
        have hb2 := below_on hb1 hw2
        go_wp2_with fail
        go_ret
        exact ⟨rfl, hP ▸ hb2⟩
      · obtain rfl : b = false := by rw [← HB.out]; simp [h6]
        go_wp2_with fail
        go_ret
        exact ⟨rfl, hP ▸ hb1⟩
    · obtain rfl : b = false := by rw [← HB.out]; simp [h1]
      go_wp2_with fail
      go_ret
      exact ⟨rfl, hP ▸ hb1⟩
end Go.Proofs.YtkoeggjfdcpokaaGreatDoor

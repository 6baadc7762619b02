/-
  The document's op of layer cond: which sign stands at a place.
-/
import Derived.Test.YtkoeggjfdcpokaaGreatDoorCondRefS
namespace Go.Proofs.YtkoeggjfdcpokaaGreatDoor
open Go.RowKit
open Go.Proofs.YtkoeggjfdcpokaaGreatDoor.Sl (Mt Sel Tf)

/-- The signs, by their numbers less 1. -/
def sgn (k : Nat) : ByteArray := Sl.sg (Cd.sign ((k : Int) + 1))
theorem op_hit (l : List Tf) (i k : Nat) (hk : k < 6) (hn : ∀ j, j < k → Sl.want l i 4 (sgn j) ≠ 0) (h : Sl.want l i 4 (sgn k) = 0) : Cd.opAt l i = (k : Int) + 1 := by
  have e0 : Sl.sg [62] = sgn 0 := rfl
  have e1 : Sl.sg [62, 61] = sgn 1 := rfl
  have e2 : Sl.sg [60] = sgn 2 := rfl
  have e3 : Sl.sg [60, 61] = sgn 3 := rfl
  have e4 : Sl.sg [61, 61] = sgn 4 := rfl
  have e5 : Sl.sg [33, 61] = sgn 5 := rfl
  unfold Cd.opAt
  rw [e0, e1, e2, e3, e4, e5]
  match k, hk with
  | 0, _ => rw [if_pos h]; rfl
  | 1, _ => rw [if_neg (hn 0 (by omega)), if_pos h]; rfl
  | 2, _ => rw [if_neg (hn 0 (by omega)), if_neg (hn 1 (by omega)), if_pos h]; rfl
  | 3, _ => rw [if_neg (hn 0 (by omega)), if_neg (hn 1 (by omega)), if_neg (hn 2 (by omega)), if_pos h]; rfl
  | 4, _ => rw [if_neg (hn 0 (by omega)), if_neg (hn 1 (by omega)), if_neg (hn 2 (by omega)), if_neg (hn 3 (by omega)), if_pos h]; rfl
  | 5, _ => rw [if_neg (hn 0 (by omega)), if_neg (hn 1 (by omega)), if_neg (hn 2 (by omega)), if_neg (hn 3 (by omega)), if_neg (hn 4 (by omega)), if_pos h]; rfl
theorem op_miss (l : List Tf) (i : Nat) (hn : ∀ j, j < 6 → Sl.want l i 4 (sgn j) ≠ 0) : Cd.opAt l i = 0 := by
  have e0 : Sl.sg [62] = sgn 0 := rfl
  have e1 : Sl.sg [62, 61] = sgn 1 := rfl
  have e2 : Sl.sg [60] = sgn 2 := rfl
  have e3 : Sl.sg [60, 61] = sgn 3 := rfl
  have e4 : Sl.sg [61, 61] = sgn 4 := rfl
  have e5 : Sl.sg [33, 61] = sgn 5 := rfl
  unfold Cd.opAt
  rw [e0, e1, e2, e3, e4, e5, if_neg (hn 0 (by omega)), if_neg (hn 1 (by omega)), if_neg (hn 2 (by omega)), if_neg (hn 3 (by omega)), if_neg (hn 4 (by omega)), if_neg (hn 5 (by omega))]
theorem signs_of (w : World) : Calls Tryz.prog 34 #[] w fun e w' => ∃ b, e = .returned (.slice (some ⟨b, 0, none⟩) 6 6) ∧ b < w'.heap.size ∧ Hid (∀ k, k < 6 → w'.cell? ⟨b, k, none⟩ = some (.string (sgn k))) ∧ Below w.heap.size w w' := by
  go_enter Tryz.func34, Tryz.ntmps34
  go_wp2_with fail
  go_ret
  refine ⟨w.heap.size, rfl, by show _ < (w.heap.push _).size; rw [Array.size_push]; omega, Lib.hid ?_, below_alloc w _⟩
  intro k hk
  match k, hk with
  | 0, _ => exact World.cell?_alloc_at _ _ _ _ rfl
  | 1, _ => exact World.cell?_alloc_at _ _ _ _ rfl
  | 2, _ => exact World.cell?_alloc_at _ _ _ _ rfl
  | 3, _ => exact World.cell?_alloc_at _ _ _ _ rfl
  | 4, _ => exact World.cell?_alloc_at _ _ _ _ rfl
  | 5, _ => exact World.cell?_alloc_at _ _ _ _ rfl
set_option maxHeartbeats 3200000 in
theorem rop_of (B : Option Addr) (d q : Nat) (ts : List Tz) (j : Nat) (k : Int) (hq : q = ts.length) (hk : Cd.opAt (ts.map flatK) j = k) (w : World) (hr : Rz w w.heap.size B ts) :
    Calls Tryz.prog 69 #[.slice B q d, .int .i64 (j : Int)] w fun e w' => e = .returned (.int .i64 k) ∧ Below w.heap.size w w' := by
  have HQ := Lib.hid hq
  have HK := Lib.hid hk
  have HR := Lib.hid hr
  clear hq hk hr
  go_enter Tryz.func69, Tryz.ntmps69
  go_wp2_with fail
  refine (signs_of w).mono ?_
  rintro e w1 ⟨b, rfl, hlt, HC, hw1⟩
  have HRW := Lib.hid (HR.out.on hw1)
  go_wp2_with fail
  go_loopg [6] 6 (fun g s6 wx => ∃ i : Nat, i + g = 6 ∧ s6 = .int .i64 i ∧ Hid (∀ m, m < i → Sl.want (ts.map flatK) j 4 (sgn m) ≠ 0) ∧ Below w1.heap.size w1 wx)
  case atStart => exact ⟨0, by omega, rfl, Lib.hid (fun m hm => by omega), Below.refl _ _⟩
  case round =>
    obtain ⟨i, hi, rfl, HA, hwx⟩ := hrel
    cases gk with
    | zero =>
      obtain rfl : i = 6 := by omega
      obtain rfl : k = 0 := by rw [← HK.out]; exact op_miss _ _ HA.out
      go_wp2_with fail
      go_ret
      exact ⟨rfl, below_on hw1 hwx⟩
    | succ g =>
      have hi6 : i < 6 := by omega
      have hi6z : (i : Int) < 6 := by omega
      have c0 : wr.cell? ⟨b, i, none⟩ = some (.string (sgn i)) := (hwx.cell (p := ⟨b, i, none⟩) hlt).trans (HC.out i hi6)
      obtain ⟨z, hz⟩ : ∃ z, Sl.want (ts.map flatK) j 4 (sgn i) = z := ⟨_, rfl⟩
      have HZ : Hid (wantI (ts.map flatK) (j : Int) 4 (sgn i) = z) := Lib.hid (by rw [wantI_at]; exact hz)
      have HZ2 := Lib.hid hz
      clear hz
      go_wp2_with fail
      refine (want_of B d q ts (j : Int) 4 (sgn i) z HQ.out HZ.out _ (HRW.out.on hwx)).mono ?_
      rintro e w2 ⟨rfl, hw2⟩
      have hb2 := below_on hwx hw2
      by_cases h0 : z = 0
      · subst h0
        obtain rfl : k = (i : Int) + 1 := by rw [← HK.out]; exact op_hit _ _ _ hi6 HA.out HZ2.out
        go_wp2_with fail
        go_ret
        exact ⟨rfl, below_on hw1 hb2⟩
      · have hzb : (z == 0) = false := by simpa using h0
        have HA' : Hid (∀ m, m < i + 1 → Sl.want (ts.map flatK) j 4 (sgn m) ≠ 0) := Lib.hid (fun m hm => by
          by_cases e : m = i
          · subst e; rw [HZ2.out]; exact h0
          · exact HA.out m (by omega))
        clear h0
        go_wp2_with fail
        go_roundg g
        case measure => omega
        case rel => exact ⟨i + 1, by omega, by simp, HA', hb2⟩
end Go.Proofs.YtkoeggjfdcpokaaGreatDoor

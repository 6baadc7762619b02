/-
  What is read at a place that is a whole number (none, if it lies below 0), of layer cond; the parts that the landed code reads.
-/
import Derived.Test.YtkoeggjfdcpokaaGreatDoorCndA
import Derived.Test.YtkoeggjfdcpokaaGreatDoorPlnA
namespace Go.Proofs.YtkoeggjfdcpokaaGreatDoor
open Go.RowKit
open Go.Proofs.YtkoeggjfdcpokaaGreatDoor.Sl (Mt Sel Tf)

def plainI (l : List Tf) (i : Int) : Cd.Rx := if i < 0 then (Cd.noX, 0, 3) else Cd.plain l i.toNat
/-- What stands behind a selector, by what sel's Parse tells. -/
theorem plainI_is (l : List Tf) (i : Int) {s : Sel} {x : Nat} {z : Int} (h : Sl.parse l i = (s, x, z)) : plainI l i = if z ≠ 0 then (Cd.noX, x, z) else Cd.behind l s x := by
  unfold plainI
  unfold Sl.parse at h
  by_cases hi : i < 0
  · rw [if_pos hi] at h ⊢
    simp only [Prod.mk.injEq] at h
    obtain ⟨_, rfl, rfl⟩ := h
    rw [if_pos (by decide)]
  · rw [if_neg hi] at h ⊢
    unfold Cd.plain
    rw [h]

/-! ### a token at a place -/
/-- What textAt tells. -/
def txI (l : List Tf) (i k : Int) : ByteArray × Int := if i < 0 then (⟨#[]⟩, 3) else if Sl.want l i.toNat k ⟨#[]⟩ = 0 then (Sl.txtAt l i.toNat, 0) else (⟨#[]⟩, Sl.want l i.toNat k ⟨#[]⟩)
def sgI (l : List Tf) (i : Int) (s : ByteArray) : Int := if i < 0 then 3 else Sl.want l i.toNat 4 s
theorem txI_at (l : List Tf) (i : Nat) (k : Int) : txI l (i : Int) k = if Sl.want l i k ⟨#[]⟩ = 0 then (Sl.txtAt l i, 0) else (⟨#[]⟩, Sl.want l i k ⟨#[]⟩) := by unfold txI; rw [if_neg (by omega)]; rfl
theorem sgI_at (l : List Tf) (i : Nat) (s : ByteArray) : sgI l (i : Int) s = Sl.want l i 4 s := by unfold sgI; rw [if_neg (by omega)]; rfl
/-- What opAt tells. -/
def opI (l : List Tf) (i : Int) : Int × Int := if (txI l i 4).2 ≠ 0 then (0, (txI l i 4).2) else if Cd.opS (txI l i 4).1.data.toList = 0 then (0, 1) else (Cd.opS (txI l i 4).1.data.toList, 0)
/-- What numberAt tells. -/
def nbI (l : List Tf) (i : Int) : Int × Int := if (txI l i 2).2 ≠ 0 then (0, (txI l i 2).2) else Np.parseS (txI l i 2).1.data.toList
theorem behind_op {l : List Tf} (s : Sel) {i : Nat} (hi : i ≤ l.length) : Cd.behind l s i =
    if (opI l (i : Int)).2 ≠ 0 then (Cd.noX, i, (opI l (i : Int)).2) else if (nbI l ((i : Int) + 1)).2 ≠ 0 then (Cd.noX, i + 1, (nbI l ((i : Int) + 1)).2) else ((s, (opI l (i : Int)).1, (nbI l ((i : Int) + 1)).1), i + 2, 0) := by
  rw [Cd.behind_way s hi]
  unfold opI nbI
  rw [show (i : Int) + 1 = ((i + 1 : Nat) : Int) by omega, txI_at, txI_at]
  by_cases h1 : Sl.want l i 4 ⟨#[]⟩ = 0
  · simp only [h1, if_true, ne_eq, not_true_eq_false, if_false]
    by_cases h2 : Cd.opS (Sl.txtAt l i).data.toList = 0
    · simp [h2]
    · simp only [h2, if_false, not_true_eq_false]
      by_cases h3 : Sl.want l (i + 1) 2 ⟨#[]⟩ = 0
      · simp only [h3, if_true, not_true_eq_false, if_false]
      · simp only [h3, if_false, not_false_eq_true, if_true]
  · simp only [h1, if_false, ne_eq, not_false_eq_true, if_true]
theorem opI_lt {l : List Tf} {i : Nat} (h : (opI l (i : Int)).2 = 0) : i < l.length := by
  unfold opI at h
  rw [txI_at] at h
  by_cases h1 : Sl.want l i 4 ⟨#[]⟩ = 0
  · exact Sl.want_lt (by rw [h1]; decide)
  · simp only [h1, if_false, ne_eq, not_false_eq_true, if_true] at h
theorem nbI_lt {l : List Tf} {i : Nat} (h : (nbI l (i : Int)).2 = 0) : i < l.length := by
  unfold nbI at h
  rw [txI_at] at h
  by_cases h1 : Sl.want l i 2 ⟨#[]⟩ = 0
  · exact Sl.want_lt (by rw [h1]; decide)
  · simp only [h1, if_false, ne_eq, not_false_eq_true, if_true] at h
/-- The state of the loop that takes the signs (, at a whole number. -/
def StI (l : List Tf) (R : Cd.Rx) (n : Nat) (j : Int) : Prop := if j < 0 then n = 0 ∧ R = (Cd.noX, 0, 3) else Cd.St1 l R n j.toNat
theorem stI_start (l : List Tf) (i : Int) : StI l (Cd.parse l i) 0 i := by
  unfold StI Cd.parse
  by_cases h : i < 0
  · rw [if_pos h, if_pos h]; exact ⟨rfl, rfl⟩
  · rw [if_neg h, if_neg h]; exact ⟨by omega, rfl⟩
theorem stI_le {l : List Tf} {R : Cd.Rx} {n : Nat} {j : Int} (h : StI l R n j) : n ≤ 32 := by
  unfold StI at h
  by_cases hj : j < 0
  · rw [if_pos hj] at h; omega
  · rw [if_neg hj] at h; exact h.1
theorem sgI_nat {l : List Tf} {j : Int} {s : ByteArray} (h : sgI l j s = 0) : ∃ i : Nat, j = (i : Int) ∧ Sl.want l i 4 s = 0 ∧ i < l.length := by
  unfold sgI at h
  by_cases hj : j < 0
  · rw [if_pos hj] at h; exact absurd h (by decide)
  · rw [if_neg hj] at h
    exact ⟨j.toNat, by omega, h, Sl.want_lt (by rw [h]; decide)⟩
theorem stI_more {l : List Tf} {R : Cd.Rx} {n : Nat} {j : Int} (h : StI l R n j) (hw : sgI l j (Sl.sg [40]) = 0) (hn : n ≠ 32) : StI l R (n + 1) (j + 1) := by
  obtain ⟨i, rfl, h0, _⟩ := sgI_nat hw
  unfold StI at h ⊢
  rw [if_neg (by omega)] at h
  rw [if_neg (by omega), show ((i : Int) + 1).toNat = i + 1 by omega]
  exact Cd.st1_more h h0 hn
theorem stI_deep {l : List Tf} {R : Cd.Rx} {i : Nat} (h : StI l R 32 (i : Int)) (hw : Sl.want l i 4 (Sl.sg [40]) = 0) : R = (Cd.noX, i, 8) := by
  unfold StI at h
  rw [if_neg (by omega)] at h
  exact Cd.st1_deep h hw
theorem stI_bare {l : List Tf} {R : Cd.Rx} {n : Nat} {j : Int} (h : StI l R n j) (hw : sgI l j (Sl.sg [40]) ≠ 0) : R = if (plainI l j).2.2 ≠ 0 then (Cd.noX, (plainI l j).2.1, (plainI l j).2.2) else Cd.clN l n ((plainI l j).1, (plainI l j).2.1, 0) := by
  unfold StI at h
  unfold plainI
  unfold sgI at hw
  by_cases hj : j < 0
  · rw [if_pos hj] at h
    rw [if_pos hj, if_pos (by decide)]
    exact h.2
  · rw [if_neg hj] at h hw
    rw [if_neg hj]
    have hb := Cd.st1_bare h hw
    by_cases hz : (Cd.plain l j.toNat).2.2 = 0
    · rw [if_neg (by simp [hz]), hb]
      congr 1
      rw [← hz]
    · rw [if_pos hz, hb]
      exact Cd.clN_plain_no hz
theorem plainI_len {l : List Tf} {j : Int} (h : (plainI l j).2.2 = 0) : (plainI l j).2.1 ≤ l.length := by
  unfold plainI at h ⊢
  by_cases hj : j < 0
  · rw [if_pos hj] at h; exact absurd h (by decide)
  · rw [if_neg hj] at h ⊢
    exact (Cd.plain_ok h).2.2
end Go.Proofs.YtkoeggjfdcpokaaGreatDoor

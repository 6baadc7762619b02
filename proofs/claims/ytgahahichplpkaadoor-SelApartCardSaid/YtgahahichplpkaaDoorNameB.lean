/-
  What a name is, octet by octet.
-/
import Derived.Test.YtgahahichplpkaaDoorLabFacts
import Derived.Test.YtgahahichplpkaaDoorWb
import Derived.Lib.Hide
namespace Go.Proofs.YtgahahichplpkaaDoor
open Go.RowKit Go.Proofs.YtgahahichplpkaaDoor.Lp

theorem ret_bool {a b : Bool} (h : a = b) : Ending.returned (.bool a) = .returned (.bool b) := by rw [h]
theorem nameB_iff (s : ByteArray) : nameB s = true ↔ 1 ≤ s.size ∧ s.size ≤ 64 ∧ (∀ h : 0 < s.size, digB (s[0]'h) = false) ∧ s.data.toList.all okc = true := by
  unfold nameB nameL
  rw [tl, ← Lib.size_eq]
  simp only [Bool.and_eq_true, decide_eq_true_eq, Bool.not_eq_true', and_assoc]
  constructor
  · rintro ⟨h1, h2, h3, h4⟩
    refine ⟨h1, h2, fun h => ?_, h4⟩
    rw [← h3]
    congr 1
    cases hd : s.data.toList with
    | nil => have := Lib.size_eq s; rw [hd, List.length_nil] at this; omega
    | cons a r =>
      show s.data[0] = _
      rw [← Array.getElem_toList]
      simp [hd]
  · rintro ⟨h1, h2, h3, h4⟩
    refine ⟨h1, h2, ?_, h4⟩
    rw [← h3 h1]
    congr 1
    cases hd : s.data.toList with
    | nil => have := Lib.size_eq s; rw [hd, List.length_nil] at this; omega
    | cons a r =>
      show _ = s.data[0]
      rw [← Array.getElem_toList]
      simp [hd]
theorem nameB_no {s : ByteArray} (h : ¬ (1 ≤ s.size ∧ s.size ≤ 64 ∧ (∀ h : 0 < s.size, digB (s[0]'h) = false) ∧ s.data.toList.all okc = true)) : nameB s = false := by
  rw [← nameB_iff] at h; simpa using h
end Go.Proofs.YtgahahichplpkaaDoor

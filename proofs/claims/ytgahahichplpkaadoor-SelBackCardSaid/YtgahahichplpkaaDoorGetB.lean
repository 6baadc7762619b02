/-
  What a lookup by name comes to (label.Get, and the document's). Nothing of any program.
-/
import Derived.Test.YtgahahichplpkaaDoorLabBase
namespace Go.Proofs.YtgahahichplpkaaDoor
open Go.RowKit Go.Proofs.YtgahahichplpkaaDoor.Lp

def gotV : Option ByteArray → Value
  | some V => .tuple #[.string V, .bool true]
  | none => .tuple #[.string ⟨#[]⟩, .bool false]
theorem get_hit : ∀ {l : List Pr} {i : Nat} {N V n : ByteArray}, l[i]? = some (N, V) → N = n → (∀ j p, j < i → l[j]? = some p → p.1 ≠ n) → getS l n = some V
  | [], i, _, _, _, h, _, _ => by simp at h
  | x :: r, 0, N, V, n, h, e, _ => by
    simp at h
    subst h
    unfold getS
    rw [List.find?_cons]
    simp [e]
  | x :: r, i + 1, N, V, n, h, e, hj => by
    have h0 := hj 0 x (by omega) rfl
    have := get_hit (l := r) (i := i) (N := N) (V := V) (n := n) (by simpa using h) e (fun j p hj' hp => hj (j + 1) p (by omega) (by simpa using hp))
    unfold getS at this ⊢
    rw [List.find?_cons]
    simp [h0]
    simpa using this
theorem get_miss {l : List Pr} {n : ByteArray} (h : ∀ (j : Nat) (p : Pr), l[j]? = some p → p.1 ≠ n) : getS l n = none := by
  rw [get_none]
  intro hm
  obtain ⟨p, hp, e⟩ := List.mem_map.1 hm
  obtain ⟨j, hj, rfl⟩ := List.mem_iff_getElem.1 hp
  exact h j _ (List.getElem?_eq_getElem hj) e
theorem beq_no {a b : ByteArray} (h : a ≠ b) : (a.toList == b.toList) = false := by rw [beq_tl]; simpa using h
end Go.Proofs.YtgahahichplpkaaDoor

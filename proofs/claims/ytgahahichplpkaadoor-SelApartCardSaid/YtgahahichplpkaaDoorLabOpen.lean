/-
  From what a row's reading says of an argument that is a slice of pairs to what the walks of layer label ask; and what the proofs of this seat's statements share.
-/
import Derived.Test.YtgahahichplpkaaDoorLabBase
import Derived.Test.YtgahahichplpkaaDoorRows
import Derived.Deep.SlicePairs
import Derived.ProofKit
import Derived.OpenShut
namespace Go.Proofs.YtgahahichplpkaaDoor
open Go.ChangeShapes Go.WideShapes Go.ChangeAt Go.RowKit Go.Proofs.YtgahahichplpkaaDoor.Lp

theorem own : ownKnob Tryd.prog.godebug = none := by kernel_rfl
theorem laidOut : laidOutB Tryd.prog = true := by kernel_rfl
theorem cPair : Tryd.prog.cellsOf 48 = 2 := by kernel_rfl
theorem cStr : Tryd.prog.cellsOf 9 = 1 := by kernel_rfl
set_option maxRecDepth 100000 in
theorem open_pairs {H : Type} {enc : TypeId × Value → H} {W : World} {base : Nat} {v : Value} {d : DataW H} {ps : List MemPlace} (hval : Value.okWide Tryd.prog W .any base 26 v)
    (h : DataW.Trod enc Tryd.prog W 0 (fun _ => true) true 26 v d ps) : ∃ (A : Option Addr) (c n : Nat) (l : List Pr), v = .slice A n c ∧ n = l.length ∧ Rd W W.heap.size A l ∧ (n ≤ c ∧ c ≤ 9223372036854775807) := by
  obtain ⟨a, len, cap, rfl⟩ := okWide_slice Tryd.underlying26 hval
  obtain ⟨fuel, hf⟩ := h
  rcases Deep.open_slice_pairs Tryd.underlying26 Tryd.underlying48 cPair rfl rfl cStr cStr hf with ⟨hcs, _⟩ | ⟨ad, len', cap', m, n, V0, V1, D0, D1, P0, P1, hcs, _, hl, hm, hmm, _, hall⟩
  · simp [Value.cells] at hcs
    obtain ⟨rfl, rfl, rfl⟩ := hcs
    exact ⟨none, 0, 0, [], rfl, rfl, Rd.none_ _ _ _, by omega, by omega⟩
  · simp [Value.cells] at hcs
    obtain ⟨rfl, rfl, rfl⟩ := hcs
    have hlm : len ≤ m := by rw [hmm]; split <;> omega
    have each : ∀ i, i < len → ∃ q : Pr, W.cell? (ad.add (i * 2)) = some (.string q.1) ∧ W.cell? (ad.add (i * 2 + 1)) = some (.string q.2) ∧ q.1.size ≤ 9223372036854775807 ∧ q.2.size ≤ 9223372036854775807 := by
      intro i hi
      obtain ⟨c0, c1, u0, u1⟩ := hall i (by omega)
      obtain ⟨s0, e0, _, h0⟩ := DataW.trod_string Tryd.underlying9 u0
      obtain ⟨s1, e1, _, h1⟩ := DataW.trod_string Tryd.underlying9 u1
      simp only [List.cons.injEq, and_true] at e0 e1
      rw [e0] at c0
      rw [e1] at c1
      unfold maxLen at h0 h1
      exact ⟨(s0, s1), c0, c1, by show s0.size ≤ _; omega, by show s1.size ≤ _; omega⟩
    obtain ⟨q, hq⟩ := Deep.choose_lt each
    have hlen : ((List.range len).map q).length = len := by simp
    refine ⟨some ad, cap, len, (List.range len).map q, rfl, hlen.symm, ⟨?_, ?_, ?_⟩, hl, by unfold maxLen at hm; omega⟩
    · rw [hlen]; unfold maxLen at hm; omega
    · intro p hp
      obtain ⟨i, hi, rfl⟩ := List.mem_map.1 hp
      exact (hq i (List.mem_range.1 hi)).2.2
    · intro hne
      have h0 : 0 < len := by
        rcases Nat.eq_zero_or_pos len with h | h
        · subst h; exact absurd rfl hne
        · exact h
      obtain ⟨b, off, spot⟩ := ad
      have hspot : spot = none := by simpa [Addr.add] using World.cell?_spot (hq 0 h0).1
      subst hspot
      have hb : b < W.heap.size := by simpa [Addr.add] using cell_lt (hq 0 h0).1
      refine ⟨b, off, rfl, hb, fun j u hu => ?_⟩
      have hj : j / 2 < len := by
        have := (List.getElem?_eq_some_iff.1 hu).1
        rw [cells_len, hlen] at this
        omega
      have hj' : j / 2 < ((List.range len).map q).length := by rw [hlen]; exact hj
      obtain ⟨k0, k1⟩ := cells_at ((List.range len).map q) (j / 2) hj'
      obtain ⟨g0, g1, _⟩ := hq (j / 2) hj
      rw [Addr.add_lit] at g0 g1
      have eg : ((List.range len).map q)[j / 2]'hj' = q (j / 2) := by simp
      rw [eg] at k0 k1
      rcases (show j % 2 = 0 ∨ j % 2 = 1 by omega) with e | e
      · rw [show j / 2 * 2 = j by omega] at k0 g0
        rw [k0] at hu
        cases hu
        exact g0
      · rw [show j / 2 * 2 + 1 = j by omega] at k1 g1
        rw [k1] at hu
        cases hu
        exact g1
end Go.Proofs.YtgahahichplpkaaDoor

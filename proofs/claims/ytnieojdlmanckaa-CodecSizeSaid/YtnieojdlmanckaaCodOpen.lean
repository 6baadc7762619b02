/-
  From what a row's reading says of an argument (a slice of octets, of whole numbers, of pairs) to what the walks of layer codec ask; and what the proofs of this seat's statements share.
-/
import Derived.Test.YtnieojdlmanckaaLabOpen
import Derived.Test.YtnieojdlmanckaaCodMany
import Derived.ChangeSlices
namespace Go.Proofs.Ytnieojdlmanckaa
open Go.ChangeShapes Go.WideShapes Go.ChangeAt Go.RowKit Go.Proofs.Ytnieojdlmanckaa.Lp

theorem cOct : Try.prog.cellsOf 5 = 1 := by kernel_rfl
theorem wf_u8 {n : Int} (h : (Lit.int .u8 n).wf = true) : ∃ c : Nat, n = (c : Int) ∧ c < 256 := by
  simp [Lit.wf, IntKind.min, IntKind.max, IntKind.signed, IntKind.bits] at h
  exact ⟨n.toNat, by omega, by omega⟩
theorem open_octets {H : Type} {enc : TypeId × Value → H} {W : World} {base : Nat} {v : Value} {d : DataW H} {ps : List MemPlace} (hval : Value.okWide Try.prog W .any base 23 v)
    (h : DataW.Trod enc Try.prog W 0 (fun _ => true) true 23 v d ps) : ∃ (A : Option Addr) (c n : Nat) (l : List Nat), v = .slice A n c ∧ n = l.length ∧ Rb W W.heap.size A l ∧ (n ≤ c ∧ c ≤ 9223372036854775807) := by
  obtain ⟨a, len, cap, rfl⟩ := okWide_slice Try.underlying23 hval
  obtain ⟨fuel, hf⟩ := h
  rcases open_ints Try.underlying23 Try.underlying5 cOct hf with ⟨hcs, _⟩ | ⟨ad, len', cap', zs, hcs, _, hl, hm, hzl, _, hcell, hwf⟩
  · simp [Value.cells] at hcs
    obtain ⟨rfl, rfl, rfl⟩ := hcs
    exact ⟨none, 0, 0, [], rfl, rfl, Rb.none_ _ _ _, by omega, by omega⟩
  · simp [Value.cells] at hcs
    obtain ⟨rfl, rfl, rfl⟩ := hcs
    have hlz : len ≤ zs.length := by rw [hzl]; split <;> omega
    unfold maxLen at hm
    have hlen : ((zs.take len).map Int.toNat).length = len := by simp; omega
    refine ⟨some ad, cap, len, (zs.take len).map Int.toNat, rfl, hlen.symm, ⟨by rw [hlen]; omega, ?_, ?_⟩, hl, by omega⟩
    · intro x hx
      obtain ⟨z, hz, rfl⟩ := List.mem_map.1 hx
      obtain ⟨c, rfl, hc⟩ := wf_u8 (hwf z (List.mem_of_mem_take hz))
      simpa using hc
    · intro hne
      have h0 : 0 < len := by
        rcases Nat.eq_zero_or_pos len with h | h
        · subst h; simp at hne
        · exact h
      have hc0 := hcell 0 (by omega)
      obtain ⟨b, off, spot⟩ := ad
      have hspot : spot = none := by simpa [Addr.add] using World.cell?_spot hc0
      subst hspot
      have hb : b < W.heap.size := by simpa [Addr.add] using cell_lt hc0
      refine ⟨b, off, rfl, hb, fun j u hu => ?_⟩
      rw [List.getElem?_map] at hu
      obtain ⟨z, hz, rfl⟩ := Option.map_eq_some_iff.1 hu
      rw [List.getElem?_take] at hz
      split at hz
      · have hj := hcell j (by omega)
        rw [Addr.add_lit, List.getD_eq_getElem?_getD, hz] at hj
        obtain ⟨c, hc, _⟩ := wf_u8 (hwf z (List.mem_of_getElem? hz))
        unfold oct
        rw [hj, hc]
        simp
      · cases hz
theorem cInt : Try.prog.cellsOf 3 = 1 := by kernel_rfl
theorem wf_int {n : Int} (h : (Lit.int .i64 n).wf = true) : -9223372036854775808 ≤ n ∧ n ≤ 9223372036854775807 := by
  simp [Lit.wf, IntKind.min, IntKind.max, IntKind.signed, IntKind.bits] at h
  omega
theorem open_wholes {H : Type} {enc : TypeId × Value → H} {W : World} {base : Nat} {v : Value} {d : DataW H} {ps : List MemPlace} (hval : Value.okWide Try.prog W .any base 41 v)
    (h : DataW.Trod enc Try.prog W 0 (fun _ => true) true 41 v d ps) : ∃ (A : Option Addr) (c n : Nat) (l : List Int), v = .slice A n c ∧ n = l.length ∧ Ri W W.heap.size A l ∧ (n ≤ c ∧ c ≤ 9223372036854775807) := by
  obtain ⟨a, len, cap, rfl⟩ := okWide_slice Try.underlying41 hval
  obtain ⟨fuel, hf⟩ := h
  rcases open_ints Try.underlying41 Try.underlying3 cInt hf with ⟨hcs, _⟩ | ⟨ad, len', cap', zs, hcs, _, hl, hm, hzl, _, hcell, hwf⟩
  · simp [Value.cells] at hcs
    obtain ⟨rfl, rfl, rfl⟩ := hcs
    exact ⟨none, 0, 0, [], rfl, rfl, Ri.none_ _ _ _, by omega, by omega⟩
  · simp [Value.cells] at hcs
    obtain ⟨rfl, rfl, rfl⟩ := hcs
    have hlz : len ≤ zs.length := by rw [hzl]; split <;> omega
    unfold maxLen at hm
    have hlen : (zs.take len).length = len := by simp; omega
    refine ⟨some ad, cap, len, zs.take len, rfl, hlen.symm, ⟨by rw [hlen]; omega, fun x hx => wf_int (hwf x (List.mem_of_mem_take hx)), ?_⟩, hl, by omega⟩
    intro hne
    have h0 : 0 < len := by
      rcases Nat.eq_zero_or_pos len with h | h
      · subst h; simp at hne
      · exact h
    have hc0 := hcell 0 (by omega)
    obtain ⟨b, off, spot⟩ := ad
    have hspot : spot = none := by simpa [Addr.add] using World.cell?_spot hc0
    subst hspot
    have hb : b < W.heap.size := by simpa [Addr.add] using cell_lt hc0
    refine ⟨b, off, rfl, hb, fun j u hu => ?_⟩
    rw [List.getElem?_take] at hu
    split at hu
    · have hj := hcell j (by omega)
      rw [Addr.add_lit, List.getD_eq_getElem?_getD, hu] at hj
      simpa using hj
    · cases hu
end Go.Proofs.Ytnieojdlmanckaa

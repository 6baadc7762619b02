/-
  From what a row's reading says of an argument (a slice of octets, a slice of such slices, a number of 32 bits) to what the walks of layer frame ask; and what the proofs of this seat's statements share.
-/
import Derived.Test.YtmcmlfmfhljphaaFrMem
import Derived.Test.YtmcmlfmfhljphaaRows
import Derived.ChangeSlices
import Derived.Deep.Matrix
import Derived.ProofKit
import Derived.OpenShut
namespace Go.Proofs.Ytmcmlfmfhljphaa
open Go.ChangeShapes Go.WideShapes Go.ChangeAt Go.RowKit

theorem own : ownKnob Try.prog.godebug = none := by kernel_rfl
theorem laidOut : laidOutB Try.prog = true := by kernel_rfl
theorem cOct : Try.prog.cellsOf 5 = 1 := by kernel_rfl
theorem wf_u32 {n : Int} (h : (Lit.int .u32 n).wf = true) : ∃ c : Nat, n = (c : Int) ∧ c < 4294967296 := by
  simp [Lit.wf, IntKind.min, IntKind.max, IntKind.signed, IntKind.bits] at h
  exact ⟨n.toNat, by omega, by omega⟩
theorem wf_u8 {n : Int} (h : (Lit.int .u8 n).wf = true) : ∃ c : Nat, n = (c : Int) ∧ c < 256 := by
  simp [Lit.wf, IntKind.min, IntKind.max, IntKind.signed, IntKind.bits] at h
  exact ⟨n.toNat, by omega, by omega⟩
theorem open_octets {H : Type} {enc : TypeId × Value → H} {W : World} {base : Nat} {v : Value} {d : DataW H} {ps : List MemPlace} (hval : Value.okWide Try.prog W .any base 25 v)
    (h : DataW.Trod enc Try.prog W 0 (fun _ => true) true 25 v d ps) : ∃ (A : Option Addr) (c n : Nat) (l : List Nat), v = .slice A n c ∧ n = l.length ∧ Rb W W.heap.size A l ∧ (n ≤ c ∧ c ≤ 9223372036854775807) := by
  obtain ⟨a, len, cap, rfl⟩ := okWide_slice Try.underlying25 hval
  obtain ⟨fuel, hf⟩ := h
  rcases open_ints Try.underlying25 Try.underlying5 cOct hf with ⟨hcs, _⟩ | ⟨ad, len', cap', zs, hcs, _, hl, hm, hzl, _, hcell, hwf⟩
  · simp [Value.cells] at hcs
    obtain ⟨rfl, rfl, rfl⟩ := hcs
    exact ⟨none, 0, 0, [], rfl, rfl, Rb.none_ _ _ _, by omega, by omega⟩
  · simp [Value.cells] at hcs
    obtain ⟨rfl, rfl, rfl⟩ := hcs
    have hlz : len ≤ zs.length := by rw [hzl]; split <;> omega
    unfold maxLen at hm
    have hlen : ((zs.take len).map Int.toNat).length = len := by simp; omega
    refine ⟨some ad, cap, len, (zs.take len).map Int.toNat, rfl, hlen.symm, ⟨by rw [hlen]; omega, ?_, ?_⟩, hl, by omega⟩
    · intro x hx
      obtain ⟨z, hz, rfl⟩ := List.mem_map.1 hx
      obtain ⟨c, rfl, hc⟩ := wf_u8 (hwf z (List.mem_of_mem_take hz))
      simpa using hc
    · intro hne
      have h0 : 0 < len := by
        rcases Nat.eq_zero_or_pos len with h | h
        · subst h; simp at hne
        · exact h
      have hc0 := hcell 0 (by omega)
      obtain ⟨b, off, spot⟩ := ad
      have hspot : spot = none := by simpa [Addr.add] using World.cell?_spot hc0
      subst hspot
      have hb : b < W.heap.size := by simpa [Addr.add] using cell_lt hc0
      refine ⟨b, off, rfl, hb, fun j u hu => ?_⟩
      rw [List.getElem?_map] at hu
      obtain ⟨z, hz, rfl⟩ := Option.map_eq_some_iff.1 hu
      rw [List.getElem?_take] at hz
      split at hz
      · have hj := hcell j (by omega)
        rw [Addr.add_lit, List.getD_eq_getElem?_getD, hz] at hj
        obtain ⟨c, hc, _⟩ := wf_u8 (hwf z (List.mem_of_getElem? hz))
        unfold oct
        rw [hj, hc]
        simp
      · cases hz
theorem cRow : Try.prog.cellsOf 25 = 1 := by kernel_rfl
theorem open_lists {H : Type} {enc : TypeId × Value → H} {W : World} {base : Nat} {v : Value} {d : DataW H} {ps : List MemPlace} (hval : Value.okWide Try.prog W .any base 22 v)
    (h : DataW.Trod enc Try.prog W 0 (fun _ => true) true 22 v d ps) : ∃ (A : Option Addr) (c n : Nat) (L : List (List Nat)), v = .slice A n c ∧ n = L.length ∧ Rl W W.heap.size A L ∧ (n ≤ c ∧ c ≤ 9223372036854775807) := by
  obtain ⟨a, len, cap, rfl⟩ := okWide_slice Try.underlying22 hval
  obtain ⟨fuel, hf⟩ := h
  rcases Deep.open_int_rows Try.underlying22 Try.underlying25 Try.underlying5 cRow cOct hf with ⟨hcs, _⟩ | ⟨ad, len', cap', X, M, C, Z, hcs, _, hl, hm, _, hall⟩
  · simp [Value.cells] at hcs
    obtain ⟨rfl, rfl, rfl⟩ := hcs
    exact ⟨none, 0, 0, [], rfl, rfl, Rl.none_ _ _ _, by omega, by omega⟩
  · simp [Value.cells] at hcs
    obtain ⟨rfl, rfl, rfl⟩ := hcs
    unfold maxLen at hm
    have hlen : ((List.range len).map fun r => ((Z r).take (M r)).map Int.toNat).length = len := by simp
    refine ⟨some ad, cap, len, (List.range len).map fun r => ((Z r).take (M r)).map Int.toNat, rfl, hlen.symm, ⟨by rw [hlen]; omega, ?_⟩, hl, by omega⟩
    intro hne
    have h0 : 0 < len := by
      rcases Nat.eq_zero_or_pos len with h | h
      · subst h; simp at hne
      · exact h
    have hc0 := (hall 0 (by omega)).1
    obtain ⟨b, off, spot⟩ := ad
    have hspot : spot = none := by simpa [Addr.add] using World.cell?_spot hc0
    subst hspot
    have hb : b < W.heap.size := by simpa [Addr.add] using cell_lt hc0
    refine ⟨b, off, rfl, hb, fun j p hp => ?_⟩
    rw [List.getElem?_map] at hp
    obtain ⟨i, hi, rfl⟩ := Option.map_eq_some_iff.1 hp
    obtain ⟨hj, rfl⟩ := List.getElem?_eq_some_iff.1 hi
    simp only [List.length_range] at hj
    simp only [List.getElem_range]
    obtain ⟨k1, k2, k3, k4, k5, k6, k7⟩ := hall j (by omega)
    rw [Addr.add_lit] at k1
    unfold maxLen at k3
    have hpl : (((Z j).take (M j)).map Int.toNat).length = M j := by simp; omega
    refine ⟨_, k1, X j, C j, by rw [hpl], by rw [hpl]; exact ⟨k2, by omega⟩, by rw [hpl]; omega, ?_, ?_⟩
    · intro x hx
      obtain ⟨z, hz, rfl⟩ := List.mem_map.1 hx
      obtain ⟨u, rfl, hu⟩ := wf_u8 (k5 z (List.mem_of_mem_take hz))
      simpa using hu
    · intro hpn
      have hM : 0 < M j := by
        rcases Nat.eq_zero_or_pos (M j) with h | h
        · exact absurd (List.length_eq_zero_iff.1 (by rw [hpl]; exact h)) hpn
        · exact h
      cases hX : X j with
      | none => have := k6 hX; omega
      | some a' =>
        have hcell := (k7 a' hX).2
        obtain ⟨b', off', spot'⟩ := a'
        have hz0 := hcell 0 (by omega)
        have hspot' : spot' = none := by simpa [Addr.add] using World.cell?_spot hz0
        subst hspot'
        have hb' : b' < W.heap.size := by simpa [Addr.add] using cell_lt hz0
        refine ⟨b', off', rfl, hb', fun i u hu => ?_⟩
        rw [List.getElem?_map] at hu
        obtain ⟨z, hz, rfl⟩ := Option.map_eq_some_iff.1 hu
        rw [List.getElem?_take] at hz
        split at hz
        · have hi2 := hcell i (by omega)
          rw [Addr.add_lit, List.getD_eq_getElem?_getD, hz] at hi2
          obtain ⟨u, hu, _⟩ := wf_u8 (k5 z (List.mem_of_getElem? hz))
          unfold oct
          rw [hi2, hu]
          simp
        · cases hz
end Go.Proofs.Ytmcmlfmfhljphaa

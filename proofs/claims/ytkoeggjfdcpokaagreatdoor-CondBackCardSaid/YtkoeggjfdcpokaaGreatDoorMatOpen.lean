/-
  From what a row's reading says of an argument that is a selector, a match, a token or a slice of tokens to what the walks of layer sel and of those above ask. (With LabOpen or LexOpen beside it: own, laidOut.)
-/
import Derived.Test.YtkoeggjfdcpokaaGreatDoorMemA
import Derived.Test.YtkoeggjfdcpokaaGreatDoorRows
import Derived.Deep.SlicePairs
import Derived.ProofKit
import Derived.OpenShut
import Derived.Lib.SmallJoins
namespace Go.Proofs.YtkoeggjfdcpokaaGreatDoor
open Go.ChangeShapes Go.WideShapes Go.ChangeAt Go.RowKit
open Go.Proofs.YtkoeggjfdcpokaaGreatDoor.Sl (Mt Sel Tf)

set_option maxRecDepth 100000 in
/-- A slice of structs of three fields of one cell each. -/
theorem open_three {H : Type} {enc : TypeId × Value → H} {P : Program} {w : World} {base : Nat} {spare : Nat → Bool} {held : Bool} {t e : TypeId} {f0 f1 f2 : Field} {fuel : Nat} {cs : List Value} {x : DataW H × List MemPlace} (ht : P.underlying t = some (.slice e)) (he : P.underlying e = some (.struct #[f0, f1, f2]))
    (ce : P.cellsOf e = 3) (o0 : f0.offset = 0) (o1 : f1.offset = 1) (o2 : f2.offset = 2) (c0 : P.cellsOf f0.type = 1) (c1 : P.cellsOf f1.type = 1) (c2 : P.cellsOf f2.type = 1)
    (h : DataW.trod enc P w base spare held fuel t cs = some x) :
    cs = [.slice none 0 0] ∨ ∃ (a : Addr) (len cap n : Nat), cs = [.slice (some a) len cap] ∧ len ≤ cap ∧ cap ≤ maxLen ∧
      ∀ i, i < len → ∃ (v0 v1 v2 : Value) (y0 y1 y2 : DataW H × List MemPlace), w.cell? (a.add (i * 3)) = some v0 ∧ w.cell? (a.add (i * 3 + 1)) = some v1 ∧ w.cell? (a.add (i * 3 + 2)) = some v2 ∧
        DataW.trod enc P w base spare held n f0.type [v0] = some y0 ∧ DataW.trod enc P w base spare held n f1.type [v1] = some y1 ∧ DataW.trod enc P w base spare held n f2.type [v2] = some y2 ∧ (∃ els rest, x.1 = .slice els rest ∧ DataW.agg [y0.1, y1.1, y2.1] ∈ els) := by
  rcases Deep.open_slice ht h with h0 | ⟨a, len, cap, m, n, D, Pl, rfl, hb, hl, hm, hmm, rfl, hx⟩
  · exact .inl h0.1
  right
  have hlm : len ≤ m := by rw [hmm]; split <;> omega
  refine ⟨a, len, cap, n - 1, rfl, hl, hm, fun i hi => ?_⟩
  obtain ⟨cs', h1, h2⟩ := hx i (by omega)
  rw [ce] at h1
  obtain ⟨_, hlen, hcell⟩ := World.cells?_some h1
  obtain ⟨xs, k, hk, hxy, _, hxl, hf⟩ := DataW.trod_struct he h2
  have hD := congrArg Prod.fst hxy
  have hk' : k = n - 1 := by omega
  subst hk'
  match xs, hxl, cs', hlen with
  | [y0, y1, y2], _, [v0, v1, v2], _ =>
    have g0 := hf 0 f0 rfl
    have g1 := hf 1 f1 rfl
    have g2 := hf 2 f2 rfl
    simp [o0, o1, o2, c0, c1, c2] at g0 g1 g2
    have e0 := hcell 0 (by omega)
    have e1 := hcell 1 (by omega)
    have e2 := hcell 2 (by omega)
    rw [Deep.add_add] at e0 e1 e2
    exact ⟨v0, v1, v2, y0, y1, y2, by simpa using e0, by simpa using e1, by simpa using e2, g0, g1, g2, _, _, rfl, List.mem_map.2 ⟨i, List.mem_range.2 hi, by simpa using hD⟩⟩
theorem cText : Tryz.prog.cellsOf 9 = 1 := by kernel_rfl
theorem cBool : Tryz.prog.cellsOf 4 = 1 := by kernel_rfl
theorem cInt : Tryz.prog.cellsOf 3 = 1 := by kernel_rfl
theorem cMat : Tryz.prog.cellsOf 45 = 3 := by kernel_rfl
theorem cTok : Tryz.prog.cellsOf 47 = 3 := by kernel_rfl
theorem cSel : Tryz.prog.cellsOf 24 = 2 := by kernel_rfl
set_option maxRecDepth 100000 in
theorem open_mats {H : Type} {enc : TypeId × Value → H} {W : World} {fuel : Nat} {cs : List Value} {x : DataW H × List MemPlace} {sp : Nat → Bool} {hd : Bool}
    (h : DataW.trod enc Tryz.prog W 0 sp hd fuel 22 cs = some x) : ∃ (A : Option Addr) (c n : Nat) (l : List Mt), cs = [.slice A n c] ∧ n = l.length ∧ Rq W W.heap.size A l ∧ (n ≤ c ∧ c ≤ 9223372036854775807) := by
  rcases open_three Tryz.underlying22 Tryz.underlying45 cMat rfl rfl rfl cText cText cBool h with rfl | ⟨ad, len, cap, n, rfl, hl, hm, hall⟩
  · exact ⟨none, 0, 0, [], rfl, rfl, Rq.none_ _ _ _, by omega, by omega⟩
  · have each : ∀ i, i < len → ∃ q : Mt, W.cell? (ad.add (i * 3)) = some (.string q.1) ∧ W.cell? (ad.add (i * 3 + 1)) = some (.string q.2.1) ∧ W.cell? (ad.add (i * 3 + 2)) = some (.bool q.2.2) ∧ q.1.size ≤ 9223372036854775807 ∧ q.2.1.size ≤ 9223372036854775807 := by
      intro i hi
      obtain ⟨v0, v1, v2, y0, y1, y2, c0, c1, c2, u0, u1, u2, _⟩ := hall i hi
      obtain ⟨s0, e0, _, h0⟩ := DataW.trod_string Tryz.underlying9 u0
      obtain ⟨s1, e1, _, h1⟩ := DataW.trod_string Tryz.underlying9 u1
      obtain ⟨b2, e2, _⟩ := DataW.trod_bool Tryz.underlying4 u2
      simp only [List.cons.injEq, and_true] at e0 e1 e2
      rw [e0] at c0
      rw [e1] at c1
      rw [e2] at c2
      unfold maxLen at h0 h1
      exact ⟨(s0, s1, b2), c0, c1, c2, by show s0.size ≤ _; omega, by show s1.size ≤ _; omega⟩
    obtain ⟨q, hq⟩ := Deep.choose_lt each
    have hlen : ((List.range len).map q).length = len := by simp
    refine ⟨some ad, cap, len, (List.range len).map q, rfl, hlen.symm, ⟨?_, ?_, ?_⟩, hl, by unfold maxLen at hm; omega⟩
    · rw [hlen]; unfold maxLen at hm; omega
    · intro p hp
      obtain ⟨i, hi, rfl⟩ := List.mem_map.1 hp
      exact (hq i (List.mem_range.1 hi)).2.2.2
    · intro hne
      have h0 : 0 < len := by
        rcases Nat.eq_zero_or_pos len with h | h
        · subst h; exact absurd rfl hne
        · exact h
      obtain ⟨b, off, spot⟩ := ad
      have hspot : spot = none := by simpa [Addr.add] using World.cell?_spot (hq 0 h0).1
      subst hspot
      have hb : b < W.heap.size := by simpa [Addr.add] using cell_lt (hq 0 h0).1
      refine ⟨b, off, rfl, hb, fun j u hu => ?_⟩
      have hj : j / 3 < len := by
        have := (List.getElem?_eq_some_iff.1 hu).1
        rw [mcells_len, hlen] at this
        omega
      have hj' : j / 3 < ((List.range len).map q).length := by rw [hlen]; exact hj
      obtain ⟨k0, k1, k2⟩ := mcells_at ((List.range len).map q) (j / 3) hj'
      obtain ⟨g0, g1, g2, _⟩ := hq (j / 3) hj
      rw [Addr.add_lit] at g0 g1 g2
      have eg : ((List.range len).map q)[j / 3]'hj' = q (j / 3) := by simp
      rw [eg] at k0 k1 k2
      rcases (show j % 3 = 0 ∨ j % 3 = 1 ∨ j % 3 = 2 by omega) with e | e | e
      · rw [show j / 3 * 3 = j by omega] at k0 g0
        rw [k0] at hu
        cases hu
        exact g0
      · rw [show j / 3 * 3 + 1 = j by omega] at k1 g1
        rw [k1] at hu
        cases hu
        exact g1
      · rw [show j / 3 * 3 + 2 = j by omega] at k2 g2
        rw [k2] at hu
        cases hu
        exact g2
set_option maxRecDepth 100000 in
theorem open_toksD {H : Type} {enc : TypeId × Value → H} {W : World} {base : Nat} {v : Value} {d : DataW H} {ps : List MemPlace} (hval : Value.okWide Tryz.prog W .any base 27 v)
    (h : DataW.Trod enc Tryz.prog W 0 (fun _ => true) true 27 v d ps) : ∃ (A : Option Addr) (c n : Nat) (l : List Tz), v = .slice A n c ∧ n = l.length ∧ Rz W W.heap.size A l ∧ (n ≤ c ∧ c ≤ 9223372036854775807) ∧ (∀ t ∈ l, (∃ els rest y0 y1, d = .slice els rest ∧ DataW.agg [y0, y1, .lit (.string t.2.2.data.toList)] ∈ els)) := by
  obtain ⟨a, len, cap, rfl⟩ := okWide_slice Tryz.underlying27 hval
  obtain ⟨fuel, hf⟩ := h
  rcases open_three Tryz.underlying27 Tryz.underlying47 cTok rfl rfl rfl cInt cInt cText hf with hcs | ⟨ad, len', cap', n, hcs, hl, hm, hall⟩
  · simp [Value.cells] at hcs
    obtain ⟨rfl, rfl, rfl⟩ := hcs
    exact ⟨none, 0, 0, [], rfl, rfl, Rz.none_ _ _ _, ⟨by omega, by omega⟩, by simp⟩
  · simp [Value.cells] at hcs
    obtain ⟨rfl, rfl, rfl⟩ := hcs
    have each : ∀ i, i < len → ∃ q : Tz, W.cell? (ad.add (i * 3)) = some (.int .i64 q.1) ∧ W.cell? (ad.add (i * 3 + 1)) = some (.int .i64 q.2.1) ∧ W.cell? (ad.add (i * 3 + 2)) = some (.string q.2.2) ∧ q.2.2.size ≤ 9223372036854775807 ∧ (∃ els rest y0 y1, d = .slice els rest ∧ DataW.agg [y0, y1, .lit (.string q.2.2.data.toList)] ∈ els) := by
      intro i hi
      obtain ⟨v0, v1, v2, y0, y1, y2, c0, c1, c2, u0, u1, u2, els, rest, hd, hin⟩ := hall i hi
      obtain ⟨n0, e0, g0, _⟩ := DataW.trod_int Tryz.underlying3 u0
      obtain ⟨n1, e1, g1, _⟩ := DataW.trod_int Tryz.underlying3 u1
      obtain ⟨s2, e2, g2, h2⟩ := DataW.trod_string Tryz.underlying9 u2
      simp only [List.cons.injEq, and_true] at e0 e1 e2
      rw [e0] at c0
      rw [e1] at c1
      rw [e2] at c2
      unfold maxLen at h2
      rw [g2] at hin
      exact ⟨(n0, n1, s2), c0, c1, c2, by show s2.size ≤ _; omega, els, rest, _, _, hd, hin⟩
    obtain ⟨q, hq⟩ := Deep.choose_lt each
    have hlen : ((List.range len).map q).length = len := by simp
    refine ⟨some ad, cap, len, (List.range len).map q, rfl, hlen.symm, ⟨?_, ?_, ?_⟩, ⟨hl, by unfold maxLen at hm; omega⟩, ?_⟩
    · rw [hlen]; unfold maxLen at hm; omega
    · intro p hp
      obtain ⟨i, hi, rfl⟩ := List.mem_map.1 hp
      exact (hq i (List.mem_range.1 hi)).2.2.2.1
    · intro hne
      have h0 : 0 < len := by
        rcases Nat.eq_zero_or_pos len with h | h
        · subst h; exact absurd rfl hne
        · exact h
      obtain ⟨b, off, spot⟩ := ad
      have hspot : spot = none := by simpa [Addr.add] using World.cell?_spot (hq 0 h0).1
      subst hspot
      have hb : b < W.heap.size := by simpa [Addr.add] using cell_lt (hq 0 h0).1
      refine ⟨b, off, rfl, hb, fun j u hu => ?_⟩
      have hj : j / 3 < len := by
        have := (List.getElem?_eq_some_iff.1 hu).1
        rw [zcells_len, hlen] at this
        omega
      have hj' : j / 3 < ((List.range len).map q).length := by rw [hlen]; exact hj
      obtain ⟨k0, k1, k2⟩ := zcells_at ((List.range len).map q) (j / 3) hj'
      obtain ⟨g0, g1, g2, _⟩ := hq (j / 3) hj
      rw [Addr.add_lit] at g0 g1 g2
      have eg : ((List.range len).map q)[j / 3]'hj' = q (j / 3) := by simp
      rw [eg] at k0 k1 k2
      rcases (show j % 3 = 0 ∨ j % 3 = 1 ∨ j % 3 = 2 by omega) with e | e | e
      · rw [show j / 3 * 3 = j by omega] at k0 g0
        rw [k0] at hu
        cases hu
        exact g0
      · rw [show j / 3 * 3 + 1 = j by omega] at k1 g1
        rw [k1] at hu
        cases hu
        exact g1
      · rw [show j / 3 * 3 + 2 = j by omega] at k2 g2
        rw [k2] at hu
        cases hu
        exact g2
    · intro p hp
      obtain ⟨i, hi, rfl⟩ := List.mem_map.1 hp
      exact (hq i (List.mem_range.1 hi)).2.2.2.2
set_option maxRecDepth 100000 in
theorem open_toks {H : Type} {enc : TypeId × Value → H} {W : World} {base : Nat} {v : Value} {d : DataW H} {ps : List MemPlace} (hval : Value.okWide Tryz.prog W .any base 27 v)
    (h : DataW.Trod enc Tryz.prog W 0 (fun _ => true) true 27 v d ps) : ∃ (A : Option Addr) (c n : Nat) (l : List Tz), v = .slice A n c ∧ n = l.length ∧ Rz W W.heap.size A l ∧ (n ≤ c ∧ c ≤ 9223372036854775807) := by
  obtain ⟨A, c, n, l, h1, h2, h3, h4, _⟩ := open_toksD hval h
  exact ⟨A, c, n, l, h1, h2, h3, h4⟩
set_option maxRecDepth 100000 in
theorem open_sel {H : Type} {enc : TypeId × Value → H} {W : World} {base : Nat} {v : Value} {d : DataW H} {ps : List MemPlace} (hval : Value.okWide Tryz.prog W .any base 24 v)
    (h : DataW.Trod enc Tryz.prog W 0 (fun _ => true) true 24 v d ps) : ∃ (N : ByteArray) (A : Option Addr) (c n : Nat) (l : List Mt), v = sv N A n c ∧ N.size ≤ 9223372036854775807 ∧ n = l.length ∧ Rq W W.heap.size A l ∧ (n ≤ c ∧ c ≤ 9223372036854775807) := by
  obtain ⟨v0, v1, y0, y1, n, rfl, _, _, u0, u1⟩ := Go.Joins.open_agg2 Tryz.underlying24 (by kernel_rfl) cSel hval h
  obtain ⟨s0, e0, _, h0⟩ := DataW.trod_string Tryz.underlying9 u0
  simp only [List.cons.injEq, and_true] at e0
  subst e0
  obtain ⟨A, c, k, l, e1, hk, hr, hc⟩ := open_mats u1
  simp only [List.cons.injEq, and_true] at e1
  subst e1
  exact ⟨s0, A, c, k, l, rfl, by unfold maxLen at h0; omega, hk, hr, hc⟩
set_option maxRecDepth 100000 in
theorem open_tok {H : Type} {enc : TypeId × Value → H} {W : World} {base : Nat} {v : Value} {d : DataW H} {ps : List MemPlace} (hval : Value.okWide Tryz.prog W .any base 47 v)
    (h : DataW.Trod enc Tryz.prog W 0 (fun _ => true) true 47 v d ps) : ∃ (k a : Int) (s : ByteArray), v = .agg #[.int .i64 k, .int .i64 a, .string s] ∧ s.size ≤ 9223372036854775807 := by
  obtain ⟨v0, v1, v2, y0, y1, y2, n, rfl, _, _, u0, u1, u2⟩ := Go.Joins.open_agg3 Tryz.underlying47 (by kernel_rfl) cTok hval h
  obtain ⟨n0, e0, _, _⟩ := DataW.trod_int Tryz.underlying3 u0
  obtain ⟨n1, e1, _, _⟩ := DataW.trod_int Tryz.underlying3 u1
  obtain ⟨s2, e2, _, h2⟩ := DataW.trod_string Tryz.underlying9 u2
  simp only [List.cons.injEq, and_true] at e0 e1 e2
  subst e0 e1 e2
  exact ⟨n0, n1, s2, rfl, by unfold maxLen at h2; omega⟩
set_option maxRecDepth 100000 in
theorem open_mat {H : Type} {enc : TypeId × Value → H} {W : World} {base : Nat} {v : Value} {d : DataW H} {ps : List MemPlace} (hval : Value.okWide Tryz.prog W .any base 45 v)
    (h : DataW.Trod enc Tryz.prog W 0 (fun _ => true) true 45 v d ps) : ∃ (a b : ByteArray) (c : Bool), v = .agg #[.string a, .string b, .bool c] ∧ a.size ≤ 9223372036854775807 ∧ b.size ≤ 9223372036854775807 := by
  obtain ⟨v0, v1, v2, y0, y1, y2, n, rfl, _, _, u0, u1, u2⟩ := Go.Joins.open_agg3 Tryz.underlying45 (by kernel_rfl) cMat hval h
  obtain ⟨s0, e0, _, h0⟩ := DataW.trod_string Tryz.underlying9 u0
  obtain ⟨s1, e1, _, h1⟩ := DataW.trod_string Tryz.underlying9 u1
  obtain ⟨b2, e2, _⟩ := DataW.trod_bool Tryz.underlying4 u2
  simp only [List.cons.injEq, and_true] at e0 e1 e2
  subst e0 e1 e2
  unfold maxLen at h0 h1
  exact ⟨s0, s1, b2, rfl, by omega, by omega⟩
end Go.Proofs.YtkoeggjfdcpokaaGreatDoor

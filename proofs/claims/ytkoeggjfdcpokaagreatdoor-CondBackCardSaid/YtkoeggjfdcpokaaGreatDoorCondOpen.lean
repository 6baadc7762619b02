/-
  From what a row's reading says of an argument that is a question, or a slice of tokens of small bulk, to what the walks of layer cond ask.
-/
import Derived.Test.YtkoeggjfdcpokaaGreatDoorMatOpen
import Derived.Test.YtkoeggjfdcpokaaGreatDoorLexOpen
import Derived.Test.YtkoeggjfdcpokaaGreatDoorCndA
import Derived.Deep.Strs
namespace Go.Proofs.YtkoeggjfdcpokaaGreatDoor
open Go.ChangeShapes Go.WideShapes Go.ChangeAt Go.RowKit
open Go.Proofs.YtkoeggjfdcpokaaGreatDoor.Sl (Mt Sel Tf)

theorem cExpr : Tryz.prog.cellsOf 26 = 4 := by kernel_rfl
set_option maxRecDepth 100000 in
theorem open_exprB {H : Type} {enc : TypeId × Value → H} {W : World} {base : Nat} {v : Value} {d : DataW H} {ps : List MemPlace} (hval : Value.okWide Tryz.prog W .any base 26 v)
    (h : DataW.Trod enc Tryz.prog W 0 (fun _ => true) true 26 v d ps) : ∃ (N : ByteArray) (A : Option Addr) (c n : Nat) (l : List Mt) (o z : Int), v = xv N A n c o z ∧ (N.size ≤ Rows.uptoBulk d ∧ N.size ≤ 9223372036854775807) ∧ n = l.length ∧ Rq W W.heap.size A l ∧ (n ≤ c ∧ c ≤ 9223372036854775807) ∧ (Lit.int .i64 o).wf = true ∧ (Lit.int .i64 z).wf = true := by
  obtain ⟨cs, rfl, hsz⟩ := okWide_struct Tryz.underlying26 hval
  obtain ⟨c0, c1, c2, c3, rfl⟩ := Go.Joins.array4 (hsz.trans cExpr)
  obtain ⟨fuel, hf⟩ := h
  obtain ⟨y0, y1, y2, m, hx, _, h0, h1, h2⟩ := Deep.trod_struct3 Tryz.underlying26 hf
  have h0' : DataW.trod enc Tryz.prog W 0 (fun _ => true) true m 24 [c0, c1] = some y0 := by simpa [Value.cells, cSel] using h0
  have h1' : DataW.trod enc Tryz.prog W 0 (fun _ => true) true m 3 [c2] = some y1 := by simpa [Value.cells, cInt] using h1
  have h2' : DataW.trod enc Tryz.prog W 0 (fun _ => true) true m 3 [c3] = some y2 := by simpa [Value.cells, cInt] using h2
  obtain ⟨n1, e1, _, w1⟩ := DataW.trod_int Tryz.underlying3 h1'
  obtain ⟨n2, e2, _, w2⟩ := DataW.trod_int Tryz.underlying3 h2'
  obtain ⟨x0, x1, k, hy, _, u0, u1⟩ := trod_struct2 Tryz.underlying24 h0'
  have u0' : DataW.trod enc Tryz.prog W 0 (fun _ => true) true k 9 [c0] = some x0 := by simpa [cText] using u0
  have u1' : DataW.trod enc Tryz.prog W 0 (fun _ => true) true k 22 [c1] = some x1 := by simpa [show Tryz.prog.cellsOf 22 = 1 by kernel_rfl] using u1
  obtain ⟨s0, e0, g0, b0⟩ := DataW.trod_string Tryz.underlying9 u0'
  obtain ⟨A, c, q, l, e3, hk, hr, hc⟩ := open_mats u1'
  simp only [List.cons.injEq, and_true] at e0 e1 e2 e3
  subst e0 e1 e2 e3
  refine ⟨s0, A, c, q, l, n1, n2, rfl, ⟨?_, by unfold maxLen at b0; omega⟩, hk, hr, hc, w1, w2⟩
  simp only [Prod.mk.injEq] at hx
  rw [hx.1, hy, g0]
  simp only [Rows.uptoBulk, Rows.uptoBulkAll, Array.length_toList, ByteArray.size_data]
  omega
set_option maxRecDepth 100000 in
theorem open_expr {H : Type} {enc : TypeId × Value → H} {W : World} {base : Nat} {v : Value} {d : DataW H} {ps : List MemPlace} (hval : Value.okWide Tryz.prog W .any base 26 v)
    (h : DataW.Trod enc Tryz.prog W 0 (fun _ => true) true 26 v d ps) : ∃ (N : ByteArray) (A : Option Addr) (c n : Nat) (l : List Mt) (o z : Int), v = xv N A n c o z ∧ N.size ≤ 9223372036854775807 ∧ n = l.length ∧ Rq W W.heap.size A l ∧ (n ≤ c ∧ c ≤ 9223372036854775807) ∧ (Lit.int .i64 o).wf = true ∧ (Lit.int .i64 z).wf = true := by
  obtain ⟨N, A, c, n, l, o, z, h1, h2, h3⟩ := open_exprB hval h
  exact ⟨N, A, c, n, l, o, z, h1, h2.2, h3⟩
theorem bulk_mem {H : Type} {x : DataW H} : ∀ {l : List (DataW H)}, x ∈ l → Rows.uptoBulk x ≤ Rows.uptoBulkAll l
  | [], h => by cases h
  | y :: r, h => by
    simp only [Rows.uptoBulkAll]
    rcases List.mem_cons.1 h with rfl | h
    · omega
    · have := bulk_mem h
      omega
set_option maxRecDepth 100000 in
theorem open_toksB {H : Type} {enc : TypeId × Value → H} {W : World} {base : Nat} {v : Value} {d : DataW H} {ps : List MemPlace} (hval : Value.okWide Tryz.prog W .any base 27 v)
    (h : DataW.Trod enc Tryz.prog W 0 (fun _ => true) true 27 v d ps) : ∃ (A : Option Addr) (c n : Nat) (l : List Tz), v = .slice A n c ∧ n = l.length ∧ Rz W W.heap.size A l ∧ (n ≤ c ∧ c ≤ 9223372036854775807) ∧ (∀ t ∈ l, t.2.2.size ≤ Rows.uptoBulk d) := by
  obtain ⟨A, c, n, l, h1, h2, h3, h4, h5⟩ := open_toksD hval h
  refine ⟨A, c, n, l, h1, h2, h3, h4, fun t ht => ?_⟩
  obtain ⟨els, rest, y0, y1, rfl, hin⟩ := h5 t ht
  have hb := bulk_mem hin
  simp only [Rows.uptoBulk, Rows.uptoBulkAll, Array.length_toList, ByteArray.size_data] at hb ⊢
  omega
/-- Of the readings of small bulk each is small. -/
theorem small1 {H : Type} {a : DataW H} {gs : List (DataW H)} (h : Rows.uptoSmall H ([a] ++ gs) = true) : Rows.uptoBulk a ≤ 1048576 ∧ True := by
  unfold Rows.uptoSmall at h
  simp only [decide_eq_true_eq, List.cons_append, Rows.uptoBulkAll] at h
  exact ⟨by omega, trivial⟩
theorem small2 {H : Type} {a b : DataW H} {gs : List (DataW H)} (h : Rows.uptoSmall H ([a, b] ++ gs) = true) : Rows.uptoBulk a ≤ 1048576 ∧ Rows.uptoBulk b ≤ 1048576 := by
  unfold Rows.uptoSmall at h
  simp only [decide_eq_true_eq, List.cons_append, Rows.uptoBulkAll] at h
  omega
theorem small3 {H : Type} {a b c : DataW H} {gs : List (DataW H)} (h : Rows.uptoSmall H ([a, b, c] ++ gs) = true) : Rows.uptoBulk a ≤ 1048576 ∧ Rows.uptoBulk b ≤ 1048576 ∧ Rows.uptoBulk c ≤ 1048576 := by
  unfold Rows.uptoSmall at h
  simp only [decide_eq_true_eq, List.cons_append, Rows.uptoBulkAll] at h
  omega
theorem small5 {H : Type} {a b c d e : DataW H} {gs : List (DataW H)} (h : Rows.uptoSmall H ([a, b, c, d, e] ++ gs) = true) : Rows.uptoBulk a ≤ 1048576 ∧ Rows.uptoBulk b ≤ 1048576 ∧ Rows.uptoBulk c ≤ 1048576 ∧ Rows.uptoBulk d ≤ 1048576 ∧ Rows.uptoBulk e ≤ 1048576 := by
  unfold Rows.uptoSmall at h
  simp only [decide_eq_true_eq, List.cons_append, Rows.uptoBulkAll] at h
  omega
end Go.Proofs.YtkoeggjfdcpokaaGreatDoor

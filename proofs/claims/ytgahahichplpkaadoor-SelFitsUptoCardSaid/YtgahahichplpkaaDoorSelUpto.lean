/-
  A selector and a match of small bulk have short texts.
-/
import Derived.Test.YtgahahichplpkaaDoorSelOpen
namespace Go.Proofs.YtgahahichplpkaaDoor
open Go.ChangeShapes Go.WideShapes Go.ChangeAt Go.RowKit
open Go.Proofs.YtgahahichplpkaaDoor.Sl (Mt Sel Tf)

set_option maxRecDepth 100000 in
theorem open_selB {H : Type} {enc : TypeId × Value → H} {W : World} {base : Nat} {v : Value} {d : DataW H} {ps : List MemPlace} (hval : Value.okWide Tryd.prog W .any base 24 v)
    (h : DataW.Trod enc Tryd.prog W 0 (fun _ => true) true 24 v d ps) : ∃ (N : ByteArray) (A : Option Addr) (c n : Nat) (l : List Mt), v = sv N A n c ∧ N.size ≤ Rows.uptoBulk d ∧ n = l.length ∧ Rq W W.heap.size A l ∧ (n ≤ c ∧ c ≤ 9223372036854775807) := by
  obtain ⟨v0, v1, y0, y1, n, rfl, hd, _, u0, u1⟩ := Go.Joins.open_agg2 Tryd.underlying24 (by kernel_rfl) cSel hval h
  obtain ⟨s0, e0, g0, h0⟩ := DataW.trod_string Tryd.underlying9 u0
  simp only [List.cons.injEq, and_true] at e0
  subst e0
  obtain ⟨A, c, k, l, e1, hk, hr, hc⟩ := open_mats u1
  simp only [List.cons.injEq, and_true] at e1
  subst e1
  refine ⟨s0, A, c, k, l, rfl, ?_, hk, hr, hc⟩
  subst hd g0
  simp only [Rows.uptoBulk, Rows.uptoBulkAll, Array.length_toList, ByteArray.size_data]
  omega
set_option maxRecDepth 100000 in
theorem open_matB {H : Type} {enc : TypeId × Value → H} {W : World} {base : Nat} {v : Value} {d : DataW H} {ps : List MemPlace} (hval : Value.okWide Tryd.prog W .any base 45 v)
    (h : DataW.Trod enc Tryd.prog W 0 (fun _ => true) true 45 v d ps) : ∃ (a b : ByteArray) (c : Bool), v = .agg #[.string a, .string b, .bool c] ∧ a.size ≤ Rows.uptoBulk d ∧ b.size ≤ Rows.uptoBulk d := by
  obtain ⟨v0, v1, v2, y0, y1, y2, n, rfl, hd, _, u0, u1, u2⟩ := Go.Joins.open_agg3 Tryd.underlying45 (by kernel_rfl) cMat hval h
  obtain ⟨s0, e0, g0, h0⟩ := DataW.trod_string Tryd.underlying9 u0
  obtain ⟨s1, e1, g1, h1⟩ := DataW.trod_string Tryd.underlying9 u1
  obtain ⟨b2, e2, g2⟩ := DataW.trod_bool Tryd.underlying4 u2
  simp only [List.cons.injEq, and_true] at e0 e1 e2
  subst e0 e1 e2
  subst hd g0 g1
  refine ⟨s0, s1, b2, rfl, ?_, ?_⟩ <;> simp only [Rows.uptoBulk, Rows.uptoBulkAll, Array.length_toList, ByteArray.size_data] <;> omega
/-- Of three readings of small bulk each is small. -/
theorem small3 {H : Type} {a b c : DataW H} {gs : List (DataW H)} (h : Rows.uptoSmall H ([a, b, c] ++ gs) = true) : Rows.uptoBulk a ≤ 1048576 ∧ Rows.uptoBulk b ≤ 1048576 ∧ Rows.uptoBulk c ≤ 1048576 := by
  unfold Rows.uptoSmall at h
  simp only [decide_eq_true_eq, List.cons_append, Rows.uptoBulkAll] at h
  omega
end Go.Proofs.YtgahahichplpkaaDoor

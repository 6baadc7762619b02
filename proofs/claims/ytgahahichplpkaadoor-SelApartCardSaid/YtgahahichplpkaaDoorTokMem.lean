/-
  How a slice of tokens reads in memory; a row of tokens of the call's own that is appended to.
-/
import Derived.Test.YtgahahichplpkaaDoorWb
import Derived.IntWalk
import Derived.Deep.RegionHeld
import Derived.Deep.RegionHeldLaw
import Derived.Deep.AppendLies
namespace Go.Proofs.YtgahahichplpkaaDoor
open Go.RowKit

abbrev Cap (k c : Nat) : Prop := k ≤ c ∧ c ≤ 9223372036854775807
/-- A token: its kind, its place, its text. -/
abbrev Tk := Nat × Nat × ByteArray
def tenc (t : Tk) : List Value := [.int .i64 (t.1 : Int), .int .i64 (t.2.1 : Int), .string t.2.2]
def tcells (l : List Tk) : List Value := l.flatMap tenc
theorem tcells_len : ∀ l : List Tk, (tcells l).length = l.length * 3
  | [] => rfl
  | p :: r => by
    show (tenc p ++ tcells r).length = _
    rw [List.length_append, tcells_len r, List.length_cons]
    show 3 + _ = _
    omega
theorem tcells_app (a b : List Tk) : tcells (a ++ b) = tcells a ++ tcells b := List.flatMap_append
theorem tcells_one' : ∀ (l : List Tk), ∀ u ∈ tcells l, u.oneCell' = true := by
  intro l u hu
  obtain ⟨p, _, hp⟩ := List.mem_flatMap.1 hu
  simp only [tenc, List.mem_cons, List.not_mem_nil, or_false] at hp
  rcases hp with rfl | rfl | rfl <;> rfl
theorem tcells_drop : ∀ (l : List Tk) (k : Nat), tcells (l.drop k) = (tcells l).drop (k * 3)
  | [], k => by simp [tcells]
  | p :: r, 0 => by simp [tcells]
  | p :: r, k + 1 => by
    rw [List.drop_succ_cons]
    show tcells (r.drop k) = List.drop ((k + 1) * 3) (tenc p ++ tcells r)
    rw [tcells_drop r k, show (k + 1) * 3 = k * 3 + 1 + 1 + 1 by omega]
    rfl
theorem tcells_take : ∀ (l : List Tk) (k : Nat), tcells (l.take k) = (tcells l).take (k * 3)
  | [], k => by simp [tcells]
  | p :: r, 0 => by simp [tcells]
  | p :: r, k + 1 => by
    rw [List.take_succ_cons]
    show tenc p ++ tcells (r.take k) = List.take ((k + 1) * 3) (tenc p ++ tcells r)
    rw [tcells_take r k, show (k + 1) * 3 = k * 3 + 1 + 1 + 1 by omega]
    rfl
theorem tcells_at (l : List Tk) (k : Nat) (h : k < l.length) : (tcells l)[k * 3]? = some (.int .i64 (l[k].1 : Int)) ∧ (tcells l)[k * 3 + 1]? = some (.int .i64 (l[k].2.1 : Int)) ∧ (tcells l)[k * 3 + 2]? = some (.string l[k].2.2) := by
  have e : tcells (l.drop k) = (tcells l).drop (k * 3) := tcells_drop l k
  rw [List.drop_eq_getElem_cons h] at e
  have e0 : ((tcells l).drop (k * 3))[0]? = some (.int .i64 (l[k].1 : Int)) := by rw [← e]; rfl
  have e1 : ((tcells l).drop (k * 3))[1]? = some (.int .i64 (l[k].2.1 : Int)) := by rw [← e]; rfl
  have e2 : ((tcells l).drop (k * 3))[2]? = some (.string l[k].2.2) := by rw [← e]; rfl
  rw [List.getElem?_drop] at e0 e1 e2
  exact ⟨e0, e1, e2⟩
/-- A slice (its address A) holds the tokens l, in blocks below B. -/
structure Rt (w : World) (B : Nat) (A : Option Addr) (l : List Tk) : Prop where
  len : l.length ≤ 9223372036854775807
  size : ∀ t ∈ l, t.2.2.size ≤ 9223372036854775807
  mem : l ≠ [] → ∃ b off, A = some ⟨b, off, none⟩ ∧ b < B ∧ ∀ j u, (tcells l)[j]? = some u → w.cell? ⟨b, off + j, none⟩ = some u
section
variable {w w' : World} {B : Nat} {A : Option Addr} {l : List Tk}
theorem Rt.none_ (w : World) (B : Nat) (A : Option Addr) : Rt w B A [] := ⟨by simp, by simp, fun h => absurd rfl h⟩
theorem Rt.on (h : Rt w w.heap.size A l) (hb : Below w.heap.size w w') : Rt w' w'.heap.size A l :=
  ⟨h.len, h.size, fun hn => by
    obtain ⟨b, off, e, hlt, hc⟩ := h.mem hn
    exact ⟨b, off, e, by have := hb.size; omega, fun j u hu => (hb.cell hlt).trans (hc j u hu)⟩⟩
theorem Rt.at_ (h : Rt w B A l) {k : Nat} (hk : k < l.length) :
    ∃ b off, A = some ⟨b, off, none⟩ ∧ b < B ∧ w.cell? ⟨b, off + k * 3, none⟩ = some (.int .i64 (l[k].1 : Int)) ∧ w.cell? ⟨b, off + k * 3 + 1, none⟩ = some (.int .i64 (l[k].2.1 : Int)) ∧ w.cell? ⟨b, off + k * 3 + 2, none⟩ = some (.string l[k].2.2) := by
  have hn : l ≠ [] := fun e => by subst e; simp at hk
  obtain ⟨b, off, e, hb, hc⟩ := h.mem hn
  obtain ⟨c0, c1, c2⟩ := tcells_at l k hk
  exact ⟨b, off, e, hb, hc _ _ c0, hc _ _ c1, hc _ _ c2⟩
theorem Rt.take (h : Rt w B A l) (k : Nat) : Rt w B A (l.take k) :=
  ⟨by have := h.len; rw [List.length_take]; omega, fun x hx => h.size x (List.mem_of_mem_take hx), fun hn => by
    have hl : l ≠ [] := fun e => hn (by rw [e]; simp)
    obtain ⟨b, off, e, hb, hc⟩ := h.mem hl
    refine ⟨b, off, e, hb, fun j u hu => hc j u ?_⟩
    rw [tcells_take, List.getElem?_take] at hu
    split at hu
    · exact hu
    · simp at hu⟩
end
/-- A row of the call's own that holds the tokens l. -/
def OwnT (w : World) (base : Nat) (v : Value) (l : List Tk) : Prop := w.ownsRow base 39 3 v l.length (tcells l)
section
variable {w w' : World} {base : Nat} {v : Value} {l : List Tk}
theorem OwnT.rt {c n : Nat} {A : Option Addr} (h : OwnT w base (.slice A n c) l) (hl : l.length ≤ 9223372036854775807) (hs : ∀ t ∈ l, t.2.2.size ≤ 9223372036854775807) : Rt w w.heap.size A l :=
  ⟨hl, hs, fun hn => by
    have h0 : 0 < l.length := List.length_pos_iff.2 hn
    rcases h.2 with ⟨_, e⟩ | ⟨g, cap, cur, hv, _, hg, _⟩
    · omega
    · cases hv
      exact ⟨g, 0, rfl, (Array.getElem?_eq_some_iff.1 hg).1, fun j u hu => by have := World.ownsRow.cells h (g := g) rfl j u hu; simpa [Addr.add_lit] using this⟩⟩
theorem OwnT.slice (h : OwnT w base v l) : ∃ A c, v = .slice A l.length c ∧ Cap l.length c := by
  rcases h.2 with ⟨rfl, h0⟩ | ⟨g, cap, cur, rfl, _, _, hn, hm, _⟩
  · exact ⟨none, 0, by rw [h0], by omega, by omega⟩
  · exact ⟨_, cap, rfl, hn, by unfold maxLen at hm; omega⟩
theorem OwnT.blk (h : OwnT w base v l) : ∀ k, v.ownBlock = some k → base ≤ k := by
  intro k hk
  rcases h.2 with ⟨rfl, _⟩ | ⟨g, cap, cur, rfl, hb, _⟩
  · simp [Value.ownBlock] at hk
  · simp [Value.ownBlock] at hk
    omega
theorem OwnT.below (h : OwnT w base v l) (hb : Below w.heap.size w w') : OwnT w' base v l := by
  refine ⟨h.1, ?_⟩
  rcases h.2 with h0 | ⟨g, cap, cur, hv, hbs, hg, hr⟩
  · exact .inl h0
  · exact .inr ⟨g, cap, cur, hv, hbs, (hb.block g (Array.getElem?_eq_some_iff.1 hg).1).trans hg, hr⟩
end
theorem OwnT.nil (w : World) (base : Nat) : OwnT w base (.slice none 0 0) [] := ⟨rfl, .inl ⟨rfl, rfl⟩⟩
theorem ownT_made (w : World) : OwnT (w.alloc (.cells #[] 39)) w.heap.size (.slice (some ⟨w.heap.size, 0, none⟩) 0 0) [] := World.ownsRow_made w #[] 0 (Nat.le_refl _) (Nat.zero_le _) (by simp)
theorem info_tok : (Tryd.prog.info? 39).map (fun i => (i.zero, i.size, i.bytes)) = some (some (.agg #[.int .i64 0, .int .i64 0, .string ⟨#[]⟩]), 3, 32) := by kernel_rfl
theorem rt_new (w : World) (k a : Nat) (s : ByteArray) (hs : s.size ≤ 9223372036854775807) :
    Rt (w.alloc (.cells #[.int .i64 (k : Int), .int .i64 (a : Int), .string s] 39)) (w.alloc (.cells #[.int .i64 (k : Int), .int .i64 (a : Int), .string s] 39)).heap.size (some ⟨w.heap.size, 0, none⟩) [(k, a, s)] := by
  refine ⟨by simp, ?_, fun _ => ⟨w.heap.size, 0, rfl, by simp, ?_⟩⟩
  · intro p hp
    simp only [List.mem_cons, List.not_mem_nil, or_false] at hp
    subst hp
    exact hs
  · intro j u hu
    match j, hu with
    | 0, hu => cases hu; go_simp
    | 1, hu => cases hu; go_simp
    | 2, hu => cases hu; go_simp
/-- One token more, at a step of a region that draws its order. -/
theorem step_tok {w : World} {ops : Array Oper} {o : Oper} {a : Act} {K : Act → World → Prop} {Q : Exit → Act → World → Prop} {E : Prop} (hgd : o.guard = none) (s x : Operand)
    (ho : o.op = .call { callee := .builtin .append, args := #[s, x], argTypes := #[25, 25] })
    (base : Nat) (v : Value) (l : List Tk) (u : Tk) (hs : a.eval s = v) (hown : OwnT w base v l) (ad : Addr) (hx : a.eval x = .slice (some ad) 1 1) (hr : Rt w w.heap.size (some ad) [u])
    (hlen : l.length ≤ 1000000) (hbase : base ≤ w.heap.size)
    (h : ∀ v' w', OwnT w' base v' (l ++ [u]) → Below base w w' → K (a.put o.dst v') w') :
    if Region.wanted o (yielded ops a.tmps) = true then Oper.wp Tryd.prog o a w K Q else E := by
  obtain ⟨i0, hi, hz0, hz1, hz2⟩ := info_parts info_tok
  refine step_append_lies w hgd s x 25 ho base 39 i0 _ 3 32 Tryd.underlying25 hi hz0 hz1 hz2 rfl (by decide) v l.length (tcells l) hs hown ad 1 1 (tcells [u]) hx (by rw [tcells_len]; rfl) ?_ (tcells_one' _) (by omega) (by unfold maxLen; omega) (by omega) hbase _ rfl ?_
  · intro j y hj
    obtain ⟨b, off, e, _, hc⟩ := hr.mem (by simp)
    cases e
    have := hc j y hj
    rwa [Addr.add_lit]
  · intro g cap w' ho' hg _ _
    refine h _ w' ?_ ((Below.refl base w).grown hg hbase (OwnT.blk hown))
    unfold OwnT
    rw [tcells_app, List.length_append]
    exact ho'
theorem run_appt_none {w : World} {base : Nat} {v : Value} {n : Nat} {xs : List Value} (hown : w.ownsRow base 39 3 v n xs) (ty : TypeId) (A : Option Addr) (c : Nat) :
    (Builtin.append_ #[25, 25] ty #[v, .slice A 0 c]).run Tryd.prog w = .ok v w := by
  obtain ⟨i0, hi, _, _, _⟩ := info_parts info_tok
  rcases hown.2 with ⟨rfl, rfl⟩ | ⟨g, cap, cur, rfl, _, _, hnc, _⟩
  · cases A <;> simp [Builtin.append_, run_underlying Tryd.underlying25, sizeOf, typeInfo, hi, Builtin.lenOf, Builtin.firstCells, loadCells, loadCellsFrom]
  · cases A <;> simp [Builtin.append_, run_underlying Tryd.underlying25, sizeOf, typeInfo, hi, Builtin.lenOf, Builtin.firstCells, hnc, storeCells, loadCells, loadCellsFrom]
/-- 'append(row of the call's own, tokens...)'. -/
theorem wp_appt (w : World) {ops : Array Oper} {rest : List Oper} {o : Oper} {a : Act} {Q : Exit → Act → World → Prop} (hgd : o.guard = none) (s x : Operand)
    (ho : o.op = .call { callee := .builtin .append, args := #[s, x], argTypes := #[25, 25] })
    (base : Nat) (v : Value) (l m : List Tk) (hs : a.eval s = v) (hown : OwnT w base v l) (A : Option Addr) (n c : Nat) (hn : n = m.length) (hx : a.eval x = .slice A n c) (hr : Rt w w.heap.size A m)
    (hlen : l.length + m.length ≤ 1000000) (hbase : base ≤ w.heap.size)
    (h : ∀ v' w', OwnT w' base v' (l ++ m) → Below base w w' → wpList Tryd.prog ops Q rest (a.put o.dst v') w') : wpList Tryd.prog ops Q (o :: rest) a w := by
  subst hn
  obtain ⟨i0, hi, hz0, hz1, hz2⟩ := info_parts info_tok
  by_cases hm : m = []
  · subst hm
    refine wpList_plain hgd fun K hK => ?_
    have hrun := run_appt_none hown o.type A c
    unfold Oper.wp
    simp only [List.length_nil] at hx
    simp [execOp, ho, resolve, invoke, builtin, hs, hx, hrun, Result.andThen]
    exact hK _ _ (h v w (by simpa using hown) (Below.refl _ _))
  · obtain ⟨b, off, rfl, _, hc⟩ := hr.mem hm
    refine wpList_append_own _ hgd s x 25 ho base 39 i0 _ 3 32 Tryd.underlying25 hi hz0 hz1 hz2 rfl (by decide) v l.length (tcells l) hs hown ⟨b, off, none⟩ m.length c (tcells m) hx (tcells_len m) ?_ (tcells_one' m) (by unfold maxLen; omega) (by omega) hbase ?_
    · intro j u hj
      have := hc j u hj
      rwa [Addr.add_lit]
    · intro v' w' ho' hg _
      refine h v' w' ?_ ((Below.refl base w).grown hg hbase (OwnT.blk hown))
      unfold OwnT
      rw [tcells_app, List.length_append]
      exact ho'
end Go.Proofs.YtgahahichplpkaaDoor

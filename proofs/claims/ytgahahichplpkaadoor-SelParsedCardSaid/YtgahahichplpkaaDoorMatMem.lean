/-
  How a slice of matches reads in memory; a row of matches of the call's own that is appended to.
-/
import Derived.Test.YtgahahichplpkaaDoorTokMem
import Derived.Test.YtgahahichplpkaaDoorSelPlain
import Derived.Laws.StructEq
import Derived.IntWalk
import Derived.Deep.RegionHeld
import Derived.Deep.RegionHeldLaw
import Derived.Deep.AppendLies
namespace Go.Proofs.YtgahahichplpkaaDoor
open Go.RowKit

open Go.Proofs.YtgahahichplpkaaDoor.Sl (Mt)

def menc (t : Mt) : List Value := [.string t.1, .string t.2.1, .bool t.2.2]
def mcells (l : List Mt) : List Value := l.flatMap menc
theorem mcells_len : ∀ l : List Mt, (mcells l).length = l.length * 3
  | [] => rfl
  | p :: r => by
    show (menc p ++ mcells r).length = _
    rw [List.length_append, mcells_len r, List.length_cons]
    show 3 + _ = _
    omega
theorem mcells_app (a b : List Mt) : mcells (a ++ b) = mcells a ++ mcells b := List.flatMap_append
theorem mcells_one' : ∀ (l : List Mt), ∀ u ∈ mcells l, u.oneCell' = true := by
  intro l u hu
  obtain ⟨p, _, hp⟩ := List.mem_flatMap.1 hu
  simp only [menc, List.mem_cons, List.not_mem_nil, or_false] at hp
  rcases hp with rfl | rfl | rfl <;> rfl
theorem mcells_drop : ∀ (l : List Mt) (k : Nat), mcells (l.drop k) = (mcells l).drop (k * 3)
  | [], k => by simp [mcells]
  | p :: r, 0 => by simp [mcells]
  | p :: r, k + 1 => by
    rw [List.drop_succ_cons]
    show mcells (r.drop k) = List.drop ((k + 1) * 3) (menc p ++ mcells r)
    rw [mcells_drop r k, show (k + 1) * 3 = k * 3 + 1 + 1 + 1 by omega]
    rfl
theorem mcells_take : ∀ (l : List Mt) (k : Nat), mcells (l.take k) = (mcells l).take (k * 3)
  | [], k => by simp [mcells]
  | p :: r, 0 => by simp [mcells]
  | p :: r, k + 1 => by
    rw [List.take_succ_cons]
    show menc p ++ mcells (r.take k) = List.take ((k + 1) * 3) (menc p ++ mcells r)
    rw [mcells_take r k, show (k + 1) * 3 = k * 3 + 1 + 1 + 1 by omega]
    rfl
theorem mcells_at (l : List Mt) (k : Nat) (h : k < l.length) : (mcells l)[k * 3]? = some (.string l[k].1) ∧ (mcells l)[k * 3 + 1]? = some (.string l[k].2.1) ∧ (mcells l)[k * 3 + 2]? = some (.bool l[k].2.2) := by
  have e : mcells (l.drop k) = (mcells l).drop (k * 3) := mcells_drop l k
  rw [List.drop_eq_getElem_cons h] at e
  have e0 : ((mcells l).drop (k * 3))[0]? = some (.string l[k].1) := by rw [← e]; rfl
  have e1 : ((mcells l).drop (k * 3))[1]? = some (.string l[k].2.1) := by rw [← e]; rfl
  have e2 : ((mcells l).drop (k * 3))[2]? = some (.bool l[k].2.2) := by rw [← e]; rfl
  rw [List.getElem?_drop] at e0 e1 e2
  exact ⟨e0, e1, e2⟩
/-- A slice (its address A) holds the matches l, in blocks below B. -/
structure Rq (w : World) (B : Nat) (A : Option Addr) (l : List Mt) : Prop where
  len : l.length ≤ 9223372036854775807
  size : ∀ t ∈ l, t.1.size ≤ 9223372036854775807 ∧ t.2.1.size ≤ 9223372036854775807
  mem : l ≠ [] → ∃ b off, A = some ⟨b, off, none⟩ ∧ b < B ∧ ∀ j u, (mcells l)[j]? = some u → w.cell? ⟨b, off + j, none⟩ = some u
section
variable {w w' : World} {B : Nat} {A : Option Addr} {l : List Mt}
theorem Rq.none_ (w : World) (B : Nat) (A : Option Addr) : Rq w B A [] := ⟨by simp, by simp, fun h => absurd rfl h⟩
theorem Rq.on (h : Rq w w.heap.size A l) (hb : Below w.heap.size w w') : Rq w' w'.heap.size A l :=
  ⟨h.len, h.size, fun hn => by
    obtain ⟨b, off, e, hlt, hc⟩ := h.mem hn
    exact ⟨b, off, e, by have := hb.size; omega, fun j u hu => (hb.cell hlt).trans (hc j u hu)⟩⟩
theorem Rq.at_ (h : Rq w B A l) {k : Nat} (hk : k < l.length) :
    ∃ b off, A = some ⟨b, off, none⟩ ∧ b < B ∧ w.cell? ⟨b, off + k * 3, none⟩ = some (.string l[k].1) ∧ w.cell? ⟨b, off + k * 3 + 1, none⟩ = some (.string l[k].2.1) ∧ w.cell? ⟨b, off + k * 3 + 2, none⟩ = some (.bool l[k].2.2) := by
  have hn : l ≠ [] := fun e => by subst e; simp at hk
  obtain ⟨b, off, e, hb, hc⟩ := h.mem hn
  obtain ⟨c0, c1, c2⟩ := mcells_at l k hk
  exact ⟨b, off, e, hb, hc _ _ c0, hc _ _ c1, hc _ _ c2⟩
theorem Rq.take (h : Rq w B A l) (k : Nat) : Rq w B A (l.take k) :=
  ⟨by have := h.len; rw [List.length_take]; omega, fun x hx => h.size x (List.mem_of_mem_take hx), fun hn => by
    have hl : l ≠ [] := fun e => hn (by rw [e]; simp)
    obtain ⟨b, off, e, hb, hc⟩ := h.mem hl
    refine ⟨b, off, e, hb, fun j u hu => hc j u ?_⟩
    rw [mcells_take, List.getElem?_take] at hu
    split at hu
    · exact hu
    · simp at hu⟩
end
/-- A row of the call's own that holds the matches l. -/
def OwnQ (w : World) (base : Nat) (v : Value) (l : List Mt) : Prop := w.ownsRow base 45 3 v l.length (mcells l)
section
variable {w w' : World} {base : Nat} {v : Value} {l : List Mt}
theorem OwnQ.rq {c n : Nat} {A : Option Addr} (h : OwnQ w base (.slice A n c) l) (hl : l.length ≤ 9223372036854775807) (hs : ∀ t ∈ l, t.1.size ≤ 9223372036854775807 ∧ t.2.1.size ≤ 9223372036854775807) : Rq w w.heap.size A l :=
  ⟨hl, hs, fun hn => by
    have h0 : 0 < l.length := List.length_pos_iff.2 hn
    rcases h.2 with ⟨_, e⟩ | ⟨g, cap, cur, hv, _, hg, _⟩
    · omega
    · cases hv
      exact ⟨g, 0, rfl, (Array.getElem?_eq_some_iff.1 hg).1, fun j u hu => by have := World.ownsRow.cells h (g := g) rfl j u hu; simpa [Addr.add_lit] using this⟩⟩
theorem OwnQ.slice (h : OwnQ w base v l) : ∃ A c, v = .slice A l.length c ∧ Cap l.length c := by
  rcases h.2 with ⟨rfl, h0⟩ | ⟨g, cap, cur, rfl, _, _, hn, hm, _⟩
  · exact ⟨none, 0, by rw [h0], by omega, by omega⟩
  · exact ⟨_, cap, rfl, hn, by unfold maxLen at hm; omega⟩
theorem OwnQ.blk (h : OwnQ w base v l) : ∀ k, v.ownBlock = some k → base ≤ k := by
  intro k hk
  rcases h.2 with ⟨rfl, _⟩ | ⟨g, cap, cur, rfl, hb, _⟩
  · simp [Value.ownBlock] at hk
  · simp [Value.ownBlock] at hk
    omega
theorem OwnQ.below (h : OwnQ w base v l) (hb : Below w.heap.size w w') : OwnQ w' base v l := by
  refine ⟨h.1, ?_⟩
  rcases h.2 with h0 | ⟨g, cap, cur, hv, hbs, hg, hr⟩
  · exact .inl h0
  · exact .inr ⟨g, cap, cur, hv, hbs, (hb.block g (Array.getElem?_eq_some_iff.1 hg).1).trans hg, hr⟩
end
theorem OwnQ.nil (w : World) (base : Nat) : OwnQ w base (.slice none 0 0) [] := ⟨rfl, .inl ⟨rfl, rfl⟩⟩
theorem ownQ_made (w : World) : OwnQ (w.alloc (.cells #[] 45)) w.heap.size (.slice (some ⟨w.heap.size, 0, none⟩) 0 0) [] := World.ownsRow_made w #[] 0 (Nat.le_refl _) (Nat.zero_le _) (by simp)
theorem info_mat : (Tryd.prog.info? 45).map (fun i => (i.zero, i.size, i.bytes)) = some (some (.agg #[.string ⟨#[]⟩, .string ⟨#[]⟩, .bool false]), 3, 40) := by kernel_rfl
theorem rq_new (w : World) (a b : ByteArray) (c : Bool) (ha : a.size ≤ 9223372036854775807) (hb : b.size ≤ 9223372036854775807) :
    Rq (w.alloc (.cells #[.string a, .string b, .bool c] 45)) (w.alloc (.cells #[.string a, .string b, .bool c] 45)).heap.size (some ⟨w.heap.size, 0, none⟩) [(a, b, c)] := by
  refine ⟨by simp, ?_, fun _ => ⟨w.heap.size, 0, rfl, by simp, ?_⟩⟩
  · intro p hp
    simp only [List.mem_cons, List.not_mem_nil, or_false] at hp
    subst hp
    exact ⟨ha, hb⟩
  · intro j u hu
    match j, hu with
    | 0, hu => cases hu; go_simp
    | 1, hu => cases hu; go_simp
    | 2, hu => cases hu; go_simp
/-- One match more, at a step of a region that draws its order. -/
theorem step_mat {w : World} {ops : Array Oper} {o : Oper} {a : Act} {K : Act → World → Prop} {Q : Exit → Act → World → Prop} {E : Prop} (hgd : o.guard = none) (s x : Operand)
    (ho : o.op = .call { callee := .builtin .append, args := #[s, x], argTypes := #[22, 22] })
    (base : Nat) (v : Value) (l : List Mt) (u : Mt) (hs : a.eval s = v) (hown : OwnQ w base v l) (ad : Addr) (hx : a.eval x = .slice (some ad) 1 1) (hr : Rq w w.heap.size (some ad) [u])
    (hlen : l.length ≤ 1000000) (hbase : base ≤ w.heap.size)
    (h : ∀ v' w', OwnQ w' base v' (l ++ [u]) → Below base w w' → K (a.put o.dst v') w') :
    if Region.wanted o (yielded ops a.tmps) = true then Oper.wp Tryd.prog o a w K Q else E := by
  obtain ⟨i0, hi, hz0, hz1, hz2⟩ := info_parts info_mat
  refine step_append_lies w hgd s x 22 ho base 45 i0 _ 3 40 Tryd.underlying22 hi hz0 hz1 hz2 rfl (by decide) v l.length (mcells l) hs hown ad 1 1 (mcells [u]) hx (by rw [mcells_len]; rfl) ?_ (mcells_one' _) (by omega) (by unfold maxLen; omega) (by omega) hbase _ rfl ?_
  · intro j y hj
    obtain ⟨b, off, e, _, hc⟩ := hr.mem (by simp)
    cases e
    have := hc j y hj
    rwa [Addr.add_lit]
  · intro g cap w' ho' hg _ _
    refine h _ w' ?_ ((Below.refl base w).grown hg hbase (OwnQ.blk hown))
    unfold OwnQ
    rw [mcells_app, List.length_append]
    exact ho'
theorem run_appq_none {w : World} {base : Nat} {v : Value} {n : Nat} {xs : List Value} (hown : w.ownsRow base 45 3 v n xs) (ty : TypeId) (A : Option Addr) (c : Nat) :
    (Builtin.append_ #[22, 22] ty #[v, .slice A 0 c]).run Tryd.prog w = .ok v w := by
  obtain ⟨i0, hi, _, _, _⟩ := info_parts info_mat
  rcases hown.2 with ⟨rfl, rfl⟩ | ⟨g, cap, cur, rfl, _, _, hnc, _⟩
  · cases A <;> simp [Builtin.append_, run_underlying Tryd.underlying22, sizeOf, typeInfo, hi, Builtin.lenOf, Builtin.firstCells, loadCells, loadCellsFrom]
  · cases A <;> simp [Builtin.append_, run_underlying Tryd.underlying22, sizeOf, typeInfo, hi, Builtin.lenOf, Builtin.firstCells, hnc, storeCells, loadCells, loadCellsFrom]
/-- 'append(row of the call's own, matches...)'. -/
theorem wp_appq (w : World) {ops : Array Oper} {rest : List Oper} {o : Oper} {a : Act} {Q : Exit → Act → World → Prop} (hgd : o.guard = none) (s x : Operand)
    (ho : o.op = .call { callee := .builtin .append, args := #[s, x], argTypes := #[22, 22] })
    (base : Nat) (v : Value) (l m : List Mt) (hs : a.eval s = v) (hown : OwnQ w base v l) (A : Option Addr) (n c : Nat) (hn : n = m.length) (hx : a.eval x = .slice A n c) (hr : Rq w w.heap.size A m)
    (hlen : l.length + m.length ≤ 1000000) (hbase : base ≤ w.heap.size)
    (h : ∀ v' w', OwnQ w' base v' (l ++ m) → Below base w w' → wpList Tryd.prog ops Q rest (a.put o.dst v') w') : wpList Tryd.prog ops Q (o :: rest) a w := by
  subst hn
  obtain ⟨i0, hi, hz0, hz1, hz2⟩ := info_parts info_mat
  by_cases hm : m = []
  · subst hm
    refine wpList_plain hgd fun K hK => ?_
    have hrun := run_appq_none hown o.type A c
    unfold Oper.wp
    simp only [List.length_nil] at hx
    simp [execOp, ho, resolve, invoke, builtin, hs, hx, hrun, Result.andThen]
    exact hK _ _ (h v w (by simpa using hown) (Below.refl _ _))
  · obtain ⟨b, off, rfl, _, hc⟩ := hr.mem hm
    refine wpList_append_own _ hgd s x 22 ho base 45 i0 _ 3 40 Tryd.underlying22 hi hz0 hz1 hz2 rfl (by decide) v l.length (mcells l) hs hown ⟨b, off, none⟩ m.length c (mcells m) hx (mcells_len m) ?_ (mcells_one' m) (by unfold maxLen; omega) (by omega) hbase ?_
    · intro j u hj
      have := hc j u hj
      rwa [Addr.add_lit]
    · intro v' w' ho' hg _
      refine h v' w' ?_ ((Below.refl base w).grown hg hbase (OwnQ.blk hown))
      unfold OwnQ
      rw [mcells_app, List.length_append]
      exact ho'
theorem Rq.more {w : World} {B B' : Nat} {A : Option Addr} {l : List Mt} (h : Rq w B A l) (hB : B ≤ B') : Rq w B' A l :=
  ⟨h.len, h.size, fun hn => by
    obtain ⟨b, off, e, hb, hc⟩ := h.mem hn
    exact ⟨b, off, e, by omega, hc⟩⟩
theorem Rq.below {w w' : World} {B : Nat} {A : Option Addr} {l : List Mt} (h : Rq w B A l) (hb : Below B w w') : Rq w' B A l :=
  ⟨h.len, h.size, fun hn => by
    obtain ⟨b, off, e, hlt, hc⟩ := h.mem hn
    exact ⟨b, off, e, hlt, fun j u hu => (hb.cell hlt).trans (hc j u hu)⟩⟩
theorem OwnQ.alloc {w : World} {base : Nat} {v : Value} {l : List Mt} (h : OwnQ w base v l) (o : Obj) : OwnQ (w.alloc o) base v l := World.ownsRow.alloc h o

/-! ### matches compared -/
theorem neq_mat (a b : ByteArray) (c : Bool) (d e : ByteArray) (f : Bool) (w : World) : (binOp .neq 45 (.agg #[.string a, .string b, .bool c]) (.agg #[.string d, .string e, .bool f])).run Tryd.prog w = .ok (.bool (!decide (a = d ∧ b = e ∧ c = f))) w := by
  have u9 := Tryd.underlying9
  have a9 := Tryd.isAgg9
  have z9 := Tryd.sizeOf9
  have u3 := Tryd.underlying4
  have a3 := Tryd.isAgg4
  have z3 := Tryd.sizeOf4
  have hS : Tryd.prog.underlying 45 = some (.struct (Tryd.prog.fieldsOf 45)) := by kernel_rfl
  have hp : Tryd.prog.stoodInHeld 45 = false := by kernel_rfl
  rw [run_neq_struct, show (10000 : Nat) = 9999 + 1 from rfl, run_equalIn_agg w 9999 45 _ _ hS hp]
  simp only [Program.fieldsOf, Tryd.underlying45]
  go_simp
  simp only [Lp.tl_iff]
  by_cases h1 : a = d
  · by_cases h2 : b = e
    · by_cases h3 : c = f
      · simp [h1, h2, h3]
      · simp [h1, h2, h3]
    · simp [h1, h2]
  · simp [h1]
theorem guard_mat : Tryd.prog.eqGuardType Tryd.prog.depth 45 = false := by kernel_rfl
end Go.Proofs.YtgahahichplpkaaDoor

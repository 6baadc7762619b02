/-
  Small facts on worlds.
  How a slice of tokens reads in memory; a row of tokens of the call's own that is appended to.
  How a slice of matches reads in memory; a row of matches of the call's own that is appended to.
  What the walks of layer lex's laws, and of the layers above, lean on: the contracts of All and Quote, as words (proved of what landed in another text).
  How a slice of tokens that came in reads in memory (any numbers); a row of such tokens of the call's own.
  The walks of the document's Few, Short and Same of layer sel.
  lex.All's contract over tokens of any numbers; how long a selector's text is.
  How a slice of pairs reads in memory, that it outlives what a call does, and small facts on worlds.
  No token's text is longer than what it was read of.
  The contracts of three of layer sel's calls, as words.
-/
import Derived.Test.YtkoeggjfdcpokaaGreatDoorProg
import Derived.WalkKit
import Derived.WalkSpells
import Derived.WalkLawsBesides
import Derived.BigCall
import Derived.Lib.Strings
import Derived.Lib.Hide
import Derived.Sort.Grow
import Derived.OwnWalk
import Derived.Deep.LoopGhost
import Derived.Deep.QuietTactic
import Derived.BigQuiet
import Derived.Outline
import Derived.IntWalk
import Derived.Deep.RegionHeld
import Derived.Deep.RegionHeldLaw
import Derived.Deep.AppendLies
import Derived.Test.YtkoeggjfdcpokaaGreatDoorPlnA
import Derived.Laws.StructEq
namespace Go.Proofs.YtkoeggjfdcpokaaGreatDoor
open Go.RowKit

/-! ### worlds -/
theorem cell_lt {w : World} {a : Addr} {v : Value} (h : w.cell? a = some v) : a.block < w.heap.size := by
  rcases Nat.lt_or_ge a.block w.heap.size with h' | h'
  · exact h'
  · unfold World.cell? at h
    rw [Array.getElem?_eq_none h'] at h; simp at h
theorem below_drewN (w : World) (k : Nat) : Below w.heap.size w (w.drewN k) := ⟨rfl, rfl, rfl, Nat.le_refl _, fun _ _ => rfl⟩
theorem below_on {w a b : World} (h : Below w.heap.size w a) (k : Below a.heap.size a b) : Below w.heap.size w b := h.trans (k.mono h.size)
theorem below_grow (w : World) (k : Nat) (os : Array Obj) : Below w.heap.size w (Sort.grow (w.drewN k) os) :=
  ⟨rfl, rfl, rfl, by simp, fun i hi => by rw [Sort.heap_grow_old _ _ (by simpa using hi)]; rfl⟩
theorem below_alloc (w : World) (o : Obj) : Below w.heap.size w (w.alloc o) := (Below.refl _ _).alloc (Nat.le_refl _) o
theorem str_eq (x : ByteArray) (l : List UInt8) (h : x.data.toList = l) : x = ⟨l.toArray⟩ := by
  subst h; cases x; simp
theorem str_size (l : List UInt8) : (⟨l.toArray⟩ : ByteArray).size = l.length := by rw [Lib.size_eq]

end Go.Proofs.YtkoeggjfdcpokaaGreatDoor
namespace Go.Proofs.YtkoeggjfdcpokaaGreatDoor
open Go.RowKit

abbrev Cap (k c : Nat) : Prop := k ≤ c ∧ c ≤ 9223372036854775807
/-- A token: its kind, its place, its text. -/
abbrev Tk := Nat × Nat × ByteArray
def tenc (t : Tk) : List Value := [.int .i64 (t.1 : Int), .int .i64 (t.2.1 : Int), .string t.2.2]
def tcells (l : List Tk) : List Value := l.flatMap tenc
theorem tcells_len : ∀ l : List Tk, (tcells l).length = l.length * 3
  | [] => rfl
  | p :: r => by
    show (tenc p ++ tcells r).length = _
    rw [List.length_append, tcells_len r, List.length_cons]
    show 3 + _ = _
    omega
theorem tcells_app (a b : List Tk) : tcells (a ++ b) = tcells a ++ tcells b := List.flatMap_append
theorem tcells_one' : ∀ (l : List Tk), ∀ u ∈ tcells l, u.oneCell' = true := by
  intro l u hu
  obtain ⟨p, _, hp⟩ := List.mem_flatMap.1 hu
  simp only [tenc, List.mem_cons, List.not_mem_nil, or_false] at hp
  rcases hp with rfl | rfl | rfl <;> rfl
theorem tcells_drop : ∀ (l : List Tk) (k : Nat), tcells (l.drop k) = (tcells l).drop (k * 3)
  | [], k => by simp [tcells]
  | p :: r, 0 => by simp [tcells]
  | p :: r, k + 1 => by
    rw [List.drop_succ_cons]
    show tcells (r.drop k) = List.drop ((k + 1) * 3) (tenc p ++ tcells r)
    rw [tcells_drop r k, show (k + 1) * 3 = k * 3 + 1 + 1 + 1 by omega]
    rfl
theorem tcells_take : ∀ (l : List Tk) (k : Nat), tcells (l.take k) = (tcells l).take (k * 3)
  | [], k => by simp [tcells]
  | p :: r, 0 => by simp [tcells]
  | p :: r, k + 1 => by
    rw [List.take_succ_cons]
    show tenc p ++ tcells (r.take k) = List.take ((k + 1) * 3) (tenc p ++ tcells r)
    rw [tcells_take r k, show (k + 1) * 3 = k * 3 + 1 + 1 + 1 by omega]
    rfl
theorem tcells_at (l : List Tk) (k : Nat) (h : k < l.length) : (tcells l)[k * 3]? = some (.int .i64 (l[k].1 : Int)) ∧ (tcells l)[k * 3 + 1]? = some (.int .i64 (l[k].2.1 : Int)) ∧ (tcells l)[k * 3 + 2]? = some (.string l[k].2.2) := by
  have e : tcells (l.drop k) = (tcells l).drop (k * 3) := tcells_drop l k
  rw [List.drop_eq_getElem_cons h] at e
  have e0 : ((tcells l).drop (k * 3))[0]? = some (.int .i64 (l[k].1 : Int)) := by rw [← e]; rfl
  have e1 : ((tcells l).drop (k * 3))[1]? = some (.int .i64 (l[k].2.1 : Int)) := by rw [← e]; rfl
  have e2 : ((tcells l).drop (k * 3))[2]? = some (.string l[k].2.2) := by rw [← e]; rfl
  rw [List.getElem?_drop] at e0 e1 e2
  exact ⟨e0, e1, e2⟩
/-- A slice (its address A) holds the tokens l, in blocks below B. -/
structure Rt (w : World) (B : Nat) (A : Option Addr) (l : List Tk) : Prop where
  len : l.length ≤ 9223372036854775807
  size : ∀ t ∈ l, t.2.2.size ≤ 9223372036854775807
  mem : l ≠ [] → ∃ b off, A = some ⟨b, off, none⟩ ∧ b < B ∧ ∀ j u, (tcells l)[j]? = some u → w.cell? ⟨b, off + j, none⟩ = some u
section
variable {w w' : World} {B : Nat} {A : Option Addr} {l : List Tk}
theorem Rt.none_ (w : World) (B : Nat) (A : Option Addr) : Rt w B A [] := ⟨by simp, by simp, fun h => absurd rfl h⟩
theorem Rt.on (h : Rt w w.heap.size A l) (hb : Below w.heap.size w w') : Rt w' w'.heap.size A l :=
  ⟨h.len, h.size, fun hn => by
    obtain ⟨b, off, e, hlt, hc⟩ := h.mem hn
    exact ⟨b, off, e, by have := hb.size; omega, fun j u hu => (hb.cell hlt).trans (hc j u hu)⟩⟩
theorem Rt.at_ (h : Rt w B A l) {k : Nat} (hk : k < l.length) :
    ∃ b off, A = some ⟨b, off, none⟩ ∧ b < B ∧ w.cell? ⟨b, off + k * 3, none⟩ = some (.int .i64 (l[k].1 : Int)) ∧ w.cell? ⟨b, off + k * 3 + 1, none⟩ = some (.int .i64 (l[k].2.1 : Int)) ∧ w.cell? ⟨b, off + k * 3 + 2, none⟩ = some (.string l[k].2.2) := by
  have hn : l ≠ [] := fun e => by subst e; simp at hk
  obtain ⟨b, off, e, hb, hc⟩ := h.mem hn
  obtain ⟨c0, c1, c2⟩ := tcells_at l k hk
  exact ⟨b, off, e, hb, hc _ _ c0, hc _ _ c1, hc _ _ c2⟩
theorem Rt.take (h : Rt w B A l) (k : Nat) : Rt w B A (l.take k) :=
  ⟨by have := h.len; rw [List.length_take]; omega, fun x hx => h.size x (List.mem_of_mem_take hx), fun hn => by
    have hl : l ≠ [] := fun e => hn (by rw [e]; simp)
    obtain ⟨b, off, e, hb, hc⟩ := h.mem hl
    refine ⟨b, off, e, hb, fun j u hu => hc j u ?_⟩
    rw [tcells_take, List.getElem?_take] at hu
    split at hu
    · exact hu
    · simp at hu⟩
end
/-- A row of the call's own that holds the tokens l. -/
def OwnT (w : World) (base : Nat) (v : Value) (l : List Tk) : Prop := w.ownsRow base 47 3 v l.length (tcells l)
section
variable {w w' : World} {base : Nat} {v : Value} {l : List Tk}
theorem OwnT.rt {c n : Nat} {A : Option Addr} (h : OwnT w base (.slice A n c) l) (hl : l.length ≤ 9223372036854775807) (hs : ∀ t ∈ l, t.2.2.size ≤ 9223372036854775807) : Rt w w.heap.size A l :=
  ⟨hl, hs, fun hn => by
    have h0 : 0 < l.length := List.length_pos_iff.2 hn
    rcases h.2 with ⟨_, e⟩ | ⟨g, cap, cur, hv, _, hg, _⟩
    · omega
    · cases hv
      exact ⟨g, 0, rfl, (Array.getElem?_eq_some_iff.1 hg).1, fun j u hu => by have := World.ownsRow.cells h (g := g) rfl j u hu; simpa [Addr.add_lit] using this⟩⟩
theorem OwnT.slice (h : OwnT w base v l) : ∃ A c, v = .slice A l.length c ∧ Cap l.length c := by
  rcases h.2 with ⟨rfl, h0⟩ | ⟨g, cap, cur, rfl, _, _, hn, hm, _⟩
  · exact ⟨none, 0, by rw [h0], by omega, by omega⟩
  · exact ⟨_, cap, rfl, hn, by unfold maxLen at hm; omega⟩
theorem OwnT.blk (h : OwnT w base v l) : ∀ k, v.ownBlock = some k → base ≤ k := by
  intro k hk
  rcases h.2 with ⟨rfl, _⟩ | ⟨g, cap, cur, rfl, hb, _⟩
  · simp [Value.ownBlock] at hk
  · simp [Value.ownBlock] at hk
    omega
theorem OwnT.below (h : OwnT w base v l) (hb : Below w.heap.size w w') : OwnT w' base v l := by
  refine ⟨h.1, ?_⟩
  rcases h.2 with h0 | ⟨g, cap, cur, hv, hbs, hg, hr⟩
  · exact .inl h0
  · exact .inr ⟨g, cap, cur, hv, hbs, (hb.block g (Array.getElem?_eq_some_iff.1 hg).1).trans hg, hr⟩
end
theorem OwnT.nil (w : World) (base : Nat) : OwnT w base (.slice none 0 0) [] := ⟨rfl, .inl ⟨rfl, rfl⟩⟩
theorem ownT_made (w : World) : OwnT (w.alloc (.cells #[] 47)) w.heap.size (.slice (some ⟨w.heap.size, 0, none⟩) 0 0) [] := World.ownsRow_made w #[] 0 (Nat.le_refl _) (Nat.zero_le _) (by simp)
theorem info_tok : (Tryz.prog.info? 47).map (fun i => (i.zero, i.size, i.bytes)) = some (some (.agg #[.int .i64 0, .int .i64 0, .string ⟨#[]⟩]), 3, 32) := by kernel_rfl
theorem rt_new (w : World) (k a : Nat) (s : ByteArray) (hs : s.size ≤ 9223372036854775807) :
    Rt (w.alloc (.cells #[.int .i64 (k : Int), .int .i64 (a : Int), .string s] 47)) (w.alloc (.cells #[.int .i64 (k : Int), .int .i64 (a : Int), .string s] 47)).heap.size (some ⟨w.heap.size, 0, none⟩) [(k, a, s)] := by
  refine ⟨by simp, ?_, fun _ => ⟨w.heap.size, 0, rfl, by simp, ?_⟩⟩
  · intro p hp
    simp only [List.mem_cons, List.not_mem_nil, or_false] at hp
    subst hp
    exact hs
  · intro j u hu
    match j, hu with
    | 0, hu => cases hu; go_simp
    | 1, hu => cases hu; go_simp
    | 2, hu => cases hu; go_simp
/-- One token more, at a step of a region that draws its order. -/
theorem step_tok {w : World} {ops : Array Oper} {o : Oper} {a : Act} {K : Act → World → Prop} {Q : Exit → Act → World → Prop} {E : Prop} (hgd : o.guard = none) (s x : Operand)
    (ho : o.op = .call { callee := .builtin .append, args := #[s, x], argTypes := #[27, 27] })
    (base : Nat) (v : Value) (l : List Tk) (u : Tk) (hs : a.eval s = v) (hown : OwnT w base v l) (ad : Addr) (hx : a.eval x = .slice (some ad) 1 1) (hr : Rt w w.heap.size (some ad) [u])
    (hlen : l.length ≤ 1000000) (hbase : base ≤ w.heap.size)
    (h : ∀ v' w', OwnT w' base v' (l ++ [u]) → Below base w w' → K (a.put o.dst v') w') :
    if Region.wanted o (yielded ops a.tmps) = true then Oper.wp Tryz.prog o a w K Q else E := by
  obtain ⟨i0, hi, hz0, hz1, hz2⟩ := info_parts info_tok
  refine step_append_lies w hgd s x 27 ho base 47 i0 _ 3 32 Tryz.underlying27 hi hz0 hz1 hz2 rfl (by decide) v l.length (tcells l) hs hown ad 1 1 (tcells [u]) hx (by rw [tcells_len]; rfl) ?_ (tcells_one' _) (by omega) (by unfold maxLen; omega) (by omega) hbase _ rfl ?_
  · intro j y hj
    obtain ⟨b, off, e, _, hc⟩ := hr.mem (by simp)
    cases e
    have := hc j y hj
    rwa [Addr.add_lit]
  · intro g cap w' ho' hg _ _
    refine h _ w' ?_ ((Below.refl base w).grown hg hbase (OwnT.blk hown))
    unfold OwnT
    rw [tcells_app, List.length_append]
    exact ho'
theorem run_appt_none {w : World} {base : Nat} {v : Value} {n : Nat} {xs : List Value} (hown : w.ownsRow base 47 3 v n xs) (ty : TypeId) (A : Option Addr) (c : Nat) :
    (Builtin.append_ #[27, 27] ty #[v, .slice A 0 c]).run Tryz.prog w = .ok v w := by
  obtain ⟨i0, hi, _, _, _⟩ := info_parts info_tok
  rcases hown.2 with ⟨rfl, rfl⟩ | ⟨g, cap, cur, rfl, _, _, hnc, _⟩
  · cases A <;> simp [Builtin.append_, run_underlying Tryz.underlying27, sizeOf, typeInfo, hi, Builtin.lenOf, Builtin.firstCells, loadCells, loadCellsFrom]
  · cases A <;> simp [Builtin.append_, run_underlying Tryz.underlying27, sizeOf, typeInfo, hi, Builtin.lenOf, Builtin.firstCells, hnc, storeCells, loadCells, loadCellsFrom]
/-- 'append(row of the call's own, tokens...)'. -/
theorem wp_appt (w : World) {ops : Array Oper} {rest : List Oper} {o : Oper} {a : Act} {Q : Exit → Act → World → Prop} (hgd : o.guard = none) (s x : Operand)
    (ho : o.op = .call { callee := .builtin .append, args := #[s, x], argTypes := #[27, 27] })
    (base : Nat) (v : Value) (l m : List Tk) (hs : a.eval s = v) (hown : OwnT w base v l) (A : Option Addr) (n c : Nat) (hn : n = m.length) (hx : a.eval x = .slice A n c) (hr : Rt w w.heap.size A m)
    (hlen : l.length + m.length ≤ 1000000) (hbase : base ≤ w.heap.size)
    (h : ∀ v' w', OwnT w' base v' (l ++ m) → Below base w w' → wpList Tryz.prog ops Q rest (a.put o.dst v') w') : wpList Tryz.prog ops Q (o :: rest) a w := by
  subst hn
  obtain ⟨i0, hi, hz0, hz1, hz2⟩ := info_parts info_tok
  by_cases hm : m = []
  · subst hm
    refine wpList_plain hgd fun K hK => ?_
    have hrun := run_appt_none hown o.type A c
    unfold Oper.wp
    simp only [List.length_nil] at hx
    simp [execOp, ho, resolve, invoke, builtin, hs, hx, hrun, Result.andThen]
    exact hK _ _ (h v w (by simpa using hown) (Below.refl _ _))
  · obtain ⟨b, off, rfl, _, hc⟩ := hr.mem hm
    refine wpList_append_own _ hgd s x 27 ho base 47 i0 _ 3 32 Tryz.underlying27 hi hz0 hz1 hz2 rfl (by decide) v l.length (tcells l) hs hown ⟨b, off, none⟩ m.length c (tcells m) hx (tcells_len m) ?_ (tcells_one' m) (by unfold maxLen; omega) (by omega) hbase ?_
    · intro j u hj
      have := hc j u hj
      rwa [Addr.add_lit]
    · intro v' w' ho' hg _
      refine h v' w' ?_ ((Below.refl base w).grown hg hbase (OwnT.blk hown))
      unfold OwnT
      rw [tcells_app, List.length_append]
      exact ho'
end Go.Proofs.YtkoeggjfdcpokaaGreatDoor
namespace Go.Proofs.YtkoeggjfdcpokaaGreatDoor
open Go.RowKit

open Go.Proofs.YtkoeggjfdcpokaaGreatDoor.Sl (Mt)

def menc (t : Mt) : List Value := [.string t.1, .string t.2.1, .bool t.2.2]
def mcells (l : List Mt) : List Value := l.flatMap menc
theorem mcells_len : ∀ l : List Mt, (mcells l).length = l.length * 3
  | [] => rfl
  | p :: r => by
    show (menc p ++ mcells r).length = _
    rw [List.length_append, mcells_len r, List.length_cons]
    show 3 + _ = _
    omega
theorem mcells_app (a b : List Mt) : mcells (a ++ b) = mcells a ++ mcells b := List.flatMap_append
theorem mcells_one' : ∀ (l : List Mt), ∀ u ∈ mcells l, u.oneCell' = true := by
  intro l u hu
  obtain ⟨p, _, hp⟩ := List.mem_flatMap.1 hu
  simp only [menc, List.mem_cons, List.not_mem_nil, or_false] at hp
  rcases hp with rfl | rfl | rfl <;> rfl
theorem mcells_drop : ∀ (l : List Mt) (k : Nat), mcells (l.drop k) = (mcells l).drop (k * 3)
  | [], k => by simp [mcells]
  | p :: r, 0 => by simp [mcells]
  | p :: r, k + 1 => by
    rw [List.drop_succ_cons]
    show mcells (r.drop k) = List.drop ((k + 1) * 3) (menc p ++ mcells r)
    rw [mcells_drop r k, show (k + 1) * 3 = k * 3 + 1 + 1 + 1 by omega]
    rfl
theorem mcells_take : ∀ (l : List Mt) (k : Nat), mcells (l.take k) = (mcells l).take (k * 3)
  | [], k => by simp [mcells]
  | p :: r, 0 => by simp [mcells]
  | p :: r, k + 1 => by
    rw [List.take_succ_cons]
    show menc p ++ mcells (r.take k) = List.take ((k + 1) * 3) (menc p ++ mcells r)
    rw [mcells_take r k, show (k + 1) * 3 = k * 3 + 1 + 1 + 1 by omega]
    rfl
theorem mcells_at (l : List Mt) (k : Nat) (h : k < l.length) : (mcells l)[k * 3]? = some (.string l[k].1) ∧ (mcells l)[k * 3 + 1]? = some (.string l[k].2.1) ∧ (mcells l)[k * 3 + 2]? = some (.bool l[k].2.2) := by
  have e : mcells (l.drop k) = (mcells l).drop (k * 3) := mcells_drop l k
  rw [List.drop_eq_getElem_cons h] at e
  have e0 : ((mcells l).drop (k * 3))[0]? = some (.string l[k].1) := by rw [← e]; rfl
  have e1 : ((mcells l).drop (k * 3))[1]? = some (.string l[k].2.1) := by rw [← e]; rfl
  have e2 : ((mcells l).drop (k * 3))[2]? = some (.bool l[k].2.2) := by rw [← e]; rfl
  rw [List.getElem?_drop] at e0 e1 e2
  exact ⟨e0, e1, e2⟩
/-- A slice (its address A) holds the matches l, in blocks below B. -/
structure Rq (w : World) (B : Nat) (A : Option Addr) (l : List Mt) : Prop where
  len : l.length ≤ 9223372036854775807
  size : ∀ t ∈ l, t.1.size ≤ 9223372036854775807 ∧ t.2.1.size ≤ 9223372036854775807
  mem : l ≠ [] → ∃ b off, A = some ⟨b, off, none⟩ ∧ b < B ∧ ∀ j u, (mcells l)[j]? = some u → w.cell? ⟨b, off + j, none⟩ = some u
section
variable {w w' : World} {B : Nat} {A : Option Addr} {l : List Mt}
theorem Rq.none_ (w : World) (B : Nat) (A : Option Addr) : Rq w B A [] := ⟨by simp, by simp, fun h => absurd rfl h⟩
theorem Rq.on (h : Rq w w.heap.size A l) (hb : Below w.heap.size w w') : Rq w' w'.heap.size A l :=
  ⟨h.len, h.size, fun hn => by
    obtain ⟨b, off, e, hlt, hc⟩ := h.mem hn
    exact ⟨b, off, e, by have := hb.size; omega, fun j u hu => (hb.cell hlt).trans (hc j u hu)⟩⟩
theorem Rq.at_ (h : Rq w B A l) {k : Nat} (hk : k < l.length) :
    ∃ b off, A = some ⟨b, off, none⟩ ∧ b < B ∧ w.cell? ⟨b, off + k * 3, none⟩ = some (.string l[k].1) ∧ w.cell? ⟨b, off + k * 3 + 1, none⟩ = some (.string l[k].2.1) ∧ w.cell? ⟨b, off + k * 3 + 2, none⟩ = some (.bool l[k].2.2) := by
  have hn : l ≠ [] := fun e => by subst e; simp at hk
  obtain ⟨b, off, e, hb, hc⟩ := h.mem hn
  obtain ⟨c0, c1, c2⟩ := mcells_at l k hk
  exact ⟨b, off, e, hb, hc _ _ c0, hc _ _ c1, hc _ _ c2⟩
theorem Rq.take (h : Rq w B A l) (k : Nat) : Rq w B A (l.take k) :=
  ⟨by have := h.len; rw [List.length_take]; omega, fun x hx => h.size x (List.mem_of_mem_take hx), fun hn => by
    have hl : l ≠ [] := fun e => hn (by rw [e]; simp)
    obtain ⟨b, off, e, hb, hc⟩ := h.mem hl
    refine ⟨b, off, e, hb, fun j u hu => hc j u ?_⟩
    rw [mcells_take, List.getElem?_take] at hu
    split at hu
    · exact hu
    · simp at hu⟩
end
/-- A row of the call's own that holds the matches l. -/
def OwnQ (w : World) (base : Nat) (v : Value) (l : List Mt) : Prop := w.ownsRow base 45 3 v l.length (mcells l)
section
variable {w w' : World} {base : Nat} {v : Value} {l : List Mt}
theorem OwnQ.rq {c n : Nat} {A : Option Addr} (h : OwnQ w base (.slice A n c) l) (hl : l.length ≤ 9223372036854775807) (hs : ∀ t ∈ l, t.1.size ≤ 9223372036854775807 ∧ t.2.1.size ≤ 9223372036854775807) : Rq w w.heap.size A l :=
  ⟨hl, hs, fun hn => by
    have h0 : 0 < l.length := List.length_pos_iff.2 hn
    rcases h.2 with ⟨_, e⟩ | ⟨g, cap, cur, hv, _, hg, _⟩
    · omega
    · cases hv
      exact ⟨g, 0, rfl, (Array.getElem?_eq_some_iff.1 hg).1, fun j u hu => by have := World.ownsRow.cells h (g := g) rfl j u hu; simpa [Addr.add_lit] using this⟩⟩
theorem OwnQ.slice (h : OwnQ w base v l) : ∃ A c, v = .slice A l.length c ∧ Cap l.length c := by
  rcases h.2 with ⟨rfl, h0⟩ | ⟨g, cap, cur, rfl, _, _, hn, hm, _⟩
  · exact ⟨none, 0, by rw [h0], by omega, by omega⟩
  · exact ⟨_, cap, rfl, hn, by unfold maxLen at hm; omega⟩
theorem OwnQ.blk (h : OwnQ w base v l) : ∀ k, v.ownBlock = some k → base ≤ k := by
  intro k hk
  rcases h.2 with ⟨rfl, _⟩ | ⟨g, cap, cur, rfl, hb, _⟩
  · simp [Value.ownBlock] at hk
  · simp [Value.ownBlock] at hk
    omega
theorem OwnQ.below (h : OwnQ w base v l) (hb : Below w.heap.size w w') : OwnQ w' base v l := by
  refine ⟨h.1, ?_⟩
  rcases h.2 with h0 | ⟨g, cap, cur, hv, hbs, hg, hr⟩
  · exact .inl h0
  · exact .inr ⟨g, cap, cur, hv, hbs, (hb.block g (Array.getElem?_eq_some_iff.1 hg).1).trans hg, hr⟩
end
theorem OwnQ.nil (w : World) (base : Nat) : OwnQ w base (.slice none 0 0) [] := ⟨rfl, .inl ⟨rfl, rfl⟩⟩
theorem ownQ_made (w : World) : OwnQ (w.alloc (.cells #[] 45)) w.heap.size (.slice (some ⟨w.heap.size, 0, none⟩) 0 0) [] := World.ownsRow_made w #[] 0 (Nat.le_refl _) (Nat.zero_le _) (by simp)
theorem info_mat : (Tryz.prog.info? 45).map (fun i => (i.zero, i.size, i.bytes)) = some (some (.agg #[.string ⟨#[]⟩, .string ⟨#[]⟩, .bool false]), 3, 40) := by kernel_rfl
theorem rq_new (w : World) (a b : ByteArray) (c : Bool) (ha : a.size ≤ 9223372036854775807) (hb : b.size ≤ 9223372036854775807) :
    Rq (w.alloc (.cells #[.string a, .string b, .bool c] 45)) (w.alloc (.cells #[.string a, .string b, .bool c] 45)).heap.size (some ⟨w.heap.size, 0, none⟩) [(a, b, c)] := by
  refine ⟨by simp, ?_, fun _ => ⟨w.heap.size, 0, rfl, by simp, ?_⟩⟩
  · intro p hp
    simp only [List.mem_cons, List.not_mem_nil, or_false] at hp
    subst hp
    exact ⟨ha, hb⟩
  · intro j u hu
    match j, hu with
    | 0, hu => cases hu; go_simp
    | 1, hu => cases hu; go_simp
    | 2, hu => cases hu; go_simp
/-- One match more, at a step of a region that draws its order. -/
theorem step_mat {w : World} {ops : Array Oper} {o : Oper} {a : Act} {K : Act → World → Prop} {Q : Exit → Act → World → Prop} {E : Prop} (hgd : o.guard = none) (s x : Operand)
    (ho : o.op = .call { callee := .builtin .append, args := #[s, x], argTypes := #[22, 22] })
    (base : Nat) (v : Value) (l : List Mt) (u : Mt) (hs : a.eval s = v) (hown : OwnQ w base v l) (ad : Addr) (hx : a.eval x = .slice (some ad) 1 1) (hr : Rq w w.heap.size (some ad) [u])
    (hlen : l.length ≤ 1000000) (hbase : base ≤ w.heap.size)
    (h : ∀ v' w', OwnQ w' base v' (l ++ [u]) → Below base w w' → K (a.put o.dst v') w') :
    if Region.wanted o (yielded ops a.tmps) = true then Oper.wp Tryz.prog o a w K Q else E := by
  obtain ⟨i0, hi, hz0, hz1, hz2⟩ := info_parts info_mat
  refine step_append_lies w hgd s x 22 ho base 45 i0 _ 3 40 Tryz.underlying22 hi hz0 hz1 hz2 rfl (by decide) v l.length (mcells l) hs hown ad 1 1 (mcells [u]) hx (by rw [mcells_len]; rfl) ?_ (mcells_one' _) (by omega) (by unfold maxLen; omega) (by omega) hbase _ rfl ?_
  · intro j y hj
    obtain ⟨b, off, e, _, hc⟩ := hr.mem (by simp)
    cases e
    have := hc j y hj
    rwa [Addr.add_lit]
  · intro g cap w' ho' hg _ _
    refine h _ w' ?_ ((Below.refl base w).grown hg hbase (OwnQ.blk hown))
    unfold OwnQ
    rw [mcells_app, List.length_append]
    exact ho'
theorem run_appq_none {w : World} {base : Nat} {v : Value} {n : Nat} {xs : List Value} (hown : w.ownsRow base 45 3 v n xs) (ty : TypeId) (A : Option Addr) (c : Nat) :
    (Builtin.append_ #[22, 22] ty #[v, .slice A 0 c]).run Tryz.prog w = .ok v w := by
  obtain ⟨i0, hi, _, _, _⟩ := info_parts info_mat
  rcases hown.2 with ⟨rfl, rfl⟩ | ⟨g, cap, cur, rfl, _, _, hnc, _⟩
  · cases A <;> simp [Builtin.append_, run_underlying Tryz.underlying22, sizeOf, typeInfo, hi, Builtin.lenOf, Builtin.firstCells, loadCells, loadCellsFrom]
  · cases A <;> simp [Builtin.append_, run_underlying Tryz.underlying22, sizeOf, typeInfo, hi, Builtin.lenOf, Builtin.firstCells, hnc, storeCells, loadCells, loadCellsFrom]
/-- 'append(row of the call's own, matches...)'. -/
theorem wp_appq (w : World) {ops : Array Oper} {rest : List Oper} {o : Oper} {a : Act} {Q : Exit → Act → World → Prop} (hgd : o.guard = none) (s x : Operand)
    (ho : o.op = .call { callee := .builtin .append, args := #[s, x], argTypes := #[22, 22] })
    (base : Nat) (v : Value) (l m : List Mt) (hs : a.eval s = v) (hown : OwnQ w base v l) (A : Option Addr) (n c : Nat) (hn : n = m.length) (hx : a.eval x = .slice A n c) (hr : Rq w w.heap.size A m)
    (hlen : l.length + m.length ≤ 1000000) (hbase : base ≤ w.heap.size)
    (h : ∀ v' w', OwnQ w' base v' (l ++ m) → Below base w w' → wpList Tryz.prog ops Q rest (a.put o.dst v') w') : wpList Tryz.prog ops Q (o :: rest) a w := by
  subst hn
  obtain ⟨i0, hi, hz0, hz1, hz2⟩ := info_parts info_mat
  by_cases hm : m = []
  · subst hm
    refine wpList_plain hgd fun K hK => ?_
    have hrun := run_appq_none hown o.type A c
    unfold Oper.wp
    simp only [List.length_nil] at hx
    simp [execOp, ho, resolve, invoke, builtin, hs, hx, hrun, Result.andThen]
    exact hK _ _ (h v w (by simpa using hown) (Below.refl _ _))
  · obtain ⟨b, off, rfl, _, hc⟩ := hr.mem hm
    refine wpList_append_own _ hgd s x 22 ho base 45 i0 _ 3 40 Tryz.underlying22 hi hz0 hz1 hz2 rfl (by decide) v l.length (mcells l) hs hown ⟨b, off, none⟩ m.length c (mcells m) hx (mcells_len m) ?_ (mcells_one' m) (by unfold maxLen; omega) (by omega) hbase ?_
    · intro j u hj
      have := hc j u hj
      rwa [Addr.add_lit]
    · intro v' w' ho' hg _
      refine h v' w' ?_ ((Below.refl base w).grown hg hbase (OwnQ.blk hown))
      unfold OwnQ
      rw [mcells_app, List.length_append]
      exact ho'
theorem Rq.more {w : World} {B B' : Nat} {A : Option Addr} {l : List Mt} (h : Rq w B A l) (hB : B ≤ B') : Rq w B' A l :=
  ⟨h.len, h.size, fun hn => by
    obtain ⟨b, off, e, hb, hc⟩ := h.mem hn
    exact ⟨b, off, e, by omega, hc⟩⟩
theorem Rq.below {w w' : World} {B : Nat} {A : Option Addr} {l : List Mt} (h : Rq w B A l) (hb : Below B w w') : Rq w' B A l :=
  ⟨h.len, h.size, fun hn => by
    obtain ⟨b, off, e, hlt, hc⟩ := h.mem hn
    exact ⟨b, off, e, hlt, fun j u hu => (hb.cell hlt).trans (hc j u hu)⟩⟩
theorem OwnQ.alloc {w : World} {base : Nat} {v : Value} {l : List Mt} (h : OwnQ w base v l) (o : Obj) : OwnQ (w.alloc o) base v l := World.ownsRow.alloc h o

/-! ### matches compared -/
theorem neq_mat (a b : ByteArray) (c : Bool) (d e : ByteArray) (f : Bool) (w : World) : (binOp .neq 45 (.agg #[.string a, .string b, .bool c]) (.agg #[.string d, .string e, .bool f])).run Tryz.prog w = .ok (.bool (!decide (a = d ∧ b = e ∧ c = f))) w := by
  have u9 := Tryz.underlying9
  have a9 := Tryz.isAgg9
  have z9 := Tryz.sizeOf9
  have u3 := Tryz.underlying4
  have a3 := Tryz.isAgg4
  have z3 := Tryz.sizeOf4
  have hS : Tryz.prog.underlying 45 = some (.struct (Tryz.prog.fieldsOf 45)) := by kernel_rfl
  have hp : Tryz.prog.stoodInHeld 45 = false := by kernel_rfl
  rw [run_neq_struct, show (10000 : Nat) = 9999 + 1 from rfl, run_equalIn_agg w 9999 45 _ _ hS hp]
  simp only [Program.fieldsOf, Tryz.underlying45]
  go_simp
  simp only [Lp.tl_iff]
  by_cases h1 : a = d
  · by_cases h2 : b = e
    · by_cases h3 : c = f
      · simp [h1, h2, h3]
      · simp [h1, h2, h3]
    · simp [h1, h2]
  · simp [h1]
theorem guard_mat : Tryz.prog.eqGuardType Tryz.prog.depth 45 = false := by kernel_rfl
end Go.Proofs.YtkoeggjfdcpokaaGreatDoor
namespace Go.Proofs.YtkoeggjfdcpokaaGreatDoor
open Go.RowKit

def str (l : Lx.T) : ByteArray := ⟨l.toArray⟩
theorem str_list (l : Lx.T) : (str l).data.toList = l := rfl
theorem str_len (l : Lx.T) : (str l).size = l.length := by rw [Lib.size_eq]; rfl
theorem str_of {S : ByteArray} {l : Lx.T} (h : S.data.toList = l) : S = str l := by
  subst h; unfold str; cases S; simp
/-- A token at its place, n octets in all. -/
def place (n : Nat) (t : Lx.Tok) : Tk := (t.1, n - t.2.1, str t.2.2)
def flatT (t : Tk) : Nat × Lx.T := (t.1, t.2.2.data.toList)
theorem flat_place (n : Nat) (l : List Lx.Tok) : (l.map (place n)).map flatT = l.map Lx.flat := by
  rw [List.map_map]; rfl
def allT (l : Lx.T) : List Tk × Nat × Int := ((Lx.lex 65536 l).1.map (place l.length), l.length - (Lx.lex 65536 l).2.1.length, (Lx.lex 65536 l).2.2)
def AllTC : Prop := ∀ (s : ByteArray) (l : Lx.T) (ts : List Tk) (q x : Nat) (z : Int), s.size ≤ 1000000 → s.data.toList = l → allT l = (ts, x, z) → q = ts.length → ∀ w : World,
  Calls Tryz.prog 22 #[.string s] w fun e w' => ∃ B d, e = .returned (.tuple #[.slice B q d, .int .i64 (x : Int), .int .i64 z]) ∧ Hid (Rt w' w'.heap.size B ts) ∧ Hid (Cap q d) ∧ Below w.heap.size w w'
def QuoteC : Prop := ∀ (s S : ByteArray), s.size ≤ 1000000 → S.data.toList = Lx.quote s.data.toList → ∀ w : World,
  Calls Tryz.prog 52 #[.string s] w fun e w' => e = .returned (.string S) ∧ Below w.heap.size w w'
end Go.Proofs.YtkoeggjfdcpokaaGreatDoor
namespace Go.Proofs.YtkoeggjfdcpokaaGreatDoor
open Go.RowKit

/-- A token as it may come in: its kind, its place, its text. -/
abbrev Tz := Int × Int × ByteArray
def zenc (t : Tz) : List Value := [.int .i64 t.1, .int .i64 t.2.1, .string t.2.2]
def zcells (l : List Tz) : List Value := l.flatMap zenc
theorem zcells_len : ∀ l : List Tz, (zcells l).length = l.length * 3
  | [] => rfl
  | p :: r => by
    show (zenc p ++ zcells r).length = _
    rw [List.length_append, zcells_len r, List.length_cons]
    show 3 + _ = _
    omega
theorem zcells_app (a b : List Tz) : zcells (a ++ b) = zcells a ++ zcells b := List.flatMap_append
theorem zcells_one' : ∀ (l : List Tz), ∀ u ∈ zcells l, u.oneCell' = true := by
  intro l u hu
  obtain ⟨p, _, hp⟩ := List.mem_flatMap.1 hu
  simp only [zenc, List.mem_cons, List.not_mem_nil, or_false] at hp
  rcases hp with rfl | rfl | rfl <;> rfl
theorem zcells_drop : ∀ (l : List Tz) (k : Nat), zcells (l.drop k) = (zcells l).drop (k * 3)
  | [], k => by simp [zcells]
  | p :: r, 0 => by simp [zcells]
  | p :: r, k + 1 => by
    rw [List.drop_succ_cons]
    show zcells (r.drop k) = List.drop ((k + 1) * 3) (zenc p ++ zcells r)
    rw [zcells_drop r k, show (k + 1) * 3 = k * 3 + 1 + 1 + 1 by omega]
    rfl
theorem zcells_take : ∀ (l : List Tz) (k : Nat), zcells (l.take k) = (zcells l).take (k * 3)
  | [], k => by simp [zcells]
  | p :: r, 0 => by simp [zcells]
  | p :: r, k + 1 => by
    rw [List.take_succ_cons]
    show zenc p ++ zcells (r.take k) = List.take ((k + 1) * 3) (zenc p ++ zcells r)
    rw [zcells_take r k, show (k + 1) * 3 = k * 3 + 1 + 1 + 1 by omega]
    rfl
theorem zcells_at (l : List Tz) (k : Nat) (h : k < l.length) : (zcells l)[k * 3]? = some (.int .i64 l[k].1) ∧ (zcells l)[k * 3 + 1]? = some (.int .i64 l[k].2.1) ∧ (zcells l)[k * 3 + 2]? = some (.string l[k].2.2) := by
  have e : zcells (l.drop k) = (zcells l).drop (k * 3) := zcells_drop l k
  rw [List.drop_eq_getElem_cons h] at e
  have e0 : ((zcells l).drop (k * 3))[0]? = some (.int .i64 l[k].1) := by rw [← e]; rfl
  have e1 : ((zcells l).drop (k * 3))[1]? = some (.int .i64 l[k].2.1) := by rw [← e]; rfl
  have e2 : ((zcells l).drop (k * 3))[2]? = some (.string l[k].2.2) := by rw [← e]; rfl
  rw [List.getElem?_drop] at e0 e1 e2
  exact ⟨e0, e1, e2⟩
/-- A slice (its address A) holds the tokens l, in blocks below B. -/
structure Rz (w : World) (B : Nat) (A : Option Addr) (l : List Tz) : Prop where
  len : l.length ≤ 9223372036854775807
  size : ∀ t ∈ l, t.2.2.size ≤ 9223372036854775807
  mem : l ≠ [] → ∃ b off, A = some ⟨b, off, none⟩ ∧ b < B ∧ ∀ j u, (zcells l)[j]? = some u → w.cell? ⟨b, off + j, none⟩ = some u
section
variable {w w' : World} {B : Nat} {A : Option Addr} {l : List Tz}
theorem Rz.none_ (w : World) (B : Nat) (A : Option Addr) : Rz w B A [] := ⟨by simp, by simp, fun h => absurd rfl h⟩
theorem Rz.on (h : Rz w w.heap.size A l) (hb : Below w.heap.size w w') : Rz w' w'.heap.size A l :=
  ⟨h.len, h.size, fun hn => by
    obtain ⟨b, off, e, hlt, hc⟩ := h.mem hn
    exact ⟨b, off, e, by have := hb.size; omega, fun j u hu => (hb.cell hlt).trans (hc j u hu)⟩⟩
theorem Rz.at_ (h : Rz w B A l) {k : Nat} (hk : k < l.length) :
    ∃ b off, A = some ⟨b, off, none⟩ ∧ b < B ∧ w.cell? ⟨b, off + k * 3, none⟩ = some (.int .i64 l[k].1) ∧ w.cell? ⟨b, off + k * 3 + 1, none⟩ = some (.int .i64 l[k].2.1) ∧ w.cell? ⟨b, off + k * 3 + 2, none⟩ = some (.string l[k].2.2) := by
  have hn : l ≠ [] := fun e => by subst e; simp at hk
  obtain ⟨b, off, e, hb, hc⟩ := h.mem hn
  obtain ⟨c0, c1, c2⟩ := zcells_at l k hk
  exact ⟨b, off, e, hb, hc _ _ c0, hc _ _ c1, hc _ _ c2⟩
theorem Rz.take (h : Rz w B A l) (k : Nat) : Rz w B A (l.take k) :=
  ⟨by have := h.len; rw [List.length_take]; omega, fun x hx => h.size x (List.mem_of_mem_take hx), fun hn => by
    have hl : l ≠ [] := fun e => hn (by rw [e]; simp)
    obtain ⟨b, off, e, hb, hc⟩ := h.mem hl
    refine ⟨b, off, e, hb, fun j u hu => hc j u ?_⟩
    rw [zcells_take, List.getElem?_take] at hu
    split at hu
    · exact hu
    · simp at hu⟩
end
/-- A row of the call's own that holds the tokens l. -/
def OwnZ (w : World) (base : Nat) (v : Value) (l : List Tz) : Prop := w.ownsRow base 47 3 v l.length (zcells l)
section
variable {w w' : World} {base : Nat} {v : Value} {l : List Tz}
theorem OwnZ.rz {c n : Nat} {A : Option Addr} (h : OwnZ w base (.slice A n c) l) (hl : l.length ≤ 9223372036854775807) (hs : ∀ t ∈ l, t.2.2.size ≤ 9223372036854775807) : Rz w w.heap.size A l :=
  ⟨hl, hs, fun hn => by
    have h0 : 0 < l.length := List.length_pos_iff.2 hn
    rcases h.2 with ⟨_, e⟩ | ⟨g, cap, cur, hv, _, hg, _⟩
    · omega
    · cases hv
      exact ⟨g, 0, rfl, (Array.getElem?_eq_some_iff.1 hg).1, fun j u hu => by have := World.ownsRow.cells h (g := g) rfl j u hu; simpa [Addr.add_lit] using this⟩⟩
theorem OwnZ.slice (h : OwnZ w base v l) : ∃ A c, v = .slice A l.length c ∧ Cap l.length c := by
  rcases h.2 with ⟨rfl, h0⟩ | ⟨g, cap, cur, rfl, _, _, hn, hm, _⟩
  · exact ⟨none, 0, by rw [h0], by omega, by omega⟩
  · exact ⟨_, cap, rfl, hn, by unfold maxLen at hm; omega⟩
theorem OwnZ.blk (h : OwnZ w base v l) : ∀ k, v.ownBlock = some k → base ≤ k := by
  intro k hk
  rcases h.2 with ⟨rfl, _⟩ | ⟨g, cap, cur, rfl, hb, _⟩
  · simp [Value.ownBlock] at hk
  · simp [Value.ownBlock] at hk
    omega
theorem OwnZ.below (h : OwnZ w base v l) (hb : Below w.heap.size w w') : OwnZ w' base v l := by
  refine ⟨h.1, ?_⟩
  rcases h.2 with h0 | ⟨g, cap, cur, hv, hbs, hg, hr⟩
  · exact .inl h0
  · exact .inr ⟨g, cap, cur, hv, hbs, (hb.block g (Array.getElem?_eq_some_iff.1 hg).1).trans hg, hr⟩
end
theorem OwnZ.nil (w : World) (base : Nat) : OwnZ w base (.slice none 0 0) [] := ⟨rfl, .inl ⟨rfl, rfl⟩⟩
theorem ownZ_made (w : World) : OwnZ (w.alloc (.cells #[] 47)) w.heap.size (.slice (some ⟨w.heap.size, 0, none⟩) 0 0) [] := World.ownsRow_made w #[] 0 (Nat.le_refl _) (Nat.zero_le _) (by simp)
theorem rz_new (w : World) (k a : Int) (s : ByteArray) (hs : s.size ≤ 9223372036854775807) :
    Rz (w.alloc (.cells #[.int .i64 k, .int .i64 a, .string s] 47)) (w.alloc (.cells #[.int .i64 k, .int .i64 a, .string s] 47)).heap.size (some ⟨w.heap.size, 0, none⟩) [(k, a, s)] := by
  refine ⟨by simp, ?_, fun _ => ⟨w.heap.size, 0, rfl, by simp, ?_⟩⟩
  · intro p hp
    simp only [List.mem_cons, List.not_mem_nil, or_false] at hp
    subst hp
    exact hs
  · intro j u hu
    match j, hu with
    | 0, hu => cases hu; go_simp
    | 1, hu => cases hu; go_simp
    | 2, hu => cases hu; go_simp
/-- One token more, at a step of a region that draws its order. -/
theorem step_tokz {w : World} {ops : Array Oper} {o : Oper} {a : Act} {K : Act → World → Prop} {Q : Exit → Act → World → Prop} {E : Prop} (hgd : o.guard = none) (s x : Operand)
    (ho : o.op = .call { callee := .builtin .append, args := #[s, x], argTypes := #[27, 27] })
    (base : Nat) (v : Value) (l : List Tz) (u : Tz) (hs : a.eval s = v) (hown : OwnZ w base v l) (ad : Addr) (hx : a.eval x = .slice (some ad) 1 1) (hr : Rz w w.heap.size (some ad) [u])
    (hlen : l.length ≤ 1000000) (hbase : base ≤ w.heap.size)
    (h : ∀ v' w', OwnZ w' base v' (l ++ [u]) → Below base w w' → K (a.put o.dst v') w') :
    if Region.wanted o (yielded ops a.tmps) = true then Oper.wp Tryz.prog o a w K Q else E := by
  obtain ⟨i0, hi, hz0, hz1, hz2⟩ := info_parts info_tok
  refine step_append_lies w hgd s x 27 ho base 47 i0 _ 3 32 Tryz.underlying27 hi hz0 hz1 hz2 rfl (by decide) v l.length (zcells l) hs hown ad 1 1 (zcells [u]) hx (by rw [zcells_len]; rfl) ?_ (zcells_one' _) (by omega) (by unfold maxLen; omega) (by omega) hbase _ rfl ?_
  · intro j y hj
    obtain ⟨b, off, e, _, hc⟩ := hr.mem (by simp)
    cases e
    have := hc j y hj
    rwa [Addr.add_lit]
  · intro g cap w' ho' hg _ _
    refine h _ w' ?_ ((Below.refl base w).grown hg hbase (OwnZ.blk hown))
    unfold OwnZ
    rw [zcells_app, List.length_append]
    exact ho'
theorem run_appz_none {w : World} {base : Nat} {v : Value} {n : Nat} {xs : List Value} (hown : w.ownsRow base 47 3 v n xs) (ty : TypeId) (A : Option Addr) (c : Nat) :
    (Builtin.append_ #[27, 27] ty #[v, .slice A 0 c]).run Tryz.prog w = .ok v w := by
  obtain ⟨i0, hi, _, _, _⟩ := info_parts info_tok
  rcases hown.2 with ⟨rfl, rfl⟩ | ⟨g, cap, cur, rfl, _, _, hnc, _⟩
  · cases A <;> simp [Builtin.append_, run_underlying Tryz.underlying27, sizeOf, typeInfo, hi, Builtin.lenOf, Builtin.firstCells, loadCells, loadCellsFrom]
  · cases A <;> simp [Builtin.append_, run_underlying Tryz.underlying27, sizeOf, typeInfo, hi, Builtin.lenOf, Builtin.firstCells, hnc, storeCells, loadCells, loadCellsFrom]
/-- 'append(row of the call's own, tokens...)'. -/
theorem wp_appz (w : World) {ops : Array Oper} {rest : List Oper} {o : Oper} {a : Act} {Q : Exit → Act → World → Prop} (hgd : o.guard = none) (s x : Operand)
    (ho : o.op = .call { callee := .builtin .append, args := #[s, x], argTypes := #[27, 27] })
    (base : Nat) (v : Value) (l m : List Tz) (hs : a.eval s = v) (hown : OwnZ w base v l) (A : Option Addr) (n c : Nat) (hn : n = m.length) (hx : a.eval x = .slice A n c) (hr : Rz w w.heap.size A m)
    (hlen : l.length + m.length ≤ 1000000) (hbase : base ≤ w.heap.size)
    (h : ∀ v' w', OwnZ w' base v' (l ++ m) → Below base w w' → wpList Tryz.prog ops Q rest (a.put o.dst v') w') : wpList Tryz.prog ops Q (o :: rest) a w := by
  subst hn
  obtain ⟨i0, hi, hz0, hz1, hz2⟩ := info_parts info_tok
  by_cases hm : m = []
  · subst hm
    refine wpList_plain hgd fun K hK => ?_
    have hrun := run_appz_none hown o.type A c
    unfold Oper.wp
    simp only [List.length_nil] at hx
    simp [execOp, ho, resolve, invoke, builtin, hs, hx, hrun, Result.andThen]
    exact hK _ _ (h v w (by simpa using hown) (Below.refl _ _))
  · obtain ⟨b, off, rfl, _, hc⟩ := hr.mem hm
    refine wpList_append_own _ hgd s x 27 ho base 47 i0 _ 3 32 Tryz.underlying27 hi hz0 hz1 hz2 rfl (by decide) v l.length (zcells l) hs hown ⟨b, off, none⟩ m.length c (zcells m) hx (zcells_len m) ?_ (zcells_one' m) (by unfold maxLen; omega) (by omega) hbase ?_
    · intro j u hj
      have := hc j u hj
      rwa [Addr.add_lit]
    · intro v' w' ho' hg _
      refine h v' w' ?_ ((Below.refl base w).grown hg hbase (OwnZ.blk hown))
      unfold OwnZ
      rw [zcells_app, List.length_append]
      exact ho'
/-- What lex tells, as any tokens. -/
def lz (t : Tk) : Tz := ((t.1 : Int), (t.2.1 : Int), t.2.2)
theorem zcells_lz (l : List Tk) : zcells (l.map lz) = tcells l := by
  unfold zcells tcells
  rw [List.flatMap_map]
  rfl
theorem Rt.z {w : World} {B : Nat} {A : Option Addr} {l : List Tk} (h : Rt w B A l) : Rz w B A (l.map lz) :=
  ⟨by rw [List.length_map]; exact h.len, fun t ht => by
    obtain ⟨u, hu, rfl⟩ := List.mem_map.1 ht
    exact h.size u hu, fun hn => by
    rw [zcells_lz]
    exact h.mem (fun e => hn (by rw [e]; rfl))⟩
theorem Rz.more {w : World} {B B' : Nat} {A : Option Addr} {l : List Tz} (h : Rz w B A l) (hB : B ≤ B') : Rz w B' A l :=
  ⟨h.len, h.size, fun hn => by
    obtain ⟨b, off, e, hb, hc⟩ := h.mem hn
    exact ⟨b, off, e, by omega, hc⟩⟩
theorem Rz.below {w w' : World} {B : Nat} {A : Option Addr} {l : List Tz} (h : Rz w B A l) (hb : Below B w w') : Rz w' B A l :=
  ⟨h.len, h.size, fun hn => by
    obtain ⟨b, off, e, hlt, hc⟩ := h.mem hn
    exact ⟨b, off, e, hlt, fun j u hu => (hb.cell hlt).trans (hc j u hu)⟩⟩
theorem Rz.get {w : World} {B : Nat} {A : Option Addr} {l : List Tz} (h : Rz w B A l) {k : Nat} {a b : Int} {c : ByteArray} (hk : l[k]? = some (a, b, c)) :
    ∃ g off, A = some ⟨g, off, none⟩ ∧ g < B ∧ w.cell? ⟨g, off + k * 3, none⟩ = some (.int .i64 a) ∧ w.cell? ⟨g, off + k * 3 + 1, none⟩ = some (.int .i64 b) ∧ w.cell? ⟨g, off + k * 3 + 2, none⟩ = some (.string c) := by
  obtain ⟨hlt, e⟩ := List.getElem?_eq_some_iff.1 hk
  obtain ⟨g, off, e1, e2, e3, e4, e5⟩ := h.at_ hlt
  rw [e] at e3 e4 e5
  exact ⟨g, off, e1, e2, e3, e4, e5⟩
theorem getZ {l : List Tz} {k : Nat} (h : k < l.length) : ∃ a b c, l[k]? = some (a, b, c) := ⟨_, _, _, List.getElem?_eq_getElem h⟩
theorem OwnZ.alloc {w : World} {base : Nat} {v : Value} {l : List Tz} (h : OwnZ w base v l) (o : Obj) : OwnZ (w.alloc o) base v l := World.ownsRow.alloc h o
theorem OwnZ.mono {w : World} {base base' : Nat} {v : Value} {l : List Tz} (h : OwnZ w base v l) (hb : base' ≤ base) : OwnZ w base' v l := by
  refine ⟨h.1, ?_⟩
  rcases h.2 with h0 | ⟨g, cap, cur, hv, hbs, hr⟩
  · exact .inl h0
  · exact .inr ⟨g, cap, cur, hv, by omega, hr⟩
end Go.Proofs.YtkoeggjfdcpokaaGreatDoor
namespace Go.Proofs.YtkoeggjfdcpokaaGreatDoor
open Go.RowKit
open Go.Proofs.YtkoeggjfdcpokaaGreatDoor.Sl (Mt Sel Tf)

/-- A selector as a value. -/
abbrev sv (N : ByteArray) (A : Option Addr) (n c : Nat) : Value := .agg #[.string N, .slice A n c]
theorem box_sel (w : World) (N : ByteArray) (A : Option Addr) (n c : Nat) : ∃ W P, w.alloc (Obj.cells #[Value.string N, Value.slice A n c] 24) = W ∧ w.heap.size = P ∧ Below P w W ∧ W.cell? ⟨P, 0, none⟩ = some (.string N) ∧ W.cell? ⟨P, 1, none⟩ = some (.slice A n c) ∧ P < W.heap.size :=
  ⟨_, _, rfl, rfl, below_alloc w _, World.cell?_alloc_at _ _ _ _ rfl, World.cell?_alloc_at _ _ _ _ rfl, by show _ < (w.heap.push _).size; rw [Array.size_push]; omega⟩
set_option maxHeartbeats 1600000 in
theorem fewS_of (N : ByteArray) (A : Option Addr) (c n : Nat) (l : List Mt) (hn : n = l.length) (w : World) (hr : Rq w w.heap.size A l) :
    Calls Tryz.prog 9 #[sv N A n c] w fun e w' => ∃ b : Bool, e = .returned (.bool b) ∧ (b = true → n ≤ 40) ∧ Below w.heap.size w w' := by
  have HN := Lib.hid hn
  have HR := Lib.hid hr
  have hlen : n ≤ 9223372036854775807 := by rw [hn]; exact hr.len
  clear hn hr
  go_enter Tryz.func9, Tryz.ntmps9
  obtain ⟨W, P, hW, hP, hb0, d0, d1, hPW⟩ := box_sel w N A n c
  go_wp2_with fail
  go_loopg [3, 4] n (fun g s3 s4 wx => ∃ (i : Nat) (z : Int), i + g = n ∧ s4 = .int .i64 i ∧ s3 = .int .i64 z ∧ Below W.heap.size W wx)
  case atStart => exact ⟨0, _, by omega, rfl, rfl, Below.refl _ _⟩
  case round =>
    obtain ⟨i, z, hi, rfl, rfl, hwx⟩ := hrel
    have e0 := (hwx.cell (p := ⟨P, 0, none⟩) hPW).trans d0
    have e1 := (hwx.cell (p := ⟨P, 1, none⟩) hPW).trans d1
    have hwp : Below P w wr := hb0.trans (hwx.mono (by omega))
    cases gk with
    | zero =>
      obtain rfl : i = n := by omega
      by_cases h40 : i ≤ 40
      · have hz : decide ((i : Int) ≤ 40) = true := by simp; omega
        go_wp2_with fail
        go_ret
        exact ⟨_, rfl, fun _ => h40, hP ▸ hwp⟩
      · have hz : decide ((i : Int) ≤ 40) = false := by simp; omega
        go_wp2_with fail
        go_ret
        exact ⟨false, rfl, fun h => (by cases h), hP ▸ hwp⟩
    | succ g =>
      have hlt : i < n := by omega
      have hltz : (i : Int) < (n : Int) := by omega
      obtain ⟨bk, off, rfl, hbk, k0, k1, _⟩ := HR.out.at_ (k := i) (by have := HN.out; omega)
      have hbk' : bk < P := by omega
      have c0 := (hwp.cell (p := ⟨bk, off + i * 3, none⟩) hbk').trans k0
      have c1 := (hwp.cell (p := ⟨bk, off + i * 3 + 1, none⟩) hbk').trans k1
      clear k0 k1
      go_wp2_with fail
      go_quiet (fail)
      go_wp2_with fail
      go_roundg g
      case measure => omega
      case rel => exact ⟨i + 1, _, by omega, by simp, rfl, below_on hwx (below_drewN _ _)⟩
set_option maxHeartbeats 1600000 in
theorem short_of (A : Option Addr) (c n : Nat) (l : List Tz) (hn : n = l.length) (w : World) (hr : Rz w w.heap.size A l) :
    Calls Tryz.prog 10 #[.slice A n c] w fun e w' => ∃ b : Bool, e = .returned (.bool b) ∧ (b = true → n ≤ 1500) ∧ Below w.heap.size w w' := by
  have HN := Lib.hid hn
  have HR := Lib.hid hr
  have hlen : n ≤ 9223372036854775807 := by rw [hn]; exact hr.len
  clear hn hr
  go_enter Tryz.func10, Tryz.ntmps10
  go_wp2_with fail
  go_loopg [3, 4] n (fun g s3 s4 wx => ∃ (i : Nat) (z : Int), i + g = n ∧ s4 = .int .i64 i ∧ s3 = .int .i64 z ∧ Below w.heap.size w wx)
  case atStart => exact ⟨0, 0, by omega, rfl, rfl, Below.refl _ _⟩
  case round =>
    obtain ⟨i, z, hi, rfl, rfl, hwx⟩ := hrel
    cases gk with
    | zero =>
      obtain rfl : i = n := by omega
      by_cases h40 : i ≤ 1500
      · have hz : decide ((i : Int) ≤ 1500) = true := by simp; omega
        go_wp2_with fail
        go_ret
        exact ⟨_, rfl, fun _ => h40, hwx⟩
      · have hz : decide ((i : Int) ≤ 1500) = false := by simp; omega
        go_wp2_with fail
        go_ret
        exact ⟨false, rfl, fun h => (by cases h), hwx⟩
    | succ g =>
      have hlt : i < n := by omega
      have hltz : (i : Int) < (n : Int) := by omega
      obtain ⟨bk, off, rfl, hbk, _, _, k2⟩ := HR.out.at_ (k := i) (by have := HN.out; omega)
      have c2 := (hwx.cell (p := ⟨bk, off + i * 3 + 2, none⟩) hbk).trans k2
      clear k2
      go_wp2_with fail
      go_roundg g
      case measure => omega
      case rel => exact ⟨i + 1, _, by omega, by simp, rfl, hwx⟩
theorem box_two (w : World) (N M : ByteArray) (A B : Option Addr) (n c k d : Nat) : ∃ W P, (w.alloc (Obj.cells #[Value.string N, Value.slice A n c] 24)).alloc (Obj.cells #[Value.string M, Value.slice B k d] 24) = W ∧ w.heap.size = P ∧ Below P w W ∧
    W.cell? ⟨P, 0, none⟩ = some (.string N) ∧ W.cell? ⟨P, 1, none⟩ = some (.slice A n c) ∧ W.cell? ⟨P + 1, 0, none⟩ = some (.string M) ∧ W.cell? ⟨P + 1, 1, none⟩ = some (.slice B k d) ∧ P + 1 < W.heap.size := by
  obtain ⟨W1, P, hW1, hP, hb1, d0, d1, hPW1⟩ := box_sel w N A n c
  have hs : W1.heap.size = P + 1 := by rw [← hW1, ← hP]; show (w.heap.push _).size = _; rw [Array.size_push]
  have hb2 := below_alloc W1 (Obj.cells #[Value.string M, Value.slice B k d] 24)
  refine ⟨_, P, rfl, hP, ?_, ?_, ?_, ?_, ?_, ?_⟩
  · rw [hW1]; exact hb1.trans (hb2.mono (by omega))
  · rw [hW1]; exact (hb2.cell (p := ⟨P, 0, none⟩) hPW1).trans d0
  · rw [hW1]; exact (hb2.cell (p := ⟨P, 1, none⟩) hPW1).trans d1
  · rw [hW1]; exact World.cell?_alloc_at _ _ _ _ hs.symm
  · rw [hW1]; exact World.cell?_alloc_at _ _ _ _ hs.symm
  · rw [hW1]; show _ < (W1.heap.push _).size; rw [Array.size_push]; omega
theorem getM {l : List Mt} {k : Nat} (h : k < l.length) : ∃ a b c, l[k]? = some (a, b, c) := ⟨_, _, _, List.getElem?_eq_getElem h⟩
theorem Rq.get {w : World} {B : Nat} {A : Option Addr} {l : List Mt} (h : Rq w B A l) {k : Nat} {a b : ByteArray} {c : Bool} (hk : l[k]? = some (a, b, c)) :
    ∃ g off, A = some ⟨g, off, none⟩ ∧ g < B ∧ w.cell? ⟨g, off + k * 3, none⟩ = some (.string a) ∧ w.cell? ⟨g, off + k * 3 + 1, none⟩ = some (.string b) ∧ w.cell? ⟨g, off + k * 3 + 2, none⟩ = some (.bool c) := by
  obtain ⟨hlt, e⟩ := List.getElem?_eq_some_iff.1 hk
  obtain ⟨g, off, e1, e2, e3, e4, e5⟩ := h.at_ hlt
  rw [e] at e3 e4 e5
  exact ⟨g, off, e1, e2, e3, e4, e5⟩
set_option maxHeartbeats 3200000 in
theorem sameS_of (N M : ByteArray) (A B : Option Addr) (c d n k : Nat) (l m : List Mt) (hn : n = l.length) (hk : k = m.length) (b : Bool) (hb : decide ((N, l) = (M, m)) = b) (w : World) (hr : Rq w w.heap.size A l) (hs : Rq w w.heap.size B m) :
    Calls Tryz.prog 36 #[sv N A n c, sv M B k d] w fun e w' => e = .returned (.bool b) ∧ Below w.heap.size w w' := by
  have HN := Lib.hid hn
  have HK := Lib.hid hk
  have HB := Lib.hid hb
  have HR := Lib.hid hr
  have HS := Lib.hid hs
  have hlen : n ≤ 9223372036854775807 := by rw [hn]; exact hr.len
  have hlen' : k ≤ 9223372036854775807 := by rw [hk]; exact hs.len
  clear hn hk hb hr hs
  go_enter Tryz.func36, Tryz.ntmps36
  obtain ⟨W, P, hW, hP, hb0, g0, g1, f0, f1, hQW⟩ := box_two w N M A B n c k d
  by_cases hNM : N = M
  · subst hNM
    by_cases hnk : n = k
    · subst hnk
      have hnn : ((n : Int) == (n : Int)) = true := by simp
      go_wp2_with fail
      go_loopg [5] n (fun g s5 wx => ∃ i : Nat, i + g = n ∧ s5 = .int .i64 i ∧ Hid (∀ j, j < i → l[j]? = m[j]?) ∧ Below W.heap.size W wx)
      case atStart => exact ⟨0, by omega, rfl, Lib.hid (fun j hj => by omega), Below.refl _ _⟩
      case round =>
        obtain ⟨i, hi, rfl, HA, hwx⟩ := hrel
        have hwp : Below P w wr := hb0.trans (hwx.mono (by omega))
        have e1 := (hwx.cell (p := ⟨P, 1, none⟩) (by show P < _; omega)).trans g1
        have e2 := (hwx.cell (p := ⟨P + 1, 1, none⟩) hQW).trans f1
        cases gk with
        | zero =>
          obtain rfl : i = n := by omega
          have hb : b = true := by
            rw [← HB.out, decide_eq_true_eq]
            congr 1
            refine List.ext_getElem? fun j => ?_
            by_cases hj : j < i
            · exact HA.out j hj
            · rw [List.getElem?_eq_none (by have := HN.out; omega), List.getElem?_eq_none (by have := HK.out; omega)]
          subst hb
          go_wp2_with fail
          go_ret
          exact ⟨rfl, hP ▸ hwp⟩
        | succ g =>
          have hlt : i < n := by omega
          have hltz : (i : Int) < (n : Int) := by omega
          obtain ⟨a1, a2, a3, hp⟩ := getM (l := l) (k := i) (by have := HN.out; omega)
          obtain ⟨b1, b2, b3, hq⟩ := getM (l := m) (k := i) (by have := HK.out; omega)
          obtain ⟨bk, off, rfl, hbk, k0, k1, k2⟩ := HR.out.get hp
          obtain ⟨bk2, off2, rfl, hbk2, j0, j1, j2⟩ := HS.out.get hq
          have hbk' : bk < P := by omega
          have hbk2' : bk2 < P := by omega
          have c0 := (hwp.cell (p := ⟨bk, off + i * 3, none⟩) hbk').trans k0
          have c1 := (hwp.cell (p := ⟨bk, off + i * 3 + 1, none⟩) hbk').trans k1
          have c2 := (hwp.cell (p := ⟨bk, off + i * 3 + 2, none⟩) hbk').trans k2
          have r0 := (hwp.cell (p := ⟨bk2, off2 + i * 3, none⟩) hbk2').trans j0
          have r1 := (hwp.cell (p := ⟨bk2, off2 + i * 3 + 1, none⟩) hbk2').trans j1
          have r2 := (hwp.cell (p := ⟨bk2, off2 + i * 3 + 2, none⟩) hbk2').trans j2
          have HPl := Lib.hid hp
          have HQl := Lib.hid hq
          clear k0 k1 k2 j0 j1 j2 hp hq
          have hgp := guard_mat
          by_cases he : a1 = b1 ∧ a2 = b2 ∧ a3 = b3
          · have hne : ∀ w, (binOp .neq 45 (.agg #[.string a1, .string a2, .bool a3]) (.agg #[.string b1, .string b2, .bool b3])).run Tryz.prog w = .ok (.bool false) w := fun w => by
              rw [neq_mat]; simp [he]
            have HA' : Hid (∀ j, j < i + 1 → l[j]? = m[j]?) := Lib.hid (fun j hj => by
              by_cases e : j = i
              · subst e; rw [HPl.out, HQl.out, he.1, he.2.1, he.2.2]
              · exact HA.out j (by omega))
            clear he
            go_wp2_with fail
            go_quiet (fail)
            go_wp2_with fail
            go_roundg g
            case measure => omega
            case rel => exact ⟨i + 1, by omega, by simp, HA', below_on hwx (below_drewN _ _)⟩
          · have hne : ∀ w, (binOp .neq 45 (.agg #[.string a1, .string a2, .bool a3]) (.agg #[.string b1, .string b2, .bool b3])).run Tryz.prog w = .ok (.bool true) w := fun w => by
              rw [neq_mat]; simp [he]
            have hb : b = false := by
              rw [← HB.out]
              simp only [decide_eq_false_iff_not]
              intro e
              have e' : l = m := congrArg Prod.snd e
              have := HPl.out
              rw [e', HQl.out] at this
              cases this
              exact he ⟨rfl, rfl, rfl⟩
            subst hb
            clear he
            go_wp2_with fail
            go_quiet (fail)
            go_wp2_with fail
            go_ret
            exact ⟨rfl, below_on (hP ▸ hwp) (below_drewN wr _)⟩
    · have hnz : ((n : Int) == (k : Int)) = false := by simp; omega
      have hb : b = false := by
        rw [← HB.out]
        simp only [decide_eq_false_iff_not]
        intro e
        have e' : l = m := congrArg Prod.snd e
        rw [HN.out, HK.out, e'] at hnk
        exact hnk rfl
      subst hb
      clear hnk
      go_wp2_with fail
      go_ret
      exact ⟨rfl, hP ▸ hb0⟩
  · have hnm : (N.toList == M.toList) = false := by rw [Lp.beq_tl]; simpa using hNM
    have hnm2 : ¬ N.toList = M.toList := fun h => hNM (Lp.ext h)
    have hb : b = false := by
      rw [← HB.out]
      simp only [decide_eq_false_iff_not]
      intro e
      exact hNM (congrArg Prod.fst e)
    subst hb
    clear hNM
    go_wp2_with fail
    go_ret
    exact ⟨rfl, hP ▸ hb0⟩
/-- A selector's variable. -/
structure Bx (w : World) (P : Nat) (N : ByteArray) (A : Option Addr) (n c : Nat) : Prop where
  c0 : w.cell? ⟨P, 0, none⟩ = some (.string N)
  c1 : w.cell? ⟨P, 1, none⟩ = some (.slice A n c)
  lt : P < w.heap.size
theorem Bx.on {w w' : World} {P : Nat} {N : ByteArray} {A : Option Addr} {n c : Nat} (h : Bx w P N A n c) (hb : Below w.heap.size w w') : Bx w' P N A n c :=
  ⟨(hb.cell (p := ⟨P, 0, none⟩) h.lt).trans h.c0, (hb.cell (p := ⟨P, 1, none⟩) h.lt).trans h.c1, Nat.lt_of_lt_of_le h.lt hb.size⟩
theorem frozen_new {w V : World} {P : Nat} {C : Array Value} {t : TypeId} (hV : w.alloc (.cells C t) = V) (hP : w.heap.size = P) (d : Nat) : V.frozen? ⟨P, d, none⟩ = false := by
  have h : V.heap[P]? = some (.cells C t (0, 0)) := by rw [← hV, ← hP]; exact heap_alloc_new w _
  simp [World.frozen?, h]
theorem Bx.set {w : World} {P : Nat} {M : ByteArray} {B : Option Addr} {k d : Nat} (h : Bx w P M B k d) (N : ByteArray) (A : Option Addr) (n c : Nat) : Bx ((w.setCell ⟨P, 0, none⟩ (.string N)).setCell ⟨P, 1, none⟩ (.slice A n c)) P N A n c := by
  have n1 : (⟨P, 0, none⟩ : Addr) ≠ ⟨P, 1, none⟩ := by simp
  have n2 : (⟨P, 1, none⟩ : Addr) ≠ ⟨P, 0, none⟩ := by simp
  have hb : Below P w ((w.setCell ⟨P, 0, none⟩ (.string N)).setCell ⟨P, 1, none⟩ (.slice A n c)) := ((Below.refl P w).setCell (p := ⟨P, 0, none⟩) (Nat.le_refl _) _).setCell (p := ⟨P, 1, none⟩) (Nat.le_refl _) _
  exact ⟨(World.cell?_setCell_other _ _ _ _ n2).trans (World.cell?_setCell_same _ _ _ h.c0), World.cell?_setCell_same _ _ _ ((World.cell?_setCell_other _ _ _ _ n1).trans h.c1), Nat.lt_of_lt_of_le h.lt hb.size⟩
end Go.Proofs.YtkoeggjfdcpokaaGreatDoor
namespace Go.Proofs.YtkoeggjfdcpokaaGreatDoor
open Go.RowKit Go.Proofs.YtkoeggjfdcpokaaGreatDoor.Lp
open Go.Proofs.YtkoeggjfdcpokaaGreatDoor.Sl (Mt Sel Tf)

def flatK (t : Tz) : Tf := (t.1, t.2.2)
theorem flatK_place (n : Nat) (l : List Lx.Tok) : ((l.map (place n)).map lz).map flatK = (l.map Lx.flat).map Sl.tf := by
  rw [List.map_map, List.map_map, List.map_map]; rfl
def allZ (l : Lx.T) : List Tz × Nat × Int := ((allT l).1.map lz, (allT l).2.1, (allT l).2.2)
def AllZC : Prop := ∀ (s : ByteArray) (l : Lx.T) (ts : List Tz) (q x : Nat) (z : Int), s.size ≤ 1000000 → s.data.toList = l → allZ l = (ts, x, z) → q = ts.length → ∀ w : World,
  Calls Tryz.prog 22 #[.string s] w fun e w' => ∃ B d, e = .returned (.tuple #[.slice B q d, .int .i64 (x : Int), .int .i64 z]) ∧ Hid (Rz w' w'.heap.size B ts) ∧ Hid (Cap q d) ∧ Below w.heap.size w w'
theorem allz_of (h : AllTC) : AllZC := by
  intro s l ts q x z h1 h2 h3 h4 w
  unfold allZ at h3
  simp only [Prod.mk.injEq] at h3
  obtain ⟨rfl, rfl, rfl⟩ := h3
  refine (h s l (allT l).1 q (allT l).2.1 (allT l).2.2 h1 h2 rfl (by rw [h4, List.length_map]) w).mono ?_
  rintro e w1 ⟨B, d, he, hr, hc, hb⟩
  exact ⟨B, d, he, Lib.hid hr.out.z, hc, hb⟩
/-! ### what a parse bounds -/
theorem print_len {s : Sel} : (Sl.prS s).length ≤ 100000 := by
  unfold Sl.prS
  split
  · rename_i h
    unfold Sl.saneS at h
    simp only [Bool.and_eq_true, decide_eq_true_eq] at h
    obtain ⟨⟨h1, h2⟩, h3⟩ := h
    have nm : ∀ x : ByteArray, nameB x = true → x.data.toList.length ≤ 64 := by
      intro x hx
      unfold nameB nameL at hx
      rw [tl] at hx
      simp only [Bool.and_eq_true, decide_eq_true_eq] at hx
      exact hx.1.1.2
    have qt : ∀ l : Lx.T, (Lx.quote l).length ≤ 2 * l.length + 2 := by
      intro l
      have : (Lx.body l).length ≤ 2 * l.length := by
        induction l with
        | nil => simp [Lx.body]
        | cons c r ih =>
          show (Lx.esc c ++ Lx.body r).length ≤ _
          rw [List.length_append, List.length_cons]
          have : (Lx.esc c).length ≤ 2 := by
            unfold Lx.esc
            split
            · simp
            · split <;> simp
          omega
      unfold Lx.quote
      rw [List.length_cons, List.length_append]
      simp; omega
    have ms : ∀ (r : List Mt) (b : Bool), r.all Sl.mOk = true → (Sl.prM b r).length ≤ 1 + 200 * r.length := by
      intro r
      induction r with
      | nil => intro b _; simp [Sl.prM]
      | cons m r ih =>
        intro b hr
        simp only [List.all_cons, Bool.and_eq_true] at hr
        have := ih false hr.2
        have hm := hr.1
        unfold Sl.mOk at hm
        simp only [Bool.and_eq_true, decide_eq_true_eq] at hm
        have a1 := nm _ hm.1
        have a2 := qt m.2.1.data.toList
        have a3 : m.2.1.data.toList.length ≤ 64 := by rw [Array.length_toList]; exact hm.2
        show ((if b then 123 else 44) :: (Sl.mTxt m ++ Sl.prM false r)).length ≤ _
        rw [List.length_cons, List.length_append, List.length_cons]
        unfold Sl.mTxt
        rw [List.length_append, List.length_append, List.length_cons]
        have a4 : (if m.2.2 then [33] else ([] : Lx.T)).length ≤ 1 := by split <;> simp
        omega
    have n1 := nm _ h1
    rw [List.length_append]
    split
    · rw [List.length_nil]; omega
    · have := ms s.2 true h3
      omega
  · simp

theorem parse_at {l : List Tf} {i : Nat} : Sl.parse l (i : Int) = Sl.parseN l i := by
  unfold Sl.parse
  rw [if_neg (by omega)]
  congr 1
theorem name_size {N : ByteArray} {l : List Mt} (h : Sl.saneS (N, l) = true) : N.size ≤ 64 := by
  unfold Sl.saneS nameB nameL at h
  rw [tl] at h
  simp only [Bool.and_eq_true, decide_eq_true_eq] at h
  have := h.1.1.1.1.2
  rw [Array.length_toList] at this
  exact this
end Go.Proofs.YtkoeggjfdcpokaaGreatDoor
namespace Go.Proofs.YtkoeggjfdcpokaaGreatDoor
open Go.RowKit Go.Proofs.YtkoeggjfdcpokaaGreatDoor.Lp

/-! ### pairs in memory -/
def enc (p : Pr) : List Value := [.string p.1, .string p.2]
def cells (l : List Pr) : List Value := l.flatMap enc
theorem cells_len : ∀ l : List Pr, (cells l).length = l.length * 2
  | [] => rfl
  | p :: r => by
    show (enc p ++ cells r).length = _
    rw [List.length_append, cells_len r, List.length_cons]
    show 2 + _ = _
    omega
theorem cells_app (a b : List Pr) : cells (a ++ b) = cells a ++ cells b := List.flatMap_append
theorem cells_one (p : Pr) : cells [p] = enc p := rfl
theorem cells_one' : ∀ (l : List Pr), ∀ u ∈ cells l, u.oneCell' = true := by
  intro l u hu
  obtain ⟨p, _, hp⟩ := List.mem_flatMap.1 hu
  simp only [enc, List.mem_cons, List.not_mem_nil, or_false] at hp
  rcases hp with rfl | rfl <;> rfl
theorem cells_take : ∀ (l : List Pr) (k : Nat), cells (l.take k) = (cells l).take (k * 2)
  | [], k => by simp [cells]
  | p :: r, 0 => by simp [cells]
  | p :: r, k + 1 => by
    rw [List.take_succ_cons]
    show enc p ++ cells (r.take k) = List.take ((k + 1) * 2) (enc p ++ cells r)
    rw [cells_take r k, show (k + 1) * 2 = k * 2 + 1 + 1 by omega]
    rfl
theorem cells_drop : ∀ (l : List Pr) (k : Nat), cells (l.drop k) = (cells l).drop (k * 2)
  | [], k => by simp [cells]
  | p :: r, 0 => by simp [cells]
  | p :: r, k + 1 => by
    rw [List.drop_succ_cons]
    show cells (r.drop k) = List.drop ((k + 1) * 2) (enc p ++ cells r)
    rw [cells_drop r k, show (k + 1) * 2 = k * 2 + 1 + 1 by omega]
    rfl
theorem cells_at (l : List Pr) (k : Nat) (h : k < l.length) : (cells l)[k * 2]? = some (.string l[k].1) ∧ (cells l)[k * 2 + 1]? = some (.string l[k].2) := by
  have e : cells (l.drop k) = (cells l).drop (k * 2) := cells_drop l k
  rw [List.drop_eq_getElem_cons h] at e
  have e0 : ((cells l).drop (k * 2))[0]? = some (.string l[k].1) := by rw [← e]; rfl
  have e1 : ((cells l).drop (k * 2))[1]? = some (.string l[k].2) := by rw [← e]; rfl
  rw [List.getElem?_drop] at e0 e1
  exact ⟨e0, e1⟩

/-- A slice (its address A) holds the pairs l, in blocks below B. -/
structure Rd (w : World) (B : Nat) (A : Option Addr) (l : List Pr) : Prop where
  len : l.length ≤ 9223372036854775807
  size : ∀ p ∈ l, p.1.size ≤ 9223372036854775807 ∧ p.2.size ≤ 9223372036854775807
  mem : l ≠ [] → ∃ b off, A = some ⟨b, off, none⟩ ∧ b < B ∧ ∀ j u, (cells l)[j]? = some u → w.cell? ⟨b, off + j, none⟩ = some u

section
variable {w w' : World} {B B' : Nat} {A : Option Addr} {l : List Pr}
theorem Rd.none_ (w : World) (B : Nat) (A : Option Addr) : Rd w B A [] := ⟨by simp, by simp, fun h => absurd rfl h⟩
theorem Rd.keep (h : Rd w B A l) (hk : ∀ p : Addr, p.block < B → w'.cell? p = w.cell? p) : Rd w' B A l :=
  ⟨h.len, h.size, fun hn => by
    obtain ⟨b, off, e, hb, hc⟩ := h.mem hn
    exact ⟨b, off, e, hb, fun j u hu => (hk _ hb).trans (hc j u hu)⟩⟩
theorem Rd.more (h : Rd w B A l) (hB : B ≤ B') : Rd w B' A l :=
  ⟨h.len, h.size, fun hn => by
    obtain ⟨b, off, e, hb, hc⟩ := h.mem hn
    exact ⟨b, off, e, by omega, hc⟩⟩
theorem Rd.below (h : Rd w B A l) (hb : Below B w w') : Rd w' B A l := h.keep fun _ hp => hb.cell hp
/-- What holds at a world holds behind a call from there. -/
theorem Rd.on (h : Rd w w.heap.size A l) (hb : Below w.heap.size w w') : Rd w' w'.heap.size A l := (h.below hb).more hb.size
theorem Rd.pair (h : Rd w B A l) {k : Nat} (hk : k < l.length) :
    ∃ b off, A = some ⟨b, off, none⟩ ∧ b < B ∧ w.cell? ⟨b, off + k * 2, none⟩ = some (.string l[k].1) ∧ w.cell? ⟨b, off + k * 2 + 1, none⟩ = some (.string l[k].2) := by
  have hn : l ≠ [] := fun e => by subst e; simp at hk
  obtain ⟨b, off, e, hb, hc⟩ := h.mem hn
  obtain ⟨c0, c1⟩ := cells_at l k hk
  exact ⟨b, off, e, hb, hc _ _ c0, hc _ _ c1⟩
theorem Rd.all (h : Rd w B A l) (hn : 0 < l.length) :
    ∃ b off, A = some ⟨b, off, none⟩ ∧ b < B ∧ ∀ k p, l[k]? = some p → w.cell? ⟨b, off + k * 2, none⟩ = some (.string p.1) ∧ w.cell? ⟨b, off + k * 2 + 1, none⟩ = some (.string p.2) := by
  obtain ⟨b, off, e, hb, hc⟩ := h.mem (List.length_pos_iff.1 hn)
  refine ⟨b, off, e, hb, fun k p hp => ?_⟩
  obtain ⟨hk, rfl⟩ := List.getElem?_eq_some_iff.1 hp
  exact ⟨hc _ _ (cells_at l k hk).1, hc _ _ (cells_at l k hk).2⟩
theorem Rd.sizes (h : Rd w B A l) {k : Nat} (hk : k < l.length) : l[k].1.size ≤ 9223372036854775807 ∧ l[k].2.size ≤ 9223372036854775807 := h.size _ (List.getElem_mem hk)
/-- A row of the call's own that holds the pairs l. -/
def Own (w : World) (base : Nat) (v : Value) (l : List Pr) : Prop := w.ownsRow base 73 2 v l.length (cells l)
theorem Own.rd {base c : Nat} (h : Own w base (.slice A l.length c) l) (hl : l.length ≤ 9223372036854775807) (hs : ∀ p ∈ l, p.1.size ≤ 9223372036854775807 ∧ p.2.size ≤ 9223372036854775807) : Rd w w.heap.size A l :=
  ⟨hl, hs, fun hn => by
    have h0 : 0 < l.length := List.length_pos_iff.2 hn
    rcases h.2 with ⟨_, e⟩ | ⟨g, cap, cur, hv, _, hg, _⟩
    · omega
    · have hA : A = some ⟨g, 0, none⟩ := by injection hv
      subst hA
      exact ⟨g, 0, rfl, (Array.getElem?_eq_some_iff.1 hg).1, fun j u hu => by have := World.ownsRow.cells h (g := g) rfl j u hu; simpa [Addr.add_lit] using this⟩⟩
theorem Own.slice {base : Nat} {v : Value} (h : Own w base v l) : ∃ A c, v = .slice A l.length c := by
  rcases h.2 with ⟨rfl, h0⟩ | ⟨g, cap, cur, rfl, _⟩
  · obtain rfl : l = [] := List.length_eq_zero_iff.1 h0
    exact ⟨none, 0, rfl⟩
  · exact ⟨_, cap, rfl⟩
end
end Go.Proofs.YtkoeggjfdcpokaaGreatDoor
namespace Go.Proofs.YtkoeggjfdcpokaaGreatDoor.Lx
open Go.Proofs.YtkoeggjfdcpokaaGreatDoor

theorem bodyGe : ∀ s : T, s.length ≤ (body s).length
  | [] => Nat.le_refl _
  | c :: s => by
    have ih := bodyGe s
    have e : body (c :: s) = esc c ++ body s := rfl
    have h1 : 1 ≤ (esc c).length := by
      unfold esc
      split
      · simp
      · split <;> simp
    rw [e, List.length_append, List.length_cons]
    omega
theorem txtGe (k : Nat) (s : T) : s.length ≤ (txt k s).length := by
  unfold txt
  split
  · have := bodyGe s
    simp only [quote, List.length_cons, List.length_append]
    omega
  · exact Nat.le_refl _
theorem lex_texts : ∀ (m : Nat) (l : T), ∀ t ∈ (lex m l).1, t.2.2.length ≤ l.length
  | 0, l => by
    unfold lex
    split <;> simp
  | m + 1, l => by
    intro t ht
    have hb := bl_len false l
    unfold lex at ht
    by_cases h : bl false l = []
    · rw [if_pos h] at ht; simp at ht
    · rw [if_neg h] at ht
      rcases ho : one (bl false l) with ⟨k, s, r, z⟩
      rw [ho] at ht
      by_cases hz : z = 0
      · subst hz
        rw [if_pos rfl] at ht
        have hs := congrArg List.length (one_src ho)
        rw [List.length_append] at hs
        have hg := txtGe k s
        rcases List.mem_cons.1 ht with rfl | ht
        · show s.length ≤ _
          omega
        · have := lex_texts m r t ht
          omega
      · rw [if_neg hz] at ht; simp at ht
end Go.Proofs.YtkoeggjfdcpokaaGreatDoor.Lx
namespace Go.Proofs.YtkoeggjfdcpokaaGreatDoor
theorem toks_size {l : Lx.T} {ts : List Tz} {x : Nat} {z : Int} (ha : allZ l = (ts, x, z)) (hl : l.length ≤ 1048576) : ∀ t ∈ ts, t.2.2.size ≤ 1048576 := by
  unfold allZ allT at ha
  simp only [Prod.mk.injEq] at ha
  obtain ⟨rfl, _, _⟩ := ha
  intro t ht
  obtain ⟨u, hu, rfl⟩ := List.mem_map.1 ht
  obtain ⟨v, hv, rfl⟩ := List.mem_map.1 hu
  have := Lx.lex_texts 65536 l v hv
  show (str v.2.2).size ≤ _
  rw [str_len]
  omega
end Go.Proofs.YtkoeggjfdcpokaaGreatDoor
namespace Go.Proofs.YtkoeggjfdcpokaaGreatDoor
open Go.RowKit Go.Proofs.YtkoeggjfdcpokaaGreatDoor.Lp
open Go.Proofs.YtkoeggjfdcpokaaGreatDoor.Sl (Mt Sel Tf)

def SaneC : Prop := ∀ (N : ByteArray) (A : Option Addr) (n c : Nat) (l : List Mt) (b : Bool), N.size ≤ 9223372036854775807 → n = l.length → Cap n c → Sl.saneS (N, l) = b → ∀ w : World, Rq w w.heap.size A l →
  Calls Tryz.prog 26 #[sv N A n c] w fun e w' => e = .returned (.bool b) ∧ Below w.heap.size w w'
def PrintC : Prop := ∀ (N : ByteArray) (A : Option Addr) (n c : Nat) (l : List Mt) (S : ByteArray), N.size ≤ 9223372036854775807 → n = l.length → Cap n c → S.data.toList = Sl.prS (N, l) → ∀ w : World, Rq w w.heap.size A l →
  Calls Tryz.prog 31 #[sv N A n c] w fun e w' => e = .returned (.string S) ∧ Below w.heap.size w w'
def ParseC : Prop := ∀ (B : Option Addr) (d q : Nat) (ts : List Tz) (i : Int) (M : ByteArray) (m : List Mt) (k x : Nat) (z : Int), q = ts.length → Cap q d → -9223372036854775808 ≤ i → i ≤ 9223372036854775807 → Sl.parse (ts.map flatK) i = ((M, m), x, z) → k = m.length → ∀ w : World, Rz w w.heap.size B ts →
  Calls Tryz.prog 40 #[.slice B q d, .int .i64 i] w fun e w' => ∃ A c, e = .returned (.tuple #[sv M A k c, .int .i64 (x : Int), .int .i64 z]) ∧ Hid (Rq w' w'.heap.size A m) ∧ Hid (Cap k c) ∧ Below w.heap.size w w'
end Go.Proofs.YtkoeggjfdcpokaaGreatDoor

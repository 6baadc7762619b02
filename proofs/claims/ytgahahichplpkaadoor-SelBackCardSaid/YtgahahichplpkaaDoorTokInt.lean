/-
  How a slice of tokens that came in reads in memory (any numbers); a row of such tokens of the call's own.
-/
import Derived.Test.YtgahahichplpkaaDoorTokMem
import Derived.IntWalk
import Derived.Deep.RegionHeld
import Derived.Deep.RegionHeldLaw
import Derived.Deep.AppendLies
namespace Go.Proofs.YtgahahichplpkaaDoor
open Go.RowKit

/-- A token as it may come in: its kind, its place, its text. -/
abbrev Tz := Int × Int × ByteArray
def zenc (t : Tz) : List Value := [.int .i64 t.1, .int .i64 t.2.1, .string t.2.2]
def zcells (l : List Tz) : List Value := l.flatMap zenc
theorem zcells_len : ∀ l : List Tz, (zcells l).length = l.length * 3
  | [] => rfl
  | p :: r => by
    show (zenc p ++ zcells r).length = _
    rw [List.length_append, zcells_len r, List.length_cons]
    show 3 + _ = _
    omega
theorem zcells_app (a b : List Tz) : zcells (a ++ b) = zcells a ++ zcells b := List.flatMap_append
theorem zcells_one' : ∀ (l : List Tz), ∀ u ∈ zcells l, u.oneCell' = true := by
  intro l u hu
  obtain ⟨p, _, hp⟩ := List.mem_flatMap.1 hu
  simp only [zenc, List.mem_cons, List.not_mem_nil, or_false] at hp
  rcases hp with rfl | rfl | rfl <;> rfl
theorem zcells_drop : ∀ (l : List Tz) (k : Nat), zcells (l.drop k) = (zcells l).drop (k * 3)
  | [], k => by simp [zcells]
  | p :: r, 0 => by simp [zcells]
  | p :: r, k + 1 => by
    rw [List.drop_succ_cons]
    show zcells (r.drop k) = List.drop ((k + 1) * 3) (zenc p ++ zcells r)
    rw [zcells_drop r k, show (k + 1) * 3 = k * 3 + 1 + 1 + 1 by omega]
    rfl
theorem zcells_take : ∀ (l : List Tz) (k : Nat), zcells (l.take k) = (zcells l).take (k * 3)
  | [], k => by simp [zcells]
  | p :: r, 0 => by simp [zcells]
  | p :: r, k + 1 => by
    rw [List.take_succ_cons]
    show zenc p ++ zcells (r.take k) = List.take ((k + 1) * 3) (zenc p ++ zcells r)
    rw [zcells_take r k, show (k + 1) * 3 = k * 3 + 1 + 1 + 1 by omega]
    rfl
theorem zcells_at (l : List Tz) (k : Nat) (h : k < l.length) : (zcells l)[k * 3]? = some (.int .i64 l[k].1) ∧ (zcells l)[k * 3 + 1]? = some (.int .i64 l[k].2.1) ∧ (zcells l)[k * 3 + 2]? = some (.string l[k].2.2) := by
  have e : zcells (l.drop k) = (zcells l).drop (k * 3) := zcells_drop l k
  rw [List.drop_eq_getElem_cons h] at e
  have e0 : ((zcells l).drop (k * 3))[0]? = some (.int .i64 l[k].1) := by rw [← e]; rfl
  have e1 : ((zcells l).drop (k * 3))[1]? = some (.int .i64 l[k].2.1) := by rw [← e]; rfl
  have e2 : ((zcells l).drop (k * 3))[2]? = some (.string l[k].2.2) := by rw [← e]; rfl
  rw [List.getElem?_drop] at e0 e1 e2
  exact ⟨e0, e1, e2⟩
/-- A slice (its address A) holds the tokens l, in blocks below B. -/
structure Rz (w : World) (B : Nat) (A : Option Addr) (l : List Tz) : Prop where
  len : l.length ≤ 9223372036854775807
  size : ∀ t ∈ l, t.2.2.size ≤ 9223372036854775807
  mem : l ≠ [] → ∃ b off, A = some ⟨b, off, none⟩ ∧ b < B ∧ ∀ j u, (zcells l)[j]? = some u → w.cell? ⟨b, off + j, none⟩ = some u
section
variable {w w' : World} {B : Nat} {A : Option Addr} {l : List Tz}
theorem Rz.none_ (w : World) (B : Nat) (A : Option Addr) : Rz w B A [] := ⟨by simp, by simp, fun h => absurd rfl h⟩
theorem Rz.on (h : Rz w w.heap.size A l) (hb : Below w.heap.size w w') : Rz w' w'.heap.size A l :=
  ⟨h.len, h.size, fun hn => by
    obtain ⟨b, off, e, hlt, hc⟩ := h.mem hn
    exact ⟨b, off, e, by have := hb.size; omega, fun j u hu => (hb.cell hlt).trans (hc j u hu)⟩⟩
theorem Rz.at_ (h : Rz w B A l) {k : Nat} (hk : k < l.length) :
    ∃ b off, A = some ⟨b, off, none⟩ ∧ b < B ∧ w.cell? ⟨b, off + k * 3, none⟩ = some (.int .i64 l[k].1) ∧ w.cell? ⟨b, off + k * 3 + 1, none⟩ = some (.int .i64 l[k].2.1) ∧ w.cell? ⟨b, off + k * 3 + 2, none⟩ = some (.string l[k].2.2) := by
  have hn : l ≠ [] := fun e => by subst e; simp at hk
  obtain ⟨b, off, e, hb, hc⟩ := h.mem hn
  obtain ⟨c0, c1, c2⟩ := zcells_at l k hk
  exact ⟨b, off, e, hb, hc _ _ c0, hc _ _ c1, hc _ _ c2⟩
theorem Rz.take (h : Rz w B A l) (k : Nat) : Rz w B A (l.take k) :=
  ⟨by have := h.len; rw [List.length_take]; omega, fun x hx => h.size x (List.mem_of_mem_take hx), fun hn => by
    have hl : l ≠ [] := fun e => hn (by rw [e]; simp)
    obtain ⟨b, off, e, hb, hc⟩ := h.mem hl
    refine ⟨b, off, e, hb, fun j u hu => hc j u ?_⟩
    rw [zcells_take, List.getElem?_take] at hu
    split at hu
    · exact hu
    · simp at hu⟩
end
/-- A row of the call's own that holds the tokens l. -/
def OwnZ (w : World) (base : Nat) (v : Value) (l : List Tz) : Prop := w.ownsRow base 39 3 v l.length (zcells l)
section
variable {w w' : World} {base : Nat} {v : Value} {l : List Tz}
theorem OwnZ.rz {c n : Nat} {A : Option Addr} (h : OwnZ w base (.slice A n c) l) (hl : l.length ≤ 9223372036854775807) (hs : ∀ t ∈ l, t.2.2.size ≤ 9223372036854775807) : Rz w w.heap.size A l :=
  ⟨hl, hs, fun hn => by
    have h0 : 0 < l.length := List.length_pos_iff.2 hn
    rcases h.2 with ⟨_, e⟩ | ⟨g, cap, cur, hv, _, hg, _⟩
    · omega
    · cases hv
      exact ⟨g, 0, rfl, (Array.getElem?_eq_some_iff.1 hg).1, fun j u hu => by have := World.ownsRow.cells h (g := g) rfl j u hu; simpa [Addr.add_lit] using this⟩⟩
theorem OwnZ.slice (h : OwnZ w base v l) : ∃ A c, v = .slice A l.length c ∧ Cap l.length c := by
  rcases h.2 with ⟨rfl, h0⟩ | ⟨g, cap, cur, rfl, _, _, hn, hm, _⟩
  · exact ⟨none, 0, by rw [h0], by omega, by omega⟩
  · exact ⟨_, cap, rfl, hn, by unfold maxLen at hm; omega⟩
theorem OwnZ.blk (h : OwnZ w base v l) : ∀ k, v.ownBlock = some k → base ≤ k := by
  intro k hk
  rcases h.2 with ⟨rfl, _⟩ | ⟨g, cap, cur, rfl, hb, _⟩
  · simp [Value.ownBlock] at hk
  · simp [Value.ownBlock] at hk
    omega
theorem OwnZ.below (h : OwnZ w base v l) (hb : Below w.heap.size w w') : OwnZ w' base v l := by
  refine ⟨h.1, ?_⟩
  rcases h.2 with h0 | ⟨g, cap, cur, hv, hbs, hg, hr⟩
  · exact .inl h0
  · exact .inr ⟨g, cap, cur, hv, hbs, (hb.block g (Array.getElem?_eq_some_iff.1 hg).1).trans hg, hr⟩
end
theorem OwnZ.nil (w : World) (base : Nat) : OwnZ w base (.slice none 0 0) [] := ⟨rfl, .inl ⟨rfl, rfl⟩⟩
theorem ownZ_made (w : World) : OwnZ (w.alloc (.cells #[] 39)) w.heap.size (.slice (some ⟨w.heap.size, 0, none⟩) 0 0) [] := World.ownsRow_made w #[] 0 (Nat.le_refl _) (Nat.zero_le _) (by simp)
theorem rz_new (w : World) (k a : Int) (s : ByteArray) (hs : s.size ≤ 9223372036854775807) :
    Rz (w.alloc (.cells #[.int .i64 k, .int .i64 a, .string s] 39)) (w.alloc (.cells #[.int .i64 k, .int .i64 a, .string s] 39)).heap.size (some ⟨w.heap.size, 0, none⟩) [(k, a, s)] := by
  refine ⟨by simp, ?_, fun _ => ⟨w.heap.size, 0, rfl, by simp, ?_⟩⟩
  · intro p hp
    simp only [List.mem_cons, List.not_mem_nil, or_false] at hp
    subst hp
    exact hs
  · intro j u hu
    match j, hu with
    | 0, hu => cases hu; go_simp
    | 1, hu => cases hu; go_simp
    | 2, hu => cases hu; go_simp
/-- One token more, at a step of a region that draws its order. -/
theorem step_tokz {w : World} {ops : Array Oper} {o : Oper} {a : Act} {K : Act → World → Prop} {Q : Exit → Act → World → Prop} {E : Prop} (hgd : o.guard = none) (s x : Operand)
    (ho : o.op = .call { callee := .builtin .append, args := #[s, x], argTypes := #[25, 25] })
    (base : Nat) (v : Value) (l : List Tz) (u : Tz) (hs : a.eval s = v) (hown : OwnZ w base v l) (ad : Addr) (hx : a.eval x = .slice (some ad) 1 1) (hr : Rz w w.heap.size (some ad) [u])
    (hlen : l.length ≤ 1000000) (hbase : base ≤ w.heap.size)
    (h : ∀ v' w', OwnZ w' base v' (l ++ [u]) → Below base w w' → K (a.put o.dst v') w') :
    if Region.wanted o (yielded ops a.tmps) = true then Oper.wp Tryd.prog o a w K Q else E := by
  obtain ⟨i0, hi, hz0, hz1, hz2⟩ := info_parts info_tok
  refine step_append_lies w hgd s x 25 ho base 39 i0 _ 3 32 Tryd.underlying25 hi hz0 hz1 hz2 rfl (by decide) v l.length (zcells l) hs hown ad 1 1 (zcells [u]) hx (by rw [zcells_len]; rfl) ?_ (zcells_one' _) (by omega) (by unfold maxLen; omega) (by omega) hbase _ rfl ?_
  · intro j y hj
    obtain ⟨b, off, e, _, hc⟩ := hr.mem (by simp)
    cases e
    have := hc j y hj
    rwa [Addr.add_lit]
  · intro g cap w' ho' hg _ _
    refine h _ w' ?_ ((Below.refl base w).grown hg hbase (OwnZ.blk hown))
    unfold OwnZ
    rw [zcells_app, List.length_append]
    exact ho'
theorem run_appz_none {w : World} {base : Nat} {v : Value} {n : Nat} {xs : List Value} (hown : w.ownsRow base 39 3 v n xs) (ty : TypeId) (A : Option Addr) (c : Nat) :
    (Builtin.append_ #[25, 25] ty #[v, .slice A 0 c]).run Tryd.prog w = .ok v w := by
  obtain ⟨i0, hi, _, _, _⟩ := info_parts info_tok
  rcases hown.2 with ⟨rfl, rfl⟩ | ⟨g, cap, cur, rfl, _, _, hnc, _⟩
  · cases A <;> simp [Builtin.append_, run_underlying Tryd.underlying25, sizeOf, typeInfo, hi, Builtin.lenOf, Builtin.firstCells, loadCells, loadCellsFrom]
  · cases A <;> simp [Builtin.append_, run_underlying Tryd.underlying25, sizeOf, typeInfo, hi, Builtin.lenOf, Builtin.firstCells, hnc, storeCells, loadCells, loadCellsFrom]
/-- 'append(row of the call's own, tokens...)'. -/
theorem wp_appz (w : World) {ops : Array Oper} {rest : List Oper} {o : Oper} {a : Act} {Q : Exit → Act → World → Prop} (hgd : o.guard = none) (s x : Operand)
    (ho : o.op = .call { callee := .builtin .append, args := #[s, x], argTypes := #[25, 25] })
    (base : Nat) (v : Value) (l m : List Tz) (hs : a.eval s = v) (hown : OwnZ w base v l) (A : Option Addr) (n c : Nat) (hn : n = m.length) (hx : a.eval x = .slice A n c) (hr : Rz w w.heap.size A m)
    (hlen : l.length + m.length ≤ 1000000) (hbase : base ≤ w.heap.size)
    (h : ∀ v' w', OwnZ w' base v' (l ++ m) → Below base w w' → wpList Tryd.prog ops Q rest (a.put o.dst v') w') : wpList Tryd.prog ops Q (o :: rest) a w := by
  subst hn
  obtain ⟨i0, hi, hz0, hz1, hz2⟩ := info_parts info_tok
  by_cases hm : m = []
  · subst hm
    refine wpList_plain hgd fun K hK => ?_
    have hrun := run_appz_none hown o.type A c
    unfold Oper.wp
    simp only [List.length_nil] at hx
    simp [execOp, ho, resolve, invoke, builtin, hs, hx, hrun, Result.andThen]
    exact hK _ _ (h v w (by simpa using hown) (Below.refl _ _))
  · obtain ⟨b, off, rfl, _, hc⟩ := hr.mem hm
    refine wpList_append_own _ hgd s x 25 ho base 39 i0 _ 3 32 Tryd.underlying25 hi hz0 hz1 hz2 rfl (by decide) v l.length (zcells l) hs hown ⟨b, off, none⟩ m.length c (zcells m) hx (zcells_len m) ?_ (zcells_one' m) (by unfold maxLen; omega) (by omega) hbase ?_
    · intro j u hj
      have := hc j u hj
      rwa [Addr.add_lit]
    · intro v' w' ho' hg _
      refine h v' w' ?_ ((Below.refl base w).grown hg hbase (OwnZ.blk hown))
      unfold OwnZ
      rw [zcells_app, List.length_append]
      exact ho'
/-- What lex tells, as any tokens. -/
def lz (t : Tk) : Tz := ((t.1 : Int), (t.2.1 : Int), t.2.2)
theorem zcells_lz (l : List Tk) : zcells (l.map lz) = tcells l := by
  unfold zcells tcells
  rw [List.flatMap_map]
  rfl
theorem Rt.z {w : World} {B : Nat} {A : Option Addr} {l : List Tk} (h : Rt w B A l) : Rz w B A (l.map lz) :=
  ⟨by rw [List.length_map]; exact h.len, fun t ht => by
    obtain ⟨u, hu, rfl⟩ := List.mem_map.1 ht
    exact h.size u hu, fun hn => by
    rw [zcells_lz]
    exact h.mem (fun e => hn (by rw [e]; rfl))⟩
theorem Rz.more {w : World} {B B' : Nat} {A : Option Addr} {l : List Tz} (h : Rz w B A l) (hB : B ≤ B') : Rz w B' A l :=
  ⟨h.len, h.size, fun hn => by
    obtain ⟨b, off, e, hb, hc⟩ := h.mem hn
    exact ⟨b, off, e, by omega, hc⟩⟩
theorem Rz.below {w w' : World} {B : Nat} {A : Option Addr} {l : List Tz} (h : Rz w B A l) (hb : Below B w w') : Rz w' B A l :=
  ⟨h.len, h.size, fun hn => by
    obtain ⟨b, off, e, hlt, hc⟩ := h.mem hn
    exact ⟨b, off, e, hlt, fun j u hu => (hb.cell hlt).trans (hc j u hu)⟩⟩
theorem Rz.get {w : World} {B : Nat} {A : Option Addr} {l : List Tz} (h : Rz w B A l) {k : Nat} {a b : Int} {c : ByteArray} (hk : l[k]? = some (a, b, c)) :
    ∃ g off, A = some ⟨g, off, none⟩ ∧ g < B ∧ w.cell? ⟨g, off + k * 3, none⟩ = some (.int .i64 a) ∧ w.cell? ⟨g, off + k * 3 + 1, none⟩ = some (.int .i64 b) ∧ w.cell? ⟨g, off + k * 3 + 2, none⟩ = some (.string c) := by
  obtain ⟨hlt, e⟩ := List.getElem?_eq_some_iff.1 hk
  obtain ⟨g, off, e1, e2, e3, e4, e5⟩ := h.at_ hlt
  rw [e] at e3 e4 e5
  exact ⟨g, off, e1, e2, e3, e4, e5⟩
theorem getZ {l : List Tz} {k : Nat} (h : k < l.length) : ∃ a b c, l[k]? = some (a, b, c) := ⟨_, _, _, List.getElem?_eq_getElem h⟩
theorem OwnZ.alloc {w : World} {base : Nat} {v : Value} {l : List Tz} (h : OwnZ w base v l) (o : Obj) : OwnZ (w.alloc o) base v l := World.ownsRow.alloc h o
theorem OwnZ.mono {w : World} {base base' : Nat} {v : Value} {l : List Tz} (h : OwnZ w base v l) (hb : base' ≤ base) : OwnZ w base' v l := by
  refine ⟨h.1, ?_⟩
  rcases h.2 with h0 | ⟨g, cap, cur, hv, hbs, hr⟩
  · exact .inl h0
  · exact .inr ⟨g, cap, cur, hv, by omega, hr⟩
end Go.Proofs.YtgahahichplpkaaDoor

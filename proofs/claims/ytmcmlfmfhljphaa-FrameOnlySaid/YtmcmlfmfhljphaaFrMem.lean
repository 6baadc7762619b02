/-
  How a slice of slices of octets reads in memory; a row of such slices of the call's own that is appended to.
-/
import Derived.Test.YtmcmlfmfhljphaaOct
import Derived.Test.YtmcmlfmfhljphaaFrPlain
namespace Go.Proofs.Ytmcmlfmfhljphaa
open Go.RowKit

abbrev Cap (k c : Nat) : Prop := k ≤ c ∧ c ≤ 9223372036854775807
theorem cap0 : Cap 0 0 := by decide
/-- The value is a slice that reads the octets p. -/
def Reads (w : World) (B : Nat) (v : Value) (p : List Nat) : Prop := ∃ A c, v = .slice A p.length c ∧ Cap p.length c ∧ Rb w B A p
theorem Reads.on {w w' : World} {v : Value} {p : List Nat} (h : Reads w w.heap.size v p) (hb : Below w.heap.size w w') : Reads w' w'.heap.size v p := by
  obtain ⟨A, c, e, hc, hr⟩ := h
  exact ⟨A, c, e, hc, hr.on hb⟩
/-- A slice (its address A) holds slices that read the octets L, one by one. -/
structure Rl (w : World) (B : Nat) (A : Option Addr) (L : List (List Nat)) : Prop where
  len : L.length ≤ 9223372036854775807
  mem : L ≠ [] → ∃ b off, A = some ⟨b, off, none⟩ ∧ b < B ∧ ∀ j p, L[j]? = some p → ∃ v, w.cell? ⟨b, off + j, none⟩ = some v ∧ Reads w B v p
section
variable {w w' : World} {B B' : Nat} {A : Option Addr} {L : List (List Nat)}
theorem Rl.none_ (w : World) (B : Nat) (A : Option Addr) : Rl w B A [] := ⟨by simp, fun h => absurd rfl h⟩
theorem Rl.on (h : Rl w w.heap.size A L) (hb : Below w.heap.size w w') : Rl w' w'.heap.size A L :=
  ⟨h.len, fun hn => by
    obtain ⟨b, off, e, hlt, hc⟩ := h.mem hn
    refine ⟨b, off, e, by have := hb.size; omega, fun j p hp => ?_⟩
    obtain ⟨v, h1, h2⟩ := hc j p hp
    exact ⟨v, (hb.cell hlt).trans h1, h2.on hb⟩⟩
theorem Rl.at_ (h : Rl w B A L) {k : Nat} (hk : k < L.length) :
    ∃ b off X c, A = some ⟨b, off, none⟩ ∧ b < B ∧ w.cell? ⟨b, off + k, none⟩ = some (.slice X L[k].length c) ∧ Cap L[k].length c ∧ Rb w B X L[k] := by
  have hn : L ≠ [] := fun e => by subst e; simp at hk
  obtain ⟨b, off, e, hb, hc⟩ := h.mem hn
  obtain ⟨v, h1, X, c, rfl, h2, h3⟩ := hc _ _ (List.getElem?_eq_getElem hk)
  exact ⟨b, off, X, c, e, hb, h1, h2, h3⟩
theorem Rl.take (h : Rl w B A L) (k : Nat) : Rl w B A (L.take k) :=
  ⟨by have := h.len; rw [List.length_take]; omega, fun hn => by
    obtain ⟨b, off, e, hb, hc⟩ := h.mem (fun e => hn (by rw [e]; simp))
    refine ⟨b, off, e, hb, fun j p hp => hc j p ?_⟩
    rw [List.getElem?_take] at hp
    split at hp
    · exact hp
    · simp at hp⟩
theorem Rl.cut (h : Rl w B A L) {c k : Nat} (hk : k ≤ L.length) (hc' : L.length ≤ c) : Rl w B (if c = k then A else A.map fun x => x.add k) (L.drop k) :=
  ⟨by have := h.len; rw [List.length_drop]; omega, fun hn => by
    have hlt : k < L.length := by
      rcases Nat.lt_or_ge k L.length with h' | h'
      · exact h'
      · exact absurd (List.drop_eq_nil_of_le h') hn
    obtain ⟨b, off, e, hb, hc⟩ := h.mem (fun e => by rw [e] at hlt; simp at hlt)
    rw [if_neg (by omega), e]
    refine ⟨b, off + k, by simp [Addr.add], hb, fun j p hp => ?_⟩
    rw [List.getElem?_drop] at hp
    rw [Nat.add_assoc]
    exact hc _ p hp⟩
theorem Rl.small (h : Rl w B A L) : ∀ p ∈ L, ∀ x ∈ p, x < 256 := by
  intro p hp
  obtain ⟨k, hk, rfl⟩ := List.getElem_of_mem hp
  obtain ⟨_, _, _, _, _, _, _, _, hr⟩ := h.at_ hk
  exact hr.small
end

/-! ### a row of slices of the call's own -/
def OwnV (w : World) (base : Nat) (v : Value) (vs : List Value) : Prop := w.ownsRow base 25 1 v vs.length vs
def EachReads (w : World) (B : Nat) (vs : List Value) (L : List (List Nat)) : Prop := vs.length = L.length ∧ ∀ (j : Nat) (p : List Nat), L[j]? = some p → ∃ v, vs[j]? = some v ∧ Reads w B v p
theorem EachReads.on {w w' : World} {vs : List Value} {L : List (List Nat)} (h : EachReads w w.heap.size vs L) (hb : Below w.heap.size w w') : EachReads w' w'.heap.size vs L :=
  ⟨h.1, fun j p hp => by
    obtain ⟨v, h1, h2⟩ := h.2 j p hp
    exact ⟨v, h1, h2.on hb⟩⟩
theorem EachReads.nil (w : World) (B : Nat) : EachReads w B [] [] := ⟨rfl, by simp⟩
theorem EachReads.app {w : World} {B : Nat} {vs us : List Value} {L M : List (List Nat)} (h : EachReads w B vs L) (k : EachReads w B us M) : EachReads w B (vs ++ us) (L ++ M) :=
  ⟨by rw [List.length_append, List.length_append, h.1, k.1], fun j p hp => by
    by_cases hj : j < L.length
    · rw [List.getElem?_append_left hj] at hp
      obtain ⟨v, h1, h2⟩ := h.2 j p hp
      exact ⟨v, by rw [List.getElem?_append_left (by rw [h.1]; exact hj)]; exact h1, h2⟩
    · rw [List.getElem?_append_right (by omega)] at hp
      obtain ⟨v, h1, h2⟩ := k.2 _ p hp
      exact ⟨v, by rw [List.getElem?_append_right (by rw [h.1]; omega), h.1]; exact h1, h2⟩⟩
/-- The slices that a slice holds, as values. -/
theorem Rl.values {w : World} {B : Nat} {A : Option Addr} {L : List (List Nat)} (h : Rl w B A L) : ∃ vs, EachReads w B vs L ∧ (L ≠ [] → ∃ b off, A = some ⟨b, off, none⟩ ∧ b < B ∧ ∀ j u, vs[j]? = some u → w.cell? ⟨b, off + j, none⟩ = some u) := by
  by_cases hn : L = []
  · subst hn
    exact ⟨[], EachReads.nil _ _, fun h => absurd rfl h⟩
  · obtain ⟨b, off, e, hb, hc⟩ := h.mem hn
    refine ⟨(List.range L.length).map fun j => (w.cell? ⟨b, off + j, none⟩).getD (.bool false), ⟨by simp, fun j p hp => ?_⟩, fun _ => ⟨b, off, e, hb, fun j u hu => ?_⟩⟩
    · obtain ⟨hj, _⟩ := List.getElem?_eq_some_iff.1 hp
      obtain ⟨v, h1, h2⟩ := hc j p hp
      exact ⟨v, by rw [List.getElem?_map, List.getElem?_range hj]; simp [h1], h2⟩
    · rw [List.getElem?_map] at hu
      obtain ⟨i, hi, rfl⟩ := Option.map_eq_some_iff.1 hu
      obtain ⟨hj, rfl⟩ := List.getElem?_eq_some_iff.1 hi
      simp only [List.length_range] at hj
      obtain ⟨v, h1, _⟩ := hc j L[j] (List.getElem?_eq_getElem hj)
      simp [h1]
theorem OwnV.rl {w : World} {base c n : Nat} {A : Option Addr} {vs : List Value} {L : List (List Nat)} (h : OwnV w base (.slice A n c) vs) (hv : EachReads w w.heap.size vs L) (hl : L.length ≤ 9223372036854775807) : Rl w w.heap.size A L :=
  ⟨hl, fun hn => by
    have h0 : 0 < L.length := List.length_pos_iff.2 hn
    rcases h.2 with ⟨_, e⟩ | ⟨g, cap, cur, hw, _, hg, _⟩
    · have := hv.1; omega
    · cases hw
      refine ⟨g, 0, rfl, (Array.getElem?_eq_some_iff.1 hg).1, fun j p hp => ?_⟩
      obtain ⟨v, h1, h2⟩ := hv.2 j p hp
      exact ⟨v, by have := World.ownsRow.cells h (g := g) rfl j v h1; simpa [Addr.add_lit] using this, h2⟩⟩
theorem OwnV.slice {w : World} {base : Nat} {v : Value} {vs : List Value} (h : OwnV w base v vs) : ∃ A c, v = .slice A vs.length c ∧ Cap vs.length c := by
  rcases h.2 with ⟨rfl, h0⟩ | ⟨g, cap, cur, rfl, _, _, hn, hm, _⟩
  · exact ⟨none, 0, by rw [h0], by omega, by omega⟩
  · exact ⟨_, cap, rfl, hn, by unfold maxLen at hm; omega⟩
theorem OwnV.base {w : World} {base : Nat} {v : Value} {l : List Value} (h : OwnV w base v l) : ∀ k, v.ownBlock = some k → base ≤ k := by
  intro k hk
  rcases h.2 with ⟨rfl, _⟩ | ⟨g, cap, cur, rfl, hb, _⟩
  · simp [Value.ownBlock] at hk
  · simp [Value.ownBlock] at hk
    omega
theorem OwnV.below {w w' : World} {base : Nat} {v : Value} {l : List Value} (h : OwnV w base v l) (hb : Below w.heap.size w w') : OwnV w' base v l := by
  refine ⟨h.1, ?_⟩
  rcases h.2 with h0 | ⟨g, cap, cur, hv, hbs, hg, hr⟩
  · exact .inl h0
  · exact .inr ⟨g, cap, cur, hv, hbs, (hb.block g (Array.getElem?_eq_some_iff.1 hg).1).trans hg, hr⟩
theorem OwnV.nil (w : World) (base : Nat) : OwnV w base (.slice none 0 0) [] := ⟨rfl, .inl ⟨rfl, rfl⟩⟩
theorem ownV_made (w : World) : OwnV (w.alloc (.cells #[] 25)) w.heap.size (.slice (some ⟨w.heap.size, 0, none⟩) 0 0) [] := World.ownsRow_made w #[] 0 (Nat.le_refl _) (Nat.zero_le _) (by simp)
theorem reads_one {w : World} {B : Nat} {v : Value} {p : List Nat} (h : Reads w B v p) : v.oneCell' = true := by
  obtain ⟨A, c, rfl, _⟩ := h
  rfl
theorem EachReads.one {w : World} {B : Nat} {vs : List Value} {L : List (List Nat)} (h : EachReads w B vs L) : ∀ u ∈ vs, u.oneCell' = true := by
  intro u hu
  obtain ⟨j, hj, rfl⟩ := List.getElem_of_mem hu
  have hj' : j < L.length := by rw [← h.1]; exact hj
  obtain ⟨v, h1, h2⟩ := h.2 j L[j] (List.getElem?_eq_getElem hj')
  rw [List.getElem?_eq_getElem hj] at h1
  cases h1
  exact reads_one h2
theorem info_row : (Try.prog.info? 25).map (fun i => (i.zero, i.size, i.bytes)) = some (some (.slice none 0 0), 1, 24) := by kernel_rfl
theorem run_appv_none {w : World} {base : Nat} {v : Value} {n : Nat} {xs : List Value} (hown : w.ownsRow base 25 1 v n xs) (ty : TypeId) (A : Option Addr) (c : Nat) :
    (Builtin.append_ #[22, 22] ty #[v, .slice A 0 c]).run Try.prog w = .ok v w := by
  obtain ⟨i0, hi, _, _, _⟩ := info_parts info_row
  rcases hown.2 with ⟨rfl, rfl⟩ | ⟨g, cap, cur, rfl, _, _, hnc, _⟩
  · cases A <;> simp [Builtin.append_, run_underlying Try.underlying22, sizeOf, typeInfo, hi, Builtin.lenOf, Builtin.firstCells, loadCells, loadCellsFrom]
  · cases A <;> simp [Builtin.append_, run_underlying Try.underlying22, sizeOf, typeInfo, hi, Builtin.lenOf, Builtin.firstCells, hnc, storeCells, loadCells, loadCellsFrom]
/-- 'append(row of the call's own, a slice's slices...)'. -/
theorem wp_appv (w : World) {ops : Array Oper} {rest : List Oper} {o : Oper} {a : Act} {Q : Exit → Act → World → Prop} (hgd : o.guard = none) (s x : Operand)
    (ho : o.op = .call { callee := .builtin .append, args := #[s, x], argTypes := #[22, 22] })
    (base : Nat) (v : Value) (l m : List Value) (hs : a.eval s = v) (hown : OwnV w base v l) (A : Option Addr) (n c : Nat) (hn : n = m.length) (hx : a.eval x = .slice A n c)
    (hr : m ≠ [] → ∃ b off, A = some ⟨b, off, none⟩ ∧ b < w.heap.size ∧ ∀ j u, m[j]? = some u → w.cell? ⟨b, off + j, none⟩ = some u) (h1 : ∀ u ∈ m, u.oneCell' = true)
    (hlen : l.length + m.length ≤ 1000000) (hbase : base ≤ w.heap.size)
    (h : ∀ v' w', OwnV w' base v' (l ++ m) → Below base w w' → wpList Try.prog ops Q rest (a.put o.dst v') w') : wpList Try.prog ops Q (o :: rest) a w := by
  subst hn
  obtain ⟨i0, hi, hz0, hz1, hz2⟩ := info_parts info_row
  by_cases hm : m = []
  · subst hm
    refine wpList_plain hgd fun K hK => ?_
    have hrun := run_appv_none hown o.type A c
    unfold Oper.wp
    simp only [List.length_nil] at hx
    simp [execOp, ho, resolve, invoke, builtin, hs, hx, hrun, Result.andThen]
    exact hK _ _ (h v w (by simpa using hown) (Below.refl _ _))
  · obtain ⟨b, off, rfl, _, hc⟩ := hr hm
    refine wpList_append_own _ hgd s x 22 ho base 25 i0 _ 1 24 Try.underlying22 hi hz0 hz1 hz2 rfl (by decide) v l.length l hs hown ⟨b, off, none⟩ m.length c m hx (by omega) ?_ h1 (by unfold maxLen; omega) (by omega) hbase ?_
    · intro j u hj
      have := hc j u hj
      rwa [Addr.add_lit]
    · intro v' w' ho' hg _
      refine h v' w' ?_ ((Below.refl base w).grown hg hbase (OwnV.base hown))
      unfold OwnV
      rw [List.length_append]
      exact ho'
end Go.Proofs.Ytmcmlfmfhljphaa

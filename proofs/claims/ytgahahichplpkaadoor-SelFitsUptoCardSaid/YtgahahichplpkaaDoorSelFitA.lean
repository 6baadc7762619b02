/-
  Of SelFits: a literal with a list that grows, whatever the order of its parts.
-/
import Derived.Test.YtgahahichplpkaaDoorSelRefR
import Derived.Test.YtgahahichplpkaaDoorSelRefF
import Derived.Test.YtgahahichplpkaaDoorSelApart
import Derived.Deep.RegionHeldLaw
namespace Go.Proofs.YtgahahichplpkaaDoor
open Go.RowKit Go.Proofs.YtgahahichplpkaaDoor.Lp
open Go.Proofs.YtgahahichplpkaaDoor.Sl (Mt Sel Tf)

/-- A match's variable. -/
structure Bm (w : World) (P : Nat) (a b : ByteArray) (c : Bool) : Prop where
  c0 : w.cell? ⟨P, 0, none⟩ = some (.string a)
  c1 : w.cell? ⟨P, 1, none⟩ = some (.string b)
  c2 : w.cell? ⟨P, 2, none⟩ = some (.bool c)
  lt : P < w.heap.size
theorem Bm.on {w w' : World} {P : Nat} {a b : ByteArray} {c : Bool} (h : Bm w P a b c) (hb : Below w.heap.size w w') : Bm w' P a b c :=
  ⟨(hb.cell (p := ⟨P, 0, none⟩) h.lt).trans h.c0, (hb.cell (p := ⟨P, 1, none⟩) h.lt).trans h.c1, (hb.cell (p := ⟨P, 2, none⟩) h.lt).trans h.c2, Nat.lt_of_lt_of_le h.lt hb.size⟩
theorem box_sm (w : World) (N : ByteArray) (A : Option Addr) (n c : Nat) (a b : ByteArray) (t : Bool) :
    ∃ W P, (w.alloc (Obj.cells #[Value.string N, Value.slice A n c] 24)).alloc (Obj.cells #[Value.string a, Value.string b, Value.bool t] 45) = W ∧ w.heap.size = P ∧ Below P w W ∧ Bx W P N A n c ∧ Bm W (P + 1) a b t := by
  obtain ⟨W1, P, hW1, hP, hb1, d0, d1, hPW1⟩ := box_sel w N A n c
  have hs : W1.heap.size = P + 1 := by rw [← hW1, ← hP]; show (w.heap.push _).size = _; rw [Array.size_push]
  have hb2 := below_alloc W1 (Obj.cells #[Value.string a, Value.string b, Value.bool t] 45)
  refine ⟨_, P, rfl, hP, ?_, ?_, ?_⟩
  · rw [hW1]; exact hb1.trans (hb2.mono (by omega))
  · rw [hW1]; exact (Bx.mk d0 d1 hPW1).on hb2
  · rw [hW1]; exact ⟨World.cell?_alloc_at _ _ _ _ hs.symm, World.cell?_alloc_at _ _ _ _ hs.symm, World.cell?_alloc_at _ _ _ _ hs.symm, by show _ < (W1.heap.push _).size; rw [Array.size_push]; omega⟩
/-- Matches behind a row of the call's own, at a step of a region that draws its order. -/
theorem step_appq {w : World} {ops : Array Oper} {o : Oper} {a : Act} {K : Act → World → Prop} {Q : Exit → Act → World → Prop} {E : Prop} (hgd : o.guard = none) (s x : Operand)
    (ho : o.op = .call { callee := .builtin .append, args := #[s, x], argTypes := #[22, 22] })
    (base : Nat) (v : Value) (l m : List Mt) (hs : a.eval s = v) (hown : OwnQ w base v l) (A : Option Addr) (n c : Nat) (hn : n = m.length) (hx : a.eval x = .slice A n c) (hr : Rq w w.heap.size A m)
    (hlen : l.length + m.length ≤ 1000000) (hbase : base ≤ w.heap.size)
    (h : ∀ v' w', OwnQ w' base v' (l ++ m) → Below base w w' → w.grownBy w' v.ownBlock → K (a.put o.dst v') w') :
    if Region.wanted o (yielded ops a.tmps) = true then Oper.wp Tryd.prog o a w K Q else E := by
  subst hn
  have hw : Region.wanted o (yielded ops a.tmps) = true := by simp [Region.wanted, hgd]
  obtain ⟨i0, hi, hz0, hz1, hz2⟩ := info_parts info_mat
  by_cases hm : m = []
  · subst hm
    rw [if_pos hw]
    have hrun := run_appq_none hown o.type A c
    unfold Oper.wp
    simp only [List.length_nil] at hx
    simp [execOp, ho, resolve, invoke, builtin, hs, hx, hrun, Result.andThen]
    exact h v w (by simpa using hown) (Below.refl _ _) ⟨rfl, rfl, rfl, Nat.le_refl _, fun _ _ _ => rfl⟩
  · obtain ⟨b, off, rfl, _, hc⟩ := hr.mem hm
    refine step_append_lies w hgd s x 22 ho base 45 i0 _ 3 40 Tryd.underlying22 hi hz0 hz1 hz2 rfl (by decide) v l.length (mcells l) hs hown ⟨b, off, none⟩ m.length c (mcells m) hx (mcells_len m) ?_ (mcells_one' m) (List.length_pos_iff.2 hm) (by unfold maxLen; omega) (by omega) hbase _ rfl ?_
    · intro j u hj
      have := hc j u hj
      rwa [Addr.add_lit]
    · intro g cap w' ho' hg _ _
      refine h _ w' ?_ ((Below.refl base w).grown hg hbase (OwnQ.blk hown)) hg
      unfold OwnQ
      rw [mcells_app, List.length_append]
      exact ho'
theorem rq_at {w : World} {P : Nat} {a b : ByteArray} {t : Bool} (ha : a.size ≤ 9223372036854775807) (hb : b.size ≤ 9223372036854775807) (h0 : w.cell? ⟨P, 0, none⟩ = some (.string a)) (h1 : w.cell? ⟨P, 1, none⟩ = some (.string b)) (h2 : w.cell? ⟨P, 2, none⟩ = some (.bool t)) (hlt : P < w.heap.size) :
    Rq w w.heap.size (some ⟨P, 0, none⟩) [(a, b, t)] := by
  refine ⟨by simp, ?_, fun _ => ⟨P, 0, rfl, hlt, ?_⟩⟩
  · intro p hp
    simp only [List.mem_cons, List.not_mem_nil, or_false] at hp
    subst hp
    exact ⟨ha, hb⟩
  · intro j u hu
    rw [Nat.zero_add]
    match j, hu with
    | 0, hu => cases hu; exact h0
    | 1, hu => cases hu; exact h1
    | 2, hu => cases hu; exact h2
/-! ### a literal with a list that grows, whatever the order -/
theorem bal {U V : World} {o : Obj} (h : Below U.heap.size U V) : Below U.heap.size U (V.alloc o) := h.alloc h.size o
theorem ownQ_at {V : World} {k base : Nat} (h : V.heap[k]? = some (.cells #[] 45 (0, 0))) (hk : base ≤ k) : OwnQ V base (.slice (some ⟨k, 0, none⟩) 0 0) [] :=
  ⟨rfl, .inr ⟨k, 0, #[], rfl, hk, h, Nat.le_refl _, by unfold maxLen; omega, rfl, rfl⟩⟩
theorem cell_of {w : World} {P : Nat} {C : Array Value} {e : TypeId} {fr : Nat × Nat} (h : w.heap[P]? = some (.cells C e fr)) (d : Nat) : w.cell? ⟨P, d, none⟩ = C[d]? := by simp [World.cell?, h]
theorem frozen_of {w : World} {P : Nat} {C : Array Value} {e : TypeId} (h : w.heap[P]? = some (.cells C e (0, 0))) (d : Nat) : w.frozen? ⟨P, d, none⟩ = false := by simp [World.frozen?, h]
theorem rq_heap {w : World} {P : Nat} {a b : ByteArray} {t : Bool} (ha : a.size ≤ 9223372036854775807) (hb : b.size ≤ 9223372036854775807) (h : w.heap[P]? = some (.cells #[.string a, .string b, .bool t] 45 (0, 0))) :
    Rq w w.heap.size (some ⟨P, 0, none⟩) [(a, b, t)] :=
  rq_at ha hb (cell_of h 0) (cell_of h 1) (cell_of h 2) (Array.getElem?_eq_some_iff.1 h).1
theorem heap_new {w : World} {o : Obj} {k : Nat} (h : k = w.heap.size) : (w.alloc o).heap[k]? = some o := by subst h; exact heap_alloc_new w o
theorem heap_old {w : World} {o x : Obj} {k : Nat} (h : w.heap[k]? = some x) : (w.alloc o).heap[k]? = some x := by
  rw [heap_alloc_old w o (Array.getElem?_eq_some_iff.1 h).1]; exact h
theorem keepX {w w' : World} {k kc : Nat} {X E : Obj} (h : w.heap[kc]? = some X) (hE : w.heap[k]? = some E) (hne : X ≠ E) (hg : w.grownBy w' (some k)) : w'.heap[kc]? = some X := by
  rw [hg.block kc (Array.getElem?_eq_some_iff.1 h).1 (fun e => by
    injection e with e
    subst e
    rw [h] at hE
    injection hE with hE
    exact hne hE)]
  exact h
theorem keepL {w w' : World} {base k : Nat} {v : Value} {l : List Mt} {C : Array Value} {e : TypeId} {fr : Nat × Nat} (h : w.heap[k]? = some (.cells C e fr)) (hown : OwnQ w base v l) (he : e ≠ 45) (hg : w.grownBy w' v.ownBlock) : w'.heap[k]? = some (.cells C e fr) := by
  rw [hg.block k (Array.getElem?_eq_some_iff.1 h).1 (fun hk => by
    rcases hown.2 with ⟨rfl, _⟩ | ⟨g, cap, cur, rfl, _, hgg, _⟩
    · simp [Value.ownBlock] at hk
    · simp only [Value.ownBlock, Option.some.injEq] at hk
      subst hk
      rw [hgg] at h
      injection h with h
      injection h with _ h2
      exact he h2.symm)]
  exact h
theorem bset {U V : World} {k : Nat} {a b : Value} (h : Below U.heap.size U V) (hk : U.heap.size ≤ k) : Below U.heap.size U ((V.setCell ⟨k, 0, none⟩ a).setCell ⟨k, 1, none⟩ b) := (h.setCell (p := ⟨k, 0, none⟩) hk _).setCell (p := ⟨k, 1, none⟩) hk _
/-- The literal stored. -/
theorem set_sel {U W : World} {k : Nat} {N : ByteArray} {A : Option Addr} {q c : Nat} {L : List Mt} (h : W.heap[k]? = some (.cells #[.string ⟨#[]⟩, .slice none 0 0] 24 (0, 0))) (hcur : Below U.heap.size U W) (hk : U.heap.size ≤ k)
    (hown : OwnQ W U.heap.size (.slice A q c) L) (hl : L.length ≤ 9223372036854775807) (hs : ∀ t ∈ L, t.1.size ≤ 9223372036854775807 ∧ t.2.1.size ≤ 9223372036854775807) {V : World} (hV : V = (W.setCell ⟨k, 0, none⟩ (.string N)).setCell ⟨k, 1, none⟩ (.slice A q c)) :
    Below U.heap.size U V ∧ Bx V k N A q c ∧ Rq V V.heap.size A L := by
  have c0 : W.cell? ⟨k, 0, none⟩ = some (.string ⟨#[]⟩) := cell_of h 0
  have c1 : W.cell? ⟨k, 1, none⟩ = some (.slice none 0 0) := cell_of h 1
  have n1 : (⟨k, 0, none⟩ : Addr) ≠ ⟨k, 1, none⟩ := by simp
  have n2 : (⟨k, 1, none⟩ : Addr) ≠ ⟨k, 0, none⟩ := by simp
  have hblk : ∀ g, g ≠ k → V.heap[g]? = W.heap[g]? := fun g hg => by
    rw [hV]
    exact (Below.heap_setCell _ _ _ g (by show g ≠ k; exact hg)).trans (Below.heap_setCell _ _ _ g (by show g ≠ k; exact hg))
  have v0 : V.cell? ⟨k, 0, none⟩ = some (.string N) := by rw [hV]; exact (World.cell?_setCell_other _ _ _ _ n2).trans (World.cell?_setCell_same _ _ _ c0)
  have v1 : V.cell? ⟨k, 1, none⟩ = some (.slice A q c) := by rw [hV]; exact World.cell?_setCell_same _ _ _ ((World.cell?_setCell_other _ _ _ _ n1).trans c1)
  refine ⟨hV ▸ bset hcur hk, ⟨v0, v1, World.block_lt_of_cell? V ⟨k, 0, none⟩ v0⟩, ?_⟩
  · have hown' : OwnQ V U.heap.size (.slice A q c) L := by
      refine ⟨hown.1, ?_⟩
      rcases hown.2 with h0 | ⟨g, cap, cur, hv, hbs, hg, hr⟩
      · exact .inl h0
      · refine .inr ⟨g, cap, cur, hv, hbs, (hblk g fun e => ?_).trans hg, hr⟩
        subst e
        rw [h] at hg
        injection hg with hg
        injection hg with _ h2
        exact absurd h2 (by decide)
    exact hown'.rq hl hs
end Go.Proofs.YtgahahichplpkaaDoor

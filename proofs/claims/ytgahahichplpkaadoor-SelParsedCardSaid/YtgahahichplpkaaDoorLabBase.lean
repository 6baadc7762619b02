/-
  How a slice of pairs reads in memory, that it outlives what a call does, and small facts on worlds.
-/
import Derived.Test.YtgahahichplpkaaDoorWb
import Derived.Test.YtgahahichplpkaaDoorLabFacts
namespace Go.Proofs.YtgahahichplpkaaDoor
open Go.RowKit Go.Proofs.YtgahahichplpkaaDoor.Lp

/-! ### pairs in memory -/
def enc (p : Pr) : List Value := [.string p.1, .string p.2]
def cells (l : List Pr) : List Value := l.flatMap enc
theorem cells_len : ∀ l : List Pr, (cells l).length = l.length * 2
  | [] => rfl
  | p :: r => by
    show (enc p ++ cells r).length = _
    rw [List.length_append, cells_len r, List.length_cons]
    show 2 + _ = _
    omega
theorem cells_app (a b : List Pr) : cells (a ++ b) = cells a ++ cells b := List.flatMap_append
theorem cells_one (p : Pr) : cells [p] = enc p := rfl
theorem cells_one' : ∀ (l : List Pr), ∀ u ∈ cells l, u.oneCell' = true := by
  intro l u hu
  obtain ⟨p, _, hp⟩ := List.mem_flatMap.1 hu
  simp only [enc, List.mem_cons, List.not_mem_nil, or_false] at hp
  rcases hp with rfl | rfl <;> rfl
theorem cells_take : ∀ (l : List Pr) (k : Nat), cells (l.take k) = (cells l).take (k * 2)
  | [], k => by simp [cells]
  | p :: r, 0 => by simp [cells]
  | p :: r, k + 1 => by
    rw [List.take_succ_cons]
    show enc p ++ cells (r.take k) = List.take ((k + 1) * 2) (enc p ++ cells r)
    rw [cells_take r k, show (k + 1) * 2 = k * 2 + 1 + 1 by omega]
    rfl
theorem cells_drop : ∀ (l : List Pr) (k : Nat), cells (l.drop k) = (cells l).drop (k * 2)
  | [], k => by simp [cells]
  | p :: r, 0 => by simp [cells]
  | p :: r, k + 1 => by
    rw [List.drop_succ_cons]
    show cells (r.drop k) = List.drop ((k + 1) * 2) (enc p ++ cells r)
    rw [cells_drop r k, show (k + 1) * 2 = k * 2 + 1 + 1 by omega]
    rfl
theorem cells_at (l : List Pr) (k : Nat) (h : k < l.length) : (cells l)[k * 2]? = some (.string l[k].1) ∧ (cells l)[k * 2 + 1]? = some (.string l[k].2) := by
  have e : cells (l.drop k) = (cells l).drop (k * 2) := cells_drop l k
  rw [List.drop_eq_getElem_cons h] at e
  have e0 : ((cells l).drop (k * 2))[0]? = some (.string l[k].1) := by rw [← e]; rfl
  have e1 : ((cells l).drop (k * 2))[1]? = some (.string l[k].2) := by rw [← e]; rfl
  rw [List.getElem?_drop] at e0 e1
  exact ⟨e0, e1⟩

/-- A slice (its address A) holds the pairs l, in blocks below B. -/
structure Rd (w : World) (B : Nat) (A : Option Addr) (l : List Pr) : Prop where
  len : l.length ≤ 9223372036854775807
  size : ∀ p ∈ l, p.1.size ≤ 9223372036854775807 ∧ p.2.size ≤ 9223372036854775807
  mem : l ≠ [] → ∃ b off, A = some ⟨b, off, none⟩ ∧ b < B ∧ ∀ j u, (cells l)[j]? = some u → w.cell? ⟨b, off + j, none⟩ = some u

section
variable {w w' : World} {B B' : Nat} {A : Option Addr} {l : List Pr}
theorem Rd.none_ (w : World) (B : Nat) (A : Option Addr) : Rd w B A [] := ⟨by simp, by simp, fun h => absurd rfl h⟩
theorem Rd.keep (h : Rd w B A l) (hk : ∀ p : Addr, p.block < B → w'.cell? p = w.cell? p) : Rd w' B A l :=
  ⟨h.len, h.size, fun hn => by
    obtain ⟨b, off, e, hb, hc⟩ := h.mem hn
    exact ⟨b, off, e, hb, fun j u hu => (hk _ hb).trans (hc j u hu)⟩⟩
theorem Rd.more (h : Rd w B A l) (hB : B ≤ B') : Rd w B' A l :=
  ⟨h.len, h.size, fun hn => by
    obtain ⟨b, off, e, hb, hc⟩ := h.mem hn
    exact ⟨b, off, e, by omega, hc⟩⟩
theorem Rd.below (h : Rd w B A l) (hb : Below B w w') : Rd w' B A l := h.keep fun _ hp => hb.cell hp
/-- What holds at a world holds behind a call from there. -/
theorem Rd.on (h : Rd w w.heap.size A l) (hb : Below w.heap.size w w') : Rd w' w'.heap.size A l := (h.below hb).more hb.size
theorem Rd.pair (h : Rd w B A l) {k : Nat} (hk : k < l.length) :
    ∃ b off, A = some ⟨b, off, none⟩ ∧ b < B ∧ w.cell? ⟨b, off + k * 2, none⟩ = some (.string l[k].1) ∧ w.cell? ⟨b, off + k * 2 + 1, none⟩ = some (.string l[k].2) := by
  have hn : l ≠ [] := fun e => by subst e; simp at hk
  obtain ⟨b, off, e, hb, hc⟩ := h.mem hn
  obtain ⟨c0, c1⟩ := cells_at l k hk
  exact ⟨b, off, e, hb, hc _ _ c0, hc _ _ c1⟩
theorem Rd.all (h : Rd w B A l) (hn : 0 < l.length) :
    ∃ b off, A = some ⟨b, off, none⟩ ∧ b < B ∧ ∀ k p, l[k]? = some p → w.cell? ⟨b, off + k * 2, none⟩ = some (.string p.1) ∧ w.cell? ⟨b, off + k * 2 + 1, none⟩ = some (.string p.2) := by
  obtain ⟨b, off, e, hb, hc⟩ := h.mem (List.length_pos_iff.1 hn)
  refine ⟨b, off, e, hb, fun k p hp => ?_⟩
  obtain ⟨hk, rfl⟩ := List.getElem?_eq_some_iff.1 hp
  exact ⟨hc _ _ (cells_at l k hk).1, hc _ _ (cells_at l k hk).2⟩
theorem Rd.sizes (h : Rd w B A l) {k : Nat} (hk : k < l.length) : l[k].1.size ≤ 9223372036854775807 ∧ l[k].2.size ≤ 9223372036854775807 := h.size _ (List.getElem_mem hk)
/-- A row of the call's own that holds the pairs l. -/
def Own (w : World) (base : Nat) (v : Value) (l : List Pr) : Prop := w.ownsRow base 48 2 v l.length (cells l)
theorem Own.rd {base c : Nat} (h : Own w base (.slice A l.length c) l) (hl : l.length ≤ 9223372036854775807) (hs : ∀ p ∈ l, p.1.size ≤ 9223372036854775807 ∧ p.2.size ≤ 9223372036854775807) : Rd w w.heap.size A l :=
  ⟨hl, hs, fun hn => by
    have h0 : 0 < l.length := List.length_pos_iff.2 hn
    rcases h.2 with ⟨_, e⟩ | ⟨g, cap, cur, hv, _, hg, _⟩
    · omega
    · have hA : A = some ⟨g, 0, none⟩ := by injection hv
      subst hA
      exact ⟨g, 0, rfl, (Array.getElem?_eq_some_iff.1 hg).1, fun j u hu => by have := World.ownsRow.cells h (g := g) rfl j u hu; simpa [Addr.add_lit] using this⟩⟩
theorem Own.slice {base : Nat} {v : Value} (h : Own w base v l) : ∃ A c, v = .slice A l.length c := by
  rcases h.2 with ⟨rfl, h0⟩ | ⟨g, cap, cur, rfl, _⟩
  · obtain rfl : l = [] := List.length_eq_zero_iff.1 h0
    exact ⟨none, 0, rfl⟩
  · exact ⟨_, cap, rfl⟩
end
end Go.Proofs.YtgahahichplpkaaDoor

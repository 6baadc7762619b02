/-
  How a slice of octets reads in memory, that it outlives what a call does, and small facts on worlds and whole numbers of 8 and 32 bits.
-/
import Derived.Test.YtahghjggkigehaaProg
import Derived.Test.YtahghjggkigehaaCrcPlain
import Derived.WalkKit
import Derived.WalkSpells
import Derived.WalkLawsBesides
import Derived.BigCall
import Derived.Lib.Hide
import Derived.Sort.Grow
import Derived.OwnWalk
import Derived.Deep.LoopGhost
import Derived.Deep.QuietTactic
import Derived.BigQuiet
import Derived.Outline
import Derived.Laws.BitsAllLaws
namespace Go.Proofs.Ytahghjggkigehaa
open Go.RowKit Go.Proofs.Ytahghjggkigehaa.Kp

/-! ### worlds -/
theorem cell_lt {w : World} {a : Addr} {v : Value} (h : w.cell? a = some v) : a.block < w.heap.size := by
  rcases Nat.lt_or_ge a.block w.heap.size with h' | h'
  · exact h'
  · unfold World.cell? at h
    rw [Array.getElem?_eq_none h'] at h; simp at h
theorem below_drewN (w : World) (k : Nat) : Below w.heap.size w (w.drewN k) := ⟨rfl, rfl, rfl, Nat.le_refl _, fun _ _ => rfl⟩
theorem below_on {w a b : World} (h : Below w.heap.size w a) (k : Below a.heap.size a b) : Below w.heap.size w b := h.trans (k.mono h.size)
theorem below_grow (w : World) (k : Nat) (os : Array Obj) : Below w.heap.size w (Sort.grow (w.drewN k) os) :=
  ⟨rfl, rfl, rfl, by simp, fun i hi => by rw [Sort.heap_grow_old _ _ (by simpa using hi)]; rfl⟩
theorem below_alloc (w : World) (o : Obj) : Below w.heap.size w (w.alloc o) := (Below.refl _ _).alloc (Nat.le_refl _) o

/-! ### octets in memory -/
def oct (x : Nat) : Value := .int .u8 (x : Int)
/-- A slice (its address A) holds the octets l, in blocks below B. -/
structure Rb (w : World) (B : Nat) (A : Option Addr) (l : List Nat) : Prop where
  len : l.length ≤ 9223372036854775807
  small : ∀ x ∈ l, x < 256
  mem : l ≠ [] → ∃ b off, A = some ⟨b, off, none⟩ ∧ b < B ∧ ∀ j u, l[j]? = some u → w.cell? ⟨b, off + j, none⟩ = some (oct u)

section
variable {w w' : World} {B B' : Nat} {A : Option Addr} {l : List Nat}
theorem Rb.none_ (w : World) (B : Nat) (A : Option Addr) : Rb w B A [] := ⟨by simp, by simp, fun h => absurd rfl h⟩
theorem Rb.keep (h : Rb w B A l) (hk : ∀ p : Addr, p.block < B → w'.cell? p = w.cell? p) : Rb w' B A l :=
  ⟨h.len, h.small, fun hn => by
    obtain ⟨b, off, e, hb, hc⟩ := h.mem hn
    exact ⟨b, off, e, hb, fun j u hu => (hk _ hb).trans (hc j u hu)⟩⟩
theorem Rb.more (h : Rb w B A l) (hB : B ≤ B') : Rb w B' A l :=
  ⟨h.len, h.small, fun hn => by
    obtain ⟨b, off, e, hb, hc⟩ := h.mem hn
    exact ⟨b, off, e, by omega, hc⟩⟩
theorem Rb.below (h : Rb w B A l) (hb : Below B w w') : Rb w' B A l := h.keep fun _ hp => hb.cell hp
/-- What holds at a world holds behind a call from there. -/
theorem Rb.on (h : Rb w w.heap.size A l) (hb : Below w.heap.size w w') : Rb w' w'.heap.size A l := (h.below hb).more hb.size
theorem Rb.at_ (h : Rb w B A l) {k : Nat} (hk : k < l.length) :
    ∃ b off, A = some ⟨b, off, none⟩ ∧ b < B ∧ w.cell? ⟨b, off + k, none⟩ = some (oct l[k]) := by
  have hn : l ≠ [] := fun e => by subst e; simp at hk
  obtain ⟨b, off, e, hb, hc⟩ := h.mem hn
  exact ⟨b, off, e, hb, hc _ _ (List.getElem?_eq_getElem hk)⟩
theorem Rb.all (h : Rb w B A l) (hn : 0 < l.length) :
    ∃ b off, A = some ⟨b, off, none⟩ ∧ b < B ∧ ∀ k x, l[k]? = some x → w.cell? ⟨b, off + k, none⟩ = some (oct x) := h.mem (List.length_pos_iff.1 hn)
theorem Rb.take (h : Rb w B A l) (k : Nat) : Rb w B A (l.take k) :=
  ⟨by have := h.len; rw [List.length_take]; omega, fun x hx => h.small x (List.mem_of_mem_take hx), fun hn => by
    have hl : l ≠ [] := fun e => hn (by rw [e]; simp)
    obtain ⟨b, off, e, hb, hc⟩ := h.mem hl
    refine ⟨b, off, e, hb, fun j u hu => hc j u ?_⟩
    rw [List.getElem?_take] at hu
    split at hu
    · exact hu
    · simp at hu⟩
/-- The slice from k on. -/
theorem Rb.cut (h : Rb w B A l) {c k : Nat} (hk : k ≤ l.length) (hc' : l.length ≤ c) : Rb w B (if c = k then A else A.map fun x => x.add k) (l.drop k) :=
  ⟨by have := h.len; rw [List.length_drop]; omega, fun x hx => h.small x (List.mem_of_mem_drop hx), fun hn => by
    have hl : l ≠ [] := fun e => hn (by rw [e]; simp)
    have hlt : k < l.length := by
      rcases Nat.lt_or_ge k l.length with h' | h'
      · exact h'
      · exact absurd (List.drop_eq_nil_of_le h') hn
    obtain ⟨b, off, e, hb, hc⟩ := h.mem hl
    rw [if_neg (by omega), e]
    refine ⟨b, off + k, by simp [Addr.add], hb, fun j u hu => ?_⟩
    rw [List.getElem?_drop] at hu
    rw [Nat.add_assoc]
    exact hc _ u hu⟩
end

/-- The slice's octets as values. -/
def vals (l : List Nat) : List Value := l.map oct
theorem vals_len (l : List Nat) : (vals l).length = l.length := by simp [vals]
theorem vals_app (a b : List Nat) : vals (a ++ b) = vals a ++ vals b := List.map_append
theorem vals_one' : ∀ (l : List Nat), ∀ u ∈ vals l, u.oneCell' = true := by
  intro l u hu
  obtain ⟨x, _, rfl⟩ := List.mem_map.1 hu
  rfl
/-- A row of the call's own that holds the octets l. -/
def Own (w : World) (base : Nat) (v : Value) (l : List Nat) : Prop := w.ownsRow base 5 1 v l.length (vals l)
section
variable {w : World} {A : Option Addr} {l : List Nat}
theorem Own.rb {base c : Nat} (h : Own w base (.slice A l.length c) l) (hl : l.length ≤ 9223372036854775807) (hs : ∀ x ∈ l, x < 256) : Rb w w.heap.size A l :=
  ⟨hl, hs, fun hn => by
    have h0 : 0 < l.length := List.length_pos_iff.2 hn
    rcases h.2 with ⟨_, e⟩ | ⟨g, cap, cur, hv, _, hg, _⟩
    · omega
    · have hA : A = some ⟨g, 0, none⟩ := by injection hv
      subst hA
      exact ⟨g, 0, rfl, (Array.getElem?_eq_some_iff.1 hg).1, fun j u hu => by
        have := World.ownsRow.cells h (g := g) rfl j (oct u) (by unfold vals; rw [List.getElem?_map, hu]; rfl)
        simpa [Addr.add_lit] using this⟩⟩
theorem Own.slice {base : Nat} {v : Value} (h : Own w base v l) : ∃ A c, v = .slice A l.length c := by
  rcases h.2 with ⟨rfl, h0⟩ | ⟨g, cap, cur, rfl, _⟩
  · obtain rfl : l = [] := List.length_eq_zero_iff.1 h0
    exact ⟨none, 0, rfl⟩
  · exact ⟨_, cap, rfl⟩
end

/-! ### whole numbers of 32 bits -/
theorem x32 {a b : Nat} (ha : a < 4294967296) (hb : b < 4294967296) : bits .xor .u32 (a : Int) (b : Int) = ((a ^^^ b : Nat) : Int) := u32_xor_nat a b ha hb
/-- The same, the second one as a whole number. -/
theorem x32z {a b : Nat} {bz : Int} (hbz : bz = (b : Int)) (ha : a < 4294967296) (hb : b < 4294967296) : bits .xor .u32 (a : Int) bz = ((a ^^^ b : Nat) : Int) := by
  subst hbz; exact x32 ha hb
theorem x8 {a b : Nat} (ha : a < 256) (hb : b < 256) : bits .xor .u8 (a : Int) (b : Int) = ((a ^^^ b : Nat) : Int) := u8_xor_nat a b ha hb
theorem low1 {a : Nat} (ha : a < 4294967296) : bits .and .u32 (a : Int) 1 = ((a % 2 : Nat) : Int) := by
  rw [show (1 : Int) = ((1 : Nat) : Int) from rfl, u32_and_nat a 1 ha (by decide), Nat.and_one_is_mod]
theorem low8 {a : Nat} (ha : a < 4294967296) : bits .and .u32 (a : Int) 255 = ((a % 256 : Nat) : Int) := by
  rw [show (255 : Int) = ((255 : Nat) : Int) from rfl, u32_and_nat a 255 ha (by decide), show (255 : Nat) = 2 ^ 8 - 1 from rfl, Nat.and_two_pow_sub_one_eq_mod]
end Go.Proofs.Ytahghjggkigehaa

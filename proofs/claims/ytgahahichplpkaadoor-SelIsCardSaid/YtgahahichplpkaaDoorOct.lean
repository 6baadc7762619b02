/-
  How a slice of octets reads in memory, that it outlives what a call does; a row of octets of the call's own that is appended to; octets as a text.
-/
import Derived.Test.YtgahahichplpkaaDoorWb
import Derived.Test.YtgahahichplpkaaDoorCodPlain
import Derived.IntWalk
import Derived.Laws.BytesArg
import Derived.Lib.SlBytesConst
namespace Go.Proofs.YtgahahichplpkaaDoor
open Go.RowKit

/-! ### octets in memory -/
def oct (x : Nat) : Value := .int .u8 (x : Int)
/-- A slice (its address A) holds the octets l, in blocks below B. -/
structure Rb (w : World) (B : Nat) (A : Option Addr) (l : List Nat) : Prop where
  len : l.length ≤ 9223372036854775807
  small : ∀ x ∈ l, x < 256
  mem : l ≠ [] → ∃ b off, A = some ⟨b, off, none⟩ ∧ b < B ∧ ∀ j u, l[j]? = some u → w.cell? ⟨b, off + j, none⟩ = some (oct u)

section
variable {w w' : World} {B B' : Nat} {A : Option Addr} {l : List Nat}
theorem Rb.none_ (w : World) (B : Nat) (A : Option Addr) : Rb w B A [] := ⟨by simp, by simp, fun h => absurd rfl h⟩
theorem Rb.keep (h : Rb w B A l) (hk : ∀ p : Addr, p.block < B → w'.cell? p = w.cell? p) : Rb w' B A l :=
  ⟨h.len, h.small, fun hn => by
    obtain ⟨b, off, e, hb, hc⟩ := h.mem hn
    exact ⟨b, off, e, hb, fun j u hu => (hk _ hb).trans (hc j u hu)⟩⟩
theorem Rb.more (h : Rb w B A l) (hB : B ≤ B') : Rb w B' A l :=
  ⟨h.len, h.small, fun hn => by
    obtain ⟨b, off, e, hb, hc⟩ := h.mem hn
    exact ⟨b, off, e, by omega, hc⟩⟩
theorem Rb.below (h : Rb w B A l) (hb : Below B w w') : Rb w' B A l := h.keep fun _ hp => hb.cell hp
/-- What holds at a world holds behind a call from there. -/
theorem Rb.on (h : Rb w w.heap.size A l) (hb : Below w.heap.size w w') : Rb w' w'.heap.size A l := (h.below hb).more hb.size
theorem Rb.at_ (h : Rb w B A l) {k : Nat} (hk : k < l.length) :
    ∃ b off, A = some ⟨b, off, none⟩ ∧ b < B ∧ w.cell? ⟨b, off + k, none⟩ = some (oct l[k]) := by
  have hn : l ≠ [] := fun e => by subst e; simp at hk
  obtain ⟨b, off, e, hb, hc⟩ := h.mem hn
  exact ⟨b, off, e, hb, hc _ _ (List.getElem?_eq_getElem hk)⟩
theorem Rb.all (h : Rb w B A l) (hn : 0 < l.length) :
    ∃ b off, A = some ⟨b, off, none⟩ ∧ b < B ∧ ∀ k x, l[k]? = some x → w.cell? ⟨b, off + k, none⟩ = some (oct x) := h.mem (List.length_pos_iff.1 hn)
theorem Rb.take (h : Rb w B A l) (k : Nat) : Rb w B A (l.take k) :=
  ⟨by have := h.len; rw [List.length_take]; omega, fun x hx => h.small x (List.mem_of_mem_take hx), fun hn => by
    have hl : l ≠ [] := fun e => hn (by rw [e]; simp)
    obtain ⟨b, off, e, hb, hc⟩ := h.mem hl
    refine ⟨b, off, e, hb, fun j u hu => hc j u ?_⟩
    rw [List.getElem?_take] at hu
    split at hu
    · exact hu
    · simp at hu⟩
/-- The slice from k on. -/
theorem Rb.cut (h : Rb w B A l) {c k : Nat} (hk : k ≤ l.length) (hc' : l.length ≤ c) : Rb w B (if c = k then A else A.map fun x => x.add k) (l.drop k) :=
  ⟨by have := h.len; rw [List.length_drop]; omega, fun x hx => h.small x (List.mem_of_mem_drop hx), fun hn => by
    have hl : l ≠ [] := fun e => hn (by rw [e]; simp)
    have hlt : k < l.length := by
      rcases Nat.lt_or_ge k l.length with h' | h'
      · exact h'
      · exact absurd (List.drop_eq_nil_of_le h') hn
    obtain ⟨b, off, e, hb, hc⟩ := h.mem hl
    rw [if_neg (by omega), e]
    refine ⟨b, off + k, by simp [Addr.add], hb, fun j u hu => ?_⟩
    rw [List.getElem?_drop] at hu
    rw [Nat.add_assoc]
    exact hc _ u hu⟩
end

/-- The slice's octets as values. -/
def vals (l : List Nat) : List Value := l.map oct
theorem vals_len (l : List Nat) : (vals l).length = l.length := by simp [vals]
theorem vals_app (a b : List Nat) : vals (a ++ b) = vals a ++ vals b := List.map_append
theorem vals_one' : ∀ (l : List Nat), ∀ u ∈ vals l, u.oneCell' = true := by
  intro l u hu
  obtain ⟨x, _, rfl⟩ := List.mem_map.1 hu
  rfl
/-- A row of the call's own that holds the octets l. -/
def OwnB (w : World) (base : Nat) (v : Value) (l : List Nat) : Prop := w.ownsRow base 5 1 v l.length (vals l)
section
variable {w : World} {A : Option Addr} {l : List Nat}
theorem OwnB.rb {base c : Nat} (h : OwnB w base (.slice A l.length c) l) (hl : l.length ≤ 9223372036854775807) (hs : ∀ x ∈ l, x < 256) : Rb w w.heap.size A l :=
  ⟨hl, hs, fun hn => by
    have h0 : 0 < l.length := List.length_pos_iff.2 hn
    rcases h.2 with ⟨_, e⟩ | ⟨g, cap, cur, hv, _, hg, _⟩
    · omega
    · have hA : A = some ⟨g, 0, none⟩ := by injection hv
      subst hA
      exact ⟨g, 0, rfl, (Array.getElem?_eq_some_iff.1 hg).1, fun j u hu => by
        have := World.ownsRow.cells h (g := g) rfl j (oct u) (by unfold vals; rw [List.getElem?_map, hu]; rfl)
        simpa [Addr.add_lit] using this⟩⟩
theorem OwnB.slice {base : Nat} {v : Value} (h : OwnB w base v l) : ∃ A c, v = .slice A l.length c := by
  rcases h.2 with ⟨rfl, h0⟩ | ⟨g, cap, cur, rfl, _⟩
  · obtain rfl : l = [] := List.length_eq_zero_iff.1 h0
    exact ⟨none, 0, rfl⟩
  · exact ⟨_, cap, rfl⟩
end

theorem info_oct : (Tryd.prog.info? 5).map (fun i => (i.zero, i.size, i.bytes)) = some (some (.int .u8 0), 1, 1) := by kernel_rfl
theorem run_app_none {w : World} {base : Nat} {v : Value} {n : Nat} {xs : List Value} (hown : w.ownsRow base 5 1 v n xs) (ty : TypeId) (c : Nat) :
    (Builtin.append_ #[79, 79] ty #[v, .slice none 0 c]).run Tryd.prog w = .ok v w := by
  obtain ⟨i0, hi, _, _, _⟩ := info_parts info_oct
  rcases hown.2 with ⟨rfl, rfl⟩ | ⟨g, cap, cur, rfl, _, _, hnc, _⟩
  · simp [Builtin.append_, run_underlying Tryd.underlying79, sizeOf, typeInfo, hi, Builtin.lenOf, Builtin.firstCells]
  · simp [Builtin.append_, run_underlying Tryd.underlying79, sizeOf, typeInfo, hi, Builtin.lenOf, Builtin.firstCells, hnc, storeCells]
theorem OwnB.base {w : World} {base : Nat} {v : Value} {l : List Nat} (h : OwnB w base v l) : ∀ k, v.ownBlock = some k → base ≤ k := by
  intro k hk
  rcases h.2 with ⟨rfl, _⟩ | ⟨g, cap, cur, rfl, hb, _⟩
  · simp [Value.ownBlock] at hk
  · simp [Value.ownBlock] at hk
    omega
theorem OwnB.nil (w : World) (base : Nat) : OwnB w base (.slice none 0 0) [] := ⟨rfl, .inl ⟨rfl, rfl⟩⟩
theorem OwnB.alloc {w : World} {base : Nat} {v : Value} {l : List Nat} (h : OwnB w base v l) (o : Obj) : OwnB (w.alloc o) base v l := World.ownsRow.alloc h o
theorem OwnB.below {w w' : World} {base : Nat} {v : Value} {l : List Nat} (h : OwnB w base v l) (hb : Below w.heap.size w w') : OwnB w' base v l := by
  refine ⟨h.1, ?_⟩
  rcases h.2 with h0 | ⟨g, cap, cur, hv, hbs, hg, hr⟩
  · exact .inl h0
  · exact .inr ⟨g, cap, cur, hv, hbs, (hb.block g (Array.getElem?_eq_some_iff.1 hg).1).trans hg, hr⟩
theorem OwnB.mono {w : World} {base base' : Nat} {v : Value} {l : List Nat} (h : OwnB w base v l) (hb : base' ≤ base) : OwnB w base' v l := by
  refine ⟨h.1, ?_⟩
  rcases h.2 with h0 | ⟨g, cap, cur, hv, hbs, hr⟩
  · exact .inl h0
  · exact .inr ⟨g, cap, cur, hv, by omega, hr⟩
theorem ownB_made (w : World) : OwnB (w.alloc (.cells #[] 5)) w.heap.size (.slice (some ⟨w.heap.size, 0, none⟩) 0 0) [] := World.ownsRow_made w #[] 0 (Nat.le_refl _) (Nat.zero_le _) (by simp)
theorem wp_app (w : World) {ops : Array Oper} {rest : List Oper} {o : Oper} {a : Act} {Q : Exit → Act → World → Prop} (hgd : o.guard = none) (s x : Operand)
    (ho : o.op = .call { callee := .builtin .append, args := #[s, x], argTypes := #[79, 79] })
    (base : Nat) (v : Value) (l m : List Nat) (hs : a.eval s = v) (hown : OwnB w base v l) (A : Option Addr) (n c : Nat) (hn : n = m.length) (hx : a.eval x = .slice A n c) (hr : Rb w w.heap.size A m)
    (hlen : l.length + m.length ≤ 8000000) (hbase : base ≤ w.heap.size)
    (h : ∀ v' w', OwnB w' base v' (l ++ m) → Below base w w' → wpList Tryd.prog ops Q rest (a.put o.dst v') w') : wpList Tryd.prog ops Q (o :: rest) a w := by
  subst hn
  obtain ⟨i0, hi, hz0, hz1, hz2⟩ := info_parts info_oct
  cases A with
  | none =>
    have hm : m = [] := by
      cases m with
      | nil => rfl
      | cons p r => obtain ⟨b, off, e, _⟩ := hr.mem (by simp); cases e
    subst hm
    refine wpList_plain hgd fun K hK => ?_
    have hrun := run_app_none hown o.type c
    unfold Oper.wp
    simp only [List.length_nil] at hx
    simp [execOp, ho, resolve, invoke, builtin, hs, hx, hrun, Result.andThen]
    exact hK _ _ (h v w (by simpa using hown) (Below.refl _ _))
  | some ad =>
    refine wpList_append_own _ hgd s x 79 ho base 5 i0 _ 1 1 Tryd.underlying79 hi hz0 hz1 hz2 rfl (by decide) v l.length (vals l) hs hown ad m.length c (vals m) hx (by rw [vals_len]; omega) ?_ (vals_one' m) (by unfold maxLen; omega) (by omega) hbase ?_
    · intro j u hj
      have hm : m ≠ [] := fun e => by subst e; simp [vals] at hj
      obtain ⟨b, off, e, _, hc⟩ := hr.mem hm
      cases e
      unfold vals at hj
      rw [List.getElem?_map] at hj
      obtain ⟨x, hx, rfl⟩ := Option.map_eq_some_iff.1 hj
      have := hc j x hx
      rwa [Addr.add_lit]
    · intro v' w' ho' hg _
      refine h v' w' ?_ ((Below.refl base w).grown hg hbase (OwnB.base hown))
      unfold OwnB
      rw [vals_app, List.length_append]
      exact ho'

/-! ### octets as a text -/
theorem conv_rb {w : World} {B : Nat} {A : Option Addr} {n c : Nat} {l : List Nat} (hn : n = l.length) (hr : Rb w B A l) {S : ByteArray} (hS : Kc.tx l = S) :
    (convert 79 9 (.slice A n c)).run Tryd.prog w = .ok (.string S) w := by
  subst hn hS
  by_cases h0 : l = []
  · subst h0
    rw [run_convert_bytes_string w 79 9 5 A _ c Tryd.underlying79 Tryd.underlying5 Tryd.underlying9]
    cases A with
    | none => simp [Conv.bytesToString, Kc.tx]; rfl
    | some a =>
      rw [run_bytesToString w a _ c [] (by rfl)]
      rfl
  · obtain ⟨b, off, rfl, _, hc⟩ := hr.mem h0
    have := run_convert_bytes_arg (P := Tryd.prog) w 79 5 Tryd.underlying79 Tryd.underlying5 b off l.length c (l.map Int.ofNat) (by simp) (fun i hi => by
      rw [hc i l[i] (List.getElem?_eq_getElem hi)]
      simp [oct, List.getD_eq_getElem?_getD, hi]) 9 Tryd.underlying9
    rw [this]
    refine congrArg (fun s => Result.ok (Value.string s) w) ?_
    unfold strOfNums Kc.tx
    rw [List.map_map]
    rfl
theorem rb_new (w : World) (C : Array Value) (t : TypeId) (fr : Nat × Nat) (l : List Nat) (hC : C = (vals l).toArray) (hl : l.length ≤ 9223372036854775807) (hs : ∀ x ∈ l, x < 256) :
    Rb (w.alloc (.cells C t fr)) (w.alloc (.cells C t fr)).heap.size (some ⟨w.heap.size, 0, none⟩) l :=
  ⟨hl, hs, fun _ => ⟨w.heap.size, 0, rfl, by show _ < (w.heap.push _).size; rw [Array.size_push]; omega, fun j u hu => by
    rw [World.cell?_alloc_mark, hC, Nat.zero_add]
    unfold vals
    rw [List.getElem?_toArray, List.getElem?_map, hu]; rfl⟩⟩
/-- A slice of octets as a text, behind a call. -/
def Txt (w : World) (A : Option Addr) (n c : Nat) (S : ByteArray) : Prop := ∀ W, Below w.heap.size w W → (convert 79 9 (.slice A n c)).run Tryd.prog W = .ok (.string S) W
theorem txt_of {w : World} {A : Option Addr} {n c : Nat} {l : List Nat} (hn : n = l.length) (hr : Rb w w.heap.size A l) {S : ByteArray} (hS : Kc.tx l = S) : Txt w A n c S :=
  fun _ h => conv_rb hn (hr.on h) hS
/-- How much room a row of the call's own has. -/
theorem OwnB.cap {w : World} {base : Nat} {A : Option Addr} {n c : Nat} {l : List Nat} (h : OwnB w base (.slice A n c) l) : n ≤ c ∧ c ≤ 9223372036854775807 := by
  rcases h.2 with ⟨hv, _⟩ | ⟨g, cap, cur, hv, _, _, hn, hm, _⟩
  · cases hv; omega
  · cases hv
    unfold maxLen at hm
    obtain ⟨h1, _⟩ := h
    omega
end Go.Proofs.YtgahahichplpkaaDoor

/-
  Plain lists for layer sel: what a selector is, its text, its tokens, what is read of tokens, and whether labels fit. Nothing of any program.
-/
import Derived.Test.YtgahahichplpkaaDoorLexAdj
import Derived.Test.YtgahahichplpkaaDoorLabFacts
namespace Go.Proofs.YtgahahichplpkaaDoor.Sl
open Go.Proofs.YtgahahichplpkaaDoor

abbrev T := List UInt8
/-- A match: name, value, not. -/
abbrev Mt := ByteArray × ByteArray × Bool
abbrev Sel := ByteArray × List Mt
/-- A token's kind and text. -/
abbrev Tf := Int × ByteArray
def none_ : Sel := (⟨#[]⟩, [])
def mOk (m : Mt) : Bool := Lp.nameB m.1 && decide (m.2.1.size ≤ 64)
def saneS (s : Sel) : Bool := Lp.nameB s.1 && decide (s.2.length ≤ 8) && s.2.all mOk
def mTxt (m : Mt) : T := m.1.data.toList ++ ((if m.2.2 then [33] else []) ++ (61 :: Lx.quote m.2.1.data.toList))
def prM : Bool → List Mt → T
  | _, [] => [125]
  | b, m :: r => (if b then 123 else 44) :: (mTxt m ++ prM false r)
def prS (s : Sel) : T := if saneS s then s.1.data.toList ++ (if s.2 = [] then [] else prM true s.2) else []

def sg (l : T) : ByteArray := ⟨l.toArray⟩
def want (l : List Tf) (i : Nat) (k : Int) (s : ByteArray) : Int := match l[i]? with | none => 3 | some t => if t.1 = k ∧ (s.size = 0 ∨ t.2 = s) then 0 else 1
def txtAt (l : List Tf) (i : Nat) : ByteArray := match l[i]? with | none => ⟨#[]⟩ | some t => t.2
def nameAt (l : List Tf) (i : Nat) : Int := if want l i 1 ⟨#[]⟩ = 0 then (if Lp.nameB (txtAt l i) then 0 else 7) else want l i 1 ⟨#[]⟩
abbrev Rm := Mt × Nat × Int
def noM : Mt := (⟨#[]⟩, ⟨#[]⟩, false)
def matchAt (l : List Tf) (i n : Nat) : Rm :=
  if nameAt l i ≠ 0 then (noM, min i l.length, nameAt l i)
  else if want l (i + 1) 4 (sg [33, 61]) ≠ 0 ∧ want l (i + 1) 4 (sg [61]) ≠ 0 then (noM, min (i + 1) l.length, want l (i + 1) 4 (sg [61]))
  else if want l (i + 2) 3 ⟨#[]⟩ ≠ 0 then (noM, min (i + 2) l.length, want l (i + 2) 3 ⟨#[]⟩)
  else if 64 < (txtAt l (i + 2)).size ∨ 8 ≤ n then (noM, min (i + 2) l.length, 4)
  else ((txtAt l i, txtAt l (i + 2), decide (want l (i + 1) 4 (sg [33, 61]) = 0)), i + 3, 0)
def loop : Nat → List Tf → Nat → List Mt → List Mt × Nat × Int
  | 0, l, i, _ => ([], min i l.length, 4)
  | f + 1, l, i, ms =>
    if (matchAt l i ms.length).2.2 ≠ 0 then ([], (matchAt l i ms.length).2.1, (matchAt l i ms.length).2.2)
    else if want l (i + 3) 4 (sg [125]) = 0 then (ms ++ [(matchAt l i ms.length).1], i + 4, 0)
    else if want l (i + 3) 4 (sg [44]) ≠ 0 then ([], min (i + 3) l.length, want l (i + 3) 4 (sg [44]))
    else loop f l (i + 4) (ms ++ [(matchAt l i ms.length).1])
def parseN (l : List Tf) (i : Nat) : Sel × Nat × Int :=
  if nameAt l i ≠ 0 then (none_, min i l.length, nameAt l i)
  else if want l (i + 1) 4 (sg [123]) ≠ 0 then ((txtAt l i, []), i + 1, 0)
  else if want l (i + 2) 4 (sg [125]) = 0 then ((txtAt l i, []), i + 3, 0)
  else if (loop 9 l (i + 2) []).2.2 = 0 then ((txtAt l i, (loop 9 l (i + 2) []).1), (loop 9 l (i + 2) []).2.1, 0)
  else (none_, (loop 9 l (i + 2) []).2.1, (loop 9 l (i + 2) []).2.2)
def parse (l : List Tf) (i : Int) : Sel × Nat × Int := if i < 0 then (none_, 0, 3) else parseN l i.toNat

def nameL : ByteArray := ⟨#[95, 95, 110, 97, 109, 101, 95, 95]⟩
def mFits (l : List Lp.Pr) (m : Mt) : Bool := decide ((Lp.getS l m.1).getD ⟨#[]⟩ = m.2.1) != m.2.2
def fits (s : Sel) (l : List Lp.Pr) : Bool := saneS s && Lp.saneB l && decide (Lp.getS l nameL = some s.1) && s.2.all (mFits l)

/-! ### what is read -/
theorem want_lt {l : List Tf} {i : Nat} {k : Int} {s : ByteArray} (h : want l i k s ≠ 3) : i < l.length := by
  unfold want at h
  cases hi : l[i]? with
  | none => rw [hi] at h; exact absurd rfl h
  | some t => exact (List.getElem?_eq_some_iff.1 hi).1
theorem want_zero {l : List Tf} {i : Nat} {k : Int} {s : ByteArray} : want l i k s = 0 ↔ ∃ t, l[i]? = some t ∧ t.1 = k ∧ (s.size = 0 ∨ t.2 = s) := by
  unfold want
  cases hi : l[i]? with
  | none => simp
  | some t =>
    simp only [Option.some.injEq]
    constructor
    · intro h
      split at h
      · rename_i h1
        exact ⟨t, rfl, h1⟩
      · simp at h
    · rintro ⟨t, rfl, h⟩
      rw [if_pos h]
theorem want_vals (l : List Tf) (i : Nat) (k : Int) (s : ByteArray) : want l i k s = 0 ∨ want l i k s = 1 ∨ want l i k s = 3 := by
  unfold want
  split
  · simp
  · split <;> simp
theorem want_three {l : List Tf} {i : Nat} {k : Int} {s : ByteArray} : want l i k s = 3 ↔ l.length ≤ i := by
  unfold want
  cases hi : l[i]? with
  | none => simp [List.getElem?_eq_none_iff.1 hi]
  | some t =>
    have := (List.getElem?_eq_some_iff.1 hi).1
    simp only
    constructor
    · intro h
      split at h <;> simp at h
    · intro h; omega
theorem nameAt_vals (l : List Tf) (i : Nat) : nameAt l i = 0 ∨ nameAt l i = 1 ∨ nameAt l i = 3 ∨ nameAt l i = 7 := by
  unfold nameAt
  split
  · split <;> simp
  · have := want_vals l i 1 ⟨#[]⟩
    omega
theorem nameAt_three {l : List Tf} {i : Nat} : nameAt l i = 3 ↔ l.length ≤ i := by
  rw [← want_three (k := 1) (s := ⟨#[]⟩)]
  unfold nameAt
  split
  · rename_i h
    rw [h]
    split <;> simp
  · exact Iff.rfl
theorem nameAt_zero {l : List Tf} {i : Nat} : nameAt l i = 0 ↔ ∃ t, l[i]? = some t ∧ t.1 = 1 ∧ Lp.nameB t.2 = true := by
  unfold nameAt
  split
  · rename_i h
    obtain ⟨t, h1, h2, _⟩ := want_zero.1 h
    have e : txtAt l i = t.2 := by unfold txtAt; rw [h1]
    rw [e]
    constructor
    · intro hh
      split at hh
      · rename_i h3; exact ⟨t, h1, h2, h3⟩
      · simp at hh
    · rintro ⟨t', h1', _, h3⟩
      rw [h1] at h1'
      cases h1'
      rw [if_pos h3]
  · rename_i h
    constructor
    · intro hh; exact absurd hh h
    · rintro ⟨t, h1, h2, _⟩
      exact absurd (want_zero.2 ⟨t, h1, h2, .inl rfl⟩) h
theorem txtAt_of {l : List Tf} {i : Nat} {t : Tf} (h : l[i]? = some t) : txtAt l i = t.2 := by unfold txtAt; rw [h]
/-- What a place and an error are. -/
def PE (l : List Tf) (i n : Nat) (e : Int) : Prop := n ≤ l.length ∧ min i l.length ≤ n ∧ (e = 3 ↔ n = l.length)
theorem pe_at {l : List Tf} {i j : Nat} {e : Int} (hij : i ≤ j) (h : e = 3 ↔ l.length ≤ j) : PE l i (min j l.length) e := by
  refine ⟨Nat.min_le_right _ _, by omega, ?_⟩
  rw [h]
  omega
theorem matchAt_no {l : List Tf} {i n : Nat} (h : (matchAt l i n).2.2 ≠ 0) : (matchAt l i n).1 = noM ∧ PE l i (matchAt l i n).2.1 (matchAt l i n).2.2 := by
  unfold matchAt at h ⊢
  split
  · exact ⟨rfl, pe_at (Nat.le_refl _) nameAt_three⟩
  · rename_i h1
    rw [if_neg h1] at h
    split
    · exact ⟨rfl, pe_at (by omega) want_three⟩
    · rename_i h2
      rw [if_neg h2] at h
      split
      · exact ⟨rfl, pe_at (by omega) want_three⟩
      · rename_i h3
        rw [if_neg h3] at h
        split
        · refine ⟨rfl, pe_at (by omega) ?_⟩
          have : want l (i + 2) 3 ⟨#[]⟩ = 0 := by simpa using h3
          have := want_lt (l := l) (i := i + 2) (k := 3) (s := ⟨#[]⟩) (by rw [this]; decide)
          constructor
          · intro h; simp at h
          · intro h; omega
        · rename_i h4
          rw [if_neg h4] at h
          exact absurd rfl h
theorem matchAt_ok {l : List Tf} {i n : Nat} (h : (matchAt l i n).2.2 = 0) : mOk (matchAt l i n).1 = true ∧ (matchAt l i n).2.1 = i + 3 ∧ i + 3 ≤ l.length ∧ n < 8 := by
  unfold matchAt at h ⊢
  split
  · rename_i h1; rw [if_pos h1] at h; exact absurd h h1
  · rename_i h1
    rw [if_neg h1] at h
    split
    · rename_i h2; rw [if_pos h2] at h; exact absurd h h2.2
    · rename_i h2
      rw [if_neg h2] at h
      split
      · rename_i h3; rw [if_pos h3] at h; exact absurd h h3
      · rename_i h3
        rw [if_neg h3] at h
        split
        · rename_i h4; rw [if_pos h4] at h; simp at h
        · rename_i h4
          have hn : nameAt l i = 0 := by simpa using h1
          obtain ⟨t, a1, _, a3⟩ := nameAt_zero.1 hn
          have h3' : want l (i + 2) 3 ⟨#[]⟩ = 0 := by simpa using h3
          have := want_lt (l := l) (i := i + 2) (k := 3) (s := ⟨#[]⟩) (by rw [h3']; decide)
          refine ⟨?_, rfl, by omega, by omega⟩
          unfold mOk
          rw [txtAt_of a1, a3]
          simp
          omega
theorem loop_ok : ∀ (f : Nat) (l : List Tf) (i : Nat) (ms : List Mt), (loop f l i ms).2.2 = 0 → ms.all mOk = true → ms.length ≤ 8 → (loop f l i ms).1.all mOk = true ∧ (loop f l i ms).1.length ≤ 8 ∧ i < (loop f l i ms).2.1 ∧ (loop f l i ms).2.1 ≤ l.length
  | 0, l, i, ms, h, _, _ => by simp [loop] at h
  | f + 1, l, i, ms, h, hm, hn => by
    unfold loop at h ⊢
    split
    · rename_i h1; rw [if_pos h1] at h; exact absurd h h1
    · rename_i h1
      rw [if_neg h1] at h
      have h1' : (matchAt l i ms.length).2.2 = 0 := by simpa using h1
      obtain ⟨a1, a2, a3, a4⟩ := matchAt_ok h1'
      have hall : (ms ++ [(matchAt l i ms.length).1]).all mOk = true := by rw [List.all_append, hm]; simp [a1]
      have hlen : (ms ++ [(matchAt l i ms.length).1]).length ≤ 8 := by rw [List.length_append]; simp; omega
      split
      · rename_i h2
        have := want_lt (l := l) (i := i + 3) (k := 4) (s := sg [125]) (by rw [h2]; decide)
        exact ⟨hall, hlen, by show i < i + 4; omega, by show i + 4 ≤ _; omega⟩
      · rename_i h2
        rw [if_neg h2] at h
        split
        · rename_i h3; rw [if_pos h3] at h; exact absurd h h3
        · rename_i h3
          rw [if_neg h3] at h
          obtain ⟨b1, b2, b3, b4⟩ := loop_ok f l (i + 4) _ h hall hlen
          exact ⟨b1, b2, by omega, b4⟩
theorem loop_no : ∀ (f : Nat) (l : List Tf) (i : Nat) (ms : List Mt), 9 ≤ f + ms.length → (loop f l i ms).2.2 ≠ 0 → ms.length ≤ 8 → PE l i (loop f l i ms).2.1 (loop f l i ms).2.2
  | 0, l, i, ms, hf, _, hn => by omega
  | f + 1, l, i, ms, hf, h, hn => by
    unfold loop at h ⊢
    split
    · rename_i h1; exact (matchAt_no h1).2
    · rename_i h1
      rw [if_neg h1] at h
      have h1' : (matchAt l i ms.length).2.2 = 0 := by simpa using h1
      obtain ⟨a1, a2, a3, a4⟩ := matchAt_ok h1'
      split
      · rename_i h2; rw [if_pos h2] at h; exact absurd rfl h
      · rename_i h2
        rw [if_neg h2] at h
        split
        · exact pe_at (by omega) want_three
        · rename_i h3
          rw [if_neg h3] at h
          have := loop_no f l (i + 4) _ (by rw [List.length_append]; simp; omega) h (by rw [List.length_append]; simp; omega)
          exact ⟨this.1, by have := this.2.1; omega, this.2.2⟩
theorem parseN_ok {l : List Tf} {i n : Nat} {s : Sel} (h : parseN l i = (s, n, 0)) : saneS s = true ∧ i < n ∧ n ≤ l.length := by
  unfold parseN at h
  split at h
  · rename_i h1
    simp only [Prod.mk.injEq] at h
    exact absurd h.2.2 h1
  · rename_i h1
    have hn : nameAt l i = 0 := by simpa using h1
    obtain ⟨t, a1, _, a3⟩ := nameAt_zero.1 hn
    have hi := (List.getElem?_eq_some_iff.1 a1).1
    have hnm : Lp.nameB (txtAt l i) = true := by rw [txtAt_of a1]; exact a3
    split at h
    · simp only [Prod.mk.injEq, and_true] at h
      obtain ⟨rfl, rfl⟩ := h
      exact ⟨by unfold saneS; rw [hnm]; rfl, by omega, by omega⟩
    · split at h
      · rename_i h3
        simp only [Prod.mk.injEq, and_true] at h
        obtain ⟨rfl, rfl⟩ := h
        have := want_lt (l := l) (i := i + 2) (k := 4) (s := sg [125]) (by rw [h3]; decide)
        exact ⟨by unfold saneS; rw [hnm]; rfl, by omega, by omega⟩
      · split at h
        · rename_i h4
          simp only [Prod.mk.injEq, and_true] at h
          obtain ⟨rfl, rfl⟩ := h
          obtain ⟨b1, b2, b3, b4⟩ := loop_ok 9 l (i + 2) [] h4 rfl (by simp)
          refine ⟨?_, by omega, b4⟩
          unfold saneS
          simp only [hnm, b1, Bool.and_true, Bool.true_and, decide_eq_true_eq]
          exact b2
        · rename_i h4
          simp only [Prod.mk.injEq] at h
          exact absurd h.2.2 h4
theorem parseN_no {l : List Tf} {i n : Nat} {s : Sel} {e : Int} (h : parseN l i = (s, n, e)) (he : e ≠ 0) : s = none_ ∧ PE l i n e := by
  unfold parseN at h
  split at h
  · simp only [Prod.mk.injEq] at h
    obtain ⟨rfl, rfl, rfl⟩ := h
    exact ⟨rfl, pe_at (Nat.le_refl _) nameAt_three⟩
  · split at h
    · simp only [Prod.mk.injEq] at h
      exact absurd h.2.2.symm he
    · split at h
      · simp only [Prod.mk.injEq] at h
        exact absurd h.2.2.symm he
      · split at h
        · simp only [Prod.mk.injEq] at h
          exact absurd h.2.2.symm he
        · rename_i h4
          simp only [Prod.mk.injEq] at h
          obtain ⟨rfl, rfl, rfl⟩ := h
          have := loop_no 9 l (i + 2) [] (by simp) h4 (by simp)
          exact ⟨rfl, this.1, by have := this.2.1; omega, this.2.2⟩
end Go.Proofs.YtgahahichplpkaaDoor.Sl

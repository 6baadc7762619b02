/-
  Plain lists and numbers for layer dur: what a duration's text is, and what duration a text is. Nothing of any program.
-/
import Derived.Test.YtjlonndkkeoohaaDoorNumPlain
namespace Go.Proofs.YtjlonndkkeoohaaDoor.Dp
open Go.Lib (decDigits nDigits)
open Go.Proofs.YtjlonndkkeoohaaDoor

def nm : Nat → List UInt8
  | 0 => [100]
  | 1 => [104]
  | 2 => [109]
  | 3 => [115]
  | _ => [109, 115]
def sz : Nat → Nat
  | 0 => 86400000
  | 1 => 3600000
  | 2 => 60000
  | 3 => 1000
  | _ => 1
def saneB (d : Int) : Bool := decide (0 ≤ d ∧ d ≤ 9007199254740992)
/-- So many of unit i. -/
def part (n i : Nat) : List UInt8 := if n = 0 then [] else decDigits n ++ nm i
/-- What is printed of u, from unit i on, with k units left. -/
def printFrom : (k i u : Nat) → List UInt8
  | 0, _, _ => []
  | k + 1, i, u => part (u / sz i) i ++ printFrom k (i + 1) (u % sz i)
def printS (d : Int) : List UInt8 :=
  if saneB d = false then [] else if d = 0 then [48, 115] else printFrom 5 0 d.toNat

def cnt (l : List UInt8) : List UInt8 := l.takeWhile Np.dig
def rst (l : List UInt8) : List UInt8 := l.dropWhile Np.dig
def ltr (l : List UInt8) : List UInt8 := (rst l).takeWhile fun c => !Np.dig c
def beh (l : List UInt8) : List UInt8 := (rst l).dropWhile fun c => !Np.dig c
def times (c : List UInt8) (i : Nat) : Nat := if Np.num c ≤ Np.mx / sz i then Np.num c * sz i else Np.mx + 1
/-- Which of the k units from i on has these letters. -/
def find (x : List UInt8) : (k i : Nat) → Option Nat
  | 0, _ => none
  | k + 1, i => if x = nm i then some i else find x k (i + 1)
/-- The sum of the parts that are left, where unit 'next' may be the greatest. -/
def go : (f next sum : Nat) → List UInt8 → Option Nat
  | 0, _, _, _ => none
  | f + 1, next, sum, l =>
    if l = [] then some sum else if cnt l = [] then none else
      match find (ltr l) (5 - next) next with
      | none => none
      | some i => go f (i + 1) (sum + times (cnt l) i) (beh l)
def fin : Option Nat → Int × Int
  | none => (0, 1)
  | some t => if t ≤ Np.mx then ((t : Int), 0) else (0, 2)
def parseS (l : List UInt8) : Int × Int := if l = [] then (0, 1) else fin (go 6 0 0 l)

/-! units -/
theorem nm_inj : ∀ i j : Fin 5, nm i.val = nm j.val → i.val = j.val := by decide
theorem nm_inj' {i j : Nat} (hi : i < 5) (hj : j < 5) (h : nm i = nm j) : i = j := nm_inj ⟨i, hi⟩ ⟨j, hj⟩ h
theorem nm_nodig (i : Nat) : ∀ c ∈ nm i, Np.dig c = false := by
  unfold nm
  split <;> decide
theorem nm_ne (i : Nat) : nm i ≠ [] := by
  unfold nm
  split <;> simp
theorem sz_pos (i : Nat) : 0 < sz i := by
  unfold sz
  split <;> omega
theorem sz_le (i : Nat) : sz i ≤ 86400000 := by
  unfold sz
  split <;> omega
theorem find_some {x : List UInt8} : ∀ {k i j : Nat}, find x k i = some j → i ≤ j ∧ j < i + k ∧ x = nm j
  | 0, _, _, h => by simp [find] at h
  | k + 1, i, j, h => by
    unfold find at h
    split at h
    · rename_i hx
      obtain rfl := Option.some.inj h
      exact ⟨Nat.le_refl _, by omega, hx⟩
    · obtain ⟨a, b, c⟩ := find_some h
      exact ⟨by omega, by omega, c⟩
theorem find_of : ∀ {k i j : Nat}, i ≤ j → j < i + k → i + k ≤ 5 → find (nm j) k i = some j
  | 0, _, _, _, _, _ => by omega
  | k + 1, i, j, h1, h2, h3 => by
    unfold find
    by_cases h : i = j
    · subst h; rw [if_pos rfl]
    · rw [if_neg (fun e => h (nm_inj' (by omega) (by omega) e.symm)), find_of (by omega) (by omega) (by omega)]
theorem find_none {x : List UInt8} {k i : Nat} (h : ∀ j, i ≤ j → j < i + k → x ≠ nm j) : find x k i = none := by
  cases e : find x k i with
  | none => rfl
  | some j =>
    obtain ⟨a, b, c⟩ := find_some e
    exact absurd c (h j a b)
theorem find_no {x : List UInt8} : ∀ {k i : Nat}, find x k i = none → ∀ j, i ≤ j → j < i + k → x ≠ nm j
  | 0, _, _, _, _, _ => by omega
  | k + 1, i, h, j, h1, h2 => by
    unfold find at h
    split at h
    · exact absurd h (by simp)
    · rename_i hx
      by_cases e : i = j
      · subst e; exact hx
      · exact find_no h j (by omega) (by omega)

/-! cuts -/
theorem takeWhile_app {p : UInt8 → Bool} : ∀ (a b : List UInt8), (∀ c ∈ a, p c = true) → (b.head?.all fun c => !p c) = true → (a ++ b).takeWhile p = a ∧ (a ++ b).dropWhile p = b
  | [], b, _, hb => by
    cases b with
    | nil => exact ⟨rfl, rfl⟩
    | cons c t =>
      have : p c = false := by simpa using hb
      simp [this]
  | x :: a, b, ha, hb => by
    have hx := ha x (by simp)
    obtain ⟨h1, h2⟩ := takeWhile_app a b (fun c hc => ha c (by simp [hc])) hb
    rw [List.cons_append, List.takeWhile_cons, List.dropWhile_cons, if_pos hx, if_pos hx, h1, h2]
    exact ⟨rfl, rfl⟩
/-- It begins with a digit, or is empty. -/
def dhead (l : List UInt8) : Prop := (l.head?.all fun c => Np.dig c) = true
theorem cut_part (c r : List UInt8) (j : Nat) (hc : Np.digs c = true) (hr : dhead r) :
    cnt (c ++ (nm j ++ r)) = c ∧ rst (c ++ (nm j ++ r)) = nm j ++ r ∧ ltr (c ++ (nm j ++ r)) = nm j ∧ beh (c ++ (nm j ++ r)) = r := by
  have h1 : ((nm j ++ r).head?.all fun c => !Np.dig c) = true := by
    cases h : nm j with
    | nil => exact absurd h (nm_ne j)
    | cons x t =>
      have := nm_nodig j x (by rw [h]; simp)
      simp [this]
  obtain ⟨a1, a2⟩ := takeWhile_app c (nm j ++ r) (fun x hx => List.all_eq_true.mp hc x hx) h1
  have h2 : (r.head?.all fun c => !(!Np.dig c)) = true := by
    unfold dhead at hr
    simpa using hr
  obtain ⟨b1, b2⟩ := takeWhile_app (p := fun c => !Np.dig c) (nm j) r (fun x hx => by simp [nm_nodig j x hx]) h2
  have e1 : cnt (c ++ (nm j ++ r)) = c := a1
  have e2 : rst (c ++ (nm j ++ r)) = nm j ++ r := a2
  refine ⟨e1, e2, ?_, ?_⟩
  · unfold ltr; rw [e2, b1]
  · unfold beh; rw [e2, b2]

theorem go_step (f a sum j : Nat) (c r : List UInt8) (hc : Np.digs c = true) (hc0 : c ≠ []) (hr : dhead r) (ha : a ≤ j) (hj : j < 5) :
    go (f + 1) a sum (c ++ (nm j ++ r)) = go f (j + 1) (sum + times c j) r := by
  obtain ⟨h1, h2, h3, h4⟩ := cut_part c r j hc hr
  have hne : c ++ (nm j ++ r) ≠ [] := by simp [hc0]
  show (if c ++ (nm j ++ r) = [] then some sum else if cnt (c ++ (nm j ++ r)) = [] then none else _) = _
  rw [if_neg hne, h1, if_neg hc0, h3, h4, find_of ha (by omega) (by omega)]
theorem go_lost (f a sum j : Nat) (c r : List UInt8) (hc : Np.digs c = true) (hc0 : c ≠ []) (hr : dhead r) (ha : j < a) (hj : j < 5) :
    go (f + 1) a sum (c ++ (nm j ++ r)) = none := by
  obtain ⟨h1, h2, h3, h4⟩ := cut_part c r j hc hr
  have hne : c ++ (nm j ++ r) ≠ [] := by simp [hc0]
  show (if c ++ (nm j ++ r) = [] then some sum else if cnt (c ++ (nm j ++ r)) = [] then none else _) = _
  rw [if_neg hne, h1, if_neg hc0, h3, find_none (k := 5 - a) (i := a)]
  intro k h5 h6 e
  have := nm_inj' hj (by omega) e
  omega
theorem go_nil (f a sum : Nat) : go (f + 1) a sum [] = some sum := rfl
theorem go_mono : ∀ (f g a b sum : Nat) (l : List UInt8) (r : Nat), f ≤ g → b ≤ a → go f a sum l = some r → go g b sum l = some r
  | 0, _, _, _, _, _, _, _, _, h => by simp [go] at h
  | f + 1, 0, _, _, _, _, _, h, _, _ => by omega
  | f + 1, g + 1, a, b, sum, l, r, hf, hb, h => by
    unfold go at h ⊢
    split at h
    · rename_i h1; rw [if_pos h1]; exact h
    · rename_i h1
      rw [if_neg h1]
      split at h
      · exact absurd h (by simp)
      · rename_i h2
        rw [if_neg h2]
        split at h
        · exact absurd h (by simp)
        · rename_i i hi
          obtain ⟨c1, c2, c3⟩ := find_some hi
          rw [c3, find_of (k := 5 - b) (i := b) (j := i) (by omega) (by omega) (by omega)]
          exact go_mono f g (i + 1) (i + 1) _ _ r (by omega) (Nat.le_refl _) h

/-! back -/
theorem part_dhead (n i : Nat) (r : List UInt8) (hr : dhead r) : dhead (part n i ++ r) := by
  unfold part
  split
  · exact hr
  · unfold dhead
    have h1 := Np.dec_ne n
    have h2 := Np.dec_digs n
    cases h : decDigits n with
    | nil => exact absurd h h1
    | cons x t =>
      rw [h] at h2
      have : Np.dig x = true ∧ Np.digs t = true := by simpa [Np.digs] using h2
      simp [this.1]
theorem from_dhead : ∀ (k i u : Nat), dhead (printFrom k i u)
  | 0, _, _ => rfl
  | k + 1, i, u => by
    show dhead (part (u / sz i) i ++ printFrom k (i + 1) (u % sz i))
    exact part_dhead _ _ _ (from_dhead k _ _)
theorem from_zero : ∀ (k i : Nat), printFrom k i 0 = []
  | 0, _ => rfl
  | k + 1, i => by
    show part (0 / sz i) i ++ printFrom k (i + 1) (0 % sz i) = []
    rw [Nat.zero_div, Nat.zero_mod, from_zero k]; rfl
theorem times_dec (n i : Nat) (h : n ≤ Np.mx / sz i) : times (decDigits n) i = n * sz i := by
  unfold times; rw [Np.dec_num, if_pos h]
theorem go_from : ∀ (k i f sum u : Nat), k + i = 5 → k < f → u ≤ Np.mx → (k = 0 → u = 0) → go f i sum (printFrom k i u) = some (sum + u)
  | 0, i, f, sum, u, _, hf, _, h0 => by
    cases f with
    | zero => omega
    | succ f => rw [h0 rfl]; rfl
  | k + 1, i, f, sum, u, hk, hf, hu, _ => by
    cases f with
    | zero => omega
    | succ f =>
      have hr : u % sz i ≤ Np.mx := Nat.le_trans (Nat.mod_le _ _) hu
      have h0 : k = 0 → u % sz i = 0 := by
        intro e
        have : i = 4 := by omega
        subst this
        exact Nat.mod_one u
      have hsum : u / sz i * sz i + u % sz i = u := by
        rw [Nat.mul_comm]; exact Nat.div_add_mod u (sz i)
      show go (f + 1) i sum (part (u / sz i) i ++ printFrom k (i + 1) (u % sz i)) = _
      by_cases hz : u / sz i = 0
      · have e : part (u / sz i) i = [] := by unfold part; rw [if_pos hz]
        rw [e, List.nil_append]
        refine go_mono f (f + 1) (i + 1) i sum _ _ (by omega) (by omega) ?_
        have := go_from k (i + 1) f sum (u % sz i) (by omega) (by omega) hr h0
        rw [this]
        rw [hz, Nat.zero_mul, Nat.zero_add] at hsum
        rw [hsum]
      · have e : part (u / sz i) i = decDigits (u / sz i) ++ nm i := by unfold part; rw [if_neg hz]
        rw [e, List.append_assoc, go_step f i sum i _ _ (Np.dec_digs _) (Np.dec_ne _) (from_dhead _ _ _) (Nat.le_refl _) (by omega)]
        rw [times_dec _ _ (Nat.div_le_div_right hu)]
        rw [go_from k (i + 1) f _ (u % sz i) (by omega) (by omega) hr h0, Nat.add_assoc, hsum]

theorem sane_iff (v : Int) : saneB v = true ↔ (0 ≤ v ∧ v ≤ 9007199254740992) := by
  unfold saneB; simp
theorem print_no (d : Int) (h : saneB d = false) : printS d = [] := by
  unfold printS; rw [if_pos h]
theorem parse_nil : parseS [] = (0, 1) := rfl
theorem from_ne (u : Nat) (h0 : u ≠ 0) (hu : u ≤ Np.mx) : printFrom 5 0 u ≠ [] := by
  intro e
  have := go_from 5 0 6 0 u rfl (by omega) hu (by omega)
  rw [e, go_nil] at this
  have := Option.some.inj this
  omega
theorem print_ne (d : Int) (h : saneB d = true) : printS d ≠ [] := by
  unfold printS
  rw [h, if_neg (by simp)]
  have := (sane_iff d).mp h
  split
  · simp
  · exact from_ne _ (by omega) (by unfold Np.mx; omega)
theorem parse_print (d : Int) (h : saneB d = true) : parseS (printS d) = (d, 0) := by
  have hs := (sane_iff d).mp h
  have hn := print_ne d h
  unfold parseS
  rw [if_neg hn]
  unfold printS
  rw [h, if_neg (by simp)]
  by_cases h0 : d = 0
  · subst h0; rw [if_pos rfl]; decide
  · rw [if_neg h0, go_from 5 0 6 0 d.toNat rfl (by omega) (by unfold Np.mx; omega) (by omega)]
    unfold fin
    simp only
    rw [if_pos (by unfold Np.mx; omega)]
    congr 1
    omega
theorem parse_three (l : List UInt8) : parseS l = (0, 1) ∨ parseS l = (0, 2) ∨ ∃ v, parseS l = (v, 0) ∧ saneB v = true := by
  unfold parseS
  split
  · exact Or.inl rfl
  · cases go 6 0 0 l with
    | none => exact Or.inl rfl
    | some t =>
      by_cases h : t ≤ Np.mx
      · refine Or.inr (Or.inr ⟨t, by simp [fin, h], ?_⟩)
        rw [sane_iff]; unfold Np.mx at h; omega
      · exact Or.inr (Or.inl (by simp [fin, h]))

/-! the laws' texts -/
theorem print_pos (d : Int) (h : saneB d = true) (h0 : d ≠ 0) : printS d = printFrom 5 0 d.toNat := by
  unfold printS; rw [h, if_neg (by simp), if_neg h0]
theorem print_parts (d : Int) (h : saneB d = true) (h1 : 86400000 ≤ d) (h2 : d % 86400000 ≠ 0) :
    printS d = printS (d - d % 86400000) ++ printS (d % 86400000) := by
  have hs := (sane_iff d).mp h
  obtain ⟨u, rfl⟩ := Int.eq_ofNat_of_zero_le hs.1
  have e1 : saneB ((u : Int) - (u : Int) % 86400000) = true := by rw [sane_iff]; omega
  have e2 : saneB ((u : Int) % 86400000) = true := by rw [sane_iff]; omega
  rw [print_pos _ h (by omega), print_pos _ e1 (by omega), print_pos _ e2 (by omega)]
  have f1 : ((u : Int) - (u : Int) % 86400000).toNat = 86400000 * (u / 86400000) := by omega
  have f2 : ((u : Int) % 86400000).toNat = u % 86400000 := by omega
  rw [f1, f2, Int.toNat_natCast]
  have g1 : printFrom 5 0 (86400000 * (u / 86400000)) = part (u / 86400000) 0 := by
    show part (86400000 * (u / 86400000) / 86400000) 0 ++ printFrom 4 1 (86400000 * (u / 86400000) % 86400000) = _
    rw [Nat.mul_div_cancel_left _ (by omega), Nat.mul_mod_right, from_zero, List.append_nil]
  have g2 : printFrom 5 0 (u % 86400000) = printFrom 4 1 (u % 86400000) := by
    show part (u % 86400000 / 86400000) 0 ++ printFrom 4 1 (u % 86400000 % 86400000) = _
    rw [Nat.mod_mod, Nat.div_eq_of_lt (Nat.mod_lt _ (by omega))]; rfl
  rw [g1, g2]
  rfl
theorem parse_one (n i : Nat) (hi : i < 5) (h : n * sz i ≤ Np.mx) : parseS (decDigits n ++ nm i) = (((n * sz i : Nat) : Int), 0) := by
  have hne : decDigits n ++ nm i ≠ [] := by simp [Np.dec_ne]
  unfold parseS
  rw [if_neg hne]
  have := go_step 5 0 0 i (decDigits n) [] (Np.dec_digs _) (Np.dec_ne _) rfl (by omega) hi
  rw [List.append_nil] at this
  rw [this, go_nil, times_dec _ _ ((Nat.le_div_iff_mul_le (sz_pos i)).mpr h), Nat.zero_add]
  unfold fin
  simp only
  rw [if_pos h]
theorem parse_two (a x b y : Nat) (hx : x < 5) (hy : y < 5) (ha : a * sz x + b * sz y ≤ Np.mx) (hxy : x < y) :
    parseS (decDigits a ++ nm x ++ decDigits b ++ nm y) = (((a * sz x + b * sz y : Nat) : Int), 0) := by
  have hne : decDigits a ++ nm x ++ decDigits b ++ nm y ≠ [] := by simp [Np.dec_ne]
  unfold parseS
  rw [if_neg hne]
  have hd : dhead (decDigits b ++ nm y) := by
    have h1 := Np.dec_ne b
    have h2 := Np.dec_digs b
    unfold dhead
    cases h : decDigits b with
    | nil => exact absurd h h1
    | cons c t =>
      rw [h] at h2
      have : Np.dig c = true ∧ Np.digs t = true := by simpa [Np.digs] using h2
      simp [this.1]
  have s1 := go_step 5 0 0 x (decDigits a) (decDigits b ++ nm y) (Np.dec_digs _) (Np.dec_ne _) hd (by omega) hx
  have s2 := go_step 4 (x + 1) (0 + times (decDigits a) x) y (decDigits b) [] (Np.dec_digs _) (Np.dec_ne _) rfl (by omega) hy
  rw [List.append_nil] at s2
  have e : decDigits a ++ nm x ++ decDigits b ++ nm y = decDigits a ++ (nm x ++ (decDigits b ++ nm y)) := by simp
  rw [e, s1, s2, go_nil, times_dec _ _ ((Nat.le_div_iff_mul_le (sz_pos x)).mpr (by omega)), times_dec _ _ ((Nat.le_div_iff_mul_le (sz_pos y)).mpr (by omega)), Nat.zero_add]
  unfold fin
  simp only
  rw [if_pos ha]
theorem parse_wrong (a x b y : Nat) (hx : x < 5) (hy : y < 5) (hxy : y ≤ x) :
    parseS (decDigits a ++ nm x ++ decDigits b ++ nm y) = (0, 1) := by
  have hne : decDigits a ++ nm x ++ decDigits b ++ nm y ≠ [] := by simp [Np.dec_ne]
  unfold parseS
  rw [if_neg hne]
  have hd : dhead (decDigits b ++ nm y) := by
    have h1 := Np.dec_ne b
    have h2 := Np.dec_digs b
    unfold dhead
    cases h : decDigits b with
    | nil => exact absurd h h1
    | cons c t =>
      rw [h] at h2
      have : Np.dig c = true ∧ Np.digs t = true := by simpa [Np.digs] using h2
      simp [this.1]
  have s1 := go_step 5 0 0 x (decDigits a) (decDigits b ++ nm y) (Np.dec_digs _) (Np.dec_ne _) hd (by omega) hx
  have s2 := go_lost 4 (x + 1) (0 + times (decDigits a) x) y (decDigits b) [] (Np.dec_digs _) (Np.dec_ne _) rfl (by omega) hy
  rw [List.append_nil] at s2
  have e : decDigits a ++ nm x ++ decDigits b ++ nm y = decDigits a ++ (nm x ++ (decDigits b ++ nm y)) := by simp
  rw [e, s1, s2]
  rfl
end Go.Proofs.YtjlonndkkeoohaaDoor.Dp

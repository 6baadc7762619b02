/-
  Plain facts for the walks of layer lex as landed: the sets of octets, what is cut off, what the steps of a text give. Nothing of any program.
-/
import Derived.Test.YtgahahichplpkaaDoorLexCon
import Derived.Lib.Join
import Derived.Lib.IndexAny
import Derived.Lib.IndexBytes
import Derived.Lib.SlTrimSet
namespace Go.Proofs.YtgahahichplpkaaDoor.Lx
open Go.Proofs.YtgahahichplpkaaDoor

theorem all8 (p : UInt8 → Bool) (h : (List.range 256).all (fun n => p (UInt8.ofNat n)) = true) (c : UInt8) : p c = true := by
  have := List.all_eq_true.1 h c.toNat (List.mem_range.2 c.toNat_lt)
  rwa [UInt8.ofNat_toNat] at this
def lettersL : T := [97, 98, 99, 100, 101, 102, 103, 104, 105, 106, 107, 108, 109, 110, 111, 112, 113, 114, 115, 116, 117, 118, 119, 120, 121, 122, 65, 66, 67, 68, 69, 70, 71, 72, 73, 74, 75, 76, 77, 78, 79, 80, 81, 82, 83, 84, 85, 86, 87, 88, 89, 90, 95]
def digitsL : T := [48, 49, 50, 51, 52, 53, 54, 55, 56, 57]
def wordL : T := lettersL ++ digitsL
def numL : T := wordL ++ [46]
def whiteL : T := [32, 9, 13, 10]
def signsL : T := [123, 125, 40, 41, 44, 58, 59, 61, 62, 60]
def widenedL : T := [61, 33, 62, 60]
theorem letters_is (c : UInt8) : lettersL.contains c = isL c := by
  have := all8 (fun c => lettersL.contains c == isL c) (by decide +kernel) c
  exact eq_of_beq this
theorem digits_is (c : UInt8) : digitsL.contains c = isD c := by
  have := all8 (fun c => digitsL.contains c == isD c) (by decide +kernel) c
  exact eq_of_beq this
theorem word_is (c : UInt8) : wordL.contains c = wordC c := by
  have := all8 (fun c => wordL.contains c == wordC c) (by decide +kernel) c
  exact eq_of_beq this
theorem num_is (c : UInt8) : numL.contains c = numC c := by
  have := all8 (fun c => numL.contains c == numC c) (by decide +kernel) c
  exact eq_of_beq this
theorem white_is (c : UInt8) : whiteL.contains c = isW c := by
  have := all8 (fun c => whiteL.contains c == isW c) (by decide +kernel) c
  exact eq_of_beq this
theorem signs_is (c : UInt8) : signsL.contains c = oneS c.toNat := by
  have := all8 (fun c => signsL.contains c == oneS c.toNat) (by decide +kernel) c
  exact eq_of_beq this
theorem widened_is (c : UInt8) : widenedL.contains c = two c.toNat 61 := by
  have := all8 (fun c => widenedL.contains c == two c.toNat 61) (by decide +kernel) c
  exact eq_of_beq this
theorem lit_is (d c : UInt8) : ([d] : T).contains c = decide (c.toNat = d.toNat) := by
  rw [Bool.eq_iff_iff]
  simp only [List.contains_eq_mem, List.mem_singleton, decide_eq_true_eq, UInt8.toNat_inj]
theorem two_is (c d : UInt8) : (widenedL.contains c && ([61] : T).contains d) = two c.toNat d.toNat := by
  rw [widened_is, lit_is, Bool.eq_iff_iff]
  simp only [two, Bool.and_eq_true, decide_eq_true_eq]
  constructor
  · rintro ⟨⟨h1, _⟩, h2⟩
    exact ⟨h1, h2⟩
  · rintro ⟨h1, h2⟩
    exact ⟨⟨h1, trivial⟩, h2⟩

/-- Does a list begin with one of these? -/
def bg (k : T) : T → Bool
  | [] => false
  | c :: _ => k.contains c
theorem bg_cons (k : T) (c : UInt8) (r : T) : bg k (c :: r) = k.contains c := rfl
theorem trim_is (k : T) (f : UInt8 → Bool) (h : ∀ c, k.contains c = f c) (l : T) : Lib.trimLeftS l k = l.dropWhile f := by
  unfold Lib.trimLeftS
  congr 1
  funext c
  exact h c

/-! ### white and remarks -/
theorem bl_drop : ∀ l : T, bl false (l.dropWhile isW) = bl false l
  | [] => rfl
  | c :: r => by
    rw [List.dropWhile_cons]
    cases hw : isW c with
    | false => rfl
    | true =>
      have h35 : c.toNat ≠ 35 := by simp only [isW, Bool.or_eq_true, decide_eq_true_eq] at hw; omega
      rw [bl, if_neg h35, if_pos hw]
      exact bl_drop r
theorem bl_done (l : T) (h : bg [35] (l.dropWhile isW) = false) : l.dropWhile isW = bl false l := by
  rw [← bl_drop]
  cases hm : l.dropWhile isW with
  | nil => rfl
  | cons c r =>
    rw [hm, bg_cons, lit_is] at h
    have hc : c.toNat ≠ 35 := by simpa using h
    have hw : isW c = false := by
      have := List.head?_dropWhile_not isW l
      rw [hm] at this
      simpa using this
    rw [bl_self hc hw]
/-- What stands behind the first LF. -/
def behind (l : T) : T := (Lib.cut l [10]).2.1
theorem behind_cons (c : UInt8) (r : T) : behind (c :: r) = if c.toNat = 10 then r else behind r := by
  unfold behind Lib.cut
  rw [Lib.index_one, Lib.index_one]
  by_cases h : c.toNat = 10
  · have hc : c = 10 := UInt8.toNat_inj.1 h
    subst hc
    rw [if_pos h]
    have e : Lib.indexByte (10 :: r) 10 = 0 := by simp [Lib.indexByte]
    rw [e]
    rfl
  · have hc : (c == 10) = false := by
      rw [beq_eq_false_iff_ne]
      rintro rfl
      exact h rfl
    rw [if_neg h]
    have hg := Lib.indexByte_ge r 10
    by_cases h1 : Lib.indexByte r 10 = -1
    · have e : Lib.indexByte (c :: r) 10 = -1 := by simp [Lib.indexByte, hc, h1]
      rw [e, h1]
      rfl
    · have e : Lib.indexByte (c :: r) 10 = Lib.indexByte r 10 + 1 := by
        have h2 : (Lib.indexByte r 10 == -1) = false := by rw [beq_eq_false_iff_ne]; exact h1
        simp only [Lib.indexByte, hc, h2]
        rfl
      rw [e, if_pos (by omega), if_pos (by omega)]
      obtain ⟨n, hn⟩ : ∃ n : Nat, Lib.indexByte r 10 = n := ⟨(Lib.indexByte r 10).toNat, by omega⟩
      rw [hn]
      show (c :: r).drop (((n : Int) + 1).toNat + 1) = r.drop ((n : Int).toNat + 1)
      rw [show ((n : Int) + 1).toNat = n + 1 by omega, Int.toNat_natCast]
      rfl
theorem behind_nil : behind [] = [] := rfl
theorem bl_behind : ∀ l : T, bl true l = bl false (behind l)
  | [] => by rw [behind_nil]; rfl
  | c :: r => by
    rw [behind_cons, bl]
    by_cases h : c.toNat = 10
    · rw [if_pos h, if_pos h]
    · rw [if_neg h, if_neg h]
      exact bl_behind r
theorem behind_len : ∀ l : T, (behind l).length ≤ l.length
  | [] => by rw [behind_nil]; exact Nat.le_refl _
  | c :: r => by
    rw [behind_cons]
    have := behind_len r
    split <;> simp only [List.length_cons] <;> omega
/-- A remark more. -/
theorem bl_more {l : T} (h : bg [35] l = true) : bl false ((behind l).dropWhile isW) = bl false l ∧ ((behind l).dropWhile isW).length < l.length := by
  cases l with
  | nil => simp [bg] at h
  | cons c r =>
    rw [bg_cons, lit_is] at h
    have hc : c.toNat = 35 := by simpa using h
    have hb : behind (c :: r) = behind r := by rw [behind_cons, if_neg (by omega)]
    rw [hb, bl_drop, ← bl_behind]
    refine ⟨by rw [bl, if_pos hc], ?_⟩
    have h1 : ((behind r).dropWhile isW).length ≤ (behind r).length := (List.dropWhile_suffix _).length_le
    have h2 := behind_len r
    simp only [List.length_cons]
    omega

/-! ### words and numbers -/
theorem take_drop (f : UInt8 → Bool) (l : T) : l.take (l.length - (l.dropWhile f).length) = l.takeWhile f := by
  have h := List.takeWhile_append_dropWhile (p := f) (l := l)
  have hl := congrArg List.length h
  rw [List.length_append] at hl
  have : l.length - (l.dropWhile f).length = (l.takeWhile f).length := by omega
  rw [this]
  have e : (l.takeWhile f ++ l.dropWhile f).take (l.takeWhile f).length = l.takeWhile f := List.take_left
  rwa [h] at e
theorem drop_len (f : UInt8 → Bool) (l : T) : (l.dropWhile f).length ≤ l.length := (List.dropWhile_suffix _).length_le

/-! ### a text -/
/-- What a text comes to, where `out` is read already. -/
def comb (out : T) (q : T × T × Int) : T × T × Int := if q.2.2 = 0 then (out ++ q.1, q.2.1, 0) else ([], q.2.1, q.2.2)
theorem tq_no : ∀ l : T, (tq l).2.2 ≠ 0 → (tq l).1 = []
  | [], _ => rfl
  | c :: r, h => by
    rw [tq_cons] at h ⊢
    by_cases h1 : c.toNat = 34
    · rw [if_pos h1] at h; exact absurd rfl h
    · rw [if_neg h1] at h ⊢
      by_cases h2 : c.toNat = 10
      · rw [if_pos h2]
      · rw [if_neg h2] at h ⊢
        by_cases h3 : c.toNat = 92
        · rw [if_pos h3] at h ⊢
          cases r with
          | nil => rfl
          | cons d r' =>
            simp only at h ⊢
            by_cases h4 : d.toNat = 92 ∨ d.toNat = 34
            · rw [if_pos h4] at h ⊢
              by_cases h5 : (tq r').2.2 = 0
              · rw [if_pos h5] at h; exact absurd rfl h
              · rw [if_neg h5]
            · rw [if_neg h4] at h ⊢
              by_cases h6 : d.toNat = 110
              · rw [if_pos h6] at h ⊢
                by_cases h5 : (tq r').2.2 = 0
                · rw [if_pos h5] at h; exact absurd rfl h
                · rw [if_neg h5]
              · rw [if_neg h6]
        · rw [if_neg h3] at h ⊢
          by_cases h5 : (tq r).2.2 = 0
          · rw [if_pos h5] at h; exact absurd rfl h
          · rw [if_neg h5]
theorem comb_nil (l : T) : comb [] (tq l) = tq l := by
  unfold comb
  by_cases h : (tq l).2.2 = 0
  · rw [if_pos h, List.nil_append, ← h]
  · rw [if_neg h, ← tq_no l h]
theorem comb_push (out : T) (x : UInt8) (q : T × T × Int) : comb out (if q.2.2 = 0 then (x :: q.1, q.2.1, 0) else ([], q.2.1, q.2.2)) = comb (out ++ [x]) q := by
  unfold comb
  by_cases h : q.2.2 = 0
  · rw [if_pos h, if_pos h, if_pos rfl, List.append_assoc]; rfl
  · rw [if_neg h, if_neg h, if_neg h]
theorem comb_end (out r : T) : comb out (tq (34 :: r)) = (out, r, 0) := by
  rw [tq_cons, if_pos (by decide)]
  unfold comb
  rw [if_pos rfl, List.append_nil]
theorem comb_out (out : T) : comb out (tq []) = ([], [], 12) := by
  unfold comb tq
  rw [if_neg (by decide)]
theorem comb_lf (out r : T) : comb out (tq (10 :: r)) = ([], [], 12) := by
  rw [tq_cons, if_neg (by decide), if_pos (by decide)]
  unfold comb
  rw [if_neg (by decide)]
theorem comb_last (out : T) : comb out (tq [92]) = ([], [], 12) := by
  rw [tq_cons, if_neg (by decide), if_neg (by decide), if_pos (by decide)]
  unfold comb
  rw [if_neg (by decide)]
/-- What an octet behind a backslash stands for. -/
def mean (d : UInt8) : UInt8 × Bool := if d.toNat = 110 then (10, true) else if d.toNat = 92 ∨ d.toNat = 34 then (d, true) else (0, false)
theorem comb_back (out : T) (d : UInt8) (r : T) : comb out (tq (92 :: d :: r)) = if (mean d).2 then comb (out ++ [(mean d).1]) (tq r) else ([], 92 :: d :: r, 1) := by
  rw [tq_cons, if_neg (by decide), if_neg (by decide), if_pos (by decide)]
  show comb out (if d.toNat = 92 ∨ d.toNat = 34 then _ else _) = _
  unfold mean
  by_cases h1 : d.toNat = 110
  · rw [if_pos h1, if_neg (by omega), if_pos h1, comb_push]
    rfl
  · rw [if_neg h1]
    by_cases h2 : d.toNat = 92 ∨ d.toNat = 34
    · rw [if_pos h2, if_pos h2, if_neg h1, comb_push]
      rfl
    · rw [if_neg h2, if_neg h2, if_neg h1]
      rfl
theorem comb_plain (out : T) (c : UInt8) (r : T) (h1 : c.toNat ≠ 34) (h2 : c.toNat ≠ 10) (h3 : c.toNat ≠ 92) : comb out (tq (c :: r)) = comb (out ++ [c]) (tq r) := by
  rw [tq_cons, if_neg h1, if_neg h2, if_neg h3, comb_push]
/-- The errors of a text. -/
theorem tq_err : ∀ l : T, (tq l).2.2 = 0 ∨ (tq l).2.2 = 1 ∨ ((tq l).2.2 = 12 ∧ (tq l).2.1 = [])
  | [] => .inr (.inr ⟨rfl, rfl⟩)
  | c :: r => by
    rw [tq_cons]
    by_cases h1 : c.toNat = 34
    · rw [if_pos h1]; exact .inl rfl
    · rw [if_neg h1]
      by_cases h2 : c.toNat = 10
      · rw [if_pos h2]; exact .inr (.inr ⟨rfl, rfl⟩)
      · rw [if_neg h2]
        have step : ∀ (x : UInt8) (q : T × T × Int), (q.2.2 = 0 ∨ q.2.2 = 1 ∨ (q.2.2 = 12 ∧ q.2.1 = [])) → ((if q.2.2 = 0 then (x :: q.1, q.2.1, (0 : Int)) else ([], q.2.1, q.2.2)).2.2 = 0 ∨ (if q.2.2 = 0 then (x :: q.1, q.2.1, (0 : Int)) else ([], q.2.1, q.2.2)).2.2 = 1 ∨ ((if q.2.2 = 0 then (x :: q.1, q.2.1, (0 : Int)) else ([], q.2.1, q.2.2)).2.2 = 12 ∧ (if q.2.2 = 0 then (x :: q.1, q.2.1, (0 : Int)) else ([], q.2.1, q.2.2)).2.1 = [])) := by
          intro x q h
          by_cases h5 : q.2.2 = 0
          · rw [if_pos h5]; exact .inl rfl
          · rw [if_neg h5]
            rcases h with h | h | h
            · exact absurd h h5
            · exact .inr (.inl h)
            · exact .inr (.inr h)
        by_cases h3 : c.toNat = 92
        · rw [if_pos h3]
          cases r with
          | nil => exact .inr (.inr ⟨rfl, rfl⟩)
          | cons d r' =>
            simp only
            by_cases h4 : d.toNat = 92 ∨ d.toNat = 34
            · rw [if_pos h4]; exact step d _ (tq_err r')
            · rw [if_neg h4]
              by_cases h6 : d.toNat = 110
              · rw [if_pos h6]; exact step 10 _ (tq_err r')
              · rw [if_neg h6]; exact .inr (.inl rfl)
        · rw [if_neg h3]; exact step c _ (tq_err r)
termination_by l => l.length

/-! ### all tokens -/
theorem lex_zero_more (l : T) (h : bl false l ≠ []) : lex 0 l = ([], bl false l, 4) := by unfold lex; rw [if_neg h]
theorem lex_stop (m : Nat) (l : T) (h : bl false l = []) : lex m l = ([], [], 0) := by
  cases m <;> (unfold lex; rw [if_pos h])
theorem lex_err (m : Nat) (l : T) (h : bl false l ≠ []) {k : Nat} {s r : T} {z : Int} (ho : one (bl false l) = (k, s, r, z)) (hz : z ≠ 0) : lex (m + 1) l = ([], r, z) := by
  unfold lex; rw [if_neg h, ho, if_neg hz]
theorem lex_step (m : Nat) (l : T) (h : bl false l ≠ []) {k : Nat} {s r : T} (ho : one (bl false l) = (k, s, r, 0)) : lex (m + 1) l = ((k, (bl false l).length, s) :: (lex m r).1, (lex m r).2.1, (lex m r).2.2) := by
  conv => lhs; unfold lex
  rw [if_neg h, ho, if_pos rfl]

/-! ### joined -/
theorem join_is : ∀ l : List (Nat × T), Lib.join (l.map (fun p => txt p.1 p.2)) [32] = joinP l
  | [] => rfl
  | [p] => by rw [List.map_cons, List.map_nil, Lib.join_one]; rfl
  | p :: q :: r => by
    have ih := join_is (q :: r)
    rw [List.map_cons, List.map_cons, Lib.join_cons] at *
    rw [Lib.joinTail, List.map_cons, List.flatten_cons, joinP, ← ih, List.append_assoc]
    rfl
end Go.Proofs.YtgahahichplpkaaDoor.Lx

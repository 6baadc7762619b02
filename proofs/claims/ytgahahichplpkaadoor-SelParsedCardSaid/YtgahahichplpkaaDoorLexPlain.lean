/-
  Plain lists for layer lex: white, words, numbers, texts, signs; all tokens of a text; quoted and joined; what joined, white, cut and put together do. Nothing of any program.
-/
import Derived.Test.YtgahahichplpkaaDoorLabPlain
namespace Go.Proofs.YtgahahichplpkaaDoor.Lx
open Go.Proofs.YtgahahichplpkaaDoor

abbrev T := List UInt8
def isL (c : UInt8) : Bool := Lp.letB c || decide (c.toNat = 95)
def isD (c : UInt8) : Bool := Lp.digB c
def isW (c : UInt8) : Bool := decide (c.toNat = 32) || decide (c.toNat = 9) || decide (c.toNat = 13) || decide (c.toNat = 10)
def wordC (c : UInt8) : Bool := isL c || isD c
def numC (c : UInt8) : Bool := isL c || isD c || decide (c.toNat = 46)
/-- What stands behind white and remarks; is one begun? -/
def bl : Bool → T → T
  | _, [] => []
  | true, c :: r => if c.toNat = 10 then bl false r else bl true r
  | false, c :: r => if c.toNat = 35 then bl true r else if isW c then bl false r else c :: r
/-- What stands behind a quote: the text, the rest, the error (1: at the rest; 12: at the quote). -/
def tq : T → T × T × Int
  | [] => ([], [], 12)
  | c :: r =>
    if c.toNat = 34 then ([], r, 0)
    else if c.toNat = 10 then ([], [], 12)
    else if c.toNat = 92 then
      match r with
      | [] => ([], [], 12)
      | d :: r' =>
        if d.toNat = 92 ∨ d.toNat = 34 then (if (tq r').2.2 = 0 then (d :: (tq r').1, (tq r').2.1, 0) else ([], (tq r').2.1, (tq r').2.2))
        else if d.toNat = 110 then (if (tq r').2.2 = 0 then (10 :: (tq r').1, (tq r').2.1, 0) else ([], (tq r').2.1, (tq r').2.2))
        else ([], c :: d :: r', 1)
    else if (tq r).2.2 = 0 then (c :: (tq r).1, (tq r).2.1, 0) else ([], (tq r).2.1, (tq r).2.2)
theorem tq_cons (c : UInt8) (r : T) : tq (c :: r) =
    if c.toNat = 34 then ([], r, 0)
    else if c.toNat = 10 then ([], [], 12)
    else if c.toNat = 92 then
      match r with
      | [] => ([], [], 12)
      | d :: r' =>
        if d.toNat = 92 ∨ d.toNat = 34 then (if (tq r').2.2 = 0 then (d :: (tq r').1, (tq r').2.1, 0) else ([], (tq r').2.1, (tq r').2.2))
        else if d.toNat = 110 then (if (tq r').2.2 = 0 then (10 :: (tq r').1, (tq r').2.1, 0) else ([], (tq r').2.1, (tq r').2.2))
        else ([], c :: d :: r', 1)
    else if (tq r).2.2 = 0 then (c :: (tq r).1, (tq r).2.1, 0) else ([], (tq r).2.1, (tq r).2.2) := (tq.eq_def (c :: r)).trans rfl
def hd (l : T) : Nat := match l with | [] => 0 | c :: _ => c.toNat
def hdD (l : T) : Bool := match l with | [] => false | c :: _ => isD c
def two (a b : Nat) : Bool := decide ((a = 33 ∨ a = 61 ∨ a = 62 ∨ a = 60) ∧ b = 61)
def oneS (a : Nat) : Bool := decide (a = 123 ∨ a = 125 ∨ a = 40 ∨ a = 41 ∨ a = 44 ∨ a = 58 ∨ a = 59 ∨ a = 61 ∨ a = 62 ∨ a = 60)
/-- The token that stands first, no white ahead: its kind, its text, the rest, the error (at the rest). -/
def one : T → Nat × T × T × Int
  | [] => (0, [], [], 1)
  | c :: r =>
    if isL c then (1, c :: r.takeWhile wordC, r.dropWhile wordC, 0)
    else if isD c || (decide (c.toNat = 45) && hdD r) then (2, c :: r.takeWhile numC, r.dropWhile numC, 0)
    else if c.toNat = 34 then (if (tq r).2.2 = 0 then (3, (tq r).1, (tq r).2.1, 0) else if (tq r).2.2 = 1 then (0, [], (tq r).2.1, 1) else (0, [], c :: r, 12))
    else if two c.toNat (hd r) then (4, c :: r.take 1, r.drop 1, 0)
    else if oneS c.toNat then (4, [c], r, 0)
    else (0, [], c :: r, 1)
/-- A token: its kind, how many octets stand from its place on, its text. -/
abbrev Tok := Nat × Nat × T
/-- At most m tokens, what stands at the end or at the error's place, the error. -/
def lex : Nat → T → List Tok × T × Int
  | 0, l => if bl false l = [] then ([], [], 0) else ([], bl false l, 4)
  | m + 1, l =>
    if bl false l = [] then ([], [], 0)
    else if (one (bl false l)).2.2.2 = 0 then
      (((one (bl false l)).1, (bl false l).length, (one (bl false l)).2.1) :: (lex m (one (bl false l)).2.2.1).1, (lex m (one (bl false l)).2.2.1).2.1, (lex m (one (bl false l)).2.2.1).2.2)
    else ([], (one (bl false l)).2.2.1, (one (bl false l)).2.2.2)
def esc (c : UInt8) : T := if c.toNat = 92 ∨ c.toNat = 34 then [92, c] else if c.toNat = 10 then [92, 110] else [c]
def body (s : T) : T := s.flatMap esc
def quote (s : T) : T := 34 :: (body s ++ [34])
def txt (k : Nat) (s : T) : T := if k = 3 then quote s else s
def flat (t : Tok) : Nat × T := (t.1, t.2.2)
def joinP : List (Nat × T) → T
  | [] => []
  | [p] => txt p.1 p.2
  | p :: q :: r => txt p.1 p.2 ++ (32 :: joinP (q :: r))
def join (l : List Tok) : T := joinP (l.map flat)

/-! ### white -/
theorem bl_suffix : ∀ (b : Bool) (l : T), ∃ p, l = p ++ bl b l
  | _, [] => ⟨[], by simp [bl]⟩
  | true, c :: r => by
    rw [bl]
    split
    · obtain ⟨p, hp⟩ := bl_suffix false r
      exact ⟨c :: p, by rw [List.cons_append, ← hp]⟩
    · obtain ⟨p, hp⟩ := bl_suffix true r
      exact ⟨c :: p, by rw [List.cons_append, ← hp]⟩
  | false, c :: r => by
    rw [bl]
    split
    · obtain ⟨p, hp⟩ := bl_suffix true r
      exact ⟨c :: p, by rw [List.cons_append, ← hp]⟩
    · split
      · obtain ⟨p, hp⟩ := bl_suffix false r
        exact ⟨c :: p, by rw [List.cons_append, ← hp]⟩
      · exact ⟨[], rfl⟩
theorem bl_len (b : Bool) (l : T) : (bl b l).length ≤ l.length := by
  obtain ⟨p, hp⟩ := bl_suffix b l
  have := congrArg List.length hp
  rw [List.length_append] at this
  omega
theorem bl_stop : ∀ (b : Bool) (l : T), bl b l ≠ [] → ∃ c r, bl b l = c :: r ∧ c.toNat ≠ 35 ∧ isW c = false
  | _, [], h => absurd (by simp [bl]) h
  | true, c :: r, h => by
    rw [bl] at h ⊢
    split
    · rename_i hc
      rw [if_pos hc] at h
      exact bl_stop false r h
    · rename_i hc
      rw [if_neg hc] at h
      exact bl_stop true r h
  | false, c :: r, h => by
    rw [bl] at h ⊢
    split
    · rename_i hc
      rw [if_pos hc] at h
      exact bl_stop true r h
    · rename_i hc
      rw [if_neg hc] at h
      split
      · rename_i hw
        rw [if_pos hw] at h
        exact bl_stop false r h
      · rename_i hw
        exact ⟨c, r, rfl, hc, by simpa using hw⟩
theorem bl_self {c : UInt8} {r : T} (h1 : c.toNat ≠ 35) (h2 : isW c = false) : bl false (c :: r) = c :: r := by
  rw [bl, if_neg h1, if_neg (by rw [h2]; decide)]
theorem bl_twice (b : Bool) (l : T) : bl false (bl b l) = bl b l := by
  by_cases h : bl b l = []
  · rw [h, bl]
  · obtain ⟨c, r, e, h1, h2⟩ := bl_stop b l h
    rw [e, bl_self h1 h2]
/-- An LF ends a remark. -/
theorem bl_line : ∀ (b : Bool) (l t : T), bl b (l ++ 10 :: t) = if bl b l = [] then bl false t else bl b l ++ 10 :: t
  | true, [], t => by
    rw [List.nil_append, bl, bl, if_pos (by decide), if_pos rfl]
  | false, [], t => by
    rw [List.nil_append, bl, bl, if_neg (by decide), if_pos (by decide), if_pos rfl]
  | true, c :: r, t => by
    rw [List.cons_append, bl, bl]
    split
    · exact bl_line false r t
    · exact bl_line true r t
  | false, c :: r, t => by
    rw [List.cons_append, bl, bl]
    split
    · exact bl_line true r t
    · split
      · exact bl_line false r t
      · rw [if_neg (by simp)]; rfl

/-! ### one token -/
theorem white_not {c : UInt8} (h : isW c = true ∨ c.toNat = 35) : isL c = false ∧ isD c = false ∧ wordC c = false ∧ numC c = false ∧ c.toNat ≠ 61 := by
  have h' : c.toNat = 32 ∨ c.toNat = 9 ∨ c.toNat = 13 ∨ c.toNat = 10 ∨ c.toNat = 35 := by
    rcases h with h | h
    · simp only [isW, Bool.or_eq_true, decide_eq_true_eq] at h; omega
    · omega
  have hl : isL c = false := by simp only [isL, Lp.letB, Bool.or_eq_false_iff, Bool.and_eq_false_iff, decide_eq_false_iff_not]; omega
  have hd : isD c = false := by simp only [isD, Lp.digB, Bool.and_eq_false_iff, decide_eq_false_iff_not]; omega
  refine ⟨hl, hd, by simp [wordC, hl, hd], ?_, by omega⟩
  simp only [numC, hl, hd, Bool.false_or, decide_eq_false_iff_not]
  omega
/-- Nothing stands behind, or white, or a remark. -/
def Sep (l : T) : Prop := l = [] ∨ ∃ c r, l = c :: r ∧ (isW c = true ∨ c.toNat = 35)
theorem sep_take {l : T} (h : Sep l) (f : UInt8 → Bool) (hf : ∀ c : UInt8, (isW c = true ∨ c.toNat = 35) → f c = false) (w : T) (hw : w.all f = true) : (w ++ l).takeWhile f = w ∧ (w ++ l).dropWhile f = l := by
  induction w with
  | nil =>
    rcases h with rfl | ⟨c, r, rfl, hc⟩
    · simp
    · rw [List.nil_append, List.takeWhile_cons, List.dropWhile_cons, hf c hc]; simp
  | cons a w ih =>
    simp only [List.all_cons, Bool.and_eq_true] at hw
    rw [List.cons_append, List.takeWhile_cons, List.dropWhile_cons, hw.1]
    obtain ⟨h1, h2⟩ := ih hw.2
    simp [h1, h2]
theorem sep_hd {l : T} (h : Sep l) : hd l ≠ 61 ∧ hdD l = false := by
  rcases h with rfl | ⟨c, r, rfl, hc⟩
  · exact ⟨by decide, rfl⟩
  · obtain ⟨_, h2, _, _, h5⟩ := white_not hc
    exact ⟨h5, h2⟩
theorem tq_body : ∀ (s l : T), tq (body s ++ 34 :: l) = (s, l, 0)
  | [], l => by
    show tq (34 :: l) = _
    rw [tq_cons, if_pos (by decide)]
  | c :: s, l => by
    have e : body (c :: s) ++ 34 :: l = esc c ++ (body s ++ 34 :: l) := by
      show (esc c ++ body s) ++ 34 :: l = _
      rw [List.append_assoc]
    rw [e]
    have ih := tq_body s l
    unfold esc
    by_cases h1 : c.toNat = 92 ∨ c.toNat = 34
    · rw [if_pos h1]
      show tq (92 :: c :: (body s ++ 34 :: l)) = _
      rw [tq_cons, if_neg (by decide), if_neg (by decide), if_pos (by decide)]
      show (if c.toNat = 92 ∨ c.toNat = 34 then _ else _) = _
      rw [if_pos h1, ih, if_pos rfl]
    · rw [if_neg h1]
      by_cases h2 : c.toNat = 10
      · rw [if_pos h2]
        show tq (92 :: 110 :: (body s ++ 34 :: l)) = _
        rw [tq_cons, if_neg (by decide), if_neg (by decide), if_pos (by decide)]
        show (if (110 : UInt8).toNat = 92 ∨ (110 : UInt8).toNat = 34 then _ else if (110 : UInt8).toNat = 110 then _ else _) = _
        rw [if_neg (by decide), if_pos (by decide), ih, if_pos rfl]
        have : c = 10 := UInt8.toNat_inj.1 h2
        rw [this]
      · rw [if_neg h2]
        show tq (c :: (body s ++ 34 :: l)) = _
        rw [tq_cons, if_neg (by omega), if_neg h2, if_neg (by omega), ih, if_pos rfl]
/-- A kind and a text that are a token's. -/
def Good (k : Nat) (s : T) : Prop :=
  (k = 1 ∧ ∃ c w, s = c :: w ∧ isL c = true ∧ w.all wordC = true) ∨
  (k = 2 ∧ ∃ c w, s = c :: w ∧ isL c = false ∧ (isD c || (decide (c.toNat = 45) && hdD w)) = true ∧ w.all numC = true) ∨
  k = 3 ∨
  (k = 4 ∧ ((∃ c d, s = [c, d] ∧ two c.toNat d.toNat = true) ∨ ∃ c, s = [c] ∧ oneS c.toNat = true))
theorem two_not {c : UInt8} {n : Nat} (h : two c.toNat n = true ∨ oneS c.toNat = true) : isL c = false ∧ isD c = false ∧ c.toNat ≠ 45 ∧ c.toNat ≠ 34 := by
  have h' : c.toNat = 33 ∨ c.toNat = 61 ∨ c.toNat = 62 ∨ c.toNat = 60 ∨ c.toNat = 123 ∨ c.toNat = 125 ∨ c.toNat = 40 ∨ c.toNat = 41 ∨ c.toNat = 44 ∨ c.toNat = 58 ∨ c.toNat = 59 := by
    rcases h with h | h
    · simp only [two, decide_eq_true_eq] at h; omega
    · simp only [oneS, decide_eq_true_eq] at h; omega
  have hl : isL c = false := by simp only [isL, Lp.letB, Bool.or_eq_false_iff, Bool.and_eq_false_iff, decide_eq_false_iff_not]; omega
  have hd : isD c = false := by simp only [isD, Lp.digB, Bool.and_eq_false_iff, decide_eq_false_iff_not]; omega
  exact ⟨hl, hd, by omega, by omega⟩
theorem hdD_app {w l : T} (h : w ≠ []) : hdD (w ++ l) = hdD w := by
  cases w with
  | nil => exact absurd rfl h
  | cons c w => rfl
theorem quote_not : isL 34 = false ∧ isD 34 = false ∧ (34 : UInt8).toNat ≠ 45 := by decide
theorem one_txt {k : Nat} {s : T} (h : Good k s) {l : T} (hl : Sep l) : one (txt k s ++ l) = (k, s, l, 0) := by
  obtain ⟨hl1, hl2⟩ := sep_hd hl
  rcases h with ⟨rfl, c, w, rfl, h1, h2⟩ | ⟨rfl, c, w, rfl, h0, h1, h2⟩ | rfl | ⟨rfl, h⟩
  · obtain ⟨a, b⟩ := sep_take hl wordC (fun c hc => (white_not hc).2.2.1) w h2
    show one (c :: (w ++ l)) = _
    rw [one]
    rw [if_pos h1, a, b]
  · obtain ⟨a, b⟩ := sep_take hl numC (fun c hc => (white_not hc).2.2.2.1) w h2
    show one (c :: (w ++ l)) = _
    rw [one]
    have h3 : (isD c || (decide (c.toNat = 45) && hdD (w ++ l))) = true := by
      by_cases hw : w = []
      · subst hw
        simp only [hdD, Bool.and_false, Bool.or_false] at h1
        rw [h1]; rfl
      · rw [hdD_app hw]; exact h1
    rw [if_neg (by rw [h0]; decide), if_pos h3, a, b]
  · show one (34 :: ((body s ++ [34]) ++ l)) = _
    obtain ⟨q1, q2, q3⟩ := quote_not
    have e : (body s ++ [34]) ++ l = body s ++ 34 :: l := by rw [List.append_assoc]; rfl
    rw [e]
    rw [one]
    rw [if_neg (by rw [q1]; decide), if_neg (by rw [q2]; simp), if_pos (by decide), tq_body, if_pos rfl]
  · rcases h with ⟨c, d, rfl, h⟩ | ⟨c, rfl, h⟩
    · obtain ⟨n1, n2, n3, n4⟩ := two_not (.inl h)
      show one (c :: d :: l) = _
      rw [one]
      rw [if_neg (by rw [n1]; decide), if_neg (by simp [n2, n3]), if_neg n4, if_pos (by exact h)]
      rfl
    · obtain ⟨n1, n2, n3, n4⟩ := two_not (n := 0) (.inr h)
      have ht : two c.toNat (hd l) = false := by simp only [two, decide_eq_false_iff_not]; omega
      show one (c :: l) = _
      rw [one]
      rw [if_neg (by rw [n1]; decide), if_neg (by simp [n2, n3]), if_neg n4, if_neg (by rw [ht]; decide), if_pos h]
theorem all_takeWhile (f : UInt8 → Bool) : ∀ l : T, (l.takeWhile f).all f = true
  | [] => rfl
  | c :: r => by
    rw [List.takeWhile_cons]
    split
    · rename_i h
      simp [h]
    · rfl
theorem hdD_take {r : T} (h : hdD r = true) : hdD (r.takeWhile numC) = true := by
  cases r with
  | nil => simp [hdD] at h
  | cons c r =>
    have : numC c = true := by simp only [hdD] at h; simp [numC, h]
    rw [List.takeWhile_cons, if_pos this]
    exact h
theorem one_good {l s r : T} {k : Nat} (h : one l = (k, s, r, 0)) : Good k s := by
  cases l with
  | nil => simp [one] at h
  | cons c t =>
    rw [one] at h
    split at h
    · rename_i h1
      simp only [Prod.mk.injEq] at h
      obtain ⟨rfl, rfl, _, _⟩ := h
      exact .inl ⟨rfl, c, _, rfl, h1, all_takeWhile _ _⟩
    · rename_i h1
      split at h
      · rename_i h2
        simp only [Prod.mk.injEq] at h
        obtain ⟨rfl, rfl, _, _⟩ := h
        refine .inr (.inl ⟨rfl, c, _, rfl, by simpa using h1, ?_, all_takeWhile _ _⟩)
        simp only [Bool.or_eq_true, Bool.and_eq_true] at h2 ⊢
        rcases h2 with h2 | ⟨h2, h3⟩
        · exact .inl h2
        · exact .inr ⟨h2, hdD_take h3⟩
      · split at h
        · split at h
          · simp only [Prod.mk.injEq] at h
            obtain ⟨rfl, _⟩ := h
            exact .inr (.inr (.inl rfl))
          · split at h <;> simp at h
        · split at h
          · rename_i h4
            simp only [Prod.mk.injEq] at h
            obtain ⟨rfl, rfl, _, _⟩ := h
            refine .inr (.inr (.inr ⟨rfl, .inl ?_⟩))
            cases t with
            | nil => simp [two, hd] at h4
            | cons d t => exact ⟨c, d, rfl, h4⟩
          · split at h
            · rename_i h5
              simp only [Prod.mk.injEq] at h
              obtain ⟨rfl, rfl, _, _⟩ := h
              exact .inr (.inr (.inr ⟨rfl, .inr ⟨c, rfl, h5⟩⟩))
            · simp at h
theorem tq_rest : ∀ l : T, ∃ p, l = p ++ (tq l).2.1 ∧ ((tq l).2.2 = 0 → p ≠ []) ∨ (tq l).2.2 = 12
  | [] => ⟨[], .inr rfl⟩
  | c :: r => by
    rw [tq_cons]
    split
    · exact ⟨[c], .inl ⟨rfl, fun _ => by simp⟩⟩
    · split
      · exact ⟨[], .inr rfl⟩
      · split
        · split
          · exact ⟨[], .inr rfl⟩
          · rename_i d r'
            have push : ∀ x : UInt8, ∃ p, c :: d :: r' = p ++ (if (tq r').2.2 = 0 then (x :: (tq r').1, (tq r').2.1, (0 : Int)) else ([], (tq r').2.1, (tq r').2.2)).2.1 ∧ ((if (tq r').2.2 = 0 then (x :: (tq r').1, (tq r').2.1, (0 : Int)) else ([], (tq r').2.1, (tq r').2.2)).2.2 = 0 → p ≠ []) ∨ (if (tq r').2.2 = 0 then (x :: (tq r').1, (tq r').2.1, (0 : Int)) else ([], (tq r').2.1, (tq r').2.2)).2.2 = 12 := by
              intro x
              obtain ⟨p, h⟩ := tq_rest r'
              refine ⟨c :: d :: p, ?_⟩
              rcases h with ⟨h, _⟩ | h
              · left
                refine ⟨?_, fun _ => by simp⟩
                split <;> simp only [List.cons_append, ← h]
              · right
                rw [if_neg (by rw [h]; decide)]
                exact h
            split
            · exact push d
            · split
              · exact push 10
              · exact ⟨[], .inl ⟨rfl, fun h => by simp at h⟩⟩
        · obtain ⟨p, h⟩ := tq_rest r
          refine ⟨c :: p, ?_⟩
          rcases h with ⟨h, _⟩ | h
          · left
            refine ⟨?_, fun _ => by simp⟩
            split <;> simp only [List.cons_append, ← h]
          · right
            rw [if_neg (by rw [h]; decide)]
            exact h
termination_by l => l.length
theorem tq_form : ∀ l : T, (tq l).2.2 = 1 → (tq l).2.1 ≠ []
  | [], h => by simp [tq] at h
  | c :: r, h => by
    rw [tq_cons] at h ⊢
    split
    · rename_i h1; rw [if_pos h1] at h; simp at h
    · rename_i h1
      rw [if_neg h1] at h
      split
      · rename_i h2; rw [if_pos h2] at h; simp at h
      · rename_i h2
        rw [if_neg h2] at h
        split
        · rename_i h3
          rw [if_pos h3] at h
          cases r with
          | nil => simp at h
          | cons d r' =>
            simp only at h ⊢
            split
            · rename_i h4
              rw [if_pos h4] at h
              split
              · rename_i h5; rw [if_pos h5] at h; simp at h
              · rename_i h5; rw [if_neg h5] at h; exact tq_form r' h
            · rename_i h4
              rw [if_neg h4] at h
              split
              · rename_i h6
                rw [if_pos h6] at h
                split
                · rename_i h5; rw [if_pos h5] at h; simp at h
                · rename_i h5; rw [if_neg h5] at h; exact tq_form r' h
              · simp
        · rename_i h3
          rw [if_neg h3] at h
          split
          · rename_i h5; rw [if_pos h5] at h; simp at h
          · rename_i h5; rw [if_neg h5] at h; exact tq_form r h
termination_by l => l.length
end Go.Proofs.YtgahahichplpkaaDoor.Lx

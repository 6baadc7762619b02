/-
  Plain lists for what is printed in pieces: tokens that stand one behind the other without white, where the next octet does not belong to the one ahead.
-/
import Derived.Test.YtgahahichplpkaaDoorLexFacts
namespace Go.Proofs.YtgahahichplpkaaDoor.Lx
open Go.Proofs.YtgahahichplpkaaDoor

/-- What stands behind ends the token. -/
def Stop (k : Nat) (s l : T) : Prop :=
  (k = 1 → ∀ c r, l = c :: r → wordC c = false) ∧ (k = 2 → ∀ c r, l = c :: r → numC c = false) ∧ (k = 4 → ∀ c, s = [c] → two c.toNat (hd l) = false)
theorem stop_take {l : T} {f : UInt8 → Bool} (h : ∀ c r, l = c :: r → f c = false) (w : T) (hw : w.all f = true) : (w ++ l).takeWhile f = w ∧ (w ++ l).dropWhile f = l := by
  induction w with
  | nil =>
    cases l with
    | nil => simp
    | cons c r => rw [List.nil_append, List.takeWhile_cons, List.dropWhile_cons, h c r rfl]; simp
  | cons a w ih =>
    simp only [List.all_cons, Bool.and_eq_true] at hw
    rw [List.cons_append, List.takeWhile_cons, List.dropWhile_cons, hw.1]
    obtain ⟨h1, h2⟩ := ih hw.2
    simp [h1, h2]
theorem stop_minus {w l : T} (h : ∀ c r, l = c :: r → numC c = false) (h1 : hdD w = true ∨ hdD (w ++ l) = false) : hdD (w ++ l) = hdD w := by
  cases w with
  | nil =>
    cases l with
    | nil => rfl
    | cons c r =>
      have := h c r rfl
      simp only [numC, Bool.or_eq_false_iff] at this
      exact this.1.2
  | cons c w => rfl
theorem one_stop {k : Nat} {s : T} (h : Good k s) {l : T} (hl : Stop k s l) : one (txt k s ++ l) = (k, s, l, 0) := by
  rcases h with ⟨rfl, c, w, rfl, h1, h2⟩ | ⟨rfl, c, w, rfl, h0, h1, h2⟩ | rfl | ⟨rfl, h⟩
  · obtain ⟨a, b⟩ := stop_take (hl.1 rfl) w h2
    show one (c :: (w ++ l)) = _
    rw [one, if_pos h1, a, b]
  · obtain ⟨a, b⟩ := stop_take (hl.2.1 rfl) w h2
    show one (c :: (w ++ l)) = _
    rw [one]
    have h3 : (isD c || (decide (c.toNat = 45) && hdD (w ++ l))) = true := by
      by_cases hw : w = []
      · subst hw
        simp only [hdD, Bool.and_false, Bool.or_false] at h1
        rw [h1]; rfl
      · rw [hdD_app hw]; exact h1
    rw [if_neg (by rw [h0]; decide), if_pos h3, a, b]
  · show one (34 :: ((body s ++ [34]) ++ l)) = _
    obtain ⟨q1, q2, q3⟩ := quote_not
    have e : (body s ++ [34]) ++ l = body s ++ 34 :: l := by rw [List.append_assoc]; rfl
    rw [e, one]
    rw [if_neg (by rw [q1]; decide), if_neg (by rw [q2]; simp), if_pos (by decide), tq_body, if_pos rfl]
  · rcases h with ⟨c, d, rfl, h⟩ | ⟨c, rfl, h⟩
    · obtain ⟨n1, n2, n3, n4⟩ := two_not (.inl h)
      show one (c :: d :: l) = _
      rw [one]
      rw [if_neg (by rw [n1]; decide), if_neg (by simp [n2, n3]), if_neg n4, if_pos (by exact h)]
      rfl
    · obtain ⟨n1, n2, n3, n4⟩ := two_not (n := 0) (.inr h)
      have ht : two c.toNat (hd l) = false := hl.2.2 rfl c rfl
      show one (c :: l) = _
      rw [one]
      rw [if_neg (by rw [n1]; decide), if_neg (by simp [n2, n3]), if_neg n4, if_neg (by rw [ht]; decide), if_pos h]
/-- White, a token, what follows, and so on: each token is ended by what follows. -/
def Chain : List (T × (Nat × T)) → T → Prop
  | [], f => bl false f = []
  | x :: r, f => Wh x.1 ∧ Good x.2.1 x.2.2 ∧ Stop x.2.1 x.2.2 (asm r f) ∧ Chain r f
theorem lex_chain : ∀ (L : List (T × (Nat × T))) (f : T) (m : Nat), L.length ≤ m → Chain L f →
    (lex m (asm L f)).1.map flat = L.map (·.2) ∧ (lex m (asm L f)).2.1 = [] ∧ (lex m (asm L f)).2.2 = 0
  | [], f, m, _, hf => by
    show (lex m f).1.map flat = [] ∧ (lex m f).2.1 = [] ∧ (lex m f).2.2 = 0
    have hf : bl false f = [] := hf
    cases m with
    | zero => rw [lex, if_pos hf]; exact ⟨rfl, rfl, rfl⟩
    | succ m => rw [lex, if_pos hf]; exact ⟨rfl, rfl, rfl⟩
  | x :: r, f, m, hm, hc => by
    obtain ⟨h1, h2, h3, h4⟩ := hc
    have hb : bl false (asm (x :: r) f) = txt x.2.1 x.2.2 ++ asm r f := by
      show bl false (x.1 ++ (txt x.2.1 x.2.2 ++ asm r f)) = _
      rw [h1, good_bl h2]
    cases m with
    | zero => simp at hm
    | succ m =>
      have ih := lex_chain r f m (by simpa using hm) h4
      rw [lex, hb, if_neg (good_ne h2 _), one_stop h2 h3, if_pos rfl]
      obtain ⟨a, b, c⟩ := ih
      refine ⟨?_, b, c⟩
      show flat (x.2.1, _, x.2.2) :: (lex m (asm r f)).1.map flat = x.2 :: r.map (·.2)
      rw [a]; rfl
theorem stop_text (s l : T) : Stop 3 s l := ⟨fun h => by simp at h, fun h => by simp at h, fun h => by simp at h⟩
theorem stop_word {s : T} {l : T} (h : ∀ c r, l = c :: r → wordC c = false) : Stop 1 s l := ⟨fun _ => h, fun h => by simp at h, fun h => by simp at h⟩
theorem stop_two (c d : UInt8) (l : T) : Stop 4 [c, d] l := ⟨fun h => by simp at h, fun h => by simp at h, fun _ x hx => by simp at hx⟩
theorem stop_sign {c : UInt8} {l : T} (h : two c.toNat (hd l) = false) : Stop 4 [c] l := ⟨fun h => by simp at h, fun h => by simp at h, fun _ x hx => by cases hx; exact h⟩
end Go.Proofs.YtgahahichplpkaaDoor.Lx

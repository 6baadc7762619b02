/-
  Plain lists for layer lex, gone on with: what all tokens of a text are, where they stand, joined, with white, line by line, quoted, cut short. Nothing of any program.
-/
import Derived.Test.YtgahahichplpkaaDoorLexPlain
namespace Go.Proofs.YtgahahichplpkaaDoor.Lx
open Go.Proofs.YtgahahichplpkaaDoor

theorem good_first {k : Nat} {s : T} (h : Good k s) : ∃ c r, txt k s = c :: r ∧ c.toNat ≠ 35 ∧ isW c = false := by
  have key : ∀ c : UInt8, isL c = true ∨ isD c = true ∨ c.toNat = 45 ∨ c.toNat = 34 ∨ (∃ n, two c.toNat n = true) ∨ oneS c.toNat = true → c.toNat ≠ 35 ∧ isW c = false := by
    intro c hc
    by_cases hw : isW c = true ∨ c.toNat = 35
    · obtain ⟨a, b, _, _, _⟩ := white_not hw
      have hw' : c.toNat = 32 ∨ c.toNat = 9 ∨ c.toNat = 13 ∨ c.toNat = 10 ∨ c.toNat = 35 := by
        rcases hw with h | h
        · simp only [isW, Bool.or_eq_true, decide_eq_true_eq] at h; omega
        · omega
      rcases hc with h | h | h | h | ⟨n, h⟩ | h
      · rw [a] at h; cases h
      · rw [b] at h; cases h
      · omega
      · omega
      · simp only [two, decide_eq_true_eq] at h; omega
      · simp only [oneS, decide_eq_true_eq] at h; omega
    · exact ⟨fun e => hw (.inr e), by cases h : isW c with | false => rfl | true => exact absurd (.inl h) hw⟩
  rcases h with ⟨rfl, c, w, rfl, h1, _⟩ | ⟨rfl, c, w, rfl, _, h1, _⟩ | rfl | ⟨rfl, ⟨c, d, rfl, h⟩ | ⟨c, rfl, h⟩⟩
  · exact ⟨c, w, rfl, key c (.inl h1)⟩
  · refine ⟨c, w, rfl, key c ?_⟩
    simp only [Bool.or_eq_true, Bool.and_eq_true, decide_eq_true_eq] at h1
    rcases h1 with h | ⟨h, _⟩
    · exact .inr (.inl h)
    · exact .inr (.inr (.inl h))
  · exact ⟨34, body s ++ [34], rfl, by decide, by decide⟩
  · exact ⟨c, [d], rfl, key c (.inr (.inr (.inr (.inr (.inl ⟨_, h⟩)))))⟩
  · exact ⟨c, [], rfl, key c (.inr (.inr (.inr (.inr (.inr h)))))⟩
theorem good_bl {k : Nat} {s : T} (h : Good k s) (l : T) : bl false (txt k s ++ l) = txt k s ++ l := by
  obtain ⟨c, r, e, h1, h2⟩ := good_first h
  rw [e]
  exact bl_self h1 h2
theorem good_ne {k : Nat} {s : T} (h : Good k s) (l : T) : txt k s ++ l ≠ [] := by
  obtain ⟨c, r, e, _⟩ := good_first h
  rw [e]; simp
theorem good_pos {k : Nat} {s : T} (h : Good k s) : 0 < (txt k s).length := by
  obtain ⟨c, r, e, _⟩ := good_first h
  rw [e]; simp

/-! ### tokens with white between -/
def Wh (w : T) : Prop := ∀ l, bl false (w ++ l) = bl false l
def Starts (w : T) : Prop := ∃ c r, w = c :: r ∧ (isW c = true ∨ c.toNat = 35)
theorem Starts.sep {w : T} (h : Starts w) (l : T) : Sep (w ++ l) := by
  obtain ⟨c, r, rfl, hc⟩ := h
  exact .inr ⟨c, r ++ l, rfl, hc⟩
def asm : List (T × (Nat × T)) → T → T
  | [], f => f
  | x :: r, f => x.1 ++ (txt x.2.1 x.2.2 ++ asm r f)
theorem asm_sep : ∀ (L : List (T × (Nat × T))) (f : T), (∀ x ∈ L, Starts x.1) → Sep f → Sep (asm L f)
  | [], _, _, hf => hf
  | x :: r, f, h, _ => (h x (by simp)).sep _
theorem lex_asm : ∀ (L : List (T × (Nat × T))) (f : T) (m : Nat), L.length ≤ m → (∀ x ∈ L, Wh x.1 ∧ Good x.2.1 x.2.2) → (∀ x ∈ L.tail, Starts x.1) → bl false f = [] → Sep f →
    (lex m (asm L f)).1.map flat = L.map (·.2) ∧ (lex m (asm L f)).2.1 = [] ∧ (lex m (asm L f)).2.2 = 0
  | [], f, m, _, _, _, hf, _ => by
    show (lex m f).1.map flat = [] ∧ (lex m f).2.1 = [] ∧ (lex m f).2.2 = 0
    cases m with
    | zero => rw [lex, if_pos hf]; exact ⟨rfl, rfl, rfl⟩
    | succ m => rw [lex, if_pos hf]; exact ⟨rfl, rfl, rfl⟩
  | x :: r, f, m, hm, hg, hs, hf, hsep => by
    obtain ⟨h1, h2⟩ := hg x (by simp)
    have hsr : Sep (asm r f) := asm_sep r f (fun y hy => hs y hy) hsep
    have hb : bl false (asm (x :: r) f) = txt x.2.1 x.2.2 ++ asm r f := by
      show bl false (x.1 ++ (txt x.2.1 x.2.2 ++ asm r f)) = _
      rw [h1, good_bl h2]
    cases m with
    | zero => simp at hm
    | succ m =>
      have ih := lex_asm r f m (by simpa using hm) (fun y hy => hg y (by simp [hy])) (fun y hy => hs y (List.mem_of_mem_tail hy)) hf hsep
      rw [lex, hb, if_neg (good_ne h2 _), one_txt h2 hsr, if_pos rfl]
      obtain ⟨a, b, c⟩ := ih
      refine ⟨?_, b, c⟩
      show flat (x.2.1, _, x.2.2) :: (lex m (asm r f)).1.map flat = x.2 :: r.map (·.2)
      rw [a]; rfl
theorem wh_nil : Wh [] := fun _ => rfl
theorem wh_32 : Wh [32] := fun l => by
  show bl false (32 :: l) = _
  rw [bl, if_neg (by decide), if_pos (by decide)]
theorem wh_9 : Wh [9] := fun l => by
  show bl false (9 :: l) = _
  rw [bl, if_neg (by decide), if_pos (by decide)]
theorem wh_app {a b : T} (ha : Wh a) (hb : Wh b) : Wh (a ++ b) := fun l => by rw [List.append_assoc, ha, hb]
theorem wh_13 : Wh [13] := fun l => by
  show bl false (13 :: l) = _
  rw [bl, if_neg (by decide), if_pos (by decide)]
theorem wh_10 : Wh [10] := fun l => by
  show bl false (10 :: l) = _
  rw [bl, if_neg (by decide), if_pos (by decide)]
/-- A remark up to its LF. -/
theorem bl_remark : ∀ (w l : T), (∀ c ∈ w, c.toNat ≠ 10) → bl true (w ++ 10 :: l) = bl false l
  | [], l, _ => by rw [List.nil_append, bl, if_pos (by decide)]
  | c :: w, l, h => by
    rw [List.cons_append, bl, if_neg (h c (by simp))]
    exact bl_remark w l (fun d hd => h d (by simp [hd]))
theorem wh_remark {w : T} (h : ∀ c ∈ w, c.toNat ≠ 10) : Wh (35 :: (w ++ [10])) := fun l => by
  show bl false (35 :: ((w ++ [10]) ++ l)) = _
  rw [bl, if_pos (by decide), List.append_assoc]
  exact bl_remark w l h

/-! ### what all tokens are -/
theorem lex_good : ∀ (m : Nat) (l : T), ∀ t ∈ (lex m l).1, Good t.1 t.2.2
  | 0, l => by
    rw [lex]
    split <;> simp
  | m + 1, l => by
    rw [lex]
    split
    · simp
    · split
      · rename_i h
        intro t ht
        rcases List.mem_cons.1 ht with rfl | ht
        · exact one_good (l := bl false l) (r := (one (bl false l)).2.2.1) (by rw [← h])
        · exact lex_good m _ t ht
      · simp
theorem lex_count : ∀ (m : Nat) (l : T), (lex m l).1.length ≤ m
  | 0, l => by
    rw [lex]
    split <;> simp
  | m + 1, l => by
    rw [lex]
    split
    · simp
    · split
      · simp only [List.length_cons]
        have := lex_count m (one (bl false l)).2.2.1
        omega
      · simp
theorem joinP_asm : ∀ (p : Nat × T) (r : List (Nat × T)), joinP (p :: r) = asm (([], p) :: r.map fun q => ([32], q)) []
  | p, [] => by simp [joinP, asm]
  | p, q :: r => by
    have ih := joinP_asm q r
    rw [joinP, ih]
    rfl
/-- What is joined is the same tokens. -/
theorem lex_join {L : List (Nat × T)} {m : Nat} (hm : L.length ≤ m) (hg : ∀ p ∈ L, Good p.1 p.2) : (lex m (joinP L)).1.map flat = L ∧ (lex m (joinP L)).2.1 = [] ∧ (lex m (joinP L)).2.2 = 0 := by
  cases L with
  | nil =>
    have : lex m (joinP []) = ([], [], 0) := by cases m <;> simp [joinP, lex, bl]
    rw [this]; exact ⟨rfl, rfl, rfl⟩
  | cons p r =>
    rw [joinP_asm]
    have := lex_asm (([], p) :: r.map fun q => ([32], q)) [] m (by simpa using hm) (by
      intro x hx
      rcases List.mem_cons.1 hx with rfl | hx
      · exact ⟨wh_nil, hg _ (by simp)⟩
      · obtain ⟨q, hq, rfl⟩ := List.mem_map.1 hx
        exact ⟨wh_32, hg _ (by simp [hq])⟩) (by
      intro x hx
      obtain ⟨q, _, rfl⟩ := List.mem_map.1 hx
      exact ⟨32, [], rfl, .inl (by decide)⟩) (by rw [bl]) (.inl rfl)
    obtain ⟨a, b, c⟩ := this
    refine ⟨?_, b, c⟩
    rw [a, List.map_cons, List.map_map]
    have : ((fun x : T × (Nat × T) => x.2) ∘ fun q : Nat × T => (([32] : T), q)) = id := rfl
    rw [this, List.map_id]

/-! ### where they stand -/
theorem tq_ok : ∀ (l : T), (tq l).2.2 = 0 → l = body (tq l).1 ++ 34 :: (tq l).2.1
  | [], h => by simp [tq] at h
  | c :: r, h => by
    rw [tq_cons] at h ⊢
    by_cases h1 : c.toNat = 34
    · have hc : c = 34 := UInt8.toNat_inj.1 h1
      rw [if_pos h1, hc]; rfl
    · rw [if_neg h1] at h ⊢
      by_cases h2 : c.toNat = 10
      · rw [if_pos h2] at h; simp at h
      · rw [if_neg h2] at h ⊢
        by_cases h3 : c.toNat = 92
        · have hc : c = 92 := UInt8.toNat_inj.1 h3
          rw [if_pos h3] at h ⊢
          cases r with
          | nil => simp at h
          | cons d r' =>
            simp only at h ⊢
            by_cases h4 : d.toNat = 92 ∨ d.toNat = 34
            · rw [if_pos h4] at h ⊢
              by_cases h5 : (tq r').2.2 = 0
              · rw [if_pos h5]
                have ih := tq_ok r' h5
                have he : esc d = [92, d] := by unfold esc; rw [if_pos h4]
                show c :: d :: r' = (esc d ++ body (tq r').1) ++ 34 :: (tq r').2.1
                rw [he, hc, List.append_assoc, ← ih]; rfl
              · rw [if_neg h5] at h; exact absurd h h5
            · rw [if_neg h4] at h ⊢
              by_cases h6 : d.toNat = 110
              · have hd : d = 110 := UInt8.toNat_inj.1 h6
                rw [if_pos h6] at h ⊢
                by_cases h5 : (tq r').2.2 = 0
                · rw [if_pos h5]
                  have ih := tq_ok r' h5
                  have he : esc 10 = [92, 110] := by decide
                  show c :: d :: r' = (esc 10 ++ body (tq r').1) ++ 34 :: (tq r').2.1
                  rw [he, hc, hd, List.append_assoc, ← ih]; rfl
                · rw [if_neg h5] at h; exact absurd h h5
              · rw [if_neg h6] at h; simp at h
        · rw [if_neg h3] at h ⊢
          by_cases h5 : (tq r).2.2 = 0
          · rw [if_pos h5]
            have ih := tq_ok r h5
            have he : esc c = [c] := by unfold esc; rw [if_neg (by omega), if_neg h2]
            show c :: r = (esc c ++ body (tq r).1) ++ 34 :: (tq r).2.1
            rw [he, List.append_assoc, ← ih]; rfl
          · rw [if_neg h5] at h; exact absurd h h5
termination_by l => l.length
/-- A token's text stands ahead of the rest. -/
theorem one_src {l s r : T} {k : Nat} (h : one l = (k, s, r, 0)) : l = txt k s ++ r := by
  cases l with
  | nil => simp [one] at h
  | cons c t =>
    rw [one] at h
    split at h
    · simp only [Prod.mk.injEq] at h
      obtain ⟨rfl, rfl, rfl, _⟩ := h
      show c :: t = c :: (t.takeWhile wordC ++ t.dropWhile wordC)
      rw [List.takeWhile_append_dropWhile]
    · split at h
      · simp only [Prod.mk.injEq] at h
        obtain ⟨rfl, rfl, rfl, _⟩ := h
        show c :: t = c :: (t.takeWhile numC ++ t.dropWhile numC)
        rw [List.takeWhile_append_dropWhile]
      · split at h
        · rename_i h1
          have hc : c = 34 := UInt8.toNat_inj.1 h1
          split at h
          · rename_i h2
            simp only [Prod.mk.injEq] at h
            obtain ⟨rfl, rfl, rfl, _⟩ := h
            show c :: t = 34 :: ((body (tq t).1 ++ [34]) ++ (tq t).2.1)
            rw [hc, List.append_assoc]
            congr 1
            exact tq_ok t h2
          · split at h <;> simp at h
        · split at h
          · simp only [Prod.mk.injEq] at h
            obtain ⟨rfl, rfl, rfl, _⟩ := h
            show c :: t = c :: (t.take 1 ++ t.drop 1)
            rw [List.take_append_drop]
          · split at h
            · simp only [Prod.mk.injEq] at h
              obtain ⟨rfl, rfl, rfl, _⟩ := h
              rfl
            · simp at h
theorem one_err {l s r : T} {k : Nat} {e : Int} (hl : l ≠ []) (h : one l = (k, s, r, e)) (he : e ≠ 0) : (∃ p, l = p ++ r) ∧ r ≠ [] ∧ (e = 1 ∨ e = 12) := by
  cases l with
  | nil => exact absurd rfl hl
  | cons c t =>
    rw [one] at h
    split at h
    · simp only [Prod.mk.injEq] at h; exact absurd h.2.2.2.symm he
    · split at h
      · simp only [Prod.mk.injEq] at h; exact absurd h.2.2.2.symm he
      · split at h
        · split at h
          · simp only [Prod.mk.injEq] at h; exact absurd h.2.2.2.symm he
          · split at h
            · rename_i h2
              simp only [Prod.mk.injEq] at h
              obtain ⟨_, _, rfl, rfl⟩ := h
              obtain ⟨p, hp⟩ := tq_rest t
              rcases hp with ⟨hp, _⟩ | hp
              · refine ⟨⟨c :: p, by rw [List.cons_append, ← hp]⟩, ?_, .inl rfl⟩
                exact tq_form t h2
              · rw [hp] at h2; cases h2
            · simp only [Prod.mk.injEq] at h
              obtain ⟨_, _, rfl, rfl⟩ := h
              exact ⟨⟨[], rfl⟩, by simp, .inr rfl⟩
        · split at h
          · simp only [Prod.mk.injEq] at h; exact absurd h.2.2.2.symm he
          · split at h
            · simp only [Prod.mk.injEq] at h; exact absurd h.2.2.2.symm he
            · simp only [Prod.mk.injEq] at h
              obtain ⟨_, _, rfl, rfl⟩ := h
              exact ⟨⟨[], rfl⟩, by simp, .inl rfl⟩
/-- The tokens ts stand in l one behind the other, and behind them e. -/
def Ch : T → List Tok → T → Prop
  | l, [], e => ∃ p, l = p ++ e
  | l, t :: r, e => ∃ p u, l = p ++ (txt t.1 t.2.2 ++ u) ∧ t.2.1 = (txt t.1 t.2.2 ++ u).length ∧ Good t.1 t.2.2 ∧ Ch u r e
theorem lex_ch : ∀ (m : Nat) (l : T), Ch l (lex m l).1 (lex m l).2.1
  | 0, l => by
    rw [lex]
    split
    · exact ⟨l, by simp⟩
    · exact bl_suffix false l
  | m + 1, l => by
    rw [lex]
    split
    · exact ⟨l, by simp⟩
    · rename_i hne
      obtain ⟨p, hp⟩ := bl_suffix false l
      split
      · rename_i h
        have e : one (bl false l) = ((one (bl false l)).1, (one (bl false l)).2.1, (one (bl false l)).2.2.1, 0) := by rw [← h]
        have hs := one_src e
        exact ⟨p, (one (bl false l)).2.2.1, by rw [← hs]; exact hp, by rw [← hs], one_good e, lex_ch m _⟩
      · rename_i h
        obtain ⟨⟨q, hq⟩, _⟩ := one_err hne (s := (one (bl false l)).2.1) (k := (one (bl false l)).1) (r := (one (bl false l)).2.2.1) (e := (one (bl false l)).2.2.2) rfl h
        exact ⟨p ++ q, by rw [List.append_assoc, ← hq]; exact hp⟩
theorem lex_end : ∀ (m : Nat) (l : T), ((lex m l).2.2 = 0 → (lex m l).2.1 = []) ∧ ((lex m l).2.2 ≠ 0 → (lex m l).2.1 ≠ [] ∧ ((lex m l).2.2 = 1 ∨ (lex m l).2.2 = 4 ∨ (lex m l).2.2 = 12))
  | 0, l => by
    rw [lex]
    split
    · exact ⟨fun _ => rfl, fun h => absurd rfl h⟩
    · rename_i h
      exact ⟨fun h => by simp at h, fun _ => ⟨h, .inr (.inl rfl)⟩⟩
  | m + 1, l => by
    rw [lex]
    split
    · exact ⟨fun _ => rfl, fun h => absurd rfl h⟩
    · rename_i hne
      split
      · exact lex_end m _
      · rename_i h
        obtain ⟨_, h2, h3⟩ := one_err hne (s := (one (bl false l)).2.1) (k := (one (bl false l)).1) (r := (one (bl false l)).2.2.1) (e := (one (bl false l)).2.2.2) rfl h
        exact ⟨fun h0 => absurd h0 h, fun _ => ⟨h2, h3.elim .inl (fun h => .inr (.inr h))⟩⟩

/-! ### line by line -/
theorem takeWhile_line (f : UInt8 → Bool) (hf : f 10 = false) (t : T) : ∀ l : T, (l ++ 10 :: t).takeWhile f = l.takeWhile f ∧ (l ++ 10 :: t).dropWhile f = l.dropWhile f ++ 10 :: t
  | [] => by
    rw [List.nil_append, List.takeWhile_cons, List.dropWhile_cons, hf]; simp
  | c :: r => by
    obtain ⟨a, b⟩ := takeWhile_line f hf t r
    rw [List.cons_append, List.takeWhile_cons, List.dropWhile_cons, List.takeWhile_cons, List.dropWhile_cons]
    split
    · rw [a, b]; exact ⟨rfl, rfl⟩
    · exact ⟨rfl, rfl⟩
theorem one_line {l s r : T} {k : Nat} (h : one l = (k, s, r, 0)) (t : T) : one (l ++ 10 :: t) = (k, s, r ++ 10 :: t, 0) := by
  cases l with
  | nil => simp [one] at h
  | cons c u =>
    rw [one] at h
    rw [List.cons_append, one]
    split at h
    · rename_i h1
      simp only [Prod.mk.injEq] at h
      obtain ⟨rfl, rfl, rfl, _⟩ := h
      obtain ⟨a, b⟩ := takeWhile_line wordC (by decide) t u
      rw [if_pos h1, a, b]
    · rename_i h1
      rw [if_neg h1]
      split at h
      · rename_i h2
        simp only [Prod.mk.injEq] at h
        obtain ⟨rfl, rfl, rfl, _⟩ := h
        obtain ⟨a, b⟩ := takeWhile_line numC (by decide) t u
        have h2' : (isD c || (decide (c.toNat = 45) && hdD (u ++ 10 :: t))) = true := by
          by_cases hu : u = []
          · subst hu
            simp only [hdD, Bool.and_false, Bool.or_false] at h2
            rw [h2]; rfl
          · rw [hdD_app hu]; exact h2
        rw [if_pos h2', a, b]
      · rename_i h2
        have h2' : ¬ (isD c || (decide (c.toNat = 45) && hdD (u ++ 10 :: t))) = true := by
          by_cases hu : u = []
          · subst hu
            simp only [Bool.or_eq_true, Bool.and_eq_true, not_or] at h2 ⊢
            exact ⟨h2.1, fun hh => by have := hh.2; simp [hdD, isD, Lp.digB] at this⟩
          · rw [hdD_app hu]; exact h2
        rw [if_neg h2']
        split at h
        · rename_i h3
          rw [if_pos h3]
          split at h
          · rename_i h4
            simp only [Prod.mk.injEq] at h
            obtain ⟨rfl, rfl, rfl, _⟩ := h
            have e := tq_ok u h4
            have e2 : u ++ 10 :: t = body (tq u).1 ++ 34 :: ((tq u).2.1 ++ 10 :: t) := by
              conv => lhs; rw [e]
              rw [List.append_assoc]; rfl
            rw [e2, tq_body, if_pos rfl]
          · split at h <;> simp at h
        · rename_i h3
          rw [if_neg h3]
          split at h
          · rename_i h4
            simp only [Prod.mk.injEq] at h
            obtain ⟨rfl, rfl, rfl, _⟩ := h
            cases u with
            | nil => simp [two, hd] at h4
            | cons d u =>
              rw [if_pos (by exact h4)]
              rfl
          · rename_i h4
            have h4' : ¬ two c.toNat (hd (u ++ 10 :: t)) = true := by
              cases u with
              | nil => simp [two, hd]
              | cons d u => exact h4
            rw [if_neg h4']
            split at h
            · rename_i h5
              simp only [Prod.mk.injEq] at h
              obtain ⟨rfl, rfl, rfl, _⟩ := h
              rw [if_pos h5]
            · simp at h
def moved (n : Nat) (t : Tok) : Tok := (t.1, t.2.1 + n, t.2.2)
theorem lex_line (t : T) : ∀ (m : Nat) (a : T), (lex m a).2.2 = 0 → (lex m a).1.length ≤ m → lex m (a ++ 10 :: t) = ((lex m a).1.map (moved (t.length + 1)) ++ (lex (m - (lex m a).1.length) t).1, (lex (m - (lex m a).1.length) t).2.1, (lex (m - (lex m a).1.length) t).2.2)
  | 0, a, h, _ => by
    rw [lex] at h ⊢
    have hb := bl_line false a t
    by_cases ha : bl false a = []
    · rw [if_pos ha] at hb
      have e : lex 0 a = ([], [], 0) := by rw [lex, if_pos ha]
      rw [e, hb]
      show _ = ([] ++ (lex 0 t).1, (lex 0 t).2.1, (lex 0 t).2.2)
      rw [lex]; rfl
    · rw [if_neg ha] at h; simp at h
  | m + 1, a, h, hl => by
    have hb := bl_line false a t
    by_cases ha : bl false a = []
    · rw [if_pos ha] at hb
      have e : lex (m + 1) a = ([], [], 0) := by rw [lex, if_pos ha]
      rw [e]
      show lex (m + 1) (a ++ 10 :: t) = ([] ++ (lex (m + 1) t).1, (lex (m + 1) t).2.1, (lex (m + 1) t).2.2)
      rw [lex, lex, hb]; rfl
    · rw [if_neg ha] at hb
      by_cases ho : (one (bl false a)).2.2.2 = 0
      · have e1 : one (bl false a) = ((one (bl false a)).1, (one (bl false a)).2.1, (one (bl false a)).2.2.1, 0) := by rw [← ho]
        have e2 := one_line e1 t
        have e : lex (m + 1) a = (((one (bl false a)).1, (bl false a).length, (one (bl false a)).2.1) :: (lex m (one (bl false a)).2.2.1).1, (lex m (one (bl false a)).2.2.1).2.1, (lex m (one (bl false a)).2.2.1).2.2) := by rw [lex, if_neg ha, if_pos ho]
        rw [e] at h hl
        rw [e]
        have ih := lex_line t m (one (bl false a)).2.2.1 h (by simpa using hl)
        rw [lex, hb, if_neg (by simp), e2, if_pos rfl]
        simp only
        rw [ih, List.length_cons, Nat.add_sub_add_right]
        simp only [List.map_cons, List.cons_append, moved, List.length_append, List.length_cons]
      · rw [lex, if_neg ha, if_neg ho] at h
        exact absurd h ho
theorem one_shorter {l s r : T} {k : Nat} (h : one l = (k, s, r, 0)) : r.length < l.length := by
  have h1 := one_src h
  have h2 := good_pos (one_good h)
  rw [h1, List.length_append]
  omega
/-- There is room for as many tokens as octets. -/
theorem lex_room : ∀ (m n : Nat) (l : T), l.length ≤ m → l.length ≤ n → lex m l = lex n l
  | 0, n, l, hm, _ => by
    have hl : l = [] := List.length_eq_zero_iff.1 (by omega)
    subst hl
    cases n <;> simp [lex, bl]
  | m + 1, 0, l, _, hn => by
    have hl : l = [] := List.length_eq_zero_iff.1 (by omega)
    subst hl
    simp [lex, bl]
  | m + 1, n + 1, l, hm, hn => by
    rw [lex, lex]
    by_cases ha : bl false l = []
    · rw [if_pos ha, if_pos ha]
    · rw [if_neg ha, if_neg ha]
      by_cases ho : (one (bl false l)).2.2.2 = 0
      · have e1 : one (bl false l) = ((one (bl false l)).1, (one (bl false l)).2.1, (one (bl false l)).2.2.1, 0) := by rw [← ho]
        have h1 := one_shorter e1
        have h2 := bl_len false l
        rw [if_pos ho, if_pos ho, lex_room m n _ (by omega) (by omega)]
      · rw [if_neg ho, if_neg ho]

/-! ### quoted, and cut short -/
theorem tq_cut : ∀ (s : T) (j : Nat), j ≤ (body s).length → (tq ((body s).take j)).2.2 = 12
  | [], j, h => by
    simp [body] at h
    subst h
    simp [body, tq]
  | c :: s, j, h => by
    have e : body (c :: s) = esc c ++ body s := rfl
    rw [e, List.length_append] at h
    rw [e]
    cases j with
    | zero => simp [tq]
    | succ j =>
      unfold esc at h ⊢
      by_cases h1 : c.toNat = 92 ∨ c.toNat = 34
      · rw [if_pos h1] at h ⊢
        cases j with
        | zero =>
          show (tq [92]).2.2 = 12
          rw [tq_cons, if_neg (by decide), if_neg (by decide), if_pos (by decide)]
        | succ j =>
          show (tq (92 :: c :: (body s).take j)).2.2 = 12
          have ih := tq_cut s j (by simp at h; omega)
          rw [tq_cons, if_neg (by decide), if_neg (by decide), if_pos (by decide)]
          simp only
          rw [if_pos h1, if_neg (by rw [ih]; decide)]
          exact ih
      · rw [if_neg h1] at h ⊢
        by_cases h2 : c.toNat = 10
        · rw [if_pos h2] at h ⊢
          cases j with
          | zero =>
            show (tq [92]).2.2 = 12
            rw [tq_cons, if_neg (by decide), if_neg (by decide), if_pos (by decide)]
          | succ j =>
            show (tq (92 :: 110 :: (body s).take j)).2.2 = 12
            have ih := tq_cut s j (by simp at h; omega)
            rw [tq_cons, if_neg (by decide), if_neg (by decide), if_pos (by decide)]
            simp only
            rw [if_neg (by decide), if_pos (by decide), if_neg (by rw [ih]; decide)]
            exact ih
        · rw [if_neg h2] at h ⊢
          show (tq (c :: (body s).take j)).2.2 = 12
          have ih := tq_cut s j (by simp at h; omega)
          rw [tq_cons, if_neg (by omega), if_neg h2, if_neg (by omega), if_neg (by rw [ih]; decide)]
          exact ih
theorem lex_quote (s : T) (m : Nat) : lex (m + 1) (32 :: 9 :: (quote s ++ [35, 32, 34])) = ([(3, (quote s).length + 3, s)], [], 0) := by
  have hg : Good 3 s := .inr (.inr (.inl rfl))
  have hb : bl false (32 :: 9 :: (quote s ++ [35, 32, 34])) = txt 3 s ++ [35, 32, 34] := by
    rw [bl, if_neg (by decide), if_pos (by decide), bl, if_neg (by decide), if_pos (by decide)]
    exact good_bl hg _
  have hr : bl false [35, 32, 34] = [] := by decide
  have hl : lex m [35, 32, 34] = ([], [], 0) := by cases m <;> rw [lex, if_pos hr]
  rw [lex, hb, if_neg (good_ne hg _), one_txt hg (.inr ⟨35, [32, 34], rfl, .inr (by decide)⟩), if_pos rfl, hl]
  simp only [txt, if_pos, List.length_append, List.length_cons, List.length_nil]
theorem lex_cut (s : T) (m j : Nat) (h : j + 1 < (quote s).length) : lex (m + 1) ((quote s).take (j + 1)) = ([], (quote s).take (j + 1), 12) := by
  have hj : j ≤ (body s).length := by
    unfold quote at h
    simp at h
    omega
  have e : (quote s).take (j + 1) = 34 :: (body s).take j := by
    unfold quote
    rw [List.take_succ_cons, List.take_append_of_le_length hj]
  obtain ⟨q1, q2, q3⟩ := quote_not
  have hb : bl false (34 :: (body s).take j) = 34 :: (body s).take j := bl_self (by decide) (by decide)
  have ho : one (34 :: (body s).take j) = (0, [], 34 :: (body s).take j, 12) := by
    have hc := tq_cut s j hj
    rw [one, if_neg (by rw [q1]; decide), if_neg (by rw [q2]; simp), if_pos (by decide), if_neg (by rw [hc]; decide), if_neg (by rw [hc]; decide)]
  rw [e, lex, hb, if_neg (by simp), ho, if_neg (show ¬ ((12 : Int) = 0) by decide)]
end Go.Proofs.YtgahahichplpkaaDoor.Lx

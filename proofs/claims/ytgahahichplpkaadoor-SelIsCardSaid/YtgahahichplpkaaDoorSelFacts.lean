/-
  Plain facts for layer sel: what is printed is read as its tokens, and those as the selector; unlike selectors have unlike texts; more that is asked fits less. Nothing of any program.
-/
import Derived.Test.YtgahahichplpkaaDoorSelPlain
namespace Go.Proofs.YtgahahichplpkaaDoor.Sl
open Go.Proofs.YtgahahichplpkaaDoor

/-! ### the tokens of what is printed -/
def tM : Bool → List Mt → List (Nat × T)
  | _, [] => [(4, [125])]
  | b, m :: r => (4, [if b then 123 else 44]) :: (1, m.1.data.toList) :: (4, if m.2.2 then [33, 61] else [61]) :: (3, m.2.1.data.toList) :: tM false r
def tS (s : Sel) : List (Nat × T) := (1, s.1.data.toList) :: (if s.2 = [] then [] else tM true s.2)
def tf (p : Nat × T) : Tf := ((p.1 : Int), sg p.2)
theorem sg_self (s : ByteArray) : sg s.data.toList = s := by cases s; simp [sg]
theorem sg_size (l : T) : (sg l).size = l.length := by simp [sg, ByteArray.size]
theorem sg_inj {a b : T} (h : sg a = sg b) : a = b := by
  unfold sg at h
  have := congrArg (fun x : ByteArray => x.data.toList) h
  simpa using this
theorem want_drop (l : List Tf) (i j : Nat) (k : Int) (s : ByteArray) : want l (i + j) k s = want (l.drop i) j k s := by unfold want; rw [List.getElem?_drop]
theorem txt_drop (l : List Tf) (i j : Nat) : txtAt l (i + j) = txtAt (l.drop i) j := by unfold txtAt; rw [List.getElem?_drop]
theorem name_drop (l : List Tf) (i j : Nat) : nameAt l (i + j) = nameAt (l.drop i) j := by unfold nameAt; rw [want_drop, txt_drop]
theorem want_cons (t : Tf) (l : List Tf) (i : Nat) (k : Int) (s : ByteArray) : want (t :: l) (i + 1) k s = want l i k s := by unfold want; simp
theorem txt_cons (t : Tf) (l : List Tf) (i : Nat) : txtAt (t :: l) (i + 1) = txtAt l i := by unfold txtAt; simp
theorem want_here (t : Tf) (l : List Tf) (k : Int) (s : ByteArray) : want (t :: l) 0 k s = if t.1 = k ∧ (s.size = 0 ∨ t.2 = s) then 0 else 1 := by unfold want; simp
theorem txt_here (t : Tf) (l : List Tf) : txtAt (t :: l) 0 = t.2 := by unfold txtAt; simp
theorem want_in {l : List Tf} {i : Nat} {k : Int} {s : ByteArray} {t : Tf} {r : List Tf} (h : l.drop i = t :: r) : want l i k s = if t.1 = k ∧ (s.size = 0 ∨ t.2 = s) then 0 else 1 := by
  have := want_drop l i 0 k s
  rw [Nat.add_zero] at this
  rw [this, h, want_here]
theorem txt_in {l : List Tf} {i : Nat} {t : Tf} {r : List Tf} (h : l.drop i = t :: r) : txtAt l i = t.2 := by
  have := txt_drop l i 0
  rw [Nat.add_zero] at this
  rw [this, h, txt_here]
theorem name_in {l : List Tf} {i : Nat} {t : Tf} {r : List Tf} (h : l.drop i = t :: r) (h1 : t.1 = 1) (h2 : Lp.nameB t.2 = true) : nameAt l i = 0 := by
  have hw : want l i 1 ⟨#[]⟩ = 0 := by rw [want_in h, if_pos ⟨h1, .inl rfl⟩]
  unfold nameAt
  rw [if_pos hw, txt_in h, if_pos h2]
theorem drop_next {l : List Tf} {i : Nat} {t : Tf} {r : List Tf} (h : l.drop i = t :: r) : l.drop (i + 1) = r := by
  rw [← List.drop_drop, h]; rfl
theorem sg_ne {a b : T} (h : a ≠ b) : sg a ≠ sg b := fun e => h (sg_inj e)
theorem want_sign {l : List Tf} {i : Nat} {a : T} {r : List Tf} (h : l.drop i = tf (4, a) :: r) (b : T) (hb : b ≠ []) : want l i 4 (sg b) = if a = b then 0 else 1 := by
  rw [want_in h]
  by_cases e : a = b
  · subst e
    rw [if_pos rfl, if_pos ⟨rfl, .inr rfl⟩]
  · rw [if_neg e, if_neg]
    rintro ⟨_, h0 | h1⟩
    · rw [sg_size] at h0; exact hb (List.length_eq_zero_iff.1 h0)
    · exact e (sg_inj h1)
theorem match_ok {l : List Tf} {i n : Nat} {m : Mt} {r : List Tf} (h : l.drop i = tf (1, m.1.data.toList) :: tf (4, if m.2.2 then [33, 61] else [61]) :: tf (3, m.2.1.data.toList) :: r) (hm : mOk m = true) (hn : n < 8) :
    matchAt l i n = (m, i + 3, 0) := by
  unfold mOk at hm
  simp only [Bool.and_eq_true, decide_eq_true_eq] at hm
  have d1 := drop_next h
  have d2 := drop_next d1
  have e0 : nameAt l i = 0 := name_in h rfl (by show Lp.nameB (sg m.1.data.toList) = true; rw [sg_self]; exact hm.1)
  have t0 : txtAt l i = m.1 := by rw [txt_in h]; exact sg_self _
  have t2 : txtAt l (i + 2) = m.2.1 := by rw [txt_in (i := i + 2) d2]; exact sg_self _
  have w1 := want_sign d1 [33, 61] (by simp)
  have w2 := want_sign d1 [61] (by simp)
  have w3 : want l (i + 2) 3 ⟨#[]⟩ = 0 := by rw [want_in (i := i + 2) d2, if_pos ⟨rfl, .inl rfl⟩]
  unfold matchAt
  rw [e0, w3, t0, t2]
  cases hnot : m.2.2 with
  | true =>
    rw [hnot] at w1 w2
    simp only [if_true] at w1 w2
    rw [w1]
    rw [if_neg (by simp), if_neg (by simp), if_neg (by simp), if_neg (by omega)]
    simp [← hnot]
  | false =>
    rw [hnot] at w1 w2
    simp only [Bool.false_eq_true, if_false] at w1 w2
    rw [if_neg (by simp : ¬ ([61] : T) = [33, 61])] at w1
    rw [w2, w1]
    rw [if_neg (by simp), if_neg (by simp), if_neg (by simp), if_neg (by omega)]
    simp [← hnot]
theorem loop_print : ∀ (r : List Mt) (f : Nat) (l : List Tf) (i : Nat) (ms : List Mt) (m : Mt) (b : List Tf), r.length < f → (ms.length + r.length) < 8 → (m :: r).all mOk = true →
    l.drop i = tf (1, m.1.data.toList) :: tf (4, if m.2.2 then [33, 61] else [61]) :: tf (3, m.2.1.data.toList) :: ((tM false r).map tf ++ b) →
    loop f l i ms = (ms ++ m :: r, i + 4 + 4 * r.length, 0)
  | r, 0, _, _, _, _, _, hf, _, _, _ => by simp at hf
  | [], f + 1, l, i, ms, m, b, _, hn, hall, h => by
    simp only [List.all_cons, Bool.and_eq_true] at hall
    have d3 := drop_next (drop_next (drop_next h))
    have e := match_ok (n := ms.length) h hall.1 (by simpa using hn)
    have w := want_sign (i := i + 3) d3 [125] (by simp)
    rw [if_pos rfl] at w
    unfold loop
    rw [e, if_neg (by simp), if_pos w]
    rfl
  | m2 :: r, f + 1, l, i, ms, m, b, hf, hn, hall, h => by
    have hall' := hall
    simp only [List.all_cons, Bool.and_eq_true] at hall
    have d3 := drop_next (drop_next (drop_next h))
    have d4 := drop_next (i := i + 3) d3
    have e := match_ok (n := ms.length) h hall.1 (by simp only [List.length_cons] at hn; omega)
    have w := want_sign (i := i + 3) d3 [125] (by simp)
    have w2 := want_sign (i := i + 3) d3 [44] (by simp)
    simp only [Bool.false_eq_true, if_false] at w w2
    rw [if_neg (by simp : ¬ ([44] : T) = [125])] at w
    rw [if_pos trivial] at w2
    unfold loop
    rw [e, if_neg (by simp), if_neg (by rw [w]; simp), if_neg (by rw [w2]; simp)]
    rw [loop_print r f l (i + 4) (ms ++ [m]) m2 b (by simp only [List.length_cons] at hf; omega) (by simp only [List.length_append, List.length_cons, List.length_nil] at hn ⊢; omega) (by simp [hall.2]) d4]
    simp only [List.append_assoc, List.cons_append, List.nil_append, List.length_cons, Prod.mk.injEq, true_and, and_true]
    omega
theorem tM_len : ∀ (b : Bool) (r : List Mt), (tM b r).length = 4 * r.length + 1
  | _, [] => rfl
  | _, m :: r => by
    show (tM false r).length + 1 + 1 + 1 + 1 = _
    rw [tM_len false r, List.length_cons]; omega
/-- What is printed is parsed, behind whatever tokens and ahead of whatever that is no {. -/
theorem parse_print {s : Sel} (h : saneS s = true) (a b : List Tf) (hb : s.2 = [] → want b 0 4 (sg [123]) ≠ 0) :
    parseN (a ++ ((tS s).map tf ++ b)) a.length = (s, a.length + (tS s).length, 0) := by
  unfold saneS at h
  simp only [Bool.and_eq_true, decide_eq_true_eq] at h
  obtain ⟨⟨h1, h2⟩, h3⟩ := h
  obtain ⟨N, ms⟩ := s
  have d0 : (a ++ ((tS (N, ms)).map tf ++ b)).drop a.length = tf (1, N.data.toList) :: ((if ms = [] then [] else tM true ms).map tf ++ b) := by
    rw [List.drop_left]; rfl
  have e0 : nameAt (a ++ ((tS (N, ms)).map tf ++ b)) a.length = 0 := name_in d0 rfl (by show Lp.nameB (sg N.data.toList) = true; rw [sg_self]; exact h1)
  have t0 : txtAt (a ++ ((tS (N, ms)).map tf ++ b)) a.length = N := by rw [txt_in d0]; exact sg_self _
  have d1 := drop_next d0
  cases ms with
  | nil =>
    rw [if_pos rfl, List.map_nil, List.nil_append] at d1
    have w : want (a ++ ((tS (N, [])).map tf ++ b)) (a.length + 1) 4 (sg [123]) ≠ 0 := by
      have := want_drop (a ++ ((tS (N, [])).map tf ++ b)) (a.length + 1) 0 4 (sg [123])
      rw [Nat.add_zero] at this
      rw [this, d1]
      exact hb rfl
    unfold parseN
    rw [e0, if_neg (by simp), if_pos w, t0]
    rfl
  | cons m r =>
    rw [if_neg (by simp)] at d1
    have d1' : (a ++ ((tS (N, m :: r)).map tf ++ b)).drop (a.length + 1) = tf (4, [123]) :: tf (1, m.1.data.toList) :: tf (4, if m.2.2 then [33, 61] else [61]) :: tf (3, m.2.1.data.toList) :: ((tM false r).map tf ++ b) := d1
    have w := want_sign d1' [123] (by simp)
    rw [if_pos rfl] at w
    have d2 := drop_next d1'
    have w2 : want (a ++ ((tS (N, m :: r)).map tf ++ b)) (a.length + 2) 4 (sg [125]) ≠ 0 := by
      rw [want_in (i := a.length + 2) d2, if_neg (fun h => by simp [tf] at h)]
      decide
    have hl := loop_print r 9 _ (a.length + 2) [] m b (by simp only [List.length_cons] at h2; omega) (by simp only [List.length_cons, List.length_nil] at h2 ⊢; omega) h3 d2
    unfold parseN
    rw [e0, if_neg (by simp), if_neg (by rw [w]; simp), if_neg w2, hl, if_pos rfl, t0]
    simp only [List.nil_append, Prod.mk.injEq, true_and, and_true]
    show _ = a.length + ((tM true (m :: r)).length + 1)
    rw [tM_len, List.length_cons]
    omega

/-! ### the text of what is printed -/
def chM (b : Bool) (r : List Mt) : List (T × (Nat × T)) := (tM b r).map fun p => ([], p)
theorem asm_app : ∀ (L M : List (T × (Nat × T))) (f : T), Lx.asm (L ++ M) f = Lx.asm L (Lx.asm M f)
  | [], _, _ => rfl
  | x :: r, M, f => by
    show x.1 ++ (Lx.txt x.2.1 x.2.2 ++ Lx.asm (r ++ M) f) = x.1 ++ (Lx.txt x.2.1 x.2.2 ++ Lx.asm r (Lx.asm M f))
    rw [asm_app r M f]
theorem asm_prM : ∀ (r : List Mt) (b : Bool) (f : T), Lx.asm (chM b r) f = prM b r ++ f
  | [], _, f => by
    show [] ++ (Lx.txt 4 [125] ++ f) = [125] ++ f
    rfl
  | m :: r, b, f => by
    have ih := asm_prM r false f
    show [] ++ (Lx.txt 4 [if b then 123 else 44] ++ ([] ++ (Lx.txt 1 m.1.data.toList ++ ([] ++ (Lx.txt 4 (if m.2.2 then [33, 61] else [61]) ++ ([] ++ (Lx.txt 3 m.2.1.data.toList ++ Lx.asm (chM false r) f))))))) = _
    rw [ih]
    show [] ++ ([if b then 123 else 44] ++ ([] ++ (m.1.data.toList ++ ([] ++ ((if m.2.2 then [33, 61] else [61]) ++ ([] ++ (Lx.quote m.2.1.data.toList ++ (prM false r ++ f)))))))) = (if b then 123 else 44) :: ((m.1.data.toList ++ ((if m.2.2 then [33] else []) ++ (61 :: Lx.quote m.2.1.data.toList))) ++ prM false r) ++ f
    cases m.2.2 <;> simp
theorem okc_word (c : UInt8) : Lp.okc c = Lx.wordC c := by
  unfold Lp.okc Lx.wordC Lx.isL Lx.isD
  cases Lp.letB c <;> cases Lp.digB c <;> simp
theorem good_name {s : ByteArray} (h : Lp.nameB s = true) : Lx.Good 1 s.data.toList := by
  unfold Lp.nameB Lp.nameL at h
  rw [Lp.tl] at h
  simp only [Bool.and_eq_true, decide_eq_true_eq, Bool.not_eq_true'] at h
  obtain ⟨⟨⟨h1, _⟩, h3⟩, h4⟩ := h
  left
  refine ⟨rfl, ?_⟩
  cases hs : s.data.toList with
  | nil => rw [hs] at h1; simp at h1
  | cons c w =>
    rw [hs] at h3 h4
    simp only [List.all_cons, Bool.and_eq_true] at h4
    have hd : Lp.digB c = false := h3
    refine ⟨c, w, rfl, ?_, ?_⟩
    · have := h4.1
      rw [okc_word] at this
      simpa [Lx.wordC, Lx.isD, hd] using this
    · rw [List.all_eq_true] at h4 ⊢
      intro x hx
      rw [← okc_word]
      exact h4.2 x hx
theorem good_sign {c : UInt8} (h : Lx.oneS c.toNat = true) : Lx.Good 4 [c] := .inr (.inr (.inr ⟨rfl, .inr ⟨c, rfl, h⟩⟩))
theorem good_two {c d : UInt8} (h : Lx.two c.toNat d.toNat = true) : Lx.Good 4 [c, d] := .inr (.inr (.inr ⟨rfl, .inl ⟨c, d, rfl, h⟩⟩))
theorem name_first {s : ByteArray} (h : Lp.nameB s = true) (l : T) : Lx.hd (s.data.toList ++ l) ≠ 61 := by
  rcases good_name h with ⟨_, c, w, e, hc, _⟩ | ⟨h, _⟩ | h | ⟨h, _⟩
  · rw [e]
    show c.toNat ≠ 61
    intro h61
    simp [Lx.isL, Lp.letB, h61] at hc
  · simp at h
  · simp at h
  · simp at h
theorem chain_prM : ∀ (r : List Mt) (b : Bool) (L : List (T × (Nat × T))) (f : T), r.all mOk = true → Lx.Chain L f → Lx.hd (Lx.asm L f) ≠ 61 → Lx.Chain (chM b r ++ L) f
  | [], b, L, f, _, hL, h61 => by
    refine ⟨Lx.wh_nil, good_sign (by decide), Lx.stop_sign ?_, hL⟩
    show Lx.two 125 (Lx.hd (Lx.asm L f)) = false
    simp [Lx.two]
  | m :: r, b, L, f, hall, hL, h61 => by
    simp only [List.all_cons, Bool.and_eq_true] at hall
    obtain ⟨hm, hr⟩ := hall
    unfold mOk at hm
    simp only [Bool.and_eq_true] at hm
    have ih := chain_prM r false L f hr hL h61
    show Lx.Chain (([], (4, [if b then 123 else 44])) :: ([], (1, m.1.data.toList)) :: ([], (4, if m.2.2 then [33, 61] else [61])) :: ([], (3, m.2.1.data.toList)) :: (chM false r ++ L)) f
    refine ⟨Lx.wh_nil, good_sign (by cases b <;> decide), Lx.stop_sign ?_, Lx.wh_nil, good_name hm.1, Lx.stop_word ?_, Lx.wh_nil, ?_, ?_, Lx.wh_nil, .inr (.inr (.inl rfl)), Lx.stop_text _ _, ih⟩
    · cases b <;> simp [Lx.two]
    · intro c l' hl
      have hl' : (if m.2.2 then [33, 61] else [61]) ++ (Lx.asm (([], (3, m.2.1.data.toList)) :: (chM false r ++ L)) f) = c :: l' := hl
      cases hn : m.2.2 <;> rw [hn] at hl' <;> simp at hl' <;> rw [← hl'.1] <;> decide
    · cases m.2.2
      · exact good_sign (by decide)
      · exact good_two (by decide)
    · cases hn : m.2.2
      · refine Lx.stop_sign ?_
        show Lx.two 61 (Lx.hd (34 :: _)) = false
        rfl
      · exact Lx.stop_two _ _ _
/-- The text, with whatever follows: its chain of tokens. -/
def chS (s : Sel) : List (T × (Nat × T)) := (tS s).map fun p => ([], p)
theorem asm_prS {s : Sel} (h : saneS s = true) (f : T) : Lx.asm (chS s) f = prS s ++ f := by
  obtain ⟨N, ms⟩ := s
  unfold prS
  rw [if_pos h]
  cases ms with
  | nil =>
    show [] ++ (N.data.toList ++ f) = (N.data.toList ++ []) ++ f
    simp
  | cons m r =>
    have := asm_prM (m :: r) true f
    show [] ++ (N.data.toList ++ Lx.asm (chM true (m :: r)) f) = (N.data.toList ++ prM true (m :: r)) ++ f
    rw [this]
    simp
theorem chain_prS {s : Sel} (h : saneS s = true) (L : List (T × (Nat × T))) (f : T) (hL : Lx.Chain L f) (h61 : Lx.hd (Lx.asm L f) ≠ 61) (hw : s.2 = [] → ∀ c r, Lx.asm L f = c :: r → Lx.wordC c = false) : Lx.Chain (chS s ++ L) f := by
  obtain ⟨N, ms⟩ := s
  have h' := h
  unfold saneS at h
  simp only [Bool.and_eq_true, decide_eq_true_eq] at h
  obtain ⟨⟨h1, h2⟩, h3⟩ := h
  cases ms with
  | nil =>
    refine ⟨Lx.wh_nil, good_name h1, Lx.stop_word ?_, hL⟩
    exact hw rfl
  | cons m r =>
    have := chain_prM (m :: r) true L f h3 hL h61
    refine ⟨Lx.wh_nil, good_name h1, Lx.stop_word ?_, this⟩
    intro c l' hl
    have hl' : ([123] : T) ++ (Lx.asm ((([], (1, m.1.data.toList)) :: ([], (4, if m.2.2 then [33, 61] else [61])) :: ([], (3, m.2.1.data.toList)) :: (chM false r)) ++ L) f) = c :: l' := hl
    simp at hl'
    rw [← hl'.1]
    decide
theorem tS_len {s : Sel} (h : saneS s = true) : (tS s).length ≤ 34 := by
  unfold saneS at h
  simp only [Bool.and_eq_true, decide_eq_true_eq] at h
  obtain ⟨⟨h1, h2⟩, h3⟩ := h
  unfold tS
  split
  · simp
  · rw [List.length_cons, tM_len]; omega
theorem lex_print {s : Sel} (h : saneS s = true) : (Lx.lex 65536 (prS s)).1.map Lx.flat = tS s ∧ (Lx.lex 65536 (prS s)).2.1 = [] ∧ (Lx.lex 65536 (prS s)).2.2 = 0 := by
  have hc := chain_prS h [] [] rfl (by decide) (fun _ c r hl => by simp [Lx.asm] at hl)
  have hlen := tS_len h
  have := Lx.lex_chain (chS s ++ []) [] 65536 (by rw [List.append_nil]; unfold chS; rw [List.length_map]; omega) hc
  rw [asm_app] at this
  have e : Lx.asm (chS s) (Lx.asm [] []) = prS s := by
    rw [asm_prS h]; show prS s ++ [] = _; rw [List.append_nil]
  rw [e] at this
  refine ⟨?_, this.2⟩
  rw [this.1, List.append_nil]
  unfold chS
  rw [List.map_map]
  exact List.map_id _
theorem lex_none : (Lx.lex 65536 []).1 = [] ∧ (Lx.lex 65536 []).2.1 = [] ∧ (Lx.lex 65536 []).2.2 = 0 := by
  rw [Lx.lex, if_pos (by rfl)]
  exact ⟨rfl, rfl, rfl⟩
theorem print_apart {a b : Sel} (ha : saneS a = true) (hb : saneS b = true) : prS a = prS b ↔ a = b := by
  constructor
  · intro h
    have h1 := (lex_print ha).1
    have h2 := (lex_print hb).1
    rw [h, h2] at h1
    have p1 := parse_print ha [] [] (fun _ => by decide)
    have p2 := parse_print hb [] [] (fun _ => by decide)
    rw [← h1, p2] at p1
    simp only [Prod.mk.injEq] at p1
    exact p1.1.symm
  · rintro rfl; rfl

/-! ### more that is asked -/
theorem sane_more {N : ByteArray} {ms : List Mt} {m : Mt} : saneS (N, ms ++ [m]) = true ↔ saneS (N, ms) = true ∧ mOk m = true ∧ ms.length < 8 := by
  unfold saneS
  simp only [List.all_append, List.all_cons, List.all_nil, List.length_append, List.length_cons, List.length_nil, Bool.and_eq_true, decide_eq_true_eq, Bool.and_true]
  constructor
  · rintro ⟨⟨a, b⟩, c, d⟩
    exact ⟨⟨⟨a, by omega⟩, c⟩, d, by omega⟩
  · rintro ⟨⟨⟨a, b⟩, c⟩, d, e⟩
    exact ⟨⟨a, by omega⟩, c, d⟩
theorem fits_more {N : ByteArray} {ms : List Mt} {m : Mt} {l : List Lp.Pr} : fits (N, ms ++ [m]) l = (fits (N, ms) l && (mOk m && decide (ms.length < 8) && mFits l m)) := by
  rw [Bool.eq_iff_iff]
  unfold fits
  simp only [Bool.and_eq_true, decide_eq_true_eq, List.all_append, List.all_cons, List.all_nil, Bool.and_true, sane_more]
  constructor
  · rintro ⟨⟨⟨⟨a, b, c⟩, d⟩, e⟩, f, g⟩
    exact ⟨⟨⟨⟨a, d⟩, e⟩, f⟩, ⟨b, c⟩, g⟩
  · rintro ⟨⟨⟨⟨a, d⟩, e⟩, f⟩, ⟨b, c⟩, g⟩
    exact ⟨⟨⟨⟨a, b, c⟩, d⟩, e⟩, f, g⟩
theorem fits_not (l : List Lp.Pr) (m : Mt) : mFits l (m.1, m.2.1, !m.2.2) = !mFits l m := by
  unfold mFits
  cases decide ((Lp.getS l m.1).getD ⟨#[]⟩ = m.2.1) <;> cases m.2.2 <;> rfl
theorem mOk_not (m : Mt) : mOk (m.1, m.2.1, !m.2.2) = mOk m := rfl
end Go.Proofs.YtgahahichplpkaaDoor.Sl

/-
  Plain lists for layer label: names, values, labels, what is made of pairs, found, laid, taken away, merged, and their order. Nothing of any program but the order of texts.
  What the laws of layer label say, on plain lists.
  Plain lists for layer lex: white, words, numbers, texts, signs; all tokens of a text; quoted and joined; what joined, white, cut and put together do. Nothing of any program.
  Plain lists for layer lex, gone on with: what all tokens of a text are, where they stand, joined, with white, line by line, quoted, cut short. Nothing of any program.
  Plain lists for what is printed in pieces: tokens that stand one behind the other without white, where the next octet does not belong to the one ahead.
  Plain lists for layer sel: what a selector is, its text, its tokens, what is read of tokens, and whether labels fit. Nothing of any program.
  Plain facts for layer sel: what is printed is read as its tokens, and those as the selector; unlike selectors have unlike texts; more that is asked fits less. Nothing of any program.
  Plain facts of the landed layer sel: tokens that are asked one by one.
  Plain lists and numbers for layer num: what a number's text is, and what number a text is. Nothing of any program.
  Plain lists for layer cond: what may be asked, its text and tokens, what is read of tokens, what holds. Nothing of any program.
  Plain facts for layer cond: what is printed is read as its tokens, and those as what was asked, within however many signs. Nothing of any program.
  Plain lists for the landed cond: the op of a sign by cases, what stands behind the signs ( read one by one, the signs ) taken one by one from within. Nothing of any program.
-/
import GoSem.Op.String
import Derived.Lib.Bytealg
import Derived.Lib.ItoaNum
import Derived.Lib.ItoaMem
import Derived.Lib.TrimByte
import Derived.Lib.IndexMore
namespace Go.Proofs.YtkoeggjfdcpokaaGreatDoor.Lp

abbrev Pr := ByteArray × ByteArray

/-! ### texts -/
theorem tl (a : ByteArray) : a.toList = a.data.toList := ByteArray.toList_eq a
theorem ext {a b : ByteArray} (h : a.toList = b.toList) : a = b := by
  rw [tl, tl] at h
  cases a; cases b
  simp at h
  simpa using h
theorem tl_iff {a b : ByteArray} : a.toList = b.toList ↔ a = b := ⟨ext, fun h => by rw [h]⟩
theorem beq_tl (a b : ByteArray) : (a.toList == b.toList) = decide (a = b) := by
  rw [Bool.eq_iff_iff]; simp [tl_iff]

def blt (a b : ByteArray) : Bool := Op.bytesLess a.toList b.toList

theorem less_irrefl : ∀ l : List UInt8, Op.bytesLess l l = false
  | [] => rfl
  | a :: x => by simp [Op.bytesLess, less_irrefl x]
theorem less_trans : ∀ {x y z : List UInt8}, Op.bytesLess x y = true → Op.bytesLess y z = true → Op.bytesLess x z = true
  | _, [], _, h, _ => by simp [Op.bytesLess] at h
  | _, _ :: _, [], _, h => by simp [Op.bytesLess] at h
  | [], _ :: _, _ :: _, _, _ => rfl
  | a :: x, b :: y, c :: z, h1, h2 => by
    simp only [Op.bytesLess, Bool.or_eq_true, decide_eq_true_eq, Bool.and_eq_true, beq_iff_eq] at h1 h2 ⊢
    rcases h1 with h1 | ⟨rfl, h1⟩
    · rcases h2 with h2 | ⟨rfl, h2⟩
      · exact .inl (UInt8.lt_trans h1 h2)
      · exact .inl h1
    · rcases h2 with h2 | ⟨rfl, h2⟩
      · exact .inl h2
      · exact .inr ⟨rfl, less_trans h1 h2⟩
theorem less_total : ∀ (x y : List UInt8), Op.bytesLess x y = true ∨ x = y ∨ Op.bytesLess y x = true
  | [], [] => .inr (.inl rfl)
  | [], _ :: _ => .inl rfl
  | _ :: _, [] => .inr (.inr rfl)
  | a :: x, b :: y => by
    simp only [Op.bytesLess, Bool.or_eq_true, decide_eq_true_eq, Bool.and_eq_true, beq_iff_eq, List.cons.injEq]
    rcases UInt8.lt_or_lt_of_ne (a := a) (b := b) |> fun f => (if h : a = b then Or.inl h else Or.inr (f h)) with h | h | h
    · subst h
      rcases less_total x y with h | h | h
      · exact .inl (.inr ⟨rfl, h⟩)
      · exact .inr (.inl ⟨rfl, h⟩)
      · exact .inr (.inr (.inr ⟨rfl, h⟩))
    · exact .inl (.inl h)
    · exact .inr (.inr (.inl h))
theorem blt_irrefl (a : ByteArray) : blt a a = false := less_irrefl _
theorem blt_trans {a b c : ByteArray} (h1 : blt a b = true) (h2 : blt b c = true) : blt a c = true := less_trans h1 h2
theorem blt_total (a b : ByteArray) : blt a b = true ∨ a = b ∨ blt b a = true := by
  rcases less_total a.toList b.toList with h | h | h
  · exact .inl h
  · exact .inr (.inl (ext h))
  · exact .inr (.inr h)
theorem blt_asymm {a b : ByteArray} (h : blt a b = true) : blt b a = false := by
  cases h' : blt b a with
  | false => rfl
  | true => have := blt_trans h h'; rw [blt_irrefl] at this; cases this
theorem blt_ne {a b : ByteArray} (h : blt a b = true) : a ≠ b := fun e => by subst e; rw [blt_irrefl] at h; cases h
theorem le_trans' {a b c : ByteArray} (h1 : blt b a = false) (h2 : blt c b = false) : blt c a = false := by
  rcases blt_total a b with h | h | h
  · rcases blt_total b c with h' | h' | h'
    · exact blt_asymm (blt_trans h h')
    · subst h'; exact blt_asymm h
    · rw [h'] at h2; cases h2
  · subst h; exact h2
  · rw [h] at h1; cases h1
theorem lt_of_lt_le {a b c : ByteArray} (h1 : blt a b = true) (h2 : blt c b = false) : blt a c = true := by
  rcases blt_total b c with h | h | h
  · exact blt_trans h1 h
  · subst h; exact h1
  · rw [h] at h2; cases h2

/-- -1, 0 or 1 of two texts. -/
def cmpT (a b : ByteArray) : Int := if blt a b then -1 else if blt b a then 1 else 0
theorem compareBytes_eq : ∀ x y : List UInt8, Lib.compareBytes x y = if Op.bytesLess x y then -1 else if Op.bytesLess y x then 1 else 0
  | [], [] => rfl
  | [], _ :: _ => rfl
  | _ :: _, [] => rfl
  | a :: x, b :: y => by
    unfold Lib.compareBytes Op.bytesLess
    rw [compareBytes_eq x y]
    by_cases h1 : a < b
    · simp [h1]
    · by_cases h2 : b < a
      · have : ¬ a = b := fun e => by subst e; exact UInt8.lt_irrefl _ h2
        simp [h1, h2, this]
      · have : a = b := UInt8.le_antisymm (UInt8.not_lt.1 h2) (UInt8.not_lt.1 h1)
        subst this
        simp
theorem cmpT_eq (a b : ByteArray) : Lib.compareBytes a.data.toList b.data.toList = cmpT a b := by
  rw [compareBytes_eq, ← tl, ← tl]; rfl
theorem cmpT_self (a : ByteArray) : cmpT a a = 0 := by simp [cmpT, blt_irrefl]
theorem cmpT_zero {a b : ByteArray} (h : cmpT a b = 0) : a = b := by
  unfold cmpT at h
  rcases blt_total a b with h' | h' | h'
  · simp [h'] at h
  · exact h'
  · simp [h', blt_asymm h'] at h
theorem cmpT_neg (a b : ByteArray) : cmpT a b < 0 ↔ blt a b = true := by
  unfold cmpT
  cases h : blt a b <;> cases h' : blt b a <;> simp
theorem cmpT_flip (a b : ByteArray) : cmpT b a = - cmpT a b := by
  unfold cmpT
  rcases blt_total a b with h | h | h
  · simp [h, blt_asymm h]
  · subst h; simp [blt_irrefl]
  · simp [h, blt_asymm h]
theorem cmpT_bd (a b : ByteArray) : -1 ≤ cmpT a b ∧ cmpT a b ≤ 1 := by
  unfold cmpT
  split
  · omega
  · split <;> omega

/-! ### names, values, labels -/
def letB (c : UInt8) : Bool := (decide (97 ≤ c.toNat) && decide (c.toNat ≤ 122)) || (decide (65 ≤ c.toNat) && decide (c.toNat ≤ 90))
def digB (c : UInt8) : Bool := decide (48 ≤ c.toNat) && decide (c.toNat ≤ 57)
def okc (c : UInt8) : Bool := letB c || digB c || decide (c.toNat = 95)
def nameL (l : List UInt8) : Bool := decide (1 ≤ l.length) && decide (l.length ≤ 64) && !digB (l.headD 48) && l.all okc
def nameB (s : ByteArray) : Bool := nameL s.toList
def bigV (p : Pr) : Bool := decide (64 < p.2.size)
def badN (p : Pr) : Bool := !nameB p.1
def large (l : List Pr) : Bool := decide (16 < l.length) || l.any bigV
def misn (l : List Pr) : Bool := l.any badN
def rising : List Pr → Bool
  | [] => true
  | [_] => true
  | x :: y :: r => blt x.1 y.1 && rising (y :: r)
def saneB (l : List Pr) : Bool := !large l && !misn l && rising l
def asL (l : List Pr) : List Pr := if saneB l then l else []
def nms (l : List Pr) : List ByteArray := l.map (·.1)
def twice (l : List Pr) : Bool := !decide ((nms l).Nodup)
def wrong (l : List Pr) : Int := if large l then 4 else if misn l then 7 else if twice l then 6 else 0
def sorted (l : List Pr) : List Pr := l.mergeSort fun x y => !blt y.1 x.1
def makeS (l : List Pr) : List Pr := if wrong l = 0 then sorted l else []
def getS (l : List Pr) (n : ByteArray) : Option ByteArray := (l.find? fun p => decide (p.1 = n)).map (·.2)
def drop (l : List Pr) (g : ByteArray → Bool) : List Pr := l.filter fun p => !g p.1
def has (l : List Pr) (n : ByteArray) : Bool := l.any fun p => decide (p.1 = n)
def repl (l o : List Pr) : List Pr := drop l (has o) ++ o
def without (l : List Pr) (n : ByteArray) : List Pr := drop (asL l) fun x => decide (x = n)
def withP (l : List Pr) (n v : ByteArray) : List Pr := repl (asL l) [(n, v)]
def merge (a b : List Pr) : List Pr := repl (asL a) (asL b)
def cmpP (x y : Pr) : Int := if cmpT x.1 y.1 = 0 then cmpT x.2 y.2 else cmpT x.1 y.1
def cmpL : List Pr → List Pr → Int
  | [], [] => 0
  | [], _ :: _ => -1
  | _ :: _, [] => 1
  | x :: xs, y :: ys => if cmpP x y = 0 then cmpL xs ys else cmpP x y

theorem has_iff {l : List Pr} {n : ByteArray} : has l n = true ↔ n ∈ nms l := by
  unfold has nms
  simp only [List.any_eq_true, decide_eq_true_eq, List.mem_map]
theorem has_no {l : List Pr} {n : ByteArray} : has l n = false ↔ n ∉ nms l := by
  rw [← has_iff]; cases has l n <;> simp
theorem nms_perm {l m : List Pr} (h : l.Perm m) : (nms l).Perm (nms m) := h.map _
/-- Rising as a whole. -/
def Ris (l : List Pr) : Prop := l.Pairwise fun x y => blt x.1 y.1 = true
theorem rising_iff : ∀ l : List Pr, rising l = true ↔ Ris l
  | [] => by simp [rising, Ris]
  | [x] => by simp [rising, Ris]
  | x :: y :: r => by
    have ih := rising_iff (y :: r)
    unfold rising
    rw [Bool.and_eq_true, ih]
    unfold Ris
    constructor
    · rintro ⟨h, hp⟩
      refine List.pairwise_cons.2 ⟨fun z hz => ?_, hp⟩
      rcases List.mem_cons.1 hz with rfl | hz
      · exact h
      · exact blt_trans h ((List.pairwise_cons.1 hp).1 z hz)
    · intro hp
      obtain ⟨h1, h2⟩ := List.pairwise_cons.1 hp
      exact ⟨h1 y (by simp), h2⟩
theorem Ris.nodup {l : List Pr} (h : Ris l) : (nms l).Nodup := by
  unfold nms
  rw [List.nodup_iff_pairwise_ne, List.pairwise_map]
  exact h.imp fun h => blt_ne h
theorem ris_unique : ∀ {a b : List Pr}, Ris a → Ris b → a.Perm b → a = b
  | [], b, _, _, hp => by rw [hp.nil_eq]
  | x :: a, b, ha, hb, hp => by
    obtain ⟨h1, h2⟩ := List.pairwise_cons.1 ha
    cases b with
    | nil => exact absurd hp.symm.nil_eq (by simp)
    | cons y b =>
      obtain ⟨k1, k2⟩ := List.pairwise_cons.1 hb
      have e : x = y := by
        rcases List.mem_cons.1 (hp.mem_iff.1 (List.mem_cons_self (a := x) (l := a))) with e | hx
        · exact e
        · rcases List.mem_cons.1 (hp.symm.mem_iff.1 (List.mem_cons_self (a := y) (l := b))) with e | hy
          · exact e.symm
          · have := h1 y hy
            rw [blt_asymm (k1 x hx)] at this; cases this
      subst e
      rw [ris_unique h2 k2 ((List.perm_cons x).1 hp)]

theorem sorted_perm (l : List Pr) : (sorted l).Perm l := List.mergeSort_perm l _
theorem sorted_ris {l : List Pr} (h : (nms l).Nodup) : Ris (sorted l) := by
  have hs : (sorted l).Pairwise fun x y => (!blt y.1 x.1) = true := by
    refine List.pairwise_mergeSort (le := fun x y : Pr => !blt y.1 x.1) (fun a b c h1 h2 => ?_) (fun a b => ?_) l
    · simp at h1 h2 ⊢
      exact le_trans' h1 h2
    · simp only [Bool.or_eq_true, Bool.not_eq_true']
      rcases blt_total a.1 b.1 with h | h | h
      · exact .inl (blt_asymm h)
      · exact .inl (by rw [h]; exact blt_irrefl _)
      · exact .inr (blt_asymm h)
  have hn : (nms (sorted l)).Nodup := (nms_perm (sorted_perm l)).nodup_iff.2 h
  unfold nms at hn
  rw [List.nodup_iff_pairwise_ne, List.pairwise_map] at hn
  refine (List.Pairwise.and hs hn).imp ?_
  rintro a b ⟨h1, h2⟩
  rcases blt_total a.1 b.1 with h | h | h
  · exact h
  · exact absurd h h2
  · simp [h] at h1
theorem sorted_eq {l m : List Pr} (hm : Ris m) (hp : m.Perm l) : sorted l = m :=
  ris_unique (sorted_ris ((nms_perm hp).nodup_iff.1 hm.nodup)) hm ((sorted_perm l).trans hp.symm)
theorem any_perm {l m : List Pr} (f : Pr → Bool) (h : l.Perm m) : l.any f = m.any f := by
  rw [Bool.eq_iff_iff]; simp [h.mem_iff]
theorem large_perm {l m : List Pr} (h : l.Perm m) : large l = large m := by unfold large; rw [h.length_eq, any_perm _ h]
theorem misn_perm {l m : List Pr} (h : l.Perm m) : misn l = misn m := any_perm _ h
theorem twice_perm {l m : List Pr} (h : l.Perm m) : twice l = twice m := by
  unfold twice; rw [decide_eq_decide.2 (nms_perm h).nodup_iff]
theorem wrong_perm {l m : List Pr} (h : l.Perm m) : wrong l = wrong m := by unfold wrong; rw [large_perm h, misn_perm h, twice_perm h]
theorem wrong_zero {l : List Pr} (h : wrong l = 0) : large l = false ∧ misn l = false ∧ (nms l).Nodup := by
  unfold wrong at h
  cases h1 : large l <;> simp [h1] at h
  cases h2 : misn l <;> simp [h2] at h
  cases h3 : twice l <;> simp [h3] at h
  exact ⟨rfl, rfl, by simpa [twice] using h3⟩
theorem wrong_of {l : List Pr} (h1 : large l = false) (h2 : misn l = false) (h3 : (nms l).Nodup) : wrong l = 0 := by
  unfold wrong twice; simp [h1, h2, h3]
theorem sane_iff (l : List Pr) : saneB l = true ↔ large l = false ∧ misn l = false ∧ Ris l := by
  unfold saneB; simp [rising_iff, and_assoc]
theorem sane_wrong {l : List Pr} (h : saneB l = true) : wrong l = 0 := by
  obtain ⟨h1, h2, h3⟩ := (sane_iff l).1 h
  exact wrong_of h1 h2 h3.nodup
theorem sane_make {l : List Pr} (h : saneB l = true) : makeS l = l := by
  unfold makeS
  rw [if_pos (sane_wrong h)]
  exact sorted_eq ((sane_iff l).1 h).2.2 (List.Perm.refl _)
theorem make_eq {l : List Pr} (h : wrong l = 0) : makeS l = sorted l := by unfold makeS; rw [if_pos h]
theorem make_no {l : List Pr} (h : wrong l ≠ 0) : makeS l = [] := by unfold makeS; rw [if_neg h]
theorem make_perm {l : List Pr} (h : wrong l = 0) : (makeS l).Perm l := by rw [make_eq h]; exact sorted_perm l
theorem make_sane {l : List Pr} (h : wrong l = 0) : saneB (makeS l) = true := by
  obtain ⟨h1, h2, h3⟩ := wrong_zero h
  rw [sane_iff, large_perm (make_perm h), misn_perm (make_perm h), make_eq h]
  exact ⟨h1, h2, sorted_ris h3⟩
theorem make_like {l m : List Pr} (h : wrong l = 0) (hp : m.Perm l) : makeS m = makeS l := by
  have hm : wrong m = 0 := by rw [wrong_perm hp]; exact h
  rw [make_eq hm, make_eq h]
  exact sorted_eq (sorted_ris (wrong_zero h).2.2) ((sorted_perm l).trans hp.symm)
theorem make_is {l m : List Pr} (h : wrong l = 0) (hp : m.Perm l) (hr : Ris m) : makeS l = m := by
  rw [make_eq h]; exact sorted_eq hr hp

theorem asL_sane {l : List Pr} (h : saneB l = true) : asL l = l := by unfold asL; rw [if_pos h]
theorem asL_no {l : List Pr} (h : saneB l = false) : asL l = [] := by unfold asL; rw [h]; rfl
theorem sane_nil : saneB [] = true := rfl
theorem asL_is (l : List Pr) : saneB (asL l) = true := by
  cases h : saneB l with
  | true => rw [asL_sane h]; exact h
  | false => rw [asL_no h]; exact sane_nil
theorem sane_sub {l m : List Pr} (h : saneB l = true) (hs : m.Sublist l) : saneB m = true := by
  obtain ⟨h1, h2, h3⟩ := (sane_iff l).1 h
  refine (sane_iff m).2 ⟨?_, ?_, h3.sublist hs⟩
  · unfold large at h1 ⊢
    simp only [Bool.or_eq_false_iff, decide_eq_false_iff_not] at h1 ⊢
    refine ⟨by have := hs.length_le; omega, ?_⟩
    rw [List.any_eq_false] at h1 ⊢
    exact fun x hx => h1.2 x (hs.subset hx)
  · unfold misn at h2 ⊢
    rw [List.any_eq_false] at h2 ⊢
    exact fun x hx => h2 x (hs.subset hx)
theorem drop_sub (l : List Pr) (g : ByteArray → Bool) : (drop l g).Sublist l := List.filter_sublist
theorem sane_len {l : List Pr} (h : saneB l = true) : l.length ≤ 16 := by
  have := ((sane_iff l).1 h).1
  unfold large at this
  simp at this
  omega

/-! ### what is got -/
theorem get_mem {l : List Pr} (h : (nms l).Nodup) {n v : ByteArray} : getS l n = some v ↔ (n, v) ∈ l := by
  induction l with
  | nil => simp [getS]
  | cons p r ih =>
    unfold nms at h ih
    rw [List.map_cons, List.nodup_cons] at h
    unfold getS at ih ⊢
    rw [List.find?_cons]
    by_cases e : p.1 = n
    · simp only [e, decide_true, Option.map_some, Option.some.injEq, List.mem_cons]
      constructor
      · intro e2; exact .inl (by rw [← e, ← e2])
      · rintro (e2 | hm)
        · rw [← e2]
        · exact absurd (List.mem_map.2 ⟨_, hm, e.symm⟩) h.1
    · simp only [e, decide_false, List.mem_cons]
      rw [ih h.2]
      constructor
      · exact .inr
      · rintro (e2 | hm)
        · exact absurd (by rw [← e2]) e
        · exact hm
theorem get_none {l : List Pr} {n : ByteArray} : getS l n = none ↔ n ∉ nms l := by
  unfold getS nms
  simp only [Option.map_eq_none_iff, List.find?_eq_none, decide_eq_true_eq, List.mem_map, not_exists, not_and]
theorem get_perm {l m : List Pr} (hl : (nms l).Nodup) (h : m.Perm l) (n : ByteArray) : getS m n = getS l n := by
  have hm : (nms m).Nodup := (nms_perm h).nodup_iff.2 hl
  cases hg : getS l n with
  | some v => exact (get_mem hm).2 (h.mem_iff.2 ((get_mem hl).1 hg))
  | none =>
    rw [get_none] at hg ⊢
    exact fun hx => hg ((nms_perm h).mem_iff.1 hx)
theorem get_app (a b : List Pr) (n : ByteArray) : getS (a ++ b) n = (getS a n).or (getS b n) := by
  unfold getS
  rw [List.find?_append]
  cases a.find? fun p => decide (p.1 = n) <;> rfl
theorem get_drop (l : List Pr) (g : ByteArray → Bool) (n : ByteArray) : getS (drop l g) n = if g n then none else getS l n := by
  unfold getS drop
  induction l with
  | nil => simp
  | cons p r ih =>
    rw [List.filter_cons]
    cases hg : g p.1
    · simp only [Bool.not_false, if_true, List.find?_cons]
      by_cases e : p.1 = n
      · subst e; simp [hg]
      · simp only [e, decide_false]; exact ih
    · simp only [Bool.not_true, Bool.false_eq_true, if_false, List.find?_cons]
      by_cases e : p.1 = n
      · subst e; rw [ih]; simp [hg]
      · simp only [e, decide_false]; exact ih
theorem nms_app (a b : List Pr) : nms (a ++ b) = nms a ++ nms b := List.map_append
theorem repl_nodup {l o : List Pr} (hl : (nms l).Nodup) (ho : (nms o).Nodup) : (nms (repl l o)).Nodup := by
  unfold repl
  rw [nms_app, List.nodup_append]
  refine ⟨((drop_sub l _).map _).nodup hl, ho, fun x hx y hy e => ?_⟩
  subst e
  obtain ⟨p, hp, rfl⟩ := List.mem_map.1 hx
  have := (List.mem_filter.1 hp).2
  rw [has_iff.2 hy] at this
  cases this
theorem get_repl {l o : List Pr} (n : ByteArray) : getS (repl l o) n = (getS o n).or (getS l n) := by
  unfold repl
  rw [get_app, get_drop]
  cases h : has o n with
  | true =>
    have : n ∈ nms o := has_iff.1 h
    cases hg : getS o n with
    | none => exact absurd this (get_none.1 hg)
    | some v => rfl
  | false =>
    have : n ∉ nms o := has_no.1 h
    rw [get_none.2 this]
    simp
theorem misn_app (a b : List Pr) : misn (a ++ b) = (misn a || misn b) := List.any_append
theorem big_app (a b : List Pr) : (a ++ b).any bigV = (a.any bigV || b.any bigV) := List.any_append
theorem large_iff (l : List Pr) : large l = false ↔ l.length ≤ 16 ∧ l.any bigV = false := by
  unfold large; simp
theorem drop_no (l : List Pr) (g : ByteArray → Bool) (h : ∀ p ∈ l, g p.1 = false) : drop l g = l := by
  unfold drop; exact List.filter_eq_self.2 fun p hp => by rw [h p hp]; rfl
theorem drop_drop (l : List Pr) (g h : ByteArray → Bool) : drop (drop l g) h = drop l fun n => g n || h n := by
  unfold drop
  rw [List.filter_filter]
  congr 1; funext p; show (!h p.1 && !g p.1) = !(g p.1 || h p.1); cases g p.1 <;> cases h p.1 <;> rfl
end Go.Proofs.YtkoeggjfdcpokaaGreatDoor.Lp
namespace Go.Proofs.YtkoeggjfdcpokaaGreatDoor.Lp

/-! ### the order of labels -/
theorem cmpP_self (x : Pr) : cmpP x x = 0 := by simp [cmpP, cmpT_self]
theorem cmpP_zero {x y : Pr} (h : cmpP x y = 0) : x = y := by
  unfold cmpP at h
  by_cases h1 : cmpT x.1 y.1 = 0
  · rw [if_pos h1] at h
    exact Prod.ext (cmpT_zero h1) (cmpT_zero h)
  · rw [if_neg h1] at h; exact absurd h h1
theorem cmpP_flip (x y : Pr) : cmpP y x = - cmpP x y := by
  unfold cmpP
  rw [cmpT_flip x.1 y.1, cmpT_flip x.2 y.2]
  by_cases h : cmpT x.1 y.1 = 0
  · simp [h]
  · rw [if_neg h, if_neg (by omega)]
theorem cmpP_bd (x y : Pr) : -1 ≤ cmpP x y ∧ cmpP x y ≤ 1 := by
  unfold cmpP; split
  · exact cmpT_bd _ _
  · exact cmpT_bd _ _
theorem cmpT_trans {a b c : ByteArray} (h1 : cmpT a b < 0) (h2 : cmpT b c < 0) : cmpT a c < 0 :=
  (cmpT_neg a c).2 (blt_trans ((cmpT_neg a b).1 h1) ((cmpT_neg b c).1 h2))
theorem cmpP_neg {x y : Pr} : cmpP x y < 0 ↔ cmpT x.1 y.1 < 0 ∨ (x.1 = y.1 ∧ cmpT x.2 y.2 < 0) := by
  unfold cmpP
  by_cases h : cmpT x.1 y.1 = 0
  · rw [if_pos h]
    have := cmpT_zero h
    simp [this, cmpT_self]
  · rw [if_neg h]
    constructor
    · exact .inl
    · rintro (h' | ⟨h', _⟩)
      · exact h'
      · rw [h', cmpT_self] at h; exact absurd rfl h
theorem cmpP_trans {x y z : Pr} (h1 : cmpP x y < 0) (h2 : cmpP y z < 0) : cmpP x z < 0 := by
  rw [cmpP_neg] at *
  rcases h1 with h1 | ⟨e1, h1⟩
  · rcases h2 with h2 | ⟨e2, h2⟩
    · exact .inl (cmpT_trans h1 h2)
    · exact .inl (e2 ▸ h1)
  · rcases h2 with h2 | ⟨e2, h2⟩
    · exact .inl (e1 ▸ h2)
    · exact .inr ⟨e1.trans e2, cmpT_trans h1 h2⟩
theorem cmpL_self : ∀ a : List Pr, cmpL a a = 0
  | [] => rfl
  | x :: xs => by unfold cmpL; rw [if_pos (cmpP_self x)]; exact cmpL_self xs
theorem cmpL_flip : ∀ a b : List Pr, cmpL b a = - cmpL a b
  | [], [] => rfl
  | [], _ :: _ => rfl
  | _ :: _, [] => rfl
  | x :: xs, y :: ys => by
    unfold cmpL
    rw [cmpP_flip x y, cmpL_flip xs ys]
    by_cases h : cmpP x y = 0
    · simp [h]
    · rw [if_neg h, if_neg (by omega)]
theorem cmpL_zero : ∀ {a b : List Pr}, cmpL a b = 0 → a = b
  | [], [], _ => rfl
  | [], _ :: _, h => by simp [cmpL] at h
  | _ :: _, [], h => by simp [cmpL] at h
  | x :: xs, y :: ys, h => by
    unfold cmpL at h
    by_cases h1 : cmpP x y = 0
    · rw [if_pos h1] at h
      rw [cmpP_zero h1, cmpL_zero h]
    · rw [if_neg h1] at h; exact absurd h h1
theorem cmpL_bd : ∀ a b : List Pr, -1 ≤ cmpL a b ∧ cmpL a b ≤ 1
  | [], [] => by simp [cmpL]
  | [], _ :: _ => by simp [cmpL]
  | _ :: _, [] => by simp [cmpL]
  | x :: xs, y :: ys => by
    unfold cmpL; split
    · exact cmpL_bd xs ys
    · exact cmpP_bd x y
theorem cmpL_cons {x y : Pr} {xs ys : List Pr} : cmpL (x :: xs) (y :: ys) ≤ 0 ↔ cmpP x y < 0 ∨ (x = y ∧ cmpL xs ys ≤ 0) := by
  conv => lhs; unfold cmpL
  by_cases h : cmpP x y = 0
  · rw [if_pos h]
    have := cmpP_zero h
    simp [this, cmpP_self]
  · rw [if_neg h]
    constructor
    · intro h'; exact .inl (by omega)
    · rintro (h' | ⟨h', _⟩)
      · omega
      · rw [h', cmpP_self] at h; exact absurd rfl h
theorem cmpL_trans : ∀ {a b c : List Pr}, cmpL a b ≤ 0 → cmpL b c ≤ 0 → cmpL a c ≤ 0
  | [], _, [], _, _ => by simp [cmpL]
  | [], _, _ :: _, _, _ => by simp [cmpL]
  | _ :: _, [], _, h, _ => by simp [cmpL] at h
  | _ :: _, _ :: _, [], _, h => by simp [cmpL] at h
  | x :: xs, y :: ys, z :: zs, h1, h2 => by
    rw [cmpL_cons] at *
    rcases h1 with h1 | ⟨rfl, h1⟩
    · rcases h2 with h2 | ⟨rfl, h2⟩
      · exact .inl (cmpP_trans h1 h2)
      · exact .inl h1
    · rcases h2 with h2 | ⟨rfl, h2⟩
      · exact .inl h2
      · exact .inr ⟨rfl, cmpL_trans h1 h2⟩
theorem cmpL_take : ∀ (l : List Pr) (k : Nat), cmpL (l.take k) l = if k < l.length then -1 else 0
  | [], k => by simp [cmpL]
  | x :: r, 0 => by simp [cmpL]
  | x :: r, k + 1 => by
    rw [List.take_succ_cons]
    unfold cmpL
    rw [if_pos (cmpP_self x), cmpL_take r k]
    simp

/-! ### what is made -/
theorem made_len {l : List Pr} (h : wrong l = 0) : (makeS l).length = l.length := (make_perm h).length_eq
theorem made_got {l : List Pr} (h : wrong l = 0) {p : Pr} (hp : p ∈ l) : getS (makeS l) p.1 = some p.2 :=
  (get_perm (wrong_zero h).2.2 (make_perm h) p.1).trans ((get_mem (wrong_zero h).2.2).2 hp)
theorem made_turned {l : List Pr} (h : wrong l = 0) : wrong l.reverse = 0 ∧ makeS l.reverse = makeS l :=
  ⟨by rw [wrong_perm (List.reverse_perm l)]; exact h, make_like h (List.reverse_perm l)⟩
theorem made_again {l : List Pr} (h : wrong l = 0) : wrong (makeS l) = 0 ∧ makeS (makeS l) = makeS l :=
  ⟨sane_wrong (make_sane h), sane_make (make_sane h)⟩
theorem made_no {l : List Pr} (h : wrong l ≠ 0) : saneB l = false := by
  cases hs : saneB l with
  | false => rfl
  | true => exact absurd (sane_wrong hs) h

/-! ### with one more, without one -/
theorem sane_nodup {l : List Pr} (h : saneB l = true) : (nms l).Nodup := ((sane_iff l).1 h).2.2.nodup
theorem one_nodup (n v : ByteArray) : (nms [(n, v)]).Nodup := by simp [nms]
theorem has_one (n v x : ByteArray) : has [(n, v)] x = decide (n = x) := by simp [has]
theorem withP_is {l : List Pr} (h : saneB l = true) (n v : ByteArray) : withP l n v = drop l (fun x => decide (n = x)) ++ [(n, v)] := by
  unfold withP repl
  rw [asL_sane h]
  congr 1
  congr 1
  funext x
  exact has_one n v x
theorem with_wrong {l : List Pr} {n v : ByteArray} (h : saneB l = true) (hw : wrong (withP l n v) ≠ 0) : nameB n = false ∨ 64 < v.size ∨ l.length = 16 := by
  cases hn : nameB n with
  | false => exact .inl rfl
  | true =>
    by_cases hv : 64 < v.size
    · exact .inr (.inl hv)
    · refine .inr (.inr ?_)
      have hl := sane_len h
      obtain ⟨h1, h2, h3⟩ := (sane_iff l).1 h
      by_cases hx : l.length = 16
      · exact hx
      · refine absurd (wrong_of ?_ ?_ ?_) hw
        · rw [withP_is h, large_iff] at *
          have hs := (drop_sub l fun x => decide (n = x)).length_le
          refine ⟨by rw [List.length_append]; simp; omega, ?_⟩
          rw [big_app]
          have : (drop l fun x => decide (n = x)).any bigV = false := by
            rw [List.any_eq_false] at *
            exact fun x hx => h1.2 x ((drop_sub l _).subset hx)
          rw [this]
          simp [bigV]; omega
        · rw [withP_is h, misn_app]
          have : misn (drop l fun x => decide (n = x)) = false := by
            unfold misn at *
            rw [List.any_eq_false] at *
            exact fun x hx => h2 x ((drop_sub l _).subset hx)
          rw [this]
          simp [misn, badN, hn]
        · unfold withP
          rw [asL_sane h]
          exact repl_nodup (sane_nodup h) (one_nodup n v)
theorem with_nodup {l : List Pr} {n v : ByteArray} (hw : wrong (withP l n v) = 0) : (nms (withP l n v)).Nodup := (wrong_zero hw).2.2
theorem with_got {l : List Pr} {n v : ByteArray} (h : saneB l = true) (hw : wrong (withP l n v) = 0) (x : ByteArray) : getS (makeS (withP l n v)) x = if x = n then some v else getS l x := by
  rw [get_perm (with_nodup hw) (make_perm hw)]
  unfold withP
  rw [get_repl, asL_sane h]
  by_cases e : x = n
  · subst e; simp [getS]
  · have : ¬ n = x := fun e' => e e'.symm
    simp [getS, this, e]
theorem drop_perm {l m : List Pr} (h : l.Perm m) (g : ByteArray → Bool) : (drop l g).Perm (drop m g) := h.filter _
theorem drop_app (a b : List Pr) (g : ByteArray → Bool) : drop (a ++ b) g = drop a g ++ drop b g := List.filter_append a b
theorem without_is {l : List Pr} (h : saneB l = true) (n : ByteArray) : without l n = drop l (fun x => decide (x = n)) := by unfold without; rw [asL_sane h]
theorem eq_fun (n : ByteArray) : (fun x : ByteArray => decide (n = x)) = fun x => decide (x = n) := by
  funext x; exact decide_eq_decide.2 ⟨Eq.symm, Eq.symm⟩
theorem drop_idem (l : List Pr) (g : ByteArray → Bool) : drop (drop l g) g = drop l g := by
  rw [drop_drop]; congr 1; funext n; simp
theorem with_without {l : List Pr} {n v : ByteArray} (h : saneB l = true) (hw : wrong (withP l n v) = 0) : without (makeS (withP l n v)) n = without l n := by
  rw [without_is (make_sane hw), without_is h]
  refine ris_unique (((sane_iff _).1 (make_sane hw)).2.2.sublist (drop_sub _ _)) (((sane_iff _).1 h).2.2.sublist (drop_sub _ _)) ?_
  refine (drop_perm (make_perm hw) _).trans ?_
  rw [withP_is h, drop_app, eq_fun, drop_idem]
  simp [drop]
theorem without_sane {l : List Pr} (h : saneB l = true) (n : ByteArray) : saneB (without l n) = true := by
  rw [without_is h]; exact sane_sub h (drop_sub _ _)
theorem without_got {l : List Pr} (h : saneB l = true) (n x : ByteArray) : getS (without l n) x = if x = n then none else getS l x := by
  rw [without_is h, get_drop]; simp
theorem with_len {l : List Pr} {n v : ByteArray} (h : saneB l = true) (hw : wrong (withP l n v) = 0) : (makeS (withP l n v)).length = (without l n).length + 1 := by
  rw [made_len hw, withP_is h, without_is h, eq_fun, List.length_append]; rfl

/-! ### merged -/
theorem repl_none (l : List Pr) : repl l [] = l := by
  unfold repl
  rw [drop_no l _ (fun p _ => rfl), List.append_nil]
theorem merge_is {a b : List Pr} (ha : saneB a = true) (hb : saneB b = true) : merge a b = repl a b := by unfold merge; rw [asL_sane ha, asL_sane hb]
theorem merge_none {a : List Pr} (ha : saneB a = true) : wrong (merge a []) = 0 ∧ makeS (merge a []) = a := by
  rw [merge_is ha sane_nil, repl_none]
  exact ⟨sane_wrong ha, sane_make ha⟩
theorem misn_sub {l m : List Pr} (h : misn l = false) (hs : m.Sublist l) : misn m = false := by
  unfold misn at *
  rw [List.any_eq_false] at *
  exact fun x hx => h x (hs.subset hx)
theorem big_sub {l m : List Pr} (h : l.any bigV = false) (hs : m.Sublist l) : m.any bigV = false := by
  rw [List.any_eq_false] at *
  exact fun x hx => h x (hs.subset hx)
theorem merge_wrong {a b : List Pr} (ha : saneB a = true) (hb : saneB b = true) (hw : wrong (merge a b) ≠ 0) : wrong (merge a b) = 4 ∧ 16 < a.length + b.length := by
  rw [merge_is ha hb] at *
  obtain ⟨a1, a2, a3⟩ := (sane_iff a).1 ha
  obtain ⟨b1, b2, b3⟩ := (sane_iff b).1 hb
  have hm : misn (repl a b) = false := by
    unfold repl
    rw [misn_app, misn_sub a2 (drop_sub _ _), b2]; rfl
  have hn : (nms (repl a b)).Nodup := repl_nodup a3.nodup b3.nodup
  cases hl : large (repl a b) with
  | false => exact absurd (wrong_of hl hm hn) hw
  | true =>
    refine ⟨by unfold wrong; simp [hl], ?_⟩
    have hg : (repl a b).any bigV = false := by
      unfold repl
      rw [big_app, big_sub ((large_iff a).1 a1).2 (drop_sub _ _), ((large_iff b).1 b1).2]; rfl
    unfold large at hl
    rw [hg] at hl
    have hs := (drop_sub a (has b)).length_le
    simp [repl] at hl
    omega
theorem merge_got {a b : List Pr} (ha : saneB a = true) (hb : saneB b = true) (hw : wrong (merge a b) = 0) (x : ByteArray) : getS (makeS (merge a b)) x = (getS b x).or (getS a x) := by
  rw [get_perm (wrong_zero hw).2.2 (make_perm hw), merge_is ha hb, get_repl]
theorem drop_own (b : List Pr) : drop b (has b) = [] := by
  unfold drop
  rw [List.filter_eq_nil_iff]
  intro p hp
  have : has b p.1 = true := has_iff.2 (List.mem_map.2 ⟨p, hp, rfl⟩)
  simp [this]
theorem merge_twice {a b : List Pr} (ha : saneB a = true) (hb : saneB b = true) (hw : wrong (merge a b) = 0) :
    wrong (merge (makeS (merge a b)) b) = 0 ∧ makeS (merge (makeS (merge a b)) b) = makeS (merge a b) := by
  have hp : (merge (makeS (merge a b)) b).Perm (makeS (merge a b)) := by
    rw [merge_is (make_sane hw) hb]
    have h1 : (drop (makeS (merge a b)) (has b)).Perm (drop a (has b)) := by
      refine (drop_perm (make_perm hw) _).trans ?_
      rw [merge_is ha hb]
      unfold repl
      rw [drop_app, drop_own, drop_idem, List.append_nil]
    unfold repl
    refine (h1.append_right b).trans ?_
    refine List.Perm.trans ?_ (make_perm hw).symm
    rw [merge_is ha hb]
    exact List.Perm.refl _
  have h2 := make_sane hw
  exact ⟨by rw [wrong_perm hp]; exact sane_wrong h2, by rw [make_like (sane_wrong h2) hp]; exact sane_make h2⟩

/-! ### cut -/
theorem repl_apart {a b : List Pr} (h : (nms (a ++ b)).Nodup) : repl a b = a ++ b := by
  unfold repl
  rw [drop_no]
  intro p hp
  rw [has_no]
  rw [nms_app, List.nodup_append] at h
  exact fun hm => h.2.2 p.1 (List.mem_map.2 ⟨p, hp, rfl⟩) p.1 hm rfl
theorem cut_sane {l : List Pr} (h : saneB l = true) (k : Nat) : saneB (l.take k) = true ∧ saneB (l.drop k) = true :=
  ⟨sane_sub h (List.take_sublist _ _), sane_sub h (List.drop_sublist _ _)⟩
theorem cut_merge {l : List Pr} (h : saneB l = true) (k : Nat) : wrong (merge (l.take k) (l.drop k)) = 0 ∧ makeS (merge (l.take k) (l.drop k)) = l := by
  obtain ⟨h1, h2⟩ := cut_sane h k
  have e : merge (l.take k) (l.drop k) = l := by
    rw [merge_is h1 h2, repl_apart, List.take_append_drop]
    rw [List.take_append_drop]; exact sane_nodup h
  rw [e]; exact ⟨sane_wrong h, sane_make h⟩
theorem cut_turned {l : List Pr} (h : saneB l = true) (k : Nat) : wrong (merge (l.drop k) (l.take k)) = 0 ∧ makeS (merge (l.drop k) (l.take k)) = l := by
  obtain ⟨h1, h2⟩ := cut_sane h k
  have hp : (l.drop k ++ l.take k).Perm l := by
    have := List.perm_append_comm (l₁ := l.drop k) (l₂ := l.take k)
    rw [List.take_append_drop] at this; exact this
  have e : merge (l.drop k) (l.take k) = l.drop k ++ l.take k := by
    rw [merge_is h2 h1, repl_apart]
    exact (nms_perm hp).nodup_iff.2 (sane_nodup h)
  rw [e]; exact ⟨by rw [wrong_perm hp]; exact sane_wrong h, by rw [make_like (sane_wrong h) hp]; exact sane_make h⟩

/-! ### the document's answer: insertion, and taking away one by one -/
/-- Where a pair goes among those that lie there: behind all whose names are not behind its own. -/
def pos (out : List Pr) (n : ByteArray) : Nat → Nat
  | 0 => 0
  | k + 1 => if blt n (out.getD k default).1 then pos out n k else k + 1
def ins (out : List Pr) (x : Pr) : List Pr := out.take (pos out x.1 out.length) ++ x :: out.drop (pos out x.1 out.length)
theorem pos_le (out : List Pr) (n : ByteArray) : ∀ k, pos out n k ≤ k
  | 0 => Nat.le_refl _
  | k + 1 => by
    unfold pos; split
    · exact Nat.le_succ_of_le (pos_le out n k)
    · exact Nat.le_refl _
theorem pos_behind (out : List Pr) (n : ByteArray) : ∀ k j, pos out n k ≤ j → j < k → blt n (out.getD j default).1 = true
  | 0, j, _, h => by omega
  | k + 1, j, h1, h2 => by
    unfold pos at h1
    split at h1
    · rename_i hb
      by_cases e : j = k
      · subst e; exact hb
      · exact pos_behind out n k j h1 (by omega)
    · omega
theorem pos_ahead (out : List Pr) (n : ByteArray) : ∀ k, 0 < pos out n k → blt n (out.getD (pos out n k - 1) default).1 = false
  | 0, h => by simp [pos] at h
  | k + 1, h => by
    unfold pos at h ⊢
    split
    · rename_i hb
      rw [if_pos hb] at h
      exact pos_ahead out n k h
    · rename_i hb
      simpa using hb
theorem ins_perm (out : List Pr) (x : Pr) : (ins out x).Perm (out ++ [x]) := by
  unfold ins
  refine List.perm_middle.trans ?_
  rw [List.take_append_drop]
  exact (List.perm_append_comm (l₁ := [x]) (l₂ := out))
theorem ins_ris {out : List Pr} {x : Pr} (h : Ris out) (hx : x.1 ∉ nms out) : Ris (ins out x) := by
  have hle := pos_le out x.1 out.length
  have hbe := pos_behind out x.1 out.length
  have hah := pos_ahead out x.1 out.length
  unfold ins
  generalize pos out x.1 out.length = k at hle hbe hah ⊢
  have hget : ∀ (i j : Nat) (hi : i < out.length) (hj : j < out.length), i < j → blt out[i].1 out[j].1 = true := fun i j hi hj hij => List.pairwise_iff_getElem.1 h i j hi hj hij
  have hD : ∀ (j : Nat) (hj : j < out.length), out.getD j default = out[j] := fun j hj => by
    rw [List.getD_eq_getElem?_getD, List.getElem?_eq_getElem hj]; rfl
  have h1 : ∀ p ∈ out.take k, blt p.1 x.1 = true := by
    intro p hp
    obtain ⟨i, hi, rfl⟩ := List.mem_iff_getElem.1 hp
    rw [List.length_take] at hi
    rw [List.getElem_take]
    have hio : i < out.length := by omega
    have hk := hah (by omega)
    rw [hD (k - 1) (by omega)] at hk
    have hle' : blt x.1 out[i].1 = false := by
      by_cases e : i = k - 1
      · subst e; exact hk
      · exact le_trans' (a := out[i].1) (b := out[k - 1].1) (blt_asymm (hget i (k - 1) hio (by omega) (by omega))) hk
    rcases blt_total out[i].1 x.1 with h' | h' | h'
    · exact h'
    · exact absurd (List.mem_map.2 ⟨out[i], List.getElem_mem hio, h'⟩) hx
    · rw [h'] at hle'; cases hle'
  have h2 : ∀ p ∈ out.drop k, blt x.1 p.1 = true := by
    intro p hp
    obtain ⟨i, hi, rfl⟩ := List.mem_iff_getElem.1 hp
    rw [List.length_drop] at hi
    rw [List.getElem_drop]
    have := hbe (k + i) (by omega) (by omega)
    rw [hD (k + i) (by omega)] at this
    exact this
  unfold Ris
  rw [List.pairwise_append]
  refine ⟨h.sublist (List.take_sublist _ _), List.pairwise_cons.2 ⟨h2, h.sublist (List.drop_sublist _ _)⟩, fun p hp q hq => ?_⟩
  rcases List.mem_cons.1 hq with rfl | hq
  · exact h1 p hp
  · exact blt_trans (h1 p hp) (h2 q hq)
def inss (out l : List Pr) : List Pr := l.foldl ins out
theorem inss_perm : ∀ (l out : List Pr), (inss out l).Perm (out ++ l)
  | [], out => by simp [inss]
  | x :: r, out => by
    refine (inss_perm r (ins out x)).trans ?_
    refine ((ins_perm out x).append_right r).trans ?_
    simp
theorem inss_ris : ∀ (l out : List Pr), Ris out → (nms (out ++ l)).Nodup → Ris (inss out l)
  | [], _, h, _ => h
  | x :: r, out, h, hn => by
    refine inss_ris r (ins out x) (ins_ris h ?_) ?_
    · rw [nms_app, List.nodup_append] at hn
      exact fun hm => hn.2.2 x.1 hm x.1 (by simp [nms]) rfl
    · refine (nms_perm ?_).nodup_iff.2 hn
      refine ((ins_perm out x).append_right r).trans ?_
      simp
theorem inss_make {l : List Pr} (h : wrong l = 0) : inss [] l = makeS l :=
  (make_is h (by simpa using inss_perm l []) (inss_ris l [] List.Pairwise.nil (by simpa using (wrong_zero h).2.2))).symm
theorem ins_len (out : List Pr) (x : Pr) : (ins out x).length = out.length + 1 := by
  rw [(ins_perm out x).length_eq, List.length_append]; rfl
theorem inss_snoc (out l : List Pr) (x : Pr) : inss out (l ++ [x]) = ins (inss out l) x := by simp [inss, List.foldl_append]

def dels (a b : List Pr) : List Pr := b.foldl (fun o p => drop o fun x => decide (x = p.1)) a
theorem dels_is : ∀ (b a : List Pr), dels a b = drop a (has b)
  | [], a => by
    unfold dels
    rw [drop_no a _ (fun p _ => rfl)]; rfl
  | p :: r, a => by
    show dels (drop a fun x => decide (x = p.1)) r = _
    rw [dels_is r, drop_drop]
    congr 1
    funext n
    show (decide (n = p.1) || has r n) = has (p :: r) n
    unfold has
    rw [List.any_cons]
    congr 1
    exact decide_eq_decide.2 ⟨Eq.symm, Eq.symm⟩
theorem dels_sub (b a : List Pr) : (dels a b).Sublist a := by rw [dels_is]; exact drop_sub _ _
theorem dels_snoc (a b : List Pr) (p : Pr) : dels a (b ++ [p]) = drop (dels a b) fun x => decide (x = p.1) := by simp [dels, List.foldl_append]
theorem merge_dels (a b : List Pr) : merge a b = dels (asL a) (asL b) ++ asL b := by rw [dels_is]; rfl
theorem with_without_app (l : List Pr) (n v : ByteArray) : withP l n v = without l n ++ [(n, v)] := by
  unfold withP repl without
  congr 1
  congr 1
  rw [← eq_fun]
  funext x
  exact has_one n v x

end Go.Proofs.YtkoeggjfdcpokaaGreatDoor.Lp
namespace Go.Proofs.YtkoeggjfdcpokaaGreatDoor.Lx
open Go.Proofs.YtkoeggjfdcpokaaGreatDoor

abbrev T := List UInt8
def isL (c : UInt8) : Bool := Lp.letB c || decide (c.toNat = 95)
def isD (c : UInt8) : Bool := Lp.digB c
def isW (c : UInt8) : Bool := decide (c.toNat = 32) || decide (c.toNat = 9) || decide (c.toNat = 13) || decide (c.toNat = 10)
def wordC (c : UInt8) : Bool := isL c || isD c
def numC (c : UInt8) : Bool := isL c || isD c || decide (c.toNat = 46)
/-- What stands behind white and remarks; is one begun? -/
def bl : Bool → T → T
  | _, [] => []
  | true, c :: r => if c.toNat = 10 then bl false r else bl true r
  | false, c :: r => if c.toNat = 35 then bl true r else if isW c then bl false r else c :: r
/-- What stands behind a quote: the text, the rest, the error (1: at the rest; 12: at the quote). -/
def tq : T → T × T × Int
  | [] => ([], [], 12)
  | c :: r =>
    if c.toNat = 34 then ([], r, 0)
    else if c.toNat = 10 then ([], [], 12)
    else if c.toNat = 92 then
      match r with
      | [] => ([], [], 12)
      | d :: r' =>
        if d.toNat = 92 ∨ d.toNat = 34 then (if (tq r').2.2 = 0 then (d :: (tq r').1, (tq r').2.1, 0) else ([], (tq r').2.1, (tq r').2.2))
        else if d.toNat = 110 then (if (tq r').2.2 = 0 then (10 :: (tq r').1, (tq r').2.1, 0) else ([], (tq r').2.1, (tq r').2.2))
        else ([], c :: d :: r', 1)
    else if (tq r).2.2 = 0 then (c :: (tq r).1, (tq r).2.1, 0) else ([], (tq r).2.1, (tq r).2.2)
theorem tq_cons (c : UInt8) (r : T) : tq (c :: r) =
    if c.toNat = 34 then ([], r, 0)
    else if c.toNat = 10 then ([], [], 12)
    else if c.toNat = 92 then
      match r with
      | [] => ([], [], 12)
      | d :: r' =>
        if d.toNat = 92 ∨ d.toNat = 34 then (if (tq r').2.2 = 0 then (d :: (tq r').1, (tq r').2.1, 0) else ([], (tq r').2.1, (tq r').2.2))
        else if d.toNat = 110 then (if (tq r').2.2 = 0 then (10 :: (tq r').1, (tq r').2.1, 0) else ([], (tq r').2.1, (tq r').2.2))
        else ([], c :: d :: r', 1)
    else if (tq r).2.2 = 0 then (c :: (tq r).1, (tq r).2.1, 0) else ([], (tq r).2.1, (tq r).2.2) := (tq.eq_def (c :: r)).trans rfl
def hd (l : T) : Nat := match l with | [] => 0 | c :: _ => c.toNat
def hdD (l : T) : Bool := match l with | [] => false | c :: _ => isD c
def two (a b : Nat) : Bool := decide ((a = 33 ∨ a = 61 ∨ a = 62 ∨ a = 60) ∧ b = 61)
def oneS (a : Nat) : Bool := decide (a = 123 ∨ a = 125 ∨ a = 40 ∨ a = 41 ∨ a = 44 ∨ a = 58 ∨ a = 59 ∨ a = 61 ∨ a = 62 ∨ a = 60)
/-- The token that stands first, no white ahead: its kind, its text, the rest, the error (at the rest). -/
def one : T → Nat × T × T × Int
  | [] => (0, [], [], 1)
  | c :: r =>
    if isL c then (1, c :: r.takeWhile wordC, r.dropWhile wordC, 0)
    else if isD c || (decide (c.toNat = 45) && hdD r) then (2, c :: r.takeWhile numC, r.dropWhile numC, 0)
    else if c.toNat = 34 then (if (tq r).2.2 = 0 then (3, (tq r).1, (tq r).2.1, 0) else if (tq r).2.2 = 1 then (0, [], (tq r).2.1, 1) else (0, [], c :: r, 12))
    else if two c.toNat (hd r) then (4, c :: r.take 1, r.drop 1, 0)
    else if oneS c.toNat then (4, [c], r, 0)
    else (0, [], c :: r, 1)
/-- A token: its kind, how many octets stand from its place on, its text. -/
abbrev Tok := Nat × Nat × T
/-- At most m tokens, what stands at the end or at the error's place, the error. -/
def lex : Nat → T → List Tok × T × Int
  | 0, l => if bl false l = [] then ([], [], 0) else ([], bl false l, 4)
  | m + 1, l =>
    if bl false l = [] then ([], [], 0)
    else if (one (bl false l)).2.2.2 = 0 then
      (((one (bl false l)).1, (bl false l).length, (one (bl false l)).2.1) :: (lex m (one (bl false l)).2.2.1).1, (lex m (one (bl false l)).2.2.1).2.1, (lex m (one (bl false l)).2.2.1).2.2)
    else ([], (one (bl false l)).2.2.1, (one (bl false l)).2.2.2)
def esc (c : UInt8) : T := if c.toNat = 92 ∨ c.toNat = 34 then [92, c] else if c.toNat = 10 then [92, 110] else [c]
def body (s : T) : T := s.flatMap esc
def quote (s : T) : T := 34 :: (body s ++ [34])
def txt (k : Nat) (s : T) : T := if k = 3 then quote s else s
def flat (t : Tok) : Nat × T := (t.1, t.2.2)
def joinP : List (Nat × T) → T
  | [] => []
  | [p] => txt p.1 p.2
  | p :: q :: r => txt p.1 p.2 ++ (32 :: joinP (q :: r))
def join (l : List Tok) : T := joinP (l.map flat)

/-! ### white -/
theorem bl_suffix : ∀ (b : Bool) (l : T), ∃ p, l = p ++ bl b l
  | _, [] => ⟨[], by simp [bl]⟩
  | true, c :: r => by
    rw [bl]
    split
    · obtain ⟨p, hp⟩ := bl_suffix false r
      exact ⟨c :: p, by rw [List.cons_append, ← hp]⟩
    · obtain ⟨p, hp⟩ := bl_suffix true r
      exact ⟨c :: p, by rw [List.cons_append, ← hp]⟩
  | false, c :: r => by
    rw [bl]
    split
    · obtain ⟨p, hp⟩ := bl_suffix true r
      exact ⟨c :: p, by rw [List.cons_append, ← hp]⟩
    · split
      · obtain ⟨p, hp⟩ := bl_suffix false r
        exact ⟨c :: p, by rw [List.cons_append, ← hp]⟩
      · exact ⟨[], rfl⟩
theorem bl_len (b : Bool) (l : T) : (bl b l).length ≤ l.length := by
  obtain ⟨p, hp⟩ := bl_suffix b l
  have := congrArg List.length hp
  rw [List.length_append] at this
  omega
theorem bl_stop : ∀ (b : Bool) (l : T), bl b l ≠ [] → ∃ c r, bl b l = c :: r ∧ c.toNat ≠ 35 ∧ isW c = false
  | _, [], h => absurd (by simp [bl]) h
  | true, c :: r, h => by
    rw [bl] at h ⊢
    split
    · rename_i hc
      rw [if_pos hc] at h
      exact bl_stop false r h
    · rename_i hc
      rw [if_neg hc] at h
      exact bl_stop true r h
  | false, c :: r, h => by
    rw [bl] at h ⊢
    split
    · rename_i hc
      rw [if_pos hc] at h
      exact bl_stop true r h
    · rename_i hc
      rw [if_neg hc] at h
      split
      · rename_i hw
        rw [if_pos hw] at h
        exact bl_stop false r h
      · rename_i hw
        exact ⟨c, r, rfl, hc, by simpa using hw⟩
theorem bl_self {c : UInt8} {r : T} (h1 : c.toNat ≠ 35) (h2 : isW c = false) : bl false (c :: r) = c :: r := by
  rw [bl, if_neg h1, if_neg (by rw [h2]; decide)]
theorem bl_twice (b : Bool) (l : T) : bl false (bl b l) = bl b l := by
  by_cases h : bl b l = []
  · rw [h, bl]
  · obtain ⟨c, r, e, h1, h2⟩ := bl_stop b l h
    rw [e, bl_self h1 h2]
/-- An LF ends a remark. -/
theorem bl_line : ∀ (b : Bool) (l t : T), bl b (l ++ 10 :: t) = if bl b l = [] then bl false t else bl b l ++ 10 :: t
  | true, [], t => by
    rw [List.nil_append, bl, bl, if_pos (by decide), if_pos rfl]
  | false, [], t => by
    rw [List.nil_append, bl, bl, if_neg (by decide), if_pos (by decide), if_pos rfl]
  | true, c :: r, t => by
    rw [List.cons_append, bl, bl]
    split
    · exact bl_line false r t
    · exact bl_line true r t
  | false, c :: r, t => by
    rw [List.cons_append, bl, bl]
    split
    · exact bl_line true r t
    · split
      · exact bl_line false r t
      · rw [if_neg (by simp)]; rfl

/-! ### one token -/
theorem white_not {c : UInt8} (h : isW c = true ∨ c.toNat = 35) : isL c = false ∧ isD c = false ∧ wordC c = false ∧ numC c = false ∧ c.toNat ≠ 61 := by
  have h' : c.toNat = 32 ∨ c.toNat = 9 ∨ c.toNat = 13 ∨ c.toNat = 10 ∨ c.toNat = 35 := by
    rcases h with h | h
    · simp only [isW, Bool.or_eq_true, decide_eq_true_eq] at h; omega
    · omega
  have hl : isL c = false := by simp only [isL, Lp.letB, Bool.or_eq_false_iff, Bool.and_eq_false_iff, decide_eq_false_iff_not]; omega
  have hd : isD c = false := by simp only [isD, Lp.digB, Bool.and_eq_false_iff, decide_eq_false_iff_not]; omega
  refine ⟨hl, hd, by simp [wordC, hl, hd], ?_, by omega⟩
  simp only [numC, hl, hd, Bool.false_or, decide_eq_false_iff_not]
  omega
/-- Nothing stands behind, or white, or a remark. -/
def Sep (l : T) : Prop := l = [] ∨ ∃ c r, l = c :: r ∧ (isW c = true ∨ c.toNat = 35)
theorem sep_take {l : T} (h : Sep l) (f : UInt8 → Bool) (hf : ∀ c : UInt8, (isW c = true ∨ c.toNat = 35) → f c = false) (w : T) (hw : w.all f = true) : (w ++ l).takeWhile f = w ∧ (w ++ l).dropWhile f = l := by
  induction w with
  | nil =>
    rcases h with rfl | ⟨c, r, rfl, hc⟩
    · simp
    · rw [List.nil_append, List.takeWhile_cons, List.dropWhile_cons, hf c hc]; simp
  | cons a w ih =>
    simp only [List.all_cons, Bool.and_eq_true] at hw
    rw [List.cons_append, List.takeWhile_cons, List.dropWhile_cons, hw.1]
    obtain ⟨h1, h2⟩ := ih hw.2
    simp [h1, h2]
theorem sep_hd {l : T} (h : Sep l) : hd l ≠ 61 ∧ hdD l = false := by
  rcases h with rfl | ⟨c, r, rfl, hc⟩
  · exact ⟨by decide, rfl⟩
  · obtain ⟨_, h2, _, _, h5⟩ := white_not hc
    exact ⟨h5, h2⟩
theorem tq_body : ∀ (s l : T), tq (body s ++ 34 :: l) = (s, l, 0)
  | [], l => by
    show tq (34 :: l) = _
    rw [tq_cons, if_pos (by decide)]
  | c :: s, l => by
    have e : body (c :: s) ++ 34 :: l = esc c ++ (body s ++ 34 :: l) := by
      show (esc c ++ body s) ++ 34 :: l = _
      rw [List.append_assoc]
    rw [e]
    have ih := tq_body s l
    unfold esc
    by_cases h1 : c.toNat = 92 ∨ c.toNat = 34
    · rw [if_pos h1]
      show tq (92 :: c :: (body s ++ 34 :: l)) = _
      rw [tq_cons, if_neg (by decide), if_neg (by decide), if_pos (by decide)]
      show (if c.toNat = 92 ∨ c.toNat = 34 then _ else _) = _
      rw [if_pos h1, ih, if_pos rfl]
    · rw [if_neg h1]
      by_cases h2 : c.toNat = 10
      · rw [if_pos h2]
        show tq (92 :: 110 :: (body s ++ 34 :: l)) = _
        rw [tq_cons, if_neg (by decide), if_neg (by decide), if_pos (by decide)]
        show (if (110 : UInt8).toNat = 92 ∨ (110 : UInt8).toNat = 34 then _ else if (110 : UInt8).toNat = 110 then _ else _) = _
        rw [if_neg (by decide), if_pos (by decide), ih, if_pos rfl]
        have : c = 10 := UInt8.toNat_inj.1 h2
        rw [this]
      · rw [if_neg h2]
        show tq (c :: (body s ++ 34 :: l)) = _
        rw [tq_cons, if_neg (by omega), if_neg h2, if_neg (by omega), ih, if_pos rfl]
/-- A kind and a text that are a token's. -/
def Good (k : Nat) (s : T) : Prop :=
  (k = 1 ∧ ∃ c w, s = c :: w ∧ isL c = true ∧ w.all wordC = true) ∨
  (k = 2 ∧ ∃ c w, s = c :: w ∧ isL c = false ∧ (isD c || (decide (c.toNat = 45) && hdD w)) = true ∧ w.all numC = true) ∨
  k = 3 ∨
  (k = 4 ∧ ((∃ c d, s = [c, d] ∧ two c.toNat d.toNat = true) ∨ ∃ c, s = [c] ∧ oneS c.toNat = true))
theorem two_not {c : UInt8} {n : Nat} (h : two c.toNat n = true ∨ oneS c.toNat = true) : isL c = false ∧ isD c = false ∧ c.toNat ≠ 45 ∧ c.toNat ≠ 34 := by
  have h' : c.toNat = 33 ∨ c.toNat = 61 ∨ c.toNat = 62 ∨ c.toNat = 60 ∨ c.toNat = 123 ∨ c.toNat = 125 ∨ c.toNat = 40 ∨ c.toNat = 41 ∨ c.toNat = 44 ∨ c.toNat = 58 ∨ c.toNat = 59 := by
    rcases h with h | h
    · simp only [two, decide_eq_true_eq] at h; omega
    · simp only [oneS, decide_eq_true_eq] at h; omega
  have hl : isL c = false := by simp only [isL, Lp.letB, Bool.or_eq_false_iff, Bool.and_eq_false_iff, decide_eq_false_iff_not]; omega
  have hd : isD c = false := by simp only [isD, Lp.digB, Bool.and_eq_false_iff, decide_eq_false_iff_not]; omega
  exact ⟨hl, hd, by omega, by omega⟩
theorem hdD_app {w l : T} (h : w ≠ []) : hdD (w ++ l) = hdD w := by
  cases w with
  | nil => exact absurd rfl h
  | cons c w => rfl
theorem quote_not : isL 34 = false ∧ isD 34 = false ∧ (34 : UInt8).toNat ≠ 45 := by decide
theorem one_txt {k : Nat} {s : T} (h : Good k s) {l : T} (hl : Sep l) : one (txt k s ++ l) = (k, s, l, 0) := by
  obtain ⟨hl1, hl2⟩ := sep_hd hl
  rcases h with ⟨rfl, c, w, rfl, h1, h2⟩ | ⟨rfl, c, w, rfl, h0, h1, h2⟩ | rfl | ⟨rfl, h⟩
  · obtain ⟨a, b⟩ := sep_take hl wordC (fun c hc => (white_not hc).2.2.1) w h2
    show one (c :: (w ++ l)) = _
    rw [one]
    rw [if_pos h1, a, b]
  · obtain ⟨a, b⟩ := sep_take hl numC (fun c hc => (white_not hc).2.2.2.1) w h2
    show one (c :: (w ++ l)) = _
    rw [one]
    have h3 : (isD c || (decide (c.toNat = 45) && hdD (w ++ l))) = true := by
      by_cases hw : w = []
      · subst hw
        simp only [hdD, Bool.and_false, Bool.or_false] at h1
        rw [h1]; rfl
      · rw [hdD_app hw]; exact h1
    rw [if_neg (by rw [h0]; decide), if_pos h3, a, b]
  · show one (34 :: ((body s ++ [34]) ++ l)) = _
    obtain ⟨q1, q2, q3⟩ := quote_not
    have e : (body s ++ [34]) ++ l = body s ++ 34 :: l := by rw [List.append_assoc]; rfl
    rw [e]
    rw [one]
    rw [if_neg (by rw [q1]; decide), if_neg (by rw [q2]; simp), if_pos (by decide), tq_body, if_pos rfl]
  · rcases h with ⟨c, d, rfl, h⟩ | ⟨c, rfl, h⟩
    · obtain ⟨n1, n2, n3, n4⟩ := two_not (.inl h)
      show one (c :: d :: l) = _
      rw [one]
      rw [if_neg (by rw [n1]; decide), if_neg (by simp [n2, n3]), if_neg n4, if_pos (by exact h)]
      rfl
    · obtain ⟨n1, n2, n3, n4⟩ := two_not (n := 0) (.inr h)
      have ht : two c.toNat (hd l) = false := by simp only [two, decide_eq_false_iff_not]; omega
      show one (c :: l) = _
      rw [one]
      rw [if_neg (by rw [n1]; decide), if_neg (by simp [n2, n3]), if_neg n4, if_neg (by rw [ht]; decide), if_pos h]
theorem all_takeWhile (f : UInt8 → Bool) : ∀ l : T, (l.takeWhile f).all f = true
  | [] => rfl
  | c :: r => by
    rw [List.takeWhile_cons]
    split
    · rename_i h
      simp [h]
    · rfl
theorem hdD_take {r : T} (h : hdD r = true) : hdD (r.takeWhile numC) = true := by
  cases r with
  | nil => simp [hdD] at h
  | cons c r =>
    have : numC c = true := by simp only [hdD] at h; simp [numC, h]
    rw [List.takeWhile_cons, if_pos this]
    exact h
theorem one_good {l s r : T} {k : Nat} (h : one l = (k, s, r, 0)) : Good k s := by
  cases l with
  | nil => simp [one] at h
  | cons c t =>
    rw [one] at h
    split at h
    · rename_i h1
      simp only [Prod.mk.injEq] at h
      obtain ⟨rfl, rfl, _, _⟩ := h
      exact .inl ⟨rfl, c, _, rfl, h1, all_takeWhile _ _⟩
    · rename_i h1
      split at h
      · rename_i h2
        simp only [Prod.mk.injEq] at h
        obtain ⟨rfl, rfl, _, _⟩ := h
        refine .inr (.inl ⟨rfl, c, _, rfl, by simpa using h1, ?_, all_takeWhile _ _⟩)
        simp only [Bool.or_eq_true, Bool.and_eq_true] at h2 ⊢
        rcases h2 with h2 | ⟨h2, h3⟩
        · exact .inl h2
        · exact .inr ⟨h2, hdD_take h3⟩
      · split at h
        · split at h
          · simp only [Prod.mk.injEq] at h
            obtain ⟨rfl, _⟩ := h
            exact .inr (.inr (.inl rfl))
          · split at h <;> simp at h
        · split at h
          · rename_i h4
            simp only [Prod.mk.injEq] at h
            obtain ⟨rfl, rfl, _, _⟩ := h
            refine .inr (.inr (.inr ⟨rfl, .inl ?_⟩))
            cases t with
            | nil => simp [two, hd] at h4
            | cons d t => exact ⟨c, d, rfl, h4⟩
          · split at h
            · rename_i h5
              simp only [Prod.mk.injEq] at h
              obtain ⟨rfl, rfl, _, _⟩ := h
              exact .inr (.inr (.inr ⟨rfl, .inr ⟨c, rfl, h5⟩⟩))
            · simp at h
theorem tq_rest : ∀ l : T, ∃ p, l = p ++ (tq l).2.1 ∧ ((tq l).2.2 = 0 → p ≠ []) ∨ (tq l).2.2 = 12
  | [] => ⟨[], .inr rfl⟩
  | c :: r => by
    rw [tq_cons]
    split
    · exact ⟨[c], .inl ⟨rfl, fun _ => by simp⟩⟩
    · split
      · exact ⟨[], .inr rfl⟩
      · split
        · split
          · exact ⟨[], .inr rfl⟩
          · rename_i d r'
            have push : ∀ x : UInt8, ∃ p, c :: d :: r' = p ++ (if (tq r').2.2 = 0 then (x :: (tq r').1, (tq r').2.1, (0 : Int)) else ([], (tq r').2.1, (tq r').2.2)).2.1 ∧ ((if (tq r').2.2 = 0 then (x :: (tq r').1, (tq r').2.1, (0 : Int)) else ([], (tq r').2.1, (tq r').2.2)).2.2 = 0 → p ≠ []) ∨ (if (tq r').2.2 = 0 then (x :: (tq r').1, (tq r').2.1, (0 : Int)) else ([], (tq r').2.1, (tq r').2.2)).2.2 = 12 := by
              intro x
              obtain ⟨p, h⟩ := tq_rest r'
              refine ⟨c :: d :: p, ?_⟩
              rcases h with ⟨h, _⟩ | h
              · left
                refine ⟨?_, fun _ => by simp⟩
                split <;> simp only [List.cons_append, ← h]
              · right
                rw [if_neg (by rw [h]; decide)]
                exact h
            split
            · exact push d
            · split
              · exact push 10
              · exact ⟨[], .inl ⟨rfl, fun h => by simp at h⟩⟩
        · obtain ⟨p, h⟩ := tq_rest r
          refine ⟨c :: p, ?_⟩
          rcases h with ⟨h, _⟩ | h
          · left
            refine ⟨?_, fun _ => by simp⟩
            split <;> simp only [List.cons_append, ← h]
          · right
            rw [if_neg (by rw [h]; decide)]
            exact h
termination_by l => l.length
theorem tq_form : ∀ l : T, (tq l).2.2 = 1 → (tq l).2.1 ≠ []
  | [], h => by simp [tq] at h
  | c :: r, h => by
    rw [tq_cons] at h ⊢
    split
    · rename_i h1; rw [if_pos h1] at h; simp at h
    · rename_i h1
      rw [if_neg h1] at h
      split
      · rename_i h2; rw [if_pos h2] at h; simp at h
      · rename_i h2
        rw [if_neg h2] at h
        split
        · rename_i h3
          rw [if_pos h3] at h
          cases r with
          | nil => simp at h
          | cons d r' =>
            simp only at h ⊢
            split
            · rename_i h4
              rw [if_pos h4] at h
              split
              · rename_i h5; rw [if_pos h5] at h; simp at h
              · rename_i h5; rw [if_neg h5] at h; exact tq_form r' h
            · rename_i h4
              rw [if_neg h4] at h
              split
              · rename_i h6
                rw [if_pos h6] at h
                split
                · rename_i h5; rw [if_pos h5] at h; simp at h
                · rename_i h5; rw [if_neg h5] at h; exact tq_form r' h
              · simp
        · rename_i h3
          rw [if_neg h3] at h
          split
          · rename_i h5; rw [if_pos h5] at h; simp at h
          · rename_i h5; rw [if_neg h5] at h; exact tq_form r h
termination_by l => l.length
end Go.Proofs.YtkoeggjfdcpokaaGreatDoor.Lx
namespace Go.Proofs.YtkoeggjfdcpokaaGreatDoor.Lx
open Go.Proofs.YtkoeggjfdcpokaaGreatDoor

theorem good_first {k : Nat} {s : T} (h : Good k s) : ∃ c r, txt k s = c :: r ∧ c.toNat ≠ 35 ∧ isW c = false := by
  have key : ∀ c : UInt8, isL c = true ∨ isD c = true ∨ c.toNat = 45 ∨ c.toNat = 34 ∨ (∃ n, two c.toNat n = true) ∨ oneS c.toNat = true → c.toNat ≠ 35 ∧ isW c = false := by
    intro c hc
    by_cases hw : isW c = true ∨ c.toNat = 35
    · obtain ⟨a, b, _, _, _⟩ := white_not hw
      have hw' : c.toNat = 32 ∨ c.toNat = 9 ∨ c.toNat = 13 ∨ c.toNat = 10 ∨ c.toNat = 35 := by
        rcases hw with h | h
        · simp only [isW, Bool.or_eq_true, decide_eq_true_eq] at h; omega
        · omega
      rcases hc with h | h | h | h | ⟨n, h⟩ | h
      · rw [a] at h; cases h
      · rw [b] at h; cases h
      · omega
      · omega
      · simp only [two, decide_eq_true_eq] at h; omega
      · simp only [oneS, decide_eq_true_eq] at h; omega
    · exact ⟨fun e => hw (.inr e), by cases h : isW c with | false => rfl | true => exact absurd (.inl h) hw⟩
  rcases h with ⟨rfl, c, w, rfl, h1, _⟩ | ⟨rfl, c, w, rfl, _, h1, _⟩ | rfl | ⟨rfl, ⟨c, d, rfl, h⟩ | ⟨c, rfl, h⟩⟩
  · exact ⟨c, w, rfl, key c (.inl h1)⟩
  · refine ⟨c, w, rfl, key c ?_⟩
    simp only [Bool.or_eq_true, Bool.and_eq_true, decide_eq_true_eq] at h1
    rcases h1 with h | ⟨h, _⟩
    · exact .inr (.inl h)
    · exact .inr (.inr (.inl h))
  · exact ⟨34, body s ++ [34], rfl, by decide, by decide⟩
  · exact ⟨c, [d], rfl, key c (.inr (.inr (.inr (.inr (.inl ⟨_, h⟩)))))⟩
  · exact ⟨c, [], rfl, key c (.inr (.inr (.inr (.inr (.inr h)))))⟩
theorem good_bl {k : Nat} {s : T} (h : Good k s) (l : T) : bl false (txt k s ++ l) = txt k s ++ l := by
  obtain ⟨c, r, e, h1, h2⟩ := good_first h
  rw [e]
  exact bl_self h1 h2
theorem good_ne {k : Nat} {s : T} (h : Good k s) (l : T) : txt k s ++ l ≠ [] := by
  obtain ⟨c, r, e, _⟩ := good_first h
  rw [e]; simp
theorem good_pos {k : Nat} {s : T} (h : Good k s) : 0 < (txt k s).length := by
  obtain ⟨c, r, e, _⟩ := good_first h
  rw [e]; simp

/-! ### tokens with white between -/
def Wh (w : T) : Prop := ∀ l, bl false (w ++ l) = bl false l
def Starts (w : T) : Prop := ∃ c r, w = c :: r ∧ (isW c = true ∨ c.toNat = 35)
theorem Starts.sep {w : T} (h : Starts w) (l : T) : Sep (w ++ l) := by
  obtain ⟨c, r, rfl, hc⟩ := h
  exact .inr ⟨c, r ++ l, rfl, hc⟩
def asm : List (T × (Nat × T)) → T → T
  | [], f => f
  | x :: r, f => x.1 ++ (txt x.2.1 x.2.2 ++ asm r f)
theorem asm_sep : ∀ (L : List (T × (Nat × T))) (f : T), (∀ x ∈ L, Starts x.1) → Sep f → Sep (asm L f)
  | [], _, _, hf => hf
  | x :: r, f, h, _ => (h x (by simp)).sep _
theorem lex_asm : ∀ (L : List (T × (Nat × T))) (f : T) (m : Nat), L.length ≤ m → (∀ x ∈ L, Wh x.1 ∧ Good x.2.1 x.2.2) → (∀ x ∈ L.tail, Starts x.1) → bl false f = [] → Sep f →
    (lex m (asm L f)).1.map flat = L.map (·.2) ∧ (lex m (asm L f)).2.1 = [] ∧ (lex m (asm L f)).2.2 = 0
  | [], f, m, _, _, _, hf, _ => by
    show (lex m f).1.map flat = [] ∧ (lex m f).2.1 = [] ∧ (lex m f).2.2 = 0
    cases m with
    | zero => rw [lex, if_pos hf]; exact ⟨rfl, rfl, rfl⟩
    | succ m => rw [lex, if_pos hf]; exact ⟨rfl, rfl, rfl⟩
  | x :: r, f, m, hm, hg, hs, hf, hsep => by
    obtain ⟨h1, h2⟩ := hg x (by simp)
    have hsr : Sep (asm r f) := asm_sep r f (fun y hy => hs y hy) hsep
    have hb : bl false (asm (x :: r) f) = txt x.2.1 x.2.2 ++ asm r f := by
      show bl false (x.1 ++ (txt x.2.1 x.2.2 ++ asm r f)) = _
      rw [h1, good_bl h2]
    cases m with
    | zero => simp at hm
    | succ m =>
      have ih := lex_asm r f m (by simpa using hm) (fun y hy => hg y (by simp [hy])) (fun y hy => hs y (List.mem_of_mem_tail hy)) hf hsep
      rw [lex, hb, if_neg (good_ne h2 _), one_txt h2 hsr, if_pos rfl]
      obtain ⟨a, b, c⟩ := ih
      refine ⟨?_, b, c⟩
      show flat (x.2.1, _, x.2.2) :: (lex m (asm r f)).1.map flat = x.2 :: r.map (·.2)
      rw [a]; rfl
theorem wh_nil : Wh [] := fun _ => rfl
theorem wh_32 : Wh [32] := fun l => by
  show bl false (32 :: l) = _
  rw [bl, if_neg (by decide), if_pos (by decide)]
theorem wh_9 : Wh [9] := fun l => by
  show bl false (9 :: l) = _
  rw [bl, if_neg (by decide), if_pos (by decide)]
theorem wh_app {a b : T} (ha : Wh a) (hb : Wh b) : Wh (a ++ b) := fun l => by rw [List.append_assoc, ha, hb]
theorem wh_13 : Wh [13] := fun l => by
  show bl false (13 :: l) = _
  rw [bl, if_neg (by decide), if_pos (by decide)]
theorem wh_10 : Wh [10] := fun l => by
  show bl false (10 :: l) = _
  rw [bl, if_neg (by decide), if_pos (by decide)]
/-- A remark up to its LF. -/
theorem bl_remark : ∀ (w l : T), (∀ c ∈ w, c.toNat ≠ 10) → bl true (w ++ 10 :: l) = bl false l
  | [], l, _ => by rw [List.nil_append, bl, if_pos (by decide)]
  | c :: w, l, h => by
    rw [List.cons_append, bl, if_neg (h c (by simp))]
    exact bl_remark w l (fun d hd => h d (by simp [hd]))
theorem wh_remark {w : T} (h : ∀ c ∈ w, c.toNat ≠ 10) : Wh (35 :: (w ++ [10])) := fun l => by
  show bl false (35 :: ((w ++ [10]) ++ l)) = _
  rw [bl, if_pos (by decide), List.append_assoc]
  exact bl_remark w l h

/-! ### what all tokens are -/
theorem lex_good : ∀ (m : Nat) (l : T), ∀ t ∈ (lex m l).1, Good t.1 t.2.2
  | 0, l => by
    rw [lex]
    split <;> simp
  | m + 1, l => by
    rw [lex]
    split
    · simp
    · split
      · rename_i h
        intro t ht
        rcases List.mem_cons.1 ht with rfl | ht
        · exact one_good (l := bl false l) (r := (one (bl false l)).2.2.1) (by rw [← h])
        · exact lex_good m _ t ht
      · simp
theorem lex_count : ∀ (m : Nat) (l : T), (lex m l).1.length ≤ m
  | 0, l => by
    rw [lex]
    split <;> simp
  | m + 1, l => by
    rw [lex]
    split
    · simp
    · split
      · simp only [List.length_cons]
        have := lex_count m (one (bl false l)).2.2.1
        omega
      · simp
theorem joinP_asm : ∀ (p : Nat × T) (r : List (Nat × T)), joinP (p :: r) = asm (([], p) :: r.map fun q => ([32], q)) []
  | p, [] => by simp [joinP, asm]
  | p, q :: r => by
    have ih := joinP_asm q r
    rw [joinP, ih]
    rfl
/-- What is joined is the same tokens. -/
theorem lex_join {L : List (Nat × T)} {m : Nat} (hm : L.length ≤ m) (hg : ∀ p ∈ L, Good p.1 p.2) : (lex m (joinP L)).1.map flat = L ∧ (lex m (joinP L)).2.1 = [] ∧ (lex m (joinP L)).2.2 = 0 := by
  cases L with
  | nil =>
    have : lex m (joinP []) = ([], [], 0) := by cases m <;> simp [joinP, lex, bl]
    rw [this]; exact ⟨rfl, rfl, rfl⟩
  | cons p r =>
    rw [joinP_asm]
    have := lex_asm (([], p) :: r.map fun q => ([32], q)) [] m (by simpa using hm) (by
      intro x hx
      rcases List.mem_cons.1 hx with rfl | hx
      · exact ⟨wh_nil, hg _ (by simp)⟩
      · obtain ⟨q, hq, rfl⟩ := List.mem_map.1 hx
        exact ⟨wh_32, hg _ (by simp [hq])⟩) (by
      intro x hx
      obtain ⟨q, _, rfl⟩ := List.mem_map.1 hx
      exact ⟨32, [], rfl, .inl (by decide)⟩) (by rw [bl]) (.inl rfl)
    obtain ⟨a, b, c⟩ := this
    refine ⟨?_, b, c⟩
    rw [a, List.map_cons, List.map_map]
    have : ((fun x : T × (Nat × T) => x.2) ∘ fun q : Nat × T => (([32] : T), q)) = id := rfl
    rw [this, List.map_id]

/-! ### where they stand -/
theorem tq_ok : ∀ (l : T), (tq l).2.2 = 0 → l = body (tq l).1 ++ 34 :: (tq l).2.1
  | [], h => by simp [tq] at h
  | c :: r, h => by
    rw [tq_cons] at h ⊢
    by_cases h1 : c.toNat = 34
    · have hc : c = 34 := UInt8.toNat_inj.1 h1
      rw [if_pos h1, hc]; rfl
    · rw [if_neg h1] at h ⊢
      by_cases h2 : c.toNat = 10
      · rw [if_pos h2] at h; simp at h
      · rw [if_neg h2] at h ⊢
        by_cases h3 : c.toNat = 92
        · have hc : c = 92 := UInt8.toNat_inj.1 h3
          rw [if_pos h3] at h ⊢
          cases r with
          | nil => simp at h
          | cons d r' =>
            simp only at h ⊢
            by_cases h4 : d.toNat = 92 ∨ d.toNat = 34
            · rw [if_pos h4] at h ⊢
              by_cases h5 : (tq r').2.2 = 0
              · rw [if_pos h5]
                have ih := tq_ok r' h5
                have he : esc d = [92, d] := by unfold esc; rw [if_pos h4]
                show c :: d :: r' = (esc d ++ body (tq r').1) ++ 34 :: (tq r').2.1
                rw [he, hc, List.append_assoc, ← ih]; rfl
              · rw [if_neg h5] at h; exact absurd h h5
            · rw [if_neg h4] at h ⊢
              by_cases h6 : d.toNat = 110
              · have hd : d = 110 := UInt8.toNat_inj.1 h6
                rw [if_pos h6] at h ⊢
                by_cases h5 : (tq r').2.2 = 0
                · rw [if_pos h5]
                  have ih := tq_ok r' h5
                  have he : esc 10 = [92, 110] := by decide
                  show c :: d :: r' = (esc 10 ++ body (tq r').1) ++ 34 :: (tq r').2.1
                  rw [he, hc, hd, List.append_assoc, ← ih]; rfl
                · rw [if_neg h5] at h; exact absurd h h5
              · rw [if_neg h6] at h; simp at h
        · rw [if_neg h3] at h ⊢
          by_cases h5 : (tq r).2.2 = 0
          · rw [if_pos h5]
            have ih := tq_ok r h5
            have he : esc c = [c] := by unfold esc; rw [if_neg (by omega), if_neg h2]
            show c :: r = (esc c ++ body (tq r).1) ++ 34 :: (tq r).2.1
            rw [he, List.append_assoc, ← ih]; rfl
          · rw [if_neg h5] at h; exact absurd h h5
termination_by l => l.length
/-- A token's text stands ahead of the rest. -/
theorem one_src {l s r : T} {k : Nat} (h : one l = (k, s, r, 0)) : l = txt k s ++ r := by
  cases l with
  | nil => simp [one] at h
  | cons c t =>
    rw [one] at h
    split at h
    · simp only [Prod.mk.injEq] at h
      obtain ⟨rfl, rfl, rfl, _⟩ := h
      show c :: t = c :: (t.takeWhile wordC ++ t.dropWhile wordC)
      rw [List.takeWhile_append_dropWhile]
    · split at h
      · simp only [Prod.mk.injEq] at h
        obtain ⟨rfl, rfl, rfl, _⟩ := h
        show c :: t = c :: (t.takeWhile numC ++ t.dropWhile numC)
        rw [List.takeWhile_append_dropWhile]
      · split at h
        · rename_i h1
          have hc : c = 34 := UInt8.toNat_inj.1 h1
          split at h
          · rename_i h2
            simp only [Prod.mk.injEq] at h
            obtain ⟨rfl, rfl, rfl, _⟩ := h
            show c :: t = 34 :: ((body (tq t).1 ++ [34]) ++ (tq t).2.1)
            rw [hc, List.append_assoc]
            congr 1
            exact tq_ok t h2
          · split at h <;> simp at h
        · split at h
          · simp only [Prod.mk.injEq] at h
            obtain ⟨rfl, rfl, rfl, _⟩ := h
            show c :: t = c :: (t.take 1 ++ t.drop 1)
            rw [List.take_append_drop]
          · split at h
            · simp only [Prod.mk.injEq] at h
              obtain ⟨rfl, rfl, rfl, _⟩ := h
              rfl
            · simp at h
theorem one_err {l s r : T} {k : Nat} {e : Int} (hl : l ≠ []) (h : one l = (k, s, r, e)) (he : e ≠ 0) : (∃ p, l = p ++ r) ∧ r ≠ [] ∧ (e = 1 ∨ e = 12) := by
  cases l with
  | nil => exact absurd rfl hl
  | cons c t =>
    rw [one] at h
    split at h
    · simp only [Prod.mk.injEq] at h; exact absurd h.2.2.2.symm he
    · split at h
      · simp only [Prod.mk.injEq] at h; exact absurd h.2.2.2.symm he
      · split at h
        · split at h
          · simp only [Prod.mk.injEq] at h; exact absurd h.2.2.2.symm he
          · split at h
            · rename_i h2
              simp only [Prod.mk.injEq] at h
              obtain ⟨_, _, rfl, rfl⟩ := h
              obtain ⟨p, hp⟩ := tq_rest t
              rcases hp with ⟨hp, _⟩ | hp
              · refine ⟨⟨c :: p, by rw [List.cons_append, ← hp]⟩, ?_, .inl rfl⟩
                exact tq_form t h2
              · rw [hp] at h2; cases h2
            · simp only [Prod.mk.injEq] at h
              obtain ⟨_, _, rfl, rfl⟩ := h
              exact ⟨⟨[], rfl⟩, by simp, .inr rfl⟩
        · split at h
          · simp only [Prod.mk.injEq] at h; exact absurd h.2.2.2.symm he
          · split at h
            · simp only [Prod.mk.injEq] at h; exact absurd h.2.2.2.symm he
            · simp only [Prod.mk.injEq] at h
              obtain ⟨_, _, rfl, rfl⟩ := h
              exact ⟨⟨[], rfl⟩, by simp, .inl rfl⟩
/-- The tokens ts stand in l one behind the other, and behind them e. -/
def Ch : T → List Tok → T → Prop
  | l, [], e => ∃ p, l = p ++ e
  | l, t :: r, e => ∃ p u, l = p ++ (txt t.1 t.2.2 ++ u) ∧ t.2.1 = (txt t.1 t.2.2 ++ u).length ∧ Good t.1 t.2.2 ∧ Ch u r e
theorem lex_ch : ∀ (m : Nat) (l : T), Ch l (lex m l).1 (lex m l).2.1
  | 0, l => by
    rw [lex]
    split
    · exact ⟨l, by simp⟩
    · exact bl_suffix false l
  | m + 1, l => by
    rw [lex]
    split
    · exact ⟨l, by simp⟩
    · rename_i hne
      obtain ⟨p, hp⟩ := bl_suffix false l
      split
      · rename_i h
        have e : one (bl false l) = ((one (bl false l)).1, (one (bl false l)).2.1, (one (bl false l)).2.2.1, 0) := by rw [← h]
        have hs := one_src e
        exact ⟨p, (one (bl false l)).2.2.1, by rw [← hs]; exact hp, by rw [← hs], one_good e, lex_ch m _⟩
      · rename_i h
        obtain ⟨⟨q, hq⟩, _⟩ := one_err hne (s := (one (bl false l)).2.1) (k := (one (bl false l)).1) (r := (one (bl false l)).2.2.1) (e := (one (bl false l)).2.2.2) rfl h
        exact ⟨p ++ q, by rw [List.append_assoc, ← hq]; exact hp⟩
theorem lex_end : ∀ (m : Nat) (l : T), ((lex m l).2.2 = 0 → (lex m l).2.1 = []) ∧ ((lex m l).2.2 ≠ 0 → (lex m l).2.1 ≠ [] ∧ ((lex m l).2.2 = 1 ∨ (lex m l).2.2 = 4 ∨ (lex m l).2.2 = 12))
  | 0, l => by
    rw [lex]
    split
    · exact ⟨fun _ => rfl, fun h => absurd rfl h⟩
    · rename_i h
      exact ⟨fun h => by simp at h, fun _ => ⟨h, .inr (.inl rfl)⟩⟩
  | m + 1, l => by
    rw [lex]
    split
    · exact ⟨fun _ => rfl, fun h => absurd rfl h⟩
    · rename_i hne
      split
      · exact lex_end m _
      · rename_i h
        obtain ⟨_, h2, h3⟩ := one_err hne (s := (one (bl false l)).2.1) (k := (one (bl false l)).1) (r := (one (bl false l)).2.2.1) (e := (one (bl false l)).2.2.2) rfl h
        exact ⟨fun h0 => absurd h0 h, fun _ => ⟨h2, h3.elim .inl (fun h => .inr (.inr h))⟩⟩

/-! ### line by line -/
theorem takeWhile_line (f : UInt8 → Bool) (hf : f 10 = false) (t : T) : ∀ l : T, (l ++ 10 :: t).takeWhile f = l.takeWhile f ∧ (l ++ 10 :: t).dropWhile f = l.dropWhile f ++ 10 :: t
  | [] => by
    rw [List.nil_append, List.takeWhile_cons, List.dropWhile_cons, hf]; simp
  | c :: r => by
    obtain ⟨a, b⟩ := takeWhile_line f hf t r
    rw [List.cons_append, List.takeWhile_cons, List.dropWhile_cons, List.takeWhile_cons, List.dropWhile_cons]
    split
    · rw [a, b]; exact ⟨rfl, rfl⟩
    · exact ⟨rfl, rfl⟩
theorem one_line {l s r : T} {k : Nat} (h : one l = (k, s, r, 0)) (t : T) : one (l ++ 10 :: t) = (k, s, r ++ 10 :: t, 0) := by
  cases l with
  | nil => simp [one] at h
  | cons c u =>
    rw [one] at h
    rw [List.cons_append, one]
    split at h
    · rename_i h1
      simp only [Prod.mk.injEq] at h
      obtain ⟨rfl, rfl, rfl, _⟩ := h
      obtain ⟨a, b⟩ := takeWhile_line wordC (by decide) t u
      rw [if_pos h1, a, b]
    · rename_i h1
      rw [if_neg h1]
      split at h
      · rename_i h2
        simp only [Prod.mk.injEq] at h
        obtain ⟨rfl, rfl, rfl, _⟩ := h
        obtain ⟨a, b⟩ := takeWhile_line numC (by decide) t u
        have h2' : (isD c || (decide (c.toNat = 45) && hdD (u ++ 10 :: t))) = true := by
          by_cases hu : u = []
          · subst hu
            simp only [hdD, Bool.and_false, Bool.or_false] at h2
            rw [h2]; rfl
          · rw [hdD_app hu]; exact h2
        rw [if_pos h2', a, b]
      · rename_i h2
        have h2' : ¬ (isD c || (decide (c.toNat = 45) && hdD (u ++ 10 :: t))) = true := by
          by_cases hu : u = []
          · subst hu
            simp only [Bool.or_eq_true, Bool.and_eq_true, not_or] at h2 ⊢
            exact ⟨h2.1, fun hh => by have := hh.2; simp [hdD, isD, Lp.digB] at this⟩
          · rw [hdD_app hu]; exact h2
        rw [if_neg h2']
        split at h
        · rename_i h3
          rw [if_pos h3]
          split at h
          · rename_i h4
            simp only [Prod.mk.injEq] at h
            obtain ⟨rfl, rfl, rfl, _⟩ := h
            have e := tq_ok u h4
            have e2 : u ++ 10 :: t = body (tq u).1 ++ 34 :: ((tq u).2.1 ++ 10 :: t) := by
              conv => lhs; rw [e]
              rw [List.append_assoc]; rfl
            rw [e2, tq_body, if_pos rfl]
          · split at h <;> simp at h
        · rename_i h3
          rw [if_neg h3]
          split at h
          · rename_i h4
            simp only [Prod.mk.injEq] at h
            obtain ⟨rfl, rfl, rfl, _⟩ := h
            cases u with
            | nil => simp [two, hd] at h4
            | cons d u =>
              rw [if_pos (by exact h4)]
              rfl
          · rename_i h4
            have h4' : ¬ two c.toNat (hd (u ++ 10 :: t)) = true := by
              cases u with
              | nil => simp [two, hd]
              | cons d u => exact h4
            rw [if_neg h4']
            split at h
            · rename_i h5
              simp only [Prod.mk.injEq] at h
              obtain ⟨rfl, rfl, rfl, _⟩ := h
              rw [if_pos h5]
            · simp at h
def moved (n : Nat) (t : Tok) : Tok := (t.1, t.2.1 + n, t.2.2)
theorem lex_line (t : T) : ∀ (m : Nat) (a : T), (lex m a).2.2 = 0 → (lex m a).1.length ≤ m → lex m (a ++ 10 :: t) = ((lex m a).1.map (moved (t.length + 1)) ++ (lex (m - (lex m a).1.length) t).1, (lex (m - (lex m a).1.length) t).2.1, (lex (m - (lex m a).1.length) t).2.2)
  | 0, a, h, _ => by
    rw [lex] at h ⊢
    have hb := bl_line false a t
    by_cases ha : bl false a = []
    · rw [if_pos ha] at hb
      have e : lex 0 a = ([], [], 0) := by rw [lex, if_pos ha]
      rw [e, hb]
      show _ = ([] ++ (lex 0 t).1, (lex 0 t).2.1, (lex 0 t).2.2)
      rw [lex]; rfl
    · rw [if_neg ha] at h; simp at h
  | m + 1, a, h, hl => by
    have hb := bl_line false a t
    by_cases ha : bl false a = []
    · rw [if_pos ha] at hb
      have e : lex (m + 1) a = ([], [], 0) := by rw [lex, if_pos ha]
      rw [e]
      show lex (m + 1) (a ++ 10 :: t) = ([] ++ (lex (m + 1) t).1, (lex (m + 1) t).2.1, (lex (m + 1) t).2.2)
      rw [lex, lex, hb]; rfl
    · rw [if_neg ha] at hb
      by_cases ho : (one (bl false a)).2.2.2 = 0
      · have e1 : one (bl false a) = ((one (bl false a)).1, (one (bl false a)).2.1, (one (bl false a)).2.2.1, 0) := by rw [← ho]
        have e2 := one_line e1 t
        have e : lex (m + 1) a = (((one (bl false a)).1, (bl false a).length, (one (bl false a)).2.1) :: (lex m (one (bl false a)).2.2.1).1, (lex m (one (bl false a)).2.2.1).2.1, (lex m (one (bl false a)).2.2.1).2.2) := by rw [lex, if_neg ha, if_pos ho]
        rw [e] at h hl
        rw [e]
        have ih := lex_line t m (one (bl false a)).2.2.1 h (by simpa using hl)
        rw [lex, hb, if_neg (by simp), e2, if_pos rfl]
        simp only
        rw [ih, List.length_cons, Nat.add_sub_add_right]
        simp only [List.map_cons, List.cons_append, moved, List.length_append, List.length_cons]
      · rw [lex, if_neg ha, if_neg ho] at h
        exact absurd h ho
theorem one_shorter {l s r : T} {k : Nat} (h : one l = (k, s, r, 0)) : r.length < l.length := by
  have h1 := one_src h
  have h2 := good_pos (one_good h)
  rw [h1, List.length_append]
  omega
/-- There is room for as many tokens as octets. -/
theorem lex_room : ∀ (m n : Nat) (l : T), l.length ≤ m → l.length ≤ n → lex m l = lex n l
  | 0, n, l, hm, _ => by
    have hl : l = [] := List.length_eq_zero_iff.1 (by omega)
    subst hl
    cases n <;> simp [lex, bl]
  | m + 1, 0, l, _, hn => by
    have hl : l = [] := List.length_eq_zero_iff.1 (by omega)
    subst hl
    simp [lex, bl]
  | m + 1, n + 1, l, hm, hn => by
    rw [lex, lex]
    by_cases ha : bl false l = []
    · rw [if_pos ha, if_pos ha]
    · rw [if_neg ha, if_neg ha]
      by_cases ho : (one (bl false l)).2.2.2 = 0
      · have e1 : one (bl false l) = ((one (bl false l)).1, (one (bl false l)).2.1, (one (bl false l)).2.2.1, 0) := by rw [← ho]
        have h1 := one_shorter e1
        have h2 := bl_len false l
        rw [if_pos ho, if_pos ho, lex_room m n _ (by omega) (by omega)]
      · rw [if_neg ho, if_neg ho]

/-! ### quoted, and cut short -/
theorem tq_cut : ∀ (s : T) (j : Nat), j ≤ (body s).length → (tq ((body s).take j)).2.2 = 12
  | [], j, h => by
    simp [body] at h
    subst h
    simp [body, tq]
  | c :: s, j, h => by
    have e : body (c :: s) = esc c ++ body s := rfl
    rw [e, List.length_append] at h
    rw [e]
    cases j with
    | zero => simp [tq]
    | succ j =>
      unfold esc at h ⊢
      by_cases h1 : c.toNat = 92 ∨ c.toNat = 34
      · rw [if_pos h1] at h ⊢
        cases j with
        | zero =>
          show (tq [92]).2.2 = 12
          rw [tq_cons, if_neg (by decide), if_neg (by decide), if_pos (by decide)]
        | succ j =>
          show (tq (92 :: c :: (body s).take j)).2.2 = 12
          have ih := tq_cut s j (by simp at h; omega)
          rw [tq_cons, if_neg (by decide), if_neg (by decide), if_pos (by decide)]
          simp only
          rw [if_pos h1, if_neg (by rw [ih]; decide)]
          exact ih
      · rw [if_neg h1] at h ⊢
        by_cases h2 : c.toNat = 10
        · rw [if_pos h2] at h ⊢
          cases j with
          | zero =>
            show (tq [92]).2.2 = 12
            rw [tq_cons, if_neg (by decide), if_neg (by decide), if_pos (by decide)]
          | succ j =>
            show (tq (92 :: 110 :: (body s).take j)).2.2 = 12
            have ih := tq_cut s j (by simp at h; omega)
            rw [tq_cons, if_neg (by decide), if_neg (by decide), if_pos (by decide)]
            simp only
            rw [if_neg (by decide), if_pos (by decide), if_neg (by rw [ih]; decide)]
            exact ih
        · rw [if_neg h2] at h ⊢
          show (tq (c :: (body s).take j)).2.2 = 12
          have ih := tq_cut s j (by simp at h; omega)
          rw [tq_cons, if_neg (by omega), if_neg h2, if_neg (by omega), if_neg (by rw [ih]; decide)]
          exact ih
theorem lex_quote (s : T) (m : Nat) : lex (m + 1) (32 :: 9 :: (quote s ++ [35, 32, 34])) = ([(3, (quote s).length + 3, s)], [], 0) := by
  have hg : Good 3 s := .inr (.inr (.inl rfl))
  have hb : bl false (32 :: 9 :: (quote s ++ [35, 32, 34])) = txt 3 s ++ [35, 32, 34] := by
    rw [bl, if_neg (by decide), if_pos (by decide), bl, if_neg (by decide), if_pos (by decide)]
    exact good_bl hg _
  have hr : bl false [35, 32, 34] = [] := by decide
  have hl : lex m [35, 32, 34] = ([], [], 0) := by cases m <;> rw [lex, if_pos hr]
  rw [lex, hb, if_neg (good_ne hg _), one_txt hg (.inr ⟨35, [32, 34], rfl, .inr (by decide)⟩), if_pos rfl, hl]
  simp only [txt, if_pos, List.length_append, List.length_cons, List.length_nil]
theorem lex_cut (s : T) (m j : Nat) (h : j + 1 < (quote s).length) : lex (m + 1) ((quote s).take (j + 1)) = ([], (quote s).take (j + 1), 12) := by
  have hj : j ≤ (body s).length := by
    unfold quote at h
    simp at h
    omega
  have e : (quote s).take (j + 1) = 34 :: (body s).take j := by
    unfold quote
    rw [List.take_succ_cons, List.take_append_of_le_length hj]
  obtain ⟨q1, q2, q3⟩ := quote_not
  have hb : bl false (34 :: (body s).take j) = 34 :: (body s).take j := bl_self (by decide) (by decide)
  have ho : one (34 :: (body s).take j) = (0, [], 34 :: (body s).take j, 12) := by
    have hc := tq_cut s j hj
    rw [one, if_neg (by rw [q1]; decide), if_neg (by rw [q2]; simp), if_pos (by decide), if_neg (by rw [hc]; decide), if_neg (by rw [hc]; decide)]
  rw [e, lex, hb, if_neg (by simp), ho, if_neg (show ¬ ((12 : Int) = 0) by decide)]
end Go.Proofs.YtkoeggjfdcpokaaGreatDoor.Lx
namespace Go.Proofs.YtkoeggjfdcpokaaGreatDoor.Lx
open Go.Proofs.YtkoeggjfdcpokaaGreatDoor

/-- What stands behind ends the token. -/
def Stop (k : Nat) (s l : T) : Prop :=
  (k = 1 → ∀ c r, l = c :: r → wordC c = false) ∧ (k = 2 → ∀ c r, l = c :: r → numC c = false) ∧ (k = 4 → ∀ c, s = [c] → two c.toNat (hd l) = false)
theorem stop_take {l : T} {f : UInt8 → Bool} (h : ∀ c r, l = c :: r → f c = false) (w : T) (hw : w.all f = true) : (w ++ l).takeWhile f = w ∧ (w ++ l).dropWhile f = l := by
  induction w with
  | nil =>
    cases l with
    | nil => simp
    | cons c r => rw [List.nil_append, List.takeWhile_cons, List.dropWhile_cons, h c r rfl]; simp
  | cons a w ih =>
    simp only [List.all_cons, Bool.and_eq_true] at hw
    rw [List.cons_append, List.takeWhile_cons, List.dropWhile_cons, hw.1]
    obtain ⟨h1, h2⟩ := ih hw.2
    simp [h1, h2]
theorem stop_minus {w l : T} (h : ∀ c r, l = c :: r → numC c = false) (h1 : hdD w = true ∨ hdD (w ++ l) = false) : hdD (w ++ l) = hdD w := by
  cases w with
  | nil =>
    cases l with
    | nil => rfl
    | cons c r =>
      have := h c r rfl
      simp only [numC, Bool.or_eq_false_iff] at this
      exact this.1.2
  | cons c w => rfl
theorem one_stop {k : Nat} {s : T} (h : Good k s) {l : T} (hl : Stop k s l) : one (txt k s ++ l) = (k, s, l, 0) := by
  rcases h with ⟨rfl, c, w, rfl, h1, h2⟩ | ⟨rfl, c, w, rfl, h0, h1, h2⟩ | rfl | ⟨rfl, h⟩
  · obtain ⟨a, b⟩ := stop_take (hl.1 rfl) w h2
    show one (c :: (w ++ l)) = _
    rw [one, if_pos h1, a, b]
  · obtain ⟨a, b⟩ := stop_take (hl.2.1 rfl) w h2
    show one (c :: (w ++ l)) = _
    rw [one]
    have h3 : (isD c || (decide (c.toNat = 45) && hdD (w ++ l))) = true := by
      by_cases hw : w = []
      · subst hw
        simp only [hdD, Bool.and_false, Bool.or_false] at h1
        rw [h1]; rfl
      · rw [hdD_app hw]; exact h1
    rw [if_neg (by rw [h0]; decide), if_pos h3, a, b]
  · show one (34 :: ((body s ++ [34]) ++ l)) = _
    obtain ⟨q1, q2, q3⟩ := quote_not
    have e : (body s ++ [34]) ++ l = body s ++ 34 :: l := by rw [List.append_assoc]; rfl
    rw [e, one]
    rw [if_neg (by rw [q1]; decide), if_neg (by rw [q2]; simp), if_pos (by decide), tq_body, if_pos rfl]
  · rcases h with ⟨c, d, rfl, h⟩ | ⟨c, rfl, h⟩
    · obtain ⟨n1, n2, n3, n4⟩ := two_not (.inl h)
      show one (c :: d :: l) = _
      rw [one]
      rw [if_neg (by rw [n1]; decide), if_neg (by simp [n2, n3]), if_neg n4, if_pos (by exact h)]
      rfl
    · obtain ⟨n1, n2, n3, n4⟩ := two_not (n := 0) (.inr h)
      have ht : two c.toNat (hd l) = false := hl.2.2 rfl c rfl
      show one (c :: l) = _
      rw [one]
      rw [if_neg (by rw [n1]; decide), if_neg (by simp [n2, n3]), if_neg n4, if_neg (by rw [ht]; decide), if_pos h]
/-- White, a token, what follows, and so on: each token is ended by what follows. -/
def Chain : List (T × (Nat × T)) → T → Prop
  | [], f => bl false f = []
  | x :: r, f => Wh x.1 ∧ Good x.2.1 x.2.2 ∧ Stop x.2.1 x.2.2 (asm r f) ∧ Chain r f
theorem lex_chain : ∀ (L : List (T × (Nat × T))) (f : T) (m : Nat), L.length ≤ m → Chain L f →
    (lex m (asm L f)).1.map flat = L.map (·.2) ∧ (lex m (asm L f)).2.1 = [] ∧ (lex m (asm L f)).2.2 = 0
  | [], f, m, _, hf => by
    show (lex m f).1.map flat = [] ∧ (lex m f).2.1 = [] ∧ (lex m f).2.2 = 0
    have hf : bl false f = [] := hf
    cases m with
    | zero => rw [lex, if_pos hf]; exact ⟨rfl, rfl, rfl⟩
    | succ m => rw [lex, if_pos hf]; exact ⟨rfl, rfl, rfl⟩
  | x :: r, f, m, hm, hc => by
    obtain ⟨h1, h2, h3, h4⟩ := hc
    have hb : bl false (asm (x :: r) f) = txt x.2.1 x.2.2 ++ asm r f := by
      show bl false (x.1 ++ (txt x.2.1 x.2.2 ++ asm r f)) = _
      rw [h1, good_bl h2]
    cases m with
    | zero => simp at hm
    | succ m =>
      have ih := lex_chain r f m (by simpa using hm) h4
      rw [lex, hb, if_neg (good_ne h2 _), one_stop h2 h3, if_pos rfl]
      obtain ⟨a, b, c⟩ := ih
      refine ⟨?_, b, c⟩
      show flat (x.2.1, _, x.2.2) :: (lex m (asm r f)).1.map flat = x.2 :: r.map (·.2)
      rw [a]; rfl
theorem stop_text (s l : T) : Stop 3 s l := ⟨fun h => by simp at h, fun h => by simp at h, fun h => by simp at h⟩
theorem stop_word {s : T} {l : T} (h : ∀ c r, l = c :: r → wordC c = false) : Stop 1 s l := ⟨fun _ => h, fun h => by simp at h, fun h => by simp at h⟩
theorem stop_two (c d : UInt8) (l : T) : Stop 4 [c, d] l := ⟨fun h => by simp at h, fun h => by simp at h, fun _ x hx => by simp at hx⟩
theorem stop_sign {c : UInt8} {l : T} (h : two c.toNat (hd l) = false) : Stop 4 [c] l := ⟨fun h => by simp at h, fun h => by simp at h, fun _ x hx => by cases hx; exact h⟩
end Go.Proofs.YtkoeggjfdcpokaaGreatDoor.Lx
namespace Go.Proofs.YtkoeggjfdcpokaaGreatDoor.Sl
open Go.Proofs.YtkoeggjfdcpokaaGreatDoor

abbrev T := List UInt8
/-- A match: name, value, not. -/
abbrev Mt := ByteArray × ByteArray × Bool
abbrev Sel := ByteArray × List Mt
/-- A token's kind and text. -/
abbrev Tf := Int × ByteArray
def none_ : Sel := (⟨#[]⟩, [])
def mOk (m : Mt) : Bool := Lp.nameB m.1 && decide (m.2.1.size ≤ 64)
def saneS (s : Sel) : Bool := Lp.nameB s.1 && decide (s.2.length ≤ 8) && s.2.all mOk
def mTxt (m : Mt) : T := m.1.data.toList ++ ((if m.2.2 then [33] else []) ++ (61 :: Lx.quote m.2.1.data.toList))
def prM : Bool → List Mt → T
  | _, [] => [125]
  | b, m :: r => (if b then 123 else 44) :: (mTxt m ++ prM false r)
def prS (s : Sel) : T := if saneS s then s.1.data.toList ++ (if s.2 = [] then [] else prM true s.2) else []

def sg (l : T) : ByteArray := ⟨l.toArray⟩
def want (l : List Tf) (i : Nat) (k : Int) (s : ByteArray) : Int := match l[i]? with | none => 3 | some t => if t.1 = k ∧ (s.size = 0 ∨ t.2 = s) then 0 else 1
def txtAt (l : List Tf) (i : Nat) : ByteArray := match l[i]? with | none => ⟨#[]⟩ | some t => t.2
def nameAt (l : List Tf) (i : Nat) : Int := if want l i 1 ⟨#[]⟩ = 0 then (if Lp.nameB (txtAt l i) then 0 else 7) else want l i 1 ⟨#[]⟩
abbrev Rm := Mt × Nat × Int
def noM : Mt := (⟨#[]⟩, ⟨#[]⟩, false)
def matchAt (l : List Tf) (i n : Nat) : Rm :=
  if nameAt l i ≠ 0 then (noM, min i l.length, nameAt l i)
  else if want l (i + 1) 4 (sg [33, 61]) ≠ 0 ∧ want l (i + 1) 4 (sg [61]) ≠ 0 then (noM, min (i + 1) l.length, want l (i + 1) 4 (sg [61]))
  else if want l (i + 2) 3 ⟨#[]⟩ ≠ 0 then (noM, min (i + 2) l.length, want l (i + 2) 3 ⟨#[]⟩)
  else if 64 < (txtAt l (i + 2)).size ∨ 8 ≤ n then (noM, min (i + 2) l.length, 4)
  else ((txtAt l i, txtAt l (i + 2), decide (want l (i + 1) 4 (sg [33, 61]) = 0)), i + 3, 0)
def loop : Nat → List Tf → Nat → List Mt → List Mt × Nat × Int
  | 0, l, i, _ => ([], min i l.length, 4)
  | f + 1, l, i, ms =>
    if (matchAt l i ms.length).2.2 ≠ 0 then ([], (matchAt l i ms.length).2.1, (matchAt l i ms.length).2.2)
    else if want l (i + 3) 4 (sg [125]) = 0 then (ms ++ [(matchAt l i ms.length).1], i + 4, 0)
    else if want l (i + 3) 4 (sg [44]) ≠ 0 then ([], min (i + 3) l.length, want l (i + 3) 4 (sg [44]))
    else loop f l (i + 4) (ms ++ [(matchAt l i ms.length).1])
def parseN (l : List Tf) (i : Nat) : Sel × Nat × Int :=
  if nameAt l i ≠ 0 then (none_, min i l.length, nameAt l i)
  else if want l (i + 1) 4 (sg [123]) ≠ 0 then ((txtAt l i, []), i + 1, 0)
  else if want l (i + 2) 4 (sg [125]) = 0 then ((txtAt l i, []), i + 3, 0)
  else if (loop 9 l (i + 2) []).2.2 = 0 then ((txtAt l i, (loop 9 l (i + 2) []).1), (loop 9 l (i + 2) []).2.1, 0)
  else (none_, (loop 9 l (i + 2) []).2.1, (loop 9 l (i + 2) []).2.2)
def parse (l : List Tf) (i : Int) : Sel × Nat × Int := if i < 0 then (none_, 0, 3) else parseN l i.toNat

def nameL : ByteArray := ⟨#[95, 95, 110, 97, 109, 101, 95, 95]⟩
def mFits (l : List Lp.Pr) (m : Mt) : Bool := decide ((Lp.getS l m.1).getD ⟨#[]⟩ = m.2.1) != m.2.2
def fits (s : Sel) (l : List Lp.Pr) : Bool := saneS s && Lp.saneB l && decide (Lp.getS l nameL = some s.1) && s.2.all (mFits l)

/-! ### what is read -/
theorem want_lt {l : List Tf} {i : Nat} {k : Int} {s : ByteArray} (h : want l i k s ≠ 3) : i < l.length := by
  unfold want at h
  cases hi : l[i]? with
  | none => rw [hi] at h; exact absurd rfl h
  | some t => exact (List.getElem?_eq_some_iff.1 hi).1
theorem want_zero {l : List Tf} {i : Nat} {k : Int} {s : ByteArray} : want l i k s = 0 ↔ ∃ t, l[i]? = some t ∧ t.1 = k ∧ (s.size = 0 ∨ t.2 = s) := by
  unfold want
  cases hi : l[i]? with
  | none => simp
  | some t =>
    simp only [Option.some.injEq]
    constructor
    · intro h
      split at h
      · rename_i h1
        exact ⟨t, rfl, h1⟩
      · simp at h
    · rintro ⟨t, rfl, h⟩
      rw [if_pos h]
theorem want_vals (l : List Tf) (i : Nat) (k : Int) (s : ByteArray) : want l i k s = 0 ∨ want l i k s = 1 ∨ want l i k s = 3 := by
  unfold want
  split
  · simp
  · split <;> simp
theorem want_three {l : List Tf} {i : Nat} {k : Int} {s : ByteArray} : want l i k s = 3 ↔ l.length ≤ i := by
  unfold want
  cases hi : l[i]? with
  | none => simp [List.getElem?_eq_none_iff.1 hi]
  | some t =>
    have := (List.getElem?_eq_some_iff.1 hi).1
    simp only
    constructor
    · intro h
      split at h <;> simp at h
    · intro h; omega
theorem nameAt_vals (l : List Tf) (i : Nat) : nameAt l i = 0 ∨ nameAt l i = 1 ∨ nameAt l i = 3 ∨ nameAt l i = 7 := by
  unfold nameAt
  split
  · split <;> simp
  · have := want_vals l i 1 ⟨#[]⟩
    omega
theorem nameAt_three {l : List Tf} {i : Nat} : nameAt l i = 3 ↔ l.length ≤ i := by
  rw [← want_three (k := 1) (s := ⟨#[]⟩)]
  unfold nameAt
  split
  · rename_i h
    rw [h]
    split <;> simp
  · exact Iff.rfl
theorem nameAt_zero {l : List Tf} {i : Nat} : nameAt l i = 0 ↔ ∃ t, l[i]? = some t ∧ t.1 = 1 ∧ Lp.nameB t.2 = true := by
  unfold nameAt
  split
  · rename_i h
    obtain ⟨t, h1, h2, _⟩ := want_zero.1 h
    have e : txtAt l i = t.2 := by unfold txtAt; rw [h1]
    rw [e]
    constructor
    · intro hh
      split at hh
      · rename_i h3; exact ⟨t, h1, h2, h3⟩
      · simp at hh
    · rintro ⟨t', h1', _, h3⟩
      rw [h1] at h1'
      cases h1'
      rw [if_pos h3]
  · rename_i h
    constructor
    · intro hh; exact absurd hh h
    · rintro ⟨t, h1, h2, _⟩
      exact absurd (want_zero.2 ⟨t, h1, h2, .inl rfl⟩) h
theorem txtAt_of {l : List Tf} {i : Nat} {t : Tf} (h : l[i]? = some t) : txtAt l i = t.2 := by unfold txtAt; rw [h]
/-- What a place and an error are. -/
def PE (l : List Tf) (i n : Nat) (e : Int) : Prop := n ≤ l.length ∧ min i l.length ≤ n ∧ (e = 3 ↔ n = l.length)
theorem pe_at {l : List Tf} {i j : Nat} {e : Int} (hij : i ≤ j) (h : e = 3 ↔ l.length ≤ j) : PE l i (min j l.length) e := by
  refine ⟨Nat.min_le_right _ _, by omega, ?_⟩
  rw [h]
  omega
theorem matchAt_no {l : List Tf} {i n : Nat} (h : (matchAt l i n).2.2 ≠ 0) : (matchAt l i n).1 = noM ∧ PE l i (matchAt l i n).2.1 (matchAt l i n).2.2 := by
  unfold matchAt at h ⊢
  split
  · exact ⟨rfl, pe_at (Nat.le_refl _) nameAt_three⟩
  · rename_i h1
    rw [if_neg h1] at h
    split
    · exact ⟨rfl, pe_at (by omega) want_three⟩
    · rename_i h2
      rw [if_neg h2] at h
      split
      · exact ⟨rfl, pe_at (by omega) want_three⟩
      · rename_i h3
        rw [if_neg h3] at h
        split
        · refine ⟨rfl, pe_at (by omega) ?_⟩
          have : want l (i + 2) 3 ⟨#[]⟩ = 0 := by simpa using h3
          have := want_lt (l := l) (i := i + 2) (k := 3) (s := ⟨#[]⟩) (by rw [this]; decide)
          constructor
          · intro h; simp at h
          · intro h; omega
        · rename_i h4
          rw [if_neg h4] at h
          exact absurd rfl h
theorem matchAt_ok {l : List Tf} {i n : Nat} (h : (matchAt l i n).2.2 = 0) : mOk (matchAt l i n).1 = true ∧ (matchAt l i n).2.1 = i + 3 ∧ i + 3 ≤ l.length ∧ n < 8 := by
  unfold matchAt at h ⊢
  split
  · rename_i h1; rw [if_pos h1] at h; exact absurd h h1
  · rename_i h1
    rw [if_neg h1] at h
    split
    · rename_i h2; rw [if_pos h2] at h; exact absurd h h2.2
    · rename_i h2
      rw [if_neg h2] at h
      split
      · rename_i h3; rw [if_pos h3] at h; exact absurd h h3
      · rename_i h3
        rw [if_neg h3] at h
        split
        · rename_i h4; rw [if_pos h4] at h; simp at h
        · rename_i h4
          have hn : nameAt l i = 0 := by simpa using h1
          obtain ⟨t, a1, _, a3⟩ := nameAt_zero.1 hn
          have h3' : want l (i + 2) 3 ⟨#[]⟩ = 0 := by simpa using h3
          have := want_lt (l := l) (i := i + 2) (k := 3) (s := ⟨#[]⟩) (by rw [h3']; decide)
          refine ⟨?_, rfl, by omega, by omega⟩
          unfold mOk
          rw [txtAt_of a1, a3]
          simp
          omega
theorem loop_ok : ∀ (f : Nat) (l : List Tf) (i : Nat) (ms : List Mt), (loop f l i ms).2.2 = 0 → ms.all mOk = true → ms.length ≤ 8 → (loop f l i ms).1.all mOk = true ∧ (loop f l i ms).1.length ≤ 8 ∧ i < (loop f l i ms).2.1 ∧ (loop f l i ms).2.1 ≤ l.length
  | 0, l, i, ms, h, _, _ => by simp [loop] at h
  | f + 1, l, i, ms, h, hm, hn => by
    unfold loop at h ⊢
    split
    · rename_i h1; rw [if_pos h1] at h; exact absurd h h1
    · rename_i h1
      rw [if_neg h1] at h
      have h1' : (matchAt l i ms.length).2.2 = 0 := by simpa using h1
      obtain ⟨a1, a2, a3, a4⟩ := matchAt_ok h1'
      have hall : (ms ++ [(matchAt l i ms.length).1]).all mOk = true := by rw [List.all_append, hm]; simp [a1]
      have hlen : (ms ++ [(matchAt l i ms.length).1]).length ≤ 8 := by rw [List.length_append]; simp; omega
      split
      · rename_i h2
        have := want_lt (l := l) (i := i + 3) (k := 4) (s := sg [125]) (by rw [h2]; decide)
        exact ⟨hall, hlen, by show i < i + 4; omega, by show i + 4 ≤ _; omega⟩
      · rename_i h2
        rw [if_neg h2] at h
        split
        · rename_i h3; rw [if_pos h3] at h; exact absurd h h3
        · rename_i h3
          rw [if_neg h3] at h
          obtain ⟨b1, b2, b3, b4⟩ := loop_ok f l (i + 4) _ h hall hlen
          exact ⟨b1, b2, by omega, b4⟩
theorem loop_no : ∀ (f : Nat) (l : List Tf) (i : Nat) (ms : List Mt), 9 ≤ f + ms.length → (loop f l i ms).2.2 ≠ 0 → ms.length ≤ 8 → PE l i (loop f l i ms).2.1 (loop f l i ms).2.2
  | 0, l, i, ms, hf, _, hn => by omega
  | f + 1, l, i, ms, hf, h, hn => by
    unfold loop at h ⊢
    split
    · rename_i h1; exact (matchAt_no h1).2
    · rename_i h1
      rw [if_neg h1] at h
      have h1' : (matchAt l i ms.length).2.2 = 0 := by simpa using h1
      obtain ⟨a1, a2, a3, a4⟩ := matchAt_ok h1'
      split
      · rename_i h2; rw [if_pos h2] at h; exact absurd rfl h
      · rename_i h2
        rw [if_neg h2] at h
        split
        · exact pe_at (by omega) want_three
        · rename_i h3
          rw [if_neg h3] at h
          have := loop_no f l (i + 4) _ (by rw [List.length_append]; simp; omega) h (by rw [List.length_append]; simp; omega)
          exact ⟨this.1, by have := this.2.1; omega, this.2.2⟩
theorem parseN_ok {l : List Tf} {i n : Nat} {s : Sel} (h : parseN l i = (s, n, 0)) : saneS s = true ∧ i < n ∧ n ≤ l.length := by
  unfold parseN at h
  split at h
  · rename_i h1
    simp only [Prod.mk.injEq] at h
    exact absurd h.2.2 h1
  · rename_i h1
    have hn : nameAt l i = 0 := by simpa using h1
    obtain ⟨t, a1, _, a3⟩ := nameAt_zero.1 hn
    have hi := (List.getElem?_eq_some_iff.1 a1).1
    have hnm : Lp.nameB (txtAt l i) = true := by rw [txtAt_of a1]; exact a3
    split at h
    · simp only [Prod.mk.injEq, and_true] at h
      obtain ⟨rfl, rfl⟩ := h
      exact ⟨by unfold saneS; rw [hnm]; rfl, by omega, by omega⟩
    · split at h
      · rename_i h3
        simp only [Prod.mk.injEq, and_true] at h
        obtain ⟨rfl, rfl⟩ := h
        have := want_lt (l := l) (i := i + 2) (k := 4) (s := sg [125]) (by rw [h3]; decide)
        exact ⟨by unfold saneS; rw [hnm]; rfl, by omega, by omega⟩
      · split at h
        · rename_i h4
          simp only [Prod.mk.injEq, and_true] at h
          obtain ⟨rfl, rfl⟩ := h
          obtain ⟨b1, b2, b3, b4⟩ := loop_ok 9 l (i + 2) [] h4 rfl (by simp)
          refine ⟨?_, by omega, b4⟩
          unfold saneS
          simp only [hnm, b1, Bool.and_true, Bool.true_and, decide_eq_true_eq]
          exact b2
        · rename_i h4
          simp only [Prod.mk.injEq] at h
          exact absurd h.2.2 h4
theorem parseN_no {l : List Tf} {i n : Nat} {s : Sel} {e : Int} (h : parseN l i = (s, n, e)) (he : e ≠ 0) : s = none_ ∧ PE l i n e := by
  unfold parseN at h
  split at h
  · simp only [Prod.mk.injEq] at h
    obtain ⟨rfl, rfl, rfl⟩ := h
    exact ⟨rfl, pe_at (Nat.le_refl _) nameAt_three⟩
  · split at h
    · simp only [Prod.mk.injEq] at h
      exact absurd h.2.2.symm he
    · split at h
      · simp only [Prod.mk.injEq] at h
        exact absurd h.2.2.symm he
      · split at h
        · simp only [Prod.mk.injEq] at h
          exact absurd h.2.2.symm he
        · rename_i h4
          simp only [Prod.mk.injEq] at h
          obtain ⟨rfl, rfl, rfl⟩ := h
          have := loop_no 9 l (i + 2) [] (by simp) h4 (by simp)
          exact ⟨rfl, this.1, by have := this.2.1; omega, this.2.2⟩
end Go.Proofs.YtkoeggjfdcpokaaGreatDoor.Sl
namespace Go.Proofs.YtkoeggjfdcpokaaGreatDoor.Sl
open Go.Proofs.YtkoeggjfdcpokaaGreatDoor

/-! ### the tokens of what is printed -/
def tM : Bool → List Mt → List (Nat × T)
  | _, [] => [(4, [125])]
  | b, m :: r => (4, [if b then 123 else 44]) :: (1, m.1.data.toList) :: (4, if m.2.2 then [33, 61] else [61]) :: (3, m.2.1.data.toList) :: tM false r
def tS (s : Sel) : List (Nat × T) := (1, s.1.data.toList) :: (if s.2 = [] then [] else tM true s.2)
def tf (p : Nat × T) : Tf := ((p.1 : Int), sg p.2)
theorem sg_self (s : ByteArray) : sg s.data.toList = s := by cases s; simp [sg]
theorem sg_size (l : T) : (sg l).size = l.length := by simp [sg, ByteArray.size]
theorem sg_inj {a b : T} (h : sg a = sg b) : a = b := by
  unfold sg at h
  have := congrArg (fun x : ByteArray => x.data.toList) h
  simpa using this
theorem want_drop (l : List Tf) (i j : Nat) (k : Int) (s : ByteArray) : want l (i + j) k s = want (l.drop i) j k s := by unfold want; rw [List.getElem?_drop]
theorem txt_drop (l : List Tf) (i j : Nat) : txtAt l (i + j) = txtAt (l.drop i) j := by unfold txtAt; rw [List.getElem?_drop]
theorem name_drop (l : List Tf) (i j : Nat) : nameAt l (i + j) = nameAt (l.drop i) j := by unfold nameAt; rw [want_drop, txt_drop]
theorem want_cons (t : Tf) (l : List Tf) (i : Nat) (k : Int) (s : ByteArray) : want (t :: l) (i + 1) k s = want l i k s := by unfold want; simp
theorem txt_cons (t : Tf) (l : List Tf) (i : Nat) : txtAt (t :: l) (i + 1) = txtAt l i := by unfold txtAt; simp
theorem want_here (t : Tf) (l : List Tf) (k : Int) (s : ByteArray) : want (t :: l) 0 k s = if t.1 = k ∧ (s.size = 0 ∨ t.2 = s) then 0 else 1 := by unfold want; simp
theorem txt_here (t : Tf) (l : List Tf) : txtAt (t :: l) 0 = t.2 := by unfold txtAt; simp
theorem want_in {l : List Tf} {i : Nat} {k : Int} {s : ByteArray} {t : Tf} {r : List Tf} (h : l.drop i = t :: r) : want l i k s = if t.1 = k ∧ (s.size = 0 ∨ t.2 = s) then 0 else 1 := by
  have := want_drop l i 0 k s
  rw [Nat.add_zero] at this
  rw [this, h, want_here]
theorem txt_in {l : List Tf} {i : Nat} {t : Tf} {r : List Tf} (h : l.drop i = t :: r) : txtAt l i = t.2 := by
  have := txt_drop l i 0
  rw [Nat.add_zero] at this
  rw [this, h, txt_here]
theorem name_in {l : List Tf} {i : Nat} {t : Tf} {r : List Tf} (h : l.drop i = t :: r) (h1 : t.1 = 1) (h2 : Lp.nameB t.2 = true) : nameAt l i = 0 := by
  have hw : want l i 1 ⟨#[]⟩ = 0 := by rw [want_in h, if_pos ⟨h1, .inl rfl⟩]
  unfold nameAt
  rw [if_pos hw, txt_in h, if_pos h2]
theorem drop_next {l : List Tf} {i : Nat} {t : Tf} {r : List Tf} (h : l.drop i = t :: r) : l.drop (i + 1) = r := by
  rw [← List.drop_drop, h]; rfl
theorem sg_ne {a b : T} (h : a ≠ b) : sg a ≠ sg b := fun e => h (sg_inj e)
theorem want_sign {l : List Tf} {i : Nat} {a : T} {r : List Tf} (h : l.drop i = tf (4, a) :: r) (b : T) (hb : b ≠ []) : want l i 4 (sg b) = if a = b then 0 else 1 := by
  rw [want_in h]
  by_cases e : a = b
  · subst e
    rw [if_pos rfl, if_pos ⟨rfl, .inr rfl⟩]
  · rw [if_neg e, if_neg]
    rintro ⟨_, h0 | h1⟩
    · rw [sg_size] at h0; exact hb (List.length_eq_zero_iff.1 h0)
    · exact e (sg_inj h1)
theorem match_ok {l : List Tf} {i n : Nat} {m : Mt} {r : List Tf} (h : l.drop i = tf (1, m.1.data.toList) :: tf (4, if m.2.2 then [33, 61] else [61]) :: tf (3, m.2.1.data.toList) :: r) (hm : mOk m = true) (hn : n < 8) :
    matchAt l i n = (m, i + 3, 0) := by
  unfold mOk at hm
  simp only [Bool.and_eq_true, decide_eq_true_eq] at hm
  have d1 := drop_next h
  have d2 := drop_next d1
  have e0 : nameAt l i = 0 := name_in h rfl (by show Lp.nameB (sg m.1.data.toList) = true; rw [sg_self]; exact hm.1)
  have t0 : txtAt l i = m.1 := by rw [txt_in h]; exact sg_self _
  have t2 : txtAt l (i + 2) = m.2.1 := by rw [txt_in (i := i + 2) d2]; exact sg_self _
  have w1 := want_sign d1 [33, 61] (by simp)
  have w2 := want_sign d1 [61] (by simp)
  have w3 : want l (i + 2) 3 ⟨#[]⟩ = 0 := by rw [want_in (i := i + 2) d2, if_pos ⟨rfl, .inl rfl⟩]
  unfold matchAt
  rw [e0, w3, t0, t2]
  cases hnot : m.2.2 with
  | true =>
    rw [hnot] at w1 w2
    simp only [if_true] at w1 w2
    rw [w1]
    rw [if_neg (by simp), if_neg (by simp), if_neg (by simp), if_neg (by omega)]
    simp [← hnot]
  | false =>
    rw [hnot] at w1 w2
    simp only [Bool.false_eq_true, if_false] at w1 w2
    rw [if_neg (by simp : ¬ ([61] : T) = [33, 61])] at w1
    rw [w2, w1]
    rw [if_neg (by simp), if_neg (by simp), if_neg (by simp), if_neg (by omega)]
    simp [← hnot]
theorem loop_print : ∀ (r : List Mt) (f : Nat) (l : List Tf) (i : Nat) (ms : List Mt) (m : Mt) (b : List Tf), r.length < f → (ms.length + r.length) < 8 → (m :: r).all mOk = true →
    l.drop i = tf (1, m.1.data.toList) :: tf (4, if m.2.2 then [33, 61] else [61]) :: tf (3, m.2.1.data.toList) :: ((tM false r).map tf ++ b) →
    loop f l i ms = (ms ++ m :: r, i + 4 + 4 * r.length, 0)
  | r, 0, _, _, _, _, _, hf, _, _, _ => by simp at hf
  | [], f + 1, l, i, ms, m, b, _, hn, hall, h => by
    simp only [List.all_cons, Bool.and_eq_true] at hall
    have d3 := drop_next (drop_next (drop_next h))
    have e := match_ok (n := ms.length) h hall.1 (by simpa using hn)
    have w := want_sign (i := i + 3) d3 [125] (by simp)
    rw [if_pos rfl] at w
    unfold loop
    rw [e, if_neg (by simp), if_pos w]
    rfl
  | m2 :: r, f + 1, l, i, ms, m, b, hf, hn, hall, h => by
    have hall' := hall
    simp only [List.all_cons, Bool.and_eq_true] at hall
    have d3 := drop_next (drop_next (drop_next h))
    have d4 := drop_next (i := i + 3) d3
    have e := match_ok (n := ms.length) h hall.1 (by simp only [List.length_cons] at hn; omega)
    have w := want_sign (i := i + 3) d3 [125] (by simp)
    have w2 := want_sign (i := i + 3) d3 [44] (by simp)
    simp only [Bool.false_eq_true, if_false] at w w2
    rw [if_neg (by simp : ¬ ([44] : T) = [125])] at w
    rw [if_pos trivial] at w2
    unfold loop
    rw [e, if_neg (by simp), if_neg (by rw [w]; simp), if_neg (by rw [w2]; simp)]
    rw [loop_print r f l (i + 4) (ms ++ [m]) m2 b (by simp only [List.length_cons] at hf; omega) (by simp only [List.length_append, List.length_cons, List.length_nil] at hn ⊢; omega) (by simp [hall.2]) d4]
    simp only [List.append_assoc, List.cons_append, List.nil_append, List.length_cons, Prod.mk.injEq, true_and, and_true]
    omega
theorem tM_len : ∀ (b : Bool) (r : List Mt), (tM b r).length = 4 * r.length + 1
  | _, [] => rfl
  | _, m :: r => by
    show (tM false r).length + 1 + 1 + 1 + 1 = _
    rw [tM_len false r, List.length_cons]; omega
/-- What is printed is parsed, behind whatever tokens and ahead of whatever that is no {. -/
theorem parse_print {s : Sel} (h : saneS s = true) (a b : List Tf) (hb : s.2 = [] → want b 0 4 (sg [123]) ≠ 0) :
    parseN (a ++ ((tS s).map tf ++ b)) a.length = (s, a.length + (tS s).length, 0) := by
  unfold saneS at h
  simp only [Bool.and_eq_true, decide_eq_true_eq] at h
  obtain ⟨⟨h1, h2⟩, h3⟩ := h
  obtain ⟨N, ms⟩ := s
  have d0 : (a ++ ((tS (N, ms)).map tf ++ b)).drop a.length = tf (1, N.data.toList) :: ((if ms = [] then [] else tM true ms).map tf ++ b) := by
    rw [List.drop_left]; rfl
  have e0 : nameAt (a ++ ((tS (N, ms)).map tf ++ b)) a.length = 0 := name_in d0 rfl (by show Lp.nameB (sg N.data.toList) = true; rw [sg_self]; exact h1)
  have t0 : txtAt (a ++ ((tS (N, ms)).map tf ++ b)) a.length = N := by rw [txt_in d0]; exact sg_self _
  have d1 := drop_next d0
  cases ms with
  | nil =>
    rw [if_pos rfl, List.map_nil, List.nil_append] at d1
    have w : want (a ++ ((tS (N, [])).map tf ++ b)) (a.length + 1) 4 (sg [123]) ≠ 0 := by
      have := want_drop (a ++ ((tS (N, [])).map tf ++ b)) (a.length + 1) 0 4 (sg [123])
      rw [Nat.add_zero] at this
      rw [this, d1]
      exact hb rfl
    unfold parseN
    rw [e0, if_neg (by simp), if_pos w, t0]
    rfl
  | cons m r =>
    rw [if_neg (by simp)] at d1
    have d1' : (a ++ ((tS (N, m :: r)).map tf ++ b)).drop (a.length + 1) = tf (4, [123]) :: tf (1, m.1.data.toList) :: tf (4, if m.2.2 then [33, 61] else [61]) :: tf (3, m.2.1.data.toList) :: ((tM false r).map tf ++ b) := d1
    have w := want_sign d1' [123] (by simp)
    rw [if_pos rfl] at w
    have d2 := drop_next d1'
    have w2 : want (a ++ ((tS (N, m :: r)).map tf ++ b)) (a.length + 2) 4 (sg [125]) ≠ 0 := by
      rw [want_in (i := a.length + 2) d2, if_neg (fun h => by simp [tf] at h)]
      decide
    have hl := loop_print r 9 _ (a.length + 2) [] m b (by simp only [List.length_cons] at h2; omega) (by simp only [List.length_cons, List.length_nil] at h2 ⊢; omega) h3 d2
    unfold parseN
    rw [e0, if_neg (by simp), if_neg (by rw [w]; simp), if_neg w2, hl, if_pos rfl, t0]
    simp only [List.nil_append, Prod.mk.injEq, true_and, and_true]
    show _ = a.length + ((tM true (m :: r)).length + 1)
    rw [tM_len, List.length_cons]
    omega

/-! ### the text of what is printed -/
def chM (b : Bool) (r : List Mt) : List (T × (Nat × T)) := (tM b r).map fun p => ([], p)
theorem asm_app : ∀ (L M : List (T × (Nat × T))) (f : T), Lx.asm (L ++ M) f = Lx.asm L (Lx.asm M f)
  | [], _, _ => rfl
  | x :: r, M, f => by
    show x.1 ++ (Lx.txt x.2.1 x.2.2 ++ Lx.asm (r ++ M) f) = x.1 ++ (Lx.txt x.2.1 x.2.2 ++ Lx.asm r (Lx.asm M f))
    rw [asm_app r M f]
theorem asm_prM : ∀ (r : List Mt) (b : Bool) (f : T), Lx.asm (chM b r) f = prM b r ++ f
  | [], _, f => by
    show [] ++ (Lx.txt 4 [125] ++ f) = [125] ++ f
    rfl
  | m :: r, b, f => by
    have ih := asm_prM r false f
    show [] ++ (Lx.txt 4 [if b then 123 else 44] ++ ([] ++ (Lx.txt 1 m.1.data.toList ++ ([] ++ (Lx.txt 4 (if m.2.2 then [33, 61] else [61]) ++ ([] ++ (Lx.txt 3 m.2.1.data.toList ++ Lx.asm (chM false r) f))))))) = _
    rw [ih]
    show [] ++ ([if b then 123 else 44] ++ ([] ++ (m.1.data.toList ++ ([] ++ ((if m.2.2 then [33, 61] else [61]) ++ ([] ++ (Lx.quote m.2.1.data.toList ++ (prM false r ++ f)))))))) = (if b then 123 else 44) :: ((m.1.data.toList ++ ((if m.2.2 then [33] else []) ++ (61 :: Lx.quote m.2.1.data.toList))) ++ prM false r) ++ f
    cases m.2.2 <;> simp
theorem okc_word (c : UInt8) : Lp.okc c = Lx.wordC c := by
  unfold Lp.okc Lx.wordC Lx.isL Lx.isD
  cases Lp.letB c <;> cases Lp.digB c <;> simp
theorem good_name {s : ByteArray} (h : Lp.nameB s = true) : Lx.Good 1 s.data.toList := by
  unfold Lp.nameB Lp.nameL at h
  rw [Lp.tl] at h
  simp only [Bool.and_eq_true, decide_eq_true_eq, Bool.not_eq_true'] at h
  obtain ⟨⟨⟨h1, _⟩, h3⟩, h4⟩ := h
  left
  refine ⟨rfl, ?_⟩
  cases hs : s.data.toList with
  | nil => rw [hs] at h1; simp at h1
  | cons c w =>
    rw [hs] at h3 h4
    simp only [List.all_cons, Bool.and_eq_true] at h4
    have hd : Lp.digB c = false := h3
    refine ⟨c, w, rfl, ?_, ?_⟩
    · have := h4.1
      rw [okc_word] at this
      simpa [Lx.wordC, Lx.isD, hd] using this
    · rw [List.all_eq_true] at h4 ⊢
      intro x hx
      rw [← okc_word]
      exact h4.2 x hx
theorem good_sign {c : UInt8} (h : Lx.oneS c.toNat = true) : Lx.Good 4 [c] := .inr (.inr (.inr ⟨rfl, .inr ⟨c, rfl, h⟩⟩))
theorem good_two {c d : UInt8} (h : Lx.two c.toNat d.toNat = true) : Lx.Good 4 [c, d] := .inr (.inr (.inr ⟨rfl, .inl ⟨c, d, rfl, h⟩⟩))
theorem name_first {s : ByteArray} (h : Lp.nameB s = true) (l : T) : Lx.hd (s.data.toList ++ l) ≠ 61 := by
  rcases good_name h with ⟨_, c, w, e, hc, _⟩ | ⟨h, _⟩ | h | ⟨h, _⟩
  · rw [e]
    show c.toNat ≠ 61
    intro h61
    simp [Lx.isL, Lp.letB, h61] at hc
  · simp at h
  · simp at h
  · simp at h
theorem chain_prM : ∀ (r : List Mt) (b : Bool) (L : List (T × (Nat × T))) (f : T), r.all mOk = true → Lx.Chain L f → Lx.hd (Lx.asm L f) ≠ 61 → Lx.Chain (chM b r ++ L) f
  | [], b, L, f, _, hL, h61 => by
    refine ⟨Lx.wh_nil, good_sign (by decide), Lx.stop_sign ?_, hL⟩
    show Lx.two 125 (Lx.hd (Lx.asm L f)) = false
    simp [Lx.two]
  | m :: r, b, L, f, hall, hL, h61 => by
    simp only [List.all_cons, Bool.and_eq_true] at hall
    obtain ⟨hm, hr⟩ := hall
    unfold mOk at hm
    simp only [Bool.and_eq_true] at hm
    have ih := chain_prM r false L f hr hL h61
    show Lx.Chain (([], (4, [if b then 123 else 44])) :: ([], (1, m.1.data.toList)) :: ([], (4, if m.2.2 then [33, 61] else [61])) :: ([], (3, m.2.1.data.toList)) :: (chM false r ++ L)) f
    refine ⟨Lx.wh_nil, good_sign (by cases b <;> decide), Lx.stop_sign ?_, Lx.wh_nil, good_name hm.1, Lx.stop_word ?_, Lx.wh_nil, ?_, ?_, Lx.wh_nil, .inr (.inr (.inl rfl)), Lx.stop_text _ _, ih⟩
    · cases b <;> simp [Lx.two]
    · intro c l' hl
      have hl' : (if m.2.2 then [33, 61] else [61]) ++ (Lx.asm (([], (3, m.2.1.data.toList)) :: (chM false r ++ L)) f) = c :: l' := hl
      cases hn : m.2.2 <;> rw [hn] at hl' <;> simp at hl' <;> rw [← hl'.1] <;> decide
    · cases m.2.2
      · exact good_sign (by decide)
      · exact good_two (by decide)
    · cases hn : m.2.2
      · refine Lx.stop_sign ?_
        show Lx.two 61 (Lx.hd (34 :: _)) = false
        rfl
      · exact Lx.stop_two _ _ _
/-- The text, with whatever follows: its chain of tokens. -/
def chS (s : Sel) : List (T × (Nat × T)) := (tS s).map fun p => ([], p)
theorem asm_prS {s : Sel} (h : saneS s = true) (f : T) : Lx.asm (chS s) f = prS s ++ f := by
  obtain ⟨N, ms⟩ := s
  unfold prS
  rw [if_pos h]
  cases ms with
  | nil =>
    show [] ++ (N.data.toList ++ f) = (N.data.toList ++ []) ++ f
    simp
  | cons m r =>
    have := asm_prM (m :: r) true f
    show [] ++ (N.data.toList ++ Lx.asm (chM true (m :: r)) f) = (N.data.toList ++ prM true (m :: r)) ++ f
    rw [this]
    simp
theorem chain_prS {s : Sel} (h : saneS s = true) (L : List (T × (Nat × T))) (f : T) (hL : Lx.Chain L f) (h61 : Lx.hd (Lx.asm L f) ≠ 61) (hw : s.2 = [] → ∀ c r, Lx.asm L f = c :: r → Lx.wordC c = false) : Lx.Chain (chS s ++ L) f := by
  obtain ⟨N, ms⟩ := s
  have h' := h
  unfold saneS at h
  simp only [Bool.and_eq_true, decide_eq_true_eq] at h
  obtain ⟨⟨h1, h2⟩, h3⟩ := h
  cases ms with
  | nil =>
    refine ⟨Lx.wh_nil, good_name h1, Lx.stop_word ?_, hL⟩
    exact hw rfl
  | cons m r =>
    have := chain_prM (m :: r) true L f h3 hL h61
    refine ⟨Lx.wh_nil, good_name h1, Lx.stop_word ?_, this⟩
    intro c l' hl
    have hl' : ([123] : T) ++ (Lx.asm ((([], (1, m.1.data.toList)) :: ([], (4, if m.2.2 then [33, 61] else [61])) :: ([], (3, m.2.1.data.toList)) :: (chM false r)) ++ L) f) = c :: l' := hl
    simp at hl'
    rw [← hl'.1]
    decide
theorem tS_len {s : Sel} (h : saneS s = true) : (tS s).length ≤ 34 := by
  unfold saneS at h
  simp only [Bool.and_eq_true, decide_eq_true_eq] at h
  obtain ⟨⟨h1, h2⟩, h3⟩ := h
  unfold tS
  split
  · simp
  · rw [List.length_cons, tM_len]; omega
theorem lex_print {s : Sel} (h : saneS s = true) : (Lx.lex 65536 (prS s)).1.map Lx.flat = tS s ∧ (Lx.lex 65536 (prS s)).2.1 = [] ∧ (Lx.lex 65536 (prS s)).2.2 = 0 := by
  have hc := chain_prS h [] [] rfl (by decide) (fun _ c r hl => by simp [Lx.asm] at hl)
  have hlen := tS_len h
  have := Lx.lex_chain (chS s ++ []) [] 65536 (by rw [List.append_nil]; unfold chS; rw [List.length_map]; omega) hc
  rw [asm_app] at this
  have e : Lx.asm (chS s) (Lx.asm [] []) = prS s := by
    rw [asm_prS h]; show prS s ++ [] = _; rw [List.append_nil]
  rw [e] at this
  refine ⟨?_, this.2⟩
  rw [this.1, List.append_nil]
  unfold chS
  rw [List.map_map]
  exact List.map_id _
theorem lex_none : (Lx.lex 65536 []).1 = [] ∧ (Lx.lex 65536 []).2.1 = [] ∧ (Lx.lex 65536 []).2.2 = 0 := by
  rw [Lx.lex, if_pos (by rfl)]
  exact ⟨rfl, rfl, rfl⟩
theorem print_apart {a b : Sel} (ha : saneS a = true) (hb : saneS b = true) : prS a = prS b ↔ a = b := by
  constructor
  · intro h
    have h1 := (lex_print ha).1
    have h2 := (lex_print hb).1
    rw [h, h2] at h1
    have p1 := parse_print ha [] [] (fun _ => by decide)
    have p2 := parse_print hb [] [] (fun _ => by decide)
    rw [← h1, p2] at p1
    simp only [Prod.mk.injEq] at p1
    exact p1.1.symm
  · rintro rfl; rfl

/-! ### more that is asked -/
theorem sane_more {N : ByteArray} {ms : List Mt} {m : Mt} : saneS (N, ms ++ [m]) = true ↔ saneS (N, ms) = true ∧ mOk m = true ∧ ms.length < 8 := by
  unfold saneS
  simp only [List.all_append, List.all_cons, List.all_nil, List.length_append, List.length_cons, List.length_nil, Bool.and_eq_true, decide_eq_true_eq, Bool.and_true]
  constructor
  · rintro ⟨⟨a, b⟩, c, d⟩
    exact ⟨⟨⟨a, by omega⟩, c⟩, d, by omega⟩
  · rintro ⟨⟨⟨a, b⟩, c⟩, d, e⟩
    exact ⟨⟨a, by omega⟩, c, d⟩
theorem fits_more {N : ByteArray} {ms : List Mt} {m : Mt} {l : List Lp.Pr} : fits (N, ms ++ [m]) l = (fits (N, ms) l && (mOk m && decide (ms.length < 8) && mFits l m)) := by
  rw [Bool.eq_iff_iff]
  unfold fits
  simp only [Bool.and_eq_true, decide_eq_true_eq, List.all_append, List.all_cons, List.all_nil, Bool.and_true, sane_more]
  constructor
  · rintro ⟨⟨⟨⟨a, b, c⟩, d⟩, e⟩, f, g⟩
    exact ⟨⟨⟨⟨a, d⟩, e⟩, f⟩, ⟨b, c⟩, g⟩
  · rintro ⟨⟨⟨⟨a, d⟩, e⟩, f⟩, ⟨b, c⟩, g⟩
    exact ⟨⟨⟨⟨a, b, c⟩, d⟩, e⟩, f, g⟩
theorem fits_not (l : List Lp.Pr) (m : Mt) : mFits l (m.1, m.2.1, !m.2.2) = !mFits l m := by
  unfold mFits
  cases decide ((Lp.getS l m.1).getD ⟨#[]⟩ = m.2.1) <;> cases m.2.2 <;> rfl
theorem mOk_not (m : Mt) : mOk (m.1, m.2.1, !m.2.2) = mOk m := rfl
end Go.Proofs.YtkoeggjfdcpokaaGreatDoor.Sl
namespace Go.Proofs.YtkoeggjfdcpokaaGreatDoor.Sl
open Go.Proofs.YtkoeggjfdcpokaaGreatDoor

/-- A reader: what was read, and the match that is under way. -/
structure Rs where
  N : ByteArray
  ms : List Mt
  mn : ByteArray
  mv : ByteArray
  no : Bool
def rs0 : Rs := ⟨⟨#[]⟩, [], ⟨#[]⟩, ⟨#[]⟩, false⟩
def isT (t : Tf) (s : ByteArray) : Bool := decide (t.1 = 4 ∧ t.2 = s)
def nmErr (t : Tf) : Int := if t.1 = 1 then (if Lp.nameB t.2 then 0 else 7) else 1
/-- One token is asked: 0 the name, 1 what stands behind the brace, 2 a match's name, 3 its sign, 4 its value, 5 what stands behind it, 6 nobody asks. -/
def stp (st : Nat) (R : Rs) (t : Tf) : Nat × Rs × Int :=
  match st with
  | 0 => (6, { R with N := t.2 }, nmErr t)
  | 1 => if isT t (sg [125]) then (6, R, 0) else (3, { R with mn := t.2 }, nmErr t)
  | 2 => (3, { R with mn := t.2 }, nmErr t)
  | 3 => if isT t (sg [33, 61]) = false ∧ isT t (sg [61]) = false then (6, { R with no := isT t (sg [33, 61]) }, 1) else (4, { R with no := isT t (sg [33, 61]) }, 0)
  | 4 => if t.1 ≠ 3 then (6, R, 1) else if 64 < t.2.size ∨ R.ms.length = 8 then (6, R, 4) else (5, { R with mv := t.2, ms := R.ms ++ [(R.mn, t.2, R.no)] }, 0)
  | 5 => if isT t (sg [44]) then (2, R, 0) else if isT t (sg [125]) then (6, R, 0) else (6, R, 1)
  | _ => (6, R, 0)
def run : List Tf → Nat → Nat → Rs → Nat × Int × Rs
  | [], i, st, R => if st = 6 then (i, 0, R) else (i, 3, R)
  | t :: r, i, st, R => if st = 6 then (i, 0, R) else if (stp st R t).2.2 ≠ 0 then (i, (stp st R t).2.2, (stp st R t).2.1) else run r (i + 1) (stp st R t).1 (stp st R t).2.1
theorem run_six (l : List Tf) (i : Nat) (R : Rs) : run l i 6 R = (i, 0, R) := by
  cases l <;> simp [run]
theorem run_end {l : List Tf} {i st : Nat} {R : Rs} (hi : i = l.length) (hs : st ≠ 6) : run (l.drop i) i st R = (l.length, 3, R) := by
  subst hi
  rw [List.drop_length]
  unfold run
  rw [if_neg hs]
theorem run_at {l : List Tf} {i st : Nat} {R : Rs} {t : Tf} (ht : l[i]? = some t) (hs : st ≠ 6) : run (l.drop i) i st R = if (stp st R t).2.2 ≠ 0 then (i, (stp st R t).2.2, (stp st R t).2.1) else run (l.drop (i + 1)) (i + 1) (stp st R t).1 (stp st R t).2.1 := by
  obtain ⟨hlt, e⟩ := List.getElem?_eq_some_iff.1 ht
  rw [List.drop_eq_getElem_cons hlt, e]
  conv => lhs; unfold run
  rw [if_neg hs]
theorem none_len {l : List Tf} {i : Nat} (h : l[i]? = none) (hi : i ≤ l.length) : i = l.length := by
  have := List.getElem?_eq_none_iff.1 h
  omega
theorem run_le : ∀ (n : Nat) (l : List Tf) (i st : Nat) (R : Rs), i + n = l.length → (run (l.drop i) i st R).1 ≤ l.length
  | n, l, i, st, R, hn => by
    by_cases hs : st = 6
    · subst hs; rw [run_six]; show i ≤ _; omega
    · cases ht : l[i]? with
      | none => rw [run_end (none_len ht (by omega)) hs]; exact Nat.le_refl _
      | some t =>
        have hlt := (List.getElem?_eq_some_iff.1 ht).1
        rw [run_at ht hs]
        split
        · show i ≤ _; omega
        · obtain ⟨n, rfl⟩ : ∃ k, n = k + 1 := ⟨n - 1, by omega⟩
          exact run_le n l (i + 1) _ _ (by omega)
theorem nameAt_some {l : List Tf} {i : Nat} {t : Tf} (h : l[i]? = some t) : nameAt l i = nmErr t := by
  have hw : want l i 1 ⟨#[]⟩ = if t.1 = 1 then 0 else 1 := by
    unfold want
    rw [h]
    have : (⟨#[]⟩ : ByteArray).size = 0 := rfl
    simp only [this, true_or, and_true]
  unfold nameAt nmErr
  rw [hw, txtAt_of h]
  by_cases hk : t.1 = 1
  · rw [if_pos hk, if_pos hk, if_pos rfl]
  · rw [if_neg hk, if_neg hk, if_neg (by decide)]
theorem nameAt_none {l : List Tf} {i : Nat} (h : l[i]? = none) : nameAt l i = 3 := nameAt_three.2 (List.getElem?_eq_none_iff.1 h)
theorem want_none {l : List Tf} {i : Nat} {k : Int} {s : ByteArray} (h : l[i]? = none) : want l i k s = 3 := want_three.2 (List.getElem?_eq_none_iff.1 h)
theorem want_sg {l : List Tf} {i : Nat} {t : Tf} {s : ByteArray} (h : l[i]? = some t) (hs : s.size ≠ 0) : want l i 4 s = if isT t s then 0 else 1 := by
  unfold want isT
  rw [h]
  by_cases hk : t.1 = 4 ∧ t.2 = s
  · rw [decide_eq_true hk]; show (if _ then _ else _) = _; rw [if_pos ⟨hk.1, .inr hk.2⟩]; rfl
  · rw [decide_eq_false hk]; show (if _ then _ else _) = _; rw [if_neg (by rintro ⟨a, b | b⟩; exact hs b; exact hk ⟨a, b⟩)]; rfl
theorem want_text {l : List Tf} {i : Nat} {t : Tf} (h : l[i]? = some t) : want l i 3 ⟨#[]⟩ = if t.1 = 3 then 0 else 1 := by
  unfold want
  rw [h]
  have : (⟨#[]⟩ : ByteArray).size = 0 := rfl
  simp only [this, true_or, and_true]
theorem sg1 (a : UInt8) : (sg [a]).size ≠ 0 := by show ¬ (1 = 0); decide
theorem sg2 (a b : UInt8) : (sg [a, b]).size ≠ 0 := by show ¬ (2 = 0); decide
theorem sgw_ne {a b : T} (h : a ≠ b) : sg a ≠ sg b := fun e => h (by
  have := congrArg (fun x : ByteArray => x.data.toList) e
  exact this)
theorem isT_ne {t : Tf} {a b : T} (h : a ≠ b) (ha : isT t (sg a) = true) : isT t (sg b) = false := by
  unfold isT at *
  rw [decide_eq_false_iff_not]
  rintro ⟨_, h2⟩
  exact sgw_ne h ((of_decide_eq_true ha).2.symm.trans h2)
/-- What the matches come to. -/
def Lk (X : Nat × Int × Rs) (R : Rs) (Y : List Mt × Nat × Int) : Prop := X.1 = Y.2.1 ∧ X.2.1 = Y.2.2 ∧ (X.2.1 = 0 → X.2.2.N = R.N ∧ X.2.2.ms = Y.1)
theorem loop_err {f i p : Nat} {l : List Tf} {ms : List Mt} {e : Int} (h : matchAt l i ms.length = (noM, p, e)) (he : e ≠ 0) : loop (f + 1) l i ms = ([], p, e) := by
  unfold loop
  rw [h]
  exact if_pos he
theorem loop_go {f i : Nat} {l : List Tf} {ms : List Mt} {m : Mt} (h : matchAt l i ms.length = (m, i + 3, 0)) : loop (f + 1) l i ms = if want l (i + 3) 4 (sg [125]) = 0 then (ms ++ [m], i + 4, 0) else if want l (i + 3) 4 (sg [44]) ≠ 0 then ([], min (i + 3) l.length, want l (i + 3) 4 (sg [44])) else loop f l (i + 4) (ms ++ [m]) := by
  conv => lhs; unfold loop
  rw [h]
  exact if_neg (show ¬ ((0 : Int) ≠ 0) from fun h => h rfl)
theorem mat_name {l : List Tf} {i n : Nat} {e : Int} (h : nameAt l i = e) (he : e ≠ 0) : matchAt l i n = (noM, min i l.length, e) := by
  unfold matchAt
  rw [h, if_pos he]
theorem mat_sign {l : List Tf} {i n : Nat} {e : Int} (h : nameAt l i = 0) (h1 : want l (i + 1) 4 (sg [33, 61]) ≠ 0) (h2 : want l (i + 1) 4 (sg [61]) = e) (he : e ≠ 0) : matchAt l i n = (noM, min (i + 1) l.length, e) := by
  unfold matchAt
  rw [if_neg (fun hh => hh h), h2, if_pos ⟨h1, he⟩]
theorem mat_text {l : List Tf} {i n : Nat} {e : Int} (h : nameAt l i = 0) (h1 : want l (i + 1) 4 (sg [33, 61]) = 0 ∨ want l (i + 1) 4 (sg [61]) = 0) (h2 : want l (i + 2) 3 ⟨#[]⟩ = e) (he : e ≠ 0) : matchAt l i n = (noM, min (i + 2) l.length, e) := by
  unfold matchAt
  rw [if_neg (fun hh => hh h), if_neg (fun hh => h1.elim hh.1 hh.2), h2, if_pos he]
theorem mat_large {l : List Tf} {i n : Nat} (h : nameAt l i = 0) (h1 : want l (i + 1) 4 (sg [33, 61]) = 0 ∨ want l (i + 1) 4 (sg [61]) = 0) (h2 : want l (i + 2) 3 ⟨#[]⟩ = 0) (h3 : 64 < (txtAt l (i + 2)).size ∨ 8 ≤ n) : matchAt l i n = (noM, min (i + 2) l.length, 4) := by
  unfold matchAt
  rw [if_neg (fun hh => hh h), if_neg (fun hh => h1.elim hh.1 hh.2), if_neg (fun hh => hh h2), if_pos h3]
theorem mat_ok {l : List Tf} {i n : Nat} (h : nameAt l i = 0) (h1 : want l (i + 1) 4 (sg [33, 61]) = 0 ∨ want l (i + 1) 4 (sg [61]) = 0) (h2 : want l (i + 2) 3 ⟨#[]⟩ = 0) (h3 : ¬ (64 < (txtAt l (i + 2)).size ∨ 8 ≤ n)) : matchAt l i n = ((txtAt l i, txtAt l (i + 2), decide (want l (i + 1) 4 (sg [33, 61]) = 0)), i + 3, 0) := by
  unfold matchAt
  rw [if_neg (fun hh => hh h), if_neg (fun hh => h1.elim hh.1 hh.2), if_neg (fun hh => hh h2), if_neg h3]
theorem lk_err {X : Nat × Int × Rs} {R : Rs} {p : Nat} {e : Int} (h1 : X.1 = p) (h2 : X.2.1 = e) (he : e ≠ 0) : Lk X R ([], p, e) := ⟨h1, h2, fun h => absurd (h2.symm.trans h) he⟩
theorem loop_run : ∀ (f : Nat) (l : List Tf) (i : Nat) (R : Rs), R.ms.length ≤ 8 → 9 ≤ f + R.ms.length → i ≤ l.length → Lk (run (l.drop i) i 2 R) R (loop f l i R.ms)
  | 0, l, i, R, h8, hf, hi => by omega
  | f + 1, l, i, R, h8, hf, hi => by
    have three : (3 : Int) ≠ 0 := by decide
    cases h0 : l[i]? with
    | none =>
      rw [run_end (none_len h0 hi) (by decide), loop_err (mat_name (nameAt_none h0) three) three]
      refine lk_err ?_ rfl three
      show l.length = min i l.length
      rw [none_len h0 hi]; omega
    | some t0 =>
      have hl0 := (List.getElem?_eq_some_iff.1 h0).1
      rw [run_at h0 (by decide)]
      show Lk (if nmErr t0 ≠ 0 then _ else _) _ _
      by_cases n0 : nmErr t0 = 0
      case neg =>
        rw [if_pos n0, loop_err (mat_name (nameAt_some h0) n0) n0]
        refine lk_err ?_ rfl n0
        show i = min i l.length; omega
      have hn0 : nameAt l i = 0 := (nameAt_some h0).trans n0
      rw [if_neg (fun h => h n0)]
      show Lk (run (l.drop (i + 1)) (i + 1) 3 { R with mn := t0.2 }) _ _
      cases h1 : l[i + 1]? with
      | none =>
        rw [run_end (none_len h1 hl0) (by decide), loop_err (mat_sign hn0 (by rw [want_none h1]; exact three) (want_none h1) three) three]
        refine lk_err ?_ rfl three
        show l.length = min (i + 1) l.length
        rw [none_len h1 hl0]; omega
      | some t1 =>
        have hl1 := (List.getElem?_eq_some_iff.1 h1).1
        have w1 := want_sg h1 (sg2 33 61)
        have w2 := want_sg h1 (sg1 61)
        rw [run_at h1 (by decide)]
        unfold stp
        obtain ⟨b1, e1⟩ : ∃ b, isT t1 (sg [33, 61]) = b := ⟨_, rfl⟩
        obtain ⟨b2, e2⟩ : ∃ b, isT t1 (sg [61]) = b := ⟨_, rfl⟩
        rw [e1] at w1
        rw [e2] at w2
        simp only [e1, e2]
        by_cases hb : b1 = false ∧ b2 = false
        · obtain ⟨rfl, rfl⟩ := hb
          have one : (1 : Int) ≠ 0 := by decide
          rw [loop_err (mat_sign hn0 (by rw [w1]; exact one) w2 one) one]
          refine lk_err ?_ rfl one
          show i + 1 = min (i + 1) l.length; omega
        · have hw : want l (i + 1) 4 (sg [33, 61]) = 0 ∨ want l (i + 1) 4 (sg [61]) = 0 := by
            rw [w1, w2]
            cases b1 <;> cases b2 <;> simp at hb ⊢
          have hdb : decide (want l (i + 1) 4 (sg [33, 61]) = 0) = b1 := by rw [w1]; cases b1 <;> rfl
          rw [if_neg hb]
          show Lk (run (l.drop (i + 2)) (i + 2) 4 ⟨R.N, R.ms, t0.2, R.mv, b1⟩) R _
          cases h2 : l[i + 2]? with
          | none =>
            rw [run_end (none_len h2 hl1) (by decide), loop_err (mat_text hn0 hw (want_none h2) three) three]
            refine lk_err ?_ rfl three
            show l.length = min (i + 2) l.length
            rw [none_len h2 hl1]; omega
          | some t2 =>
            have hl2 := (List.getElem?_eq_some_iff.1 h2).1
            have wt := want_text h2
            rw [run_at h2 (by decide)]
            by_cases k3 : t2.1 = 3
            case neg =>
              rw [if_neg k3] at wt
              have one : (1 : Int) ≠ 0 := by decide
              have hst : stp 4 ⟨R.N, R.ms, t0.2, R.mv, b1⟩ t2 = (6, ⟨R.N, R.ms, t0.2, R.mv, b1⟩, 1) := if_pos k3
              rw [hst, loop_err (mat_text hn0 hw wt one) one]
              refine lk_err ?_ rfl one
              show i + 2 = min (i + 2) l.length; omega
            rw [if_pos k3] at wt
            by_cases h64 : 64 < t2.2.size ∨ R.ms.length = 8
            · have four : (4 : Int) ≠ 0 := by decide
              have hst : stp 4 ⟨R.N, R.ms, t0.2, R.mv, b1⟩ t2 = (6, ⟨R.N, R.ms, t0.2, R.mv, b1⟩, 4) := (if_neg (fun h => h k3)).trans (if_pos h64)
              rw [hst, loop_err (mat_large hn0 hw wt (by rw [txtAt_of h2]; omega)) four]
              refine lk_err ?_ rfl four
              show i + 2 = min (i + 2) l.length; omega
            · have hst : stp 4 ⟨R.N, R.ms, t0.2, R.mv, b1⟩ t2 = (5, ⟨R.N, R.ms ++ [(t0.2, t2.2, b1)], t0.2, t2.2, b1⟩, 0) := (if_neg (fun h => h k3)).trans (if_neg h64)
              have hm := mat_ok hn0 hw wt (n := R.ms.length) (by rw [txtAt_of h2]; omega)
              rw [txtAt_of h0, txtAt_of h2, hdb] at hm
              rw [hst, loop_go hm]
              show Lk (run (l.drop (i + 3)) (i + 3) 5 ⟨R.N, R.ms ++ [(t0.2, t2.2, b1)], t0.2, t2.2, b1⟩) R _
              cases h3 : l[i + 3]? with
              | none =>
                rw [run_end (none_len h3 hl2) (by decide), want_none h3, want_none h3, if_neg three, if_pos three]
                refine lk_err ?_ rfl three
                show l.length = min (i + 3) l.length
                rw [none_len h3 hl2]; omega
              | some t3 =>
                have hl3 := (List.getElem?_eq_some_iff.1 h3).1
                have v1 := want_sg h3 (sg1 125)
                have v2 := want_sg h3 (sg1 44)
                have one : (1 : Int) ≠ 0 := by decide
                rw [run_at h3 (by decide)]
                cases e4 : isT t3 (sg [44]) with
                | true =>
                  have e5 := isT_ne (b := [125]) (by decide) e4
                  rw [e5] at v1
                  rw [e4] at v2
                  have hst : ∀ Z, stp 5 Z t3 = (2, Z, 0) := fun Z => if_pos e4
                  rw [hst, v1, v2, if_neg (c := (if false = true then (0 : Int) else 1) = 0) one, if_neg (c := (if true = true then (0 : Int) else 1) ≠ 0) (fun h => h rfl)]
                  exact loop_run f l (i + 4) ⟨R.N, R.ms ++ [(t0.2, t2.2, b1)], t0.2, t2.2, b1⟩ (by show (R.ms ++ _).length ≤ 8; rw [List.length_append]; show _ + 1 ≤ _; omega) (by show 9 ≤ f + (R.ms ++ _).length; rw [List.length_append]; show 9 ≤ f + (_ + 1); omega) (by omega)
                | false =>
                  rw [e4] at v2
                  have h4 : ¬ isT t3 (sg [44]) = true := by rw [e4]; exact Bool.false_ne_true
                  cases e5 : isT t3 (sg [125]) with
                  | true =>
                    rw [e5] at v1
                    have hst : ∀ Z, stp 5 Z t3 = (6, Z, 0) := fun Z => (if_neg h4).trans (if_pos e5)
                    rw [hst, v1, if_pos (c := (if true = true then (0 : Int) else 1) = 0) rfl]
                    show Lk (run (l.drop (i + 4)) (i + 4) 6 _) _ _
                    rw [run_six]
                    exact ⟨rfl, rfl, fun _ => ⟨rfl, rfl⟩⟩
                  | false =>
                    rw [e5] at v1
                    have h5 : ¬ isT t3 (sg [125]) = true := by rw [e5]; exact Bool.false_ne_true
                    have hst : ∀ Z, stp 5 Z t3 = (6, Z, 1) := fun Z => (if_neg h4).trans (if_neg h5)
                    rw [hst, v1, v2, if_neg (c := (if false = true then (0 : Int) else 1) = 0) one, if_pos (c := (if false = true then (0 : Int) else 1) ≠ 0) one]
                    refine lk_err ?_ rfl one
                    show i + 3 = min (i + 3) l.length; omega
/-- What the tokens from i on come to, as the landed code asks. -/
theorem parse_way (l : List Tf) (i : Nat) (hi : i ≤ l.length) (X : Nat × Int × Rs) (hX : run (l.drop i) i 0 rs0 = X) :
    parseN l i = if X.2.1 ≠ 0 then (none_, X.1, X.2.1)
      else if want l X.1 4 (sg [123]) ≠ 0 then ((X.2.2.N, X.2.2.ms), X.1, 0)
      else if (run (l.drop (X.1 + 1)) (X.1 + 1) 1 X.2.2).2.1 ≠ 0 then (none_, (run (l.drop (X.1 + 1)) (X.1 + 1) 1 X.2.2).1, (run (l.drop (X.1 + 1)) (X.1 + 1) 1 X.2.2).2.1)
      else (((run (l.drop (X.1 + 1)) (X.1 + 1) 1 X.2.2).2.2.N, (run (l.drop (X.1 + 1)) (X.1 + 1) 1 X.2.2).2.2.ms), (run (l.drop (X.1 + 1)) (X.1 + 1) 1 X.2.2).1, 0) := by
  unfold parseN
  cases h0 : l[i]? with
  | none =>
    rw [run_end (none_len h0 hi) (by decide)] at hX
    subst hX
    rw [nameAt_none h0, if_pos (show (3 : Int) ≠ 0 by decide), if_pos (show (3 : Int) ≠ 0 by decide)]
    show (none_, min i l.length, (3 : Int)) = (none_, l.length, 3)
    rw [none_len h0 hi, Nat.min_self]
  | some t0 =>
    have hl0 := (List.getElem?_eq_some_iff.1 h0).1
    rw [run_at h0 (by decide)] at hX
    rw [nameAt_some h0]
    by_cases n0 : nmErr t0 = 0
    case neg =>
      have hX' : (i, nmErr t0, { rs0 with N := t0.2 }) = X := by
        rw [← hX]
        show _ = if nmErr t0 ≠ 0 then _ else _
        rw [if_pos n0]; rfl
      subst hX'
      rw [if_pos n0, if_pos n0]
      show (none_, min i l.length, nmErr t0) = (none_, i, nmErr t0)
      rw [Nat.min_eq_left (by omega)]
    obtain ⟨R1, hR1⟩ : ∃ R1 : Rs, R1 = ⟨t0.2, [], ⟨#[]⟩, ⟨#[]⟩, false⟩ := ⟨_, rfl⟩
    have hX' : (i + 1, 0, R1) = X := by
      rw [← hX]
      show _ = if nmErr t0 ≠ 0 then _ else _
      rw [if_neg (fun h => h n0)]
      show _ = run (l.drop (i + 1)) (i + 1) 6 ⟨t0.2, [], ⟨#[]⟩, ⟨#[]⟩, false⟩
      rw [run_six, hR1]
    subst hX'
    clear hX
    have hms : R1.ms = [] := by rw [hR1]
    have hnm : R1.N = t0.2 := by rw [hR1]
    clear hR1
    rw [if_neg (fun h => h n0), txtAt_of h0]
    show _ = if (0 : Int) ≠ 0 then _ else if want l (i + 1) 4 (sg [123]) ≠ 0 then ((R1.N, R1.ms), i + 1, 0) else if (run (l.drop (i + 2)) (i + 2) 1 R1).2.1 ≠ 0 then (none_, (run (l.drop (i + 2)) (i + 2) 1 R1).1, (run (l.drop (i + 2)) (i + 2) 1 R1).2.1) else (((run (l.drop (i + 2)) (i + 2) 1 R1).2.2.N, (run (l.drop (i + 2)) (i + 2) 1 R1).2.2.ms), (run (l.drop (i + 2)) (i + 2) 1 R1).1, 0)
    rw [if_neg (show ¬ ((0 : Int) ≠ 0) from fun h => h rfl)]
    by_cases hw : want l (i + 1) 4 (sg [123]) = 0
    case neg => rw [if_pos hw, if_pos hw, hnm, hms]
    rw [if_neg (show ¬ (want l (i + 1) 4 (sg [123]) ≠ 0) from fun h => h hw), if_neg (show ¬ (want l (i + 1) 4 (sg [123]) ≠ 0) from fun h => h hw)]
    have hl1 := want_lt (l := l) (i := i + 1) (k := 4) (s := sg [123]) (by rw [hw]; decide)
    have key : want l (i + 2) 4 (sg [125]) ≠ 0 → run (l.drop (i + 2)) (i + 2) 1 R1 = run (l.drop (i + 2)) (i + 2) 2 R1 := by
      intro hne
      cases h2 : l[i + 2]? with
      | none => rw [run_end (none_len h2 hl1) (by decide), run_end (none_len h2 hl1) (by decide)]
      | some t2 =>
        rw [want_sg h2 (sg1 _)] at hne
        have e : isT t2 (sg [125]) = false := by
          cases e : isT t2 (sg [125]) with
          | false => rfl
          | true => rw [e] at hne; exact absurd rfl hne
        rw [run_at h2 (by decide), run_at h2 (by decide)]
        unfold stp
        rw [e]
        rfl
    by_cases hw2 : want l (i + 2) 4 (sg [125]) = 0
    · rw [if_pos hw2]
      have hl2 := want_lt (l := l) (i := i + 2) (k := 4) (s := sg [125]) (by rw [hw2]; decide)
      have h2 : l[i + 2]? = some l[i + 2] := List.getElem?_eq_getElem hl2
      rw [want_sg h2 (sg1 _)] at hw2
      have e : isT l[i + 2] (sg [125]) = true := by
        cases e : isT l[i + 2] (sg [125]) with
        | true => rfl
        | false => rw [e] at hw2; exact absurd hw2 (by decide)
      have hr : run (l.drop (i + 2)) (i + 2) 1 R1 = (i + 3, 0, R1) := by
        have hst : stp 1 R1 l[i + 2] = (6, R1, 0) := if_pos e
        rw [run_at h2 (by decide), hst]
        exact run_six _ _ _
      rw [hr]
      show _ = if (0 : Int) ≠ 0 then _ else ((R1.N, R1.ms), i + 3, 0)
      rw [if_neg (show ¬ ((0 : Int) ≠ 0) from fun h => h rfl), hnm, hms]
    · rw [if_neg hw2, key hw2]
      have hk := loop_run 9 l (i + 2) R1 (by rw [hms]; decide) (by rw [hms]; decide) hl1
      obtain ⟨k1, k2, k3⟩ := hk
      rw [hms] at k1 k2 k3
      by_cases hz : (loop 9 l (i + 2) []).2.2 = 0
      · obtain ⟨q1, q2⟩ := k3 (k2.trans hz)
        rw [if_pos hz, if_neg (fun h => h (k2.trans hz)), q1, q2, k1, hnm]
      · rw [if_neg hz, if_pos (fun h => hz (k2.symm.trans h)), k1, k2]
end Go.Proofs.YtkoeggjfdcpokaaGreatDoor.Sl
namespace Go.Proofs.YtkoeggjfdcpokaaGreatDoor.Np
open Go.Lib (decDigits nDigits)

def mx : Nat := 9007199254740992
def dig (c : UInt8) : Bool := decide (48 ≤ c.toNat ∧ c.toNat ≤ 57)
def digs (l : List UInt8) : Bool := l.all dig
/-- The number that digits are. -/
def num (l : List UInt8) : Nat := l.foldl (fun a c => 10 * a + (c.toNat - 48)) 0
/-- Three places: a part with zeros behind. -/
def pad (p : List UInt8) : List UInt8 := (p ++ [48, 48, 48]).take 3

def d8 (n : Nat) : UInt8 := UInt8.ofNat (48 + n)
/-- The places of r thousandths without zeros at the end. -/
def frac (r : Nat) : List UInt8 :=
  d8 (r / 100) :: if r % 100 = 0 then [] else d8 (r / 10 % 10) :: if r % 10 = 0 then [] else [d8 (r % 10)]
def tailU (r : Nat) : List UInt8 := if r = 0 then [] else 46 :: frac r
def printU (u : Nat) : List UInt8 := decDigits (u / 1000) ++ tailU (u % 1000)
def saneB (v : Int) : Bool := decide (-9007199254740992 ≤ v ∧ v ≤ 9007199254740992)
def printS (v : Int) : List UInt8 :=
  if saneB v = false then [] else if v < 0 then 45 :: printU v.natAbs else printU v.natAbs

/-- What a number of thousandths without a sign comes to. -/
def fin (neg : Bool) (n : Nat) : Int × Int :=
  if mx < n then (0, 2) else (if neg then -(n : Int) else (n : Int), 0)
def whole (b : List UInt8) : List UInt8 := b.takeWhile (· != 46)
def rest (b : List UInt8) : List UInt8 := b.dropWhile (· != 46)
/-- The digits of an unsigned text, if it is one. -/
def unsig (b : List UInt8) : Option (List UInt8) :=
  match rest b with
  | [] => if whole b ≠ [] ∧ digs (whole b) = true then some (whole b ++ [48, 48, 48]) else none
  | _ :: p => if p = [] ∨ 3 < p.length then none else if whole b ≠ [] ∧ digs (whole b ++ pad p) = true then some (whole b ++ pad p) else none
def neg (l : List UInt8) : Bool := l.head? == some 45
def body (l : List UInt8) : List UInt8 := if neg l then l.tail else l
def parseS (l : List UInt8) : Int × Int :=
  match unsig (body l) with
  | none => (0, 1)
  | some d => fin (neg l) (num d)

/-! digits -/
theorem d8_toNat (n : Nat) (h : n < 10) : (d8 n).toNat = 48 + n := by
  unfold d8; rw [UInt8.toNat_ofNat']; omega
theorem dig_d8 (n : Nat) (h : n < 10) : dig (d8 n) = true := by
  unfold dig; rw [d8_toNat n h]; simp; omega
theorem dig_ne {c : UInt8} (h : dig c = true) : c ≠ 46 ∧ c ≠ 45 := by
  constructor <;> (rintro rfl; revert h; decide)
theorem dig_bd {c : UInt8} (h : dig c = true) : 48 ≤ c.toNat ∧ c.toNat ≤ 57 := by
  unfold dig at h; simpa using h
theorem dig_48 : dig 48 = true := by decide

theorem num_append (a b : List UInt8) : num (a ++ b) = b.foldl (fun a c => 10 * a + (c.toNat - 48)) (num a) := by
  unfold num; rw [List.foldl_append]
theorem num_snoc (l : List UInt8) (c : UInt8) : num (l ++ [c]) = 10 * num l + (c.toNat - 48) := by
  rw [num_append]; rfl
theorem num_000 (l : List UInt8) : num (l ++ [48, 48, 48]) = 1000 * num l := by
  rw [num_append]; simp only [List.foldl_cons, List.foldl_nil]; simp; omega
theorem foldl_eq (l : List UInt8) : ∀ a : Nat, l.foldl (fun a c => 10 * a + (c.toNat - 48)) a = a * 10 ^ l.length + num l := by
  induction l with
  | nil => intro a; simp [num]
  | cons c t ih =>
    intro a
    have e : num (c :: t) = t.foldl (fun a c => 10 * a + (c.toNat - 48)) (10 * 0 + (c.toNat - 48)) := rfl
    rw [List.foldl_cons, ih, e, ih, List.length_cons, Nat.pow_succ, Nat.add_mul]
    rw [Nat.mul_zero, Nat.zero_add, Nat.mul_comm 10 a, Nat.mul_assoc, Nat.mul_comm 10]
    omega
theorem num_app (a b : List UInt8) : num (a ++ b) = num a * 10 ^ b.length + num b := by
  rw [num_append, foldl_eq]
theorem num_lt (l : List UInt8) (h : digs l = true) : num l < 10 ^ l.length := by
  induction l with
  | nil => simp [num]
  | cons c t ih =>
    have hc : dig c = true ∧ digs t = true := by simpa [digs] using h
    have := ih hc.2
    have hb := dig_bd hc.1
    rw [show c :: t = [c] ++ t from rfl, num_app]
    have e : num [c] = c.toNat - 48 := by simp [num]
    rw [e, List.length_append, List.length_singleton, Nat.pow_add, Nat.pow_one]
    have : (c.toNat - 48) * 10 ^ t.length ≤ 9 * 10 ^ t.length := Nat.mul_le_mul_right _ (by omega)
    omega

theorem digs_app (a b : List UInt8) : digs (a ++ b) = (digs a && digs b) := by unfold digs; rw [List.all_append]
theorem digs_nil : digs [] = true := rfl
theorem digs_cons (c : UInt8) (t : List UInt8) : digs (c :: t) = (dig c && digs t) := by simp [digs]

theorem dec_digs (u : Nat) : digs (decDigits u) = true := by
  induction u using Nat.strongRecOn with
  | _ u ih =>
    by_cases h : u < 10
    · rw [decDigits, dif_pos h, digs_cons, digs_nil]
      have := dig_d8 u h; unfold d8 at this; rw [this]; rfl
    · rw [decDigits, dif_neg h, digs_app, ih (u / 10) (by omega), digs_cons, digs_nil]
      have := dig_d8 (u % 10) (by omega); unfold d8 at this; rw [this]; rfl
theorem dec_num (u : Nat) : num (decDigits u) = u := by
  induction u using Nat.strongRecOn with
  | _ u ih =>
    by_cases h : u < 10
    · rw [decDigits, dif_pos h]
      have := d8_toNat u h; unfold d8 at this
      simp only [num, List.foldl_cons, List.foldl_nil]; rw [this]; omega
    · rw [decDigits, dif_neg h, num_snoc, ih (u / 10) (by omega)]
      have := d8_toNat (u % 10) (by omega); unfold d8 at this
      rw [this]; omega
theorem dec_ne (u : Nat) : decDigits u ≠ [] := by
  intro h
  have := Lib.decDigits_length u
  rw [h] at this
  have := Lib.nDigits_pos u
  simp at *
  omega

/-! text without a point -/
theorem digs_no (l : List UInt8) (h : digs l = true) : ∀ c ∈ l, (c != 46) = true := by
  intro c hc
  have := dig_ne (List.all_eq_true.mp h c hc)
  simpa using this.1
theorem whole_plain (w : List UInt8) (h : digs w = true) : whole w = w := by
  unfold whole
  induction w with
  | nil => rfl
  | cons c t ih =>
    have hc : dig c = true ∧ digs t = true := by simpa [digs] using h
    have := (dig_ne hc.1).1
    rw [List.takeWhile_cons, if_pos (by simpa using this), ih hc.2]
theorem rest_plain (w : List UInt8) (h : digs w = true) : rest w = [] := by
  unfold rest
  induction w with
  | nil => rfl
  | cons c t ih =>
    have hc : dig c = true ∧ digs t = true := by simpa [digs] using h
    have := (dig_ne hc.1).1
    rw [List.dropWhile_cons, if_pos (by simpa using this), ih hc.2]
theorem whole_pt (w p : List UInt8) (h : digs w = true) : whole (w ++ 46 :: p) = w := by
  unfold whole
  induction w with
  | nil => rfl
  | cons c t ih =>
    have hc : dig c = true ∧ digs t = true := by simpa [digs] using h
    have := (dig_ne hc.1).1
    rw [List.cons_append, List.takeWhile_cons, if_pos (by simpa using this), ih hc.2]
theorem rest_pt (w p : List UInt8) (h : digs w = true) : rest (w ++ 46 :: p) = 46 :: p := by
  unfold rest
  induction w with
  | nil => rfl
  | cons c t ih =>
    have hc : dig c = true ∧ digs t = true := by simpa [digs] using h
    have := (dig_ne hc.1).1
    rw [List.cons_append, List.dropWhile_cons, if_pos (by simpa using this), ih hc.2]

theorem unsig_plain (w : List UInt8) (h : digs w = true) (h0 : w ≠ []) : unsig w = some (w ++ [48, 48, 48]) := by
  unfold unsig
  rw [rest_plain w h, whole_plain w h]
  simp [h, h0]
theorem unsig_pt (w p : List UInt8) (h : digs w = true) (h0 : w ≠ []) (hp : digs p = true) (hp0 : p ≠ []) (hp3 : p.length ≤ 3) :
    unsig (w ++ 46 :: p) = some (w ++ pad p) := by
  unfold unsig
  rw [rest_pt w p h, whole_pt w p h]
  have e : digs (w ++ pad p) = true := by
    rw [digs_app, h, Bool.true_and]
    unfold pad digs
    refine List.all_eq_true.mpr fun c hc => ?_
    have := List.mem_of_mem_take hc
    rw [List.mem_append] at this
    rcases this with hm | hm
    · exact List.all_eq_true.mp hp c hm
    · have : c = 48 := by simpa using hm
      rw [this]; rfl
  have h3 : ¬ (3 < p.length) := by omega
  simp [hp0, h3, e, h0]
theorem unsig_long (w p : List UInt8) (h : digs w = true) (hp : p = [] ∨ 3 < p.length) : unsig (w ++ 46 :: p) = none := by
  unfold unsig
  rw [rest_pt w p h]
  simp [hp]

/-- What an unsigned text with digits is. -/
theorem unsig_some {b d : List UInt8} (h : unsig b = some d) :
    digs d = true ∧ whole b ≠ [] ∧ digs (whole b) = true ∧ ((b = whole b ∧ d = b ++ [48, 48, 48]) ∨ ∃ p, b = whole b ++ 46 :: p ∧ p ≠ [] ∧ p.length ≤ 3 ∧ digs p = true ∧ d = whole b ++ pad p) := by
  have hb : b = whole b ++ rest b := (List.takeWhile_append_dropWhile).symm
  unfold unsig at h
  split at h
  · rename_i hr
    rw [hr, List.append_nil] at hb
    split at h
    · rename_i hc
      obtain rfl := Option.some.inj h
      refine ⟨?_, hc.1, hc.2, Or.inl ⟨hb, by rw [← hb]⟩⟩
      rw [digs_app, hc.2]; rfl
    · exact absurd h (by simp)
  · rename_i x p hr
    have hx : x = 46 := by
      have hh : rest b ≠ [] := by rw [hr]; simp
      have := List.head_dropWhile_not (fun c : UInt8 => c != 46) hh
      have e : (rest b).head hh = x := by simp [hr]
      unfold rest at e
      rw [e] at this
      simpa using this
    subst hx
    split at h
    · exact absurd h (by simp)
    · rename_i hc
      split at h
      · rename_i hd
        obtain rfl := Option.some.inj h
        rw [hr] at hb
        have hw : digs (whole b) = true ∧ digs (pad p) = true := by
          have := hd.2; rw [digs_app] at this; simpa using this
        have hl : p.length ≤ 3 := by
          rcases Nat.lt_or_ge 3 p.length with h' | h'
          · exact absurd (Or.inr h') hc
          · exact h'
        refine ⟨hd.2, hd.1, hw.1, Or.inr ⟨p, hb, fun e => hc (Or.inl e), hl, ?_, rfl⟩⟩
        have : p = (pad p).take p.length := by
          unfold pad; rw [List.take_take, Nat.min_eq_left hl]; simp
        rw [this]
        unfold digs
        refine List.all_eq_true.mpr fun c hc' => ?_
        exact List.all_eq_true.mp hw.2 c (List.mem_of_mem_take hc')
      · exact absurd h (by simp)

theorem head_dig {w : List UInt8} (h : digs w = true) : ∀ t, neg (w ++ t) = true → w = [] := by
  intro t ht
  cases w with
  | nil => rfl
  | cons c w =>
    have hc : dig c = true ∧ digs w = true := by simpa [digs] using h
    unfold neg at ht
    have : c = 45 := by simpa using ht
    exact absurd this (dig_ne hc.1).2
theorem neg_of (w t : List UInt8) (h : digs w = true) (h0 : w ≠ []) : neg (w ++ t) = false := by
  cases e : neg (w ++ t) with
  | false => rfl
  | true => exact absurd (head_dig h t e) h0

theorem parse_pos (b : List UInt8) (h : neg b = false) : parseS b = match unsig b with | none => (0, 1) | some d => fin false (num d) := by
  unfold parseS body; rw [h]; rfl
theorem parse_neg (b : List UInt8) : parseS (45 :: b) = match unsig b with | none => (0, 1) | some d => fin true (num d) := by
  have : neg (45 :: b) = true := rfl
  unfold parseS body; rw [this]; rfl

/-! back -/
theorem frac_facts (r : Nat) (h : r < 1000) : digs (frac r) = true ∧ frac r ≠ [] ∧ (frac r).length ≤ 3 ∧ num (pad (frac r)) = r ∧ (pad (frac r)).length = 3 := by
  have a := d8_toNat (r / 100) (by omega)
  have b := d8_toNat (r / 10 % 10) (by omega)
  have c := d8_toNat (r % 10) (by omega)
  have a' := dig_d8 (r / 100) (by omega)
  have b' := dig_d8 (r / 10 % 10) (by omega)
  have c' := dig_d8 (r % 10) (by omega)
  unfold frac
  by_cases h1 : r % 100 = 0
  · rw [if_pos h1]
    refine ⟨by simp [digs, a'], by simp, by simp, ?_, by simp [pad]⟩
    simp [pad, num, a]; omega
  · rw [if_neg h1]
    by_cases h2 : r % 10 = 0
    · rw [if_pos h2]
      refine ⟨by simp [digs, a', b'], by simp, by simp, ?_, by simp [pad]⟩
      simp [pad, num, a, b]; omega
    · rw [if_neg h2]
      refine ⟨by simp [digs, a', b', c'], by simp, by simp, ?_, by simp [pad]⟩
      simp [pad, num, a, b, c]; omega

theorem unsig_print (u : Nat) : ∃ d, unsig (printU u) = some d ∧ num d = u := by
  unfold printU tailU
  by_cases h : u % 1000 = 0
  · rw [if_pos h, List.append_nil]
    refine ⟨_, unsig_plain _ (dec_digs _) (dec_ne _), ?_⟩
    rw [num_000, dec_num]; omega
  · rw [if_neg h]
    obtain ⟨f1, f2, f3, f4, f5⟩ := frac_facts (u % 1000) (by omega)
    refine ⟨_, unsig_pt _ _ (dec_digs _) (dec_ne _) f1 f2 f3, ?_⟩
    rw [num_app, f5, f4, dec_num]; omega
theorem printU_neg (u : Nat) : neg (printU u) = false := by
  unfold printU; exact neg_of _ _ (dec_digs _) (dec_ne _)
theorem printU_ne (u : Nat) : printU u ≠ [] := by
  unfold printU; simp [dec_ne]

theorem parse_printU (u : Nat) (h : u ≤ mx) : parseS (printU u) = ((u : Int), 0) := by
  obtain ⟨d, h1, h2⟩ := unsig_print u
  rw [parse_pos _ (printU_neg u), h1]
  show fin false (num d) = _
  rw [h2]; unfold fin; rw [if_neg (by omega)]; rfl
theorem parse_printN (u : Nat) (h : u ≤ mx) : parseS (45 :: printU u) = (-(u : Int), 0) := by
  obtain ⟨d, h1, h2⟩ := unsig_print u
  rw [parse_neg, h1]
  show fin true (num d) = _
  rw [h2]; unfold fin; rw [if_neg (by omega)]; rfl

theorem sane_iff (v : Int) : saneB v = true ↔ (-9007199254740992 ≤ v ∧ v ≤ 9007199254740992) := by
  unfold saneB; simp
theorem sane_abs (v : Int) (h : saneB v = true) : v.natAbs ≤ mx := by
  have := (sane_iff v).mp h; unfold mx; omega

theorem parse_print (v : Int) (h : saneB v = true) : parseS (printS v) = (v, 0) := by
  unfold printS
  rw [h, if_neg (by simp)]
  by_cases hn : v < 0
  · rw [if_pos hn, parse_printN _ (sane_abs v h)]
    rw [show (-(v.natAbs : Int)) = v by omega]
  · rw [if_neg hn, parse_printU _ (sane_abs v h)]
    rw [show ((v.natAbs : Int)) = v by omega]
theorem print_ne (v : Int) (h : saneB v = true) : printS v ≠ [] := by
  unfold printS
  rw [h, if_neg (by simp)]
  by_cases hn : v < 0
  · rw [if_pos hn]; simp
  · rw [if_neg hn]; exact printU_ne _
theorem print_no (v : Int) (h : saneB v = false) : printS v = [] := by
  unfold printS; rw [if_pos h]
theorem parse_nil : parseS [] = (0, 1) := by decide

theorem print_inj (v w : Int) (hv : saneB v = true) (hw : saneB w = true) : printS v = printS w ↔ v = w := by
  constructor
  · intro h
    have a := parse_print v hv
    rw [h, parse_print w hw] at a
    exact (Prod.mk.inj a).1.symm
  · rintro rfl; rfl

/-- What a parsed text has come to. -/
theorem parse_err (l : List UInt8) (h : (parseS l).2 ≠ 0) : (parseS l).1 = 0 ∧ ((parseS l).2 = 1 ∨ (parseS l).2 = 2) := by
  unfold parseS at *
  cases e : unsig (body l) with
  | none => simp
  | some d =>
    rw [e] at h
    simp only [fin] at h ⊢
    split at h
    · rename_i h1; simp [h1]
    · exact absurd rfl h
theorem parse_sane (l : List UInt8) : saneB (parseS l).1 = true := by
  unfold parseS
  cases unsig (body l) with
  | none => rfl
  | some d =>
    simp only [fin]
    split
    · rfl
    · rename_i h
      rw [sane_iff]
      unfold mx at h
      split <;> simp <;> omega

/-- The digits of a number are no more than those of any text that it is. -/
theorem dec_le (w : List UInt8) (h : digs w = true) (h0 : w ≠ []) : (decDigits (num w)).length ≤ w.length := by
  rw [Lib.decDigits_length]
  rcases Nat.eq_zero_or_pos (num w) with h1 | h1
  · rw [h1, Lib.nDigits_small (by omega)]
    cases w with
    | nil => exact absurd rfl h0
    | cons c t => simp
  · have := num_lt w h
    rcases Nat.lt_or_ge w.length (nDigits (num w)) with h2 | h2
    · exfalso
      have hk : ∃ k, nDigits (num w) = k + 1 := ⟨nDigits (num w) - 1, by have := Lib.nDigits_pos (num w); omega⟩
      obtain ⟨k, hk⟩ := hk
      have h3 : 10 ^ k ≤ num w := pow_le (num w) h1 k hk
      have h4 : 10 ^ w.length ≤ 10 ^ k := Nat.pow_le_pow_right (by omega) (by omega)
      omega
    · exact h2
where
  pow_le : ∀ (u : Nat), 1 ≤ u → ∀ k, nDigits u = k + 1 → 10 ^ k ≤ u := by
    intro u
    induction u using Nat.strongRecOn with
    | _ u ih =>
      intro hu k hk
      by_cases h : u < 10
      · rw [Lib.nDigits_small h] at hk
        obtain rfl : k = 0 := by omega
        simpa using hu
      · rw [Lib.nDigits_big h] at hk
        cases k with
        | zero => have := Lib.nDigits_pos (u / 10); omega
        | succ k =>
          have := ih (u / 10) (by omega) (by omega) k (by omega)
          rw [Nat.pow_succ]; omega

theorem pad_len (p : List UInt8) : (pad p).length = 3 := by unfold pad; simp
theorem pad_digs (p : List UInt8) (h : digs p = true) : digs (pad p) = true := by
  unfold pad digs
  refine List.all_eq_true.mpr fun c hc => ?_
  have := List.mem_of_mem_take hc
  rw [List.mem_append] at this
  rcases this with hm | hm
  · exact List.all_eq_true.mp h c hm
  · have : c = 48 := by simpa using hm
    rw [this]; rfl
theorem frac_len (p : List UInt8) (h : digs p = true) (h0 : p ≠ []) (h3 : p.length ≤ 3) : (tailU (num (pad p))).length ≤ p.length + 1 := by
  match p, h, h0, h3 with
  | [], _, h0, _ => exact absurd rfl h0
  | [a], h, _, _ =>
    have ha := dig_bd (c := a) (by simpa [digs] using h)
    have e : num (pad [a]) = 100 * (a.toNat - 48) := by simp [pad, num]; omega
    rw [e]; unfold tailU
    split
    · simp
    · unfold frac; rw [if_pos (by omega)]; simp
  | [a, b], h, _, _ =>
    have hab : dig a = true ∧ dig b = true := by simpa [digs] using h
    have ha := dig_bd hab.1
    have hb := dig_bd hab.2
    have e : num (pad [a, b]) = 100 * (a.toNat - 48) + 10 * (b.toNat - 48) := by simp [pad, num]; omega
    rw [e]; unfold tailU
    split
    · simp
    · unfold frac
      split
      · simp
      · rw [if_pos (by omega)]; simp
  | [a, b, c], _, _, _ =>
    unfold tailU frac
    repeat (first | split | simp)
  | _ :: _ :: _ :: _ :: _, _, _, h3 => simp at h3

theorem print_le (b d : List UInt8) (h : unsig b = some d) : (printU (num d)).length ≤ b.length := by
  obtain ⟨h1, h2, h3, h4⟩ := unsig_some h
  unfold printU
  rcases h4 with ⟨hb, rfl⟩ | ⟨p, hb, hp0, hp3, hpd, rfl⟩
  · rw [num_000, Nat.mul_mod_right, show tailU 0 = [] from rfl, List.append_nil, Nat.mul_div_cancel_left _ (by omega)]
    rw [← hb] at h2 h3
    exact dec_le b h3 h2
  · have hl := num_lt (pad p) (pad_digs p hpd)
    rw [pad_len] at hl
    rw [num_app, pad_len]
    have e1 : (num (whole b) * 10 ^ 3 + num (pad p)) / 1000 = num (whole b) := by omega
    have e2 : (num (whole b) * 10 ^ 3 + num (pad p)) % 1000 = num (pad p) := by omega
    rw [e1, e2, List.length_append]
    have a := dec_le (whole b) h3 h2
    have c := frac_len p hpd hp0 hp3
    have : b.length = (whole b).length + (p.length + 1) := by
      have := congrArg List.length hb
      rw [List.length_append] at this; simpa using this
    omega

theorem body_len (l : List UInt8) : l.length = (body l).length + if neg l then 1 else 0 := by
  unfold body neg
  cases l with
  | nil => rfl
  | cons c t =>
    by_cases h : c = 45
    · subst h; simp
    · simp [h]

theorem print_len (l : List UInt8) (h : (parseS l).2 = 0) : (printS (parseS l).1).length ≤ l.length := by
  have hs := parse_sane l
  have hb := body_len l
  cases e : unsig (body l) with
  | none => unfold parseS at h; rw [e] at h; simp at h
  | some d =>
    have hl := print_le _ _ e
    have ep : parseS l = fin (neg l) (num d) := by unfold parseS; rw [e]
    by_cases hm : mx < num d
    · rw [ep] at h; unfold fin at h; rw [if_pos hm] at h; simp at h
    · have e1 : (parseS l).1 = if neg l then -(num d : Int) else (num d : Int) := by
        rw [ep]; unfold fin; rw [if_neg hm]
      rw [e1] at hs ⊢
      unfold printS
      rw [hs, if_neg (by simp)]
      cases hn : neg l with
      | false =>
        rw [hn] at hb
        simp only [Bool.false_eq_true, if_false] at hb ⊢
        rw [if_neg (by omega), Int.natAbs_natCast]; omega
      | true =>
        rw [hn] at hb
        simp only [if_true] at hb ⊢
        rw [Int.natAbs_neg, Int.natAbs_natCast]
        split
        · simp; omega
        · omega

/-- A zero ahead changes nothing. -/
theorem whole_zero (b : List UInt8) : whole (48 :: b) = 48 :: whole b := rfl
theorem rest_zero (b : List UInt8) : rest (48 :: b) = rest b := rfl
theorem num_zero (l : List UInt8) : num (48 :: l) = num l := rfl
theorem digs_zero (l : List UInt8) : digs (48 :: l) = digs l := by rw [digs_cons]; rfl
theorem unsig_zero (b d : List UInt8) (h : unsig b = some d) : unsig (48 :: b) = some (48 :: d) := by
  unfold unsig at *
  rw [rest_zero, whole_zero]
  cases hr : rest b with
  | nil =>
    rw [hr] at h
    simp only at h ⊢
    by_cases hc : whole b ≠ [] ∧ digs (whole b) = true
    · rw [if_pos hc] at h
      obtain rfl := Option.some.inj h
      rw [if_pos ⟨by simp, by rw [digs_zero]; exact hc.2⟩]; rfl
    · rw [if_neg hc] at h; exact absurd h (by simp)
  | cons x p =>
    rw [hr] at h
    simp only at h ⊢
    by_cases hc : p = [] ∨ 3 < p.length
    · rw [if_pos hc] at h; exact absurd h (by simp)
    · rw [if_neg hc] at h ⊢
      by_cases hd : whole b ≠ [] ∧ digs (whole b ++ pad p) = true
      · rw [if_pos hd] at h
        obtain rfl := Option.some.inj h
        rw [if_pos ⟨by simp, by rw [List.cons_append, digs_zero]; exact hd.2⟩]; rfl
      · rw [if_neg hd] at h; exact absurd h (by simp)
theorem parse_zero_pos (l : List UInt8) (h : (parseS l).2 = 0) (hn : neg l = false) : parseS (48 :: l) = parseS l := by
  rw [parse_pos l hn, parse_pos (48 :: l) rfl]
  rw [parse_pos l hn] at h
  cases e : unsig l with
  | none => rw [e] at h; simp at h
  | some d => rw [unsig_zero _ _ e]; rfl
theorem parse_zero_neg (l : List UInt8) (h : (parseS (45 :: l)).2 = 0) : parseS (45 :: 48 :: l) = parseS (45 :: l) := by
  rw [parse_neg, parse_neg]
  rw [parse_neg] at h
  cases e : unsig l with
  | none => rw [e] at h; simp at h
  | some d => rw [unsig_zero _ _ e]; rfl
theorem parse_ok_ne (l : List UInt8) (h : (parseS l).2 = 0) : l ≠ [] := by
  rintro rfl; rw [parse_nil] at h; simp at h

/-! whole numbers, and other texts -/
theorem print_nat (u : Nat) (h : u ≤ mx) : printS (u : Int) = printU u := by
  unfold printS
  have : saneB (u : Int) = true := by rw [sane_iff]; unfold mx at h; omega
  rw [this, if_neg (by simp), if_neg (by omega), Int.natAbs_natCast]
theorem printU_whole (k r : Nat) (h : r < 1000) : printU (1000 * k + r) = decDigits k ++ tailU r := by
  unfold printU
  rw [show (1000 * k + r) / 1000 = k by omega, show (1000 * k + r) % 1000 = r by omega]
theorem print_neg (v : Int) (h : saneB v = true) (h0 : 0 < v) : printS (-v) = 45 :: printS v := by
  have h' : saneB (-v) = true := by rw [sane_iff] at *; omega
  have e1 : printS v = printU v.natAbs := by
    unfold printS; rw [h, if_neg (by simp), if_neg (by omega)]
  have e2 : printS (-v) = 45 :: printU v.natAbs := by
    unfold printS; rw [h', if_neg (by simp), if_pos (by omega), Int.natAbs_neg]
  rw [e1, e2]
theorem parse_plain (w : List UInt8) (h : digs w = true) (h0 : w ≠ []) (hm : 1000 * num w ≤ mx) : parseS w = (1000 * (num w : Int), 0) := by
  have := neg_of w [] h h0
  rw [List.append_nil] at this
  rw [parse_pos w this, unsig_plain w h h0]
  simp only [fin, num_000]
  rw [if_neg (by omega)]; simp
theorem parse_000 (w : List UInt8) (h : digs w = true) (h0 : w ≠ []) (hm : 1000 * num w ≤ mx) : parseS (w ++ [46, 48, 48, 48]) = (1000 * (num w : Int), 0) := by
  rw [parse_pos _ (neg_of w _ h h0), unsig_pt w [48, 48, 48] h h0 rfl (by simp) (by simp)]
  have e : pad [48, 48, 48] = [48, 48, 48] := rfl
  simp only [fin, e, num_000]
  rw [if_neg (by omega)]; simp
theorem parse_0000 (w : List UInt8) (h : digs w = true) (h0 : w ≠ []) : parseS (w ++ [46, 48, 48, 48, 48]) = (0, 1) := by
  rw [parse_pos _ (neg_of w _ h h0), unsig_long w [48, 48, 48, 48] h (by simp)]

/-! what trims and cuts come to -/
theorem trim_frac (r : Nat) (h0 : r ≠ 0) (h : r < 1000) : Lib.trimRightB [d8 (r / 100), d8 (r / 10 % 10), d8 (r % 10)] 48 = frac r := by
  have e : ∀ n, n < 10 → ((d8 n == 48) = decide (n = 0)) := by decide
  unfold Lib.trimRightB frac
  simp only [List.reverse_cons, List.reverse_nil, List.nil_append, List.cons_append, List.dropWhile_cons]
  rw [e _ (by omega), e _ (by omega), e _ (by omega)]
  by_cases h2 : r % 10 = 0
  · by_cases h1 : r / 10 % 10 = 0
    · have h3 : r % 100 = 0 := by omega
      have h4 : ¬ (r / 100 = 0) := by omega
      simp [h1, h2, h3, h4]
    · have h3 : ¬ (r % 100 = 0) := by omega
      simp [h1, h2, h3]
  · have h3 : ¬ (r % 100 = 0) := by omega
    simp [h2, h3]
theorem dec_1000 (r : Nat) (h : r < 1000) : decDigits (1000 + r) = [49, d8 (r / 100), d8 (r / 10 % 10), d8 (r % 10)] := by
  rw [decDigits, dif_neg (by omega), decDigits, dif_neg (by omega), decDigits, dif_neg (by omega), decDigits, dif_pos (by omega)]
  have e1 : (1000 + r) / 10 / 10 / 10 = 1 := by omega
  have e2 : (1000 + r) / 10 / 10 % 10 = r / 100 := by omega
  have e3 : (1000 + r) / 10 % 10 = r / 10 % 10 := by omega
  have e4 : (1000 + r) % 10 = r % 10 := by omega
  rw [e1, e2, e3, e4]; rfl

theorem index_dot (b : List UInt8) : Lib.index b [46] = if rest b = [] then -1 else ((whole b).length : Int) := by
  induction b with
  | nil => rfl
  | cons c t ih =>
    unfold Lib.index
    by_cases hc : c = 46
    · subst hc; rfl
    · have h1 : (List.isPrefixOf [46] (c :: t)) = false := by
        simp [List.isPrefixOf]; exact fun e => hc e.symm
      have hw : whole (c :: t) = c :: whole t := by unfold whole; rw [List.takeWhile_cons, if_pos (by simpa using hc)]
      have hr : rest (c :: t) = rest t := by unfold rest; rw [List.dropWhile_cons, if_pos (by simpa using hc)]
      rw [h1, hw, hr, ih]
      by_cases h2 : rest t = []
      · simp [h2]
      · simp only [h2, if_false]
        rw [if_neg (by simp), if_neg (by simp)]
        simp
theorem cut_dot (b : List UInt8) : Lib.cut b [46] = (whole b, (rest b).tail, !(rest b).isEmpty) := by
  have hb : b = whole b ++ rest b := (List.takeWhile_append_dropWhile).symm
  unfold Lib.cut
  rw [index_dot]
  by_cases h : rest b = []
  · rw [if_pos h, if_neg (by omega), h]
    rw [h, List.append_nil] at hb
    rw [← hb]; rfl
  · simp only [if_neg h]
    rw [if_pos (by omega)]
    have e1 : b.take (whole b).length = whole b := by
      conv => lhs; arg 2; rw [hb]
      simp
    have e2 : b.drop ((whole b).length + 1) = (rest b).tail := by
      conv => lhs; arg 2; rw [hb]
      rw [List.drop_append]; simp
    simp only [Int.toNat_natCast, List.length_singleton, e1, e2]
    simp [h]
end Go.Proofs.YtkoeggjfdcpokaaGreatDoor.Np
namespace Go.Proofs.YtkoeggjfdcpokaaGreatDoor.Cd
open Go.Proofs.YtkoeggjfdcpokaaGreatDoor
open Go.Proofs.YtkoeggjfdcpokaaGreatDoor.Sl (T Mt Sel Tf want txtAt parseN saneS prS sg tf tS PE)

/-- What is asked: a selector, an op, a threshold. -/
abbrev Ex := Sel × Int × Int
def noX : Ex := (Sl.none_, 0, 0)
def sane (x : Ex) : Bool := saneS x.1 && decide (1 ≤ x.2.1 ∧ x.2.1 ≤ 6) && Np.saneB x.2.2
def sign (k : Int) : T := if k = 1 then [62] else if k = 2 then [62, 61] else if k = 3 then [60] else if k = 4 then [60, 61] else if k = 5 then [61, 61] else if k = 6 then [33, 61] else []
def holds (k v t : Int) : Bool :=
  if k = 1 then decide (t < v) else if k = 2 then decide (t ≤ v) else if k = 3 then decide (v < t) else if k = 4 then decide (v ≤ t) else if k = 5 then decide (v = t) else if k = 6 then decide (v ≠ t) else false
def other (k : Int) : Int := if k = 1 then 4 else if k = 2 then 3 else if k = 3 then 2 else if k = 4 then 1 else if k = 5 then 6 else if k = 6 then 5 else 0
def pr (x : Ex) : T := if sane x then prS x.1 ++ 32 :: (sign x.2.1 ++ 32 :: Np.printS x.2.2) else []
def opAt (l : List Tf) (i : Nat) : Int :=
  if want l i 4 (sg [62]) = 0 then 1 else if want l i 4 (sg [62, 61]) = 0 then 2 else if want l i 4 (sg [60]) = 0 then 3 else if want l i 4 (sg [60, 61]) = 0 then 4 else if want l i 4 (sg [61, 61]) = 0 then 5 else if want l i 4 (sg [33, 61]) = 0 then 6 else 0
abbrev Rx := Ex × Nat × Int
/-- What no op stands at is. -/
def noOp (l : List Tf) (i : Nat) : Int := if want l i 4 ⟨#[]⟩ = 0 then 1 else want l i 4 ⟨#[]⟩
def behind (l : List Tf) (s : Sel) (i : Nat) : Rx :=
  if opAt l i = 0 then (noX, min i l.length, noOp l i)
  else if want l (i + 1) 2 ⟨#[]⟩ ≠ 0 then (noX, min (i + 1) l.length, want l (i + 1) 2 ⟨#[]⟩)
  else if (Np.parseS (txtAt l (i + 1)).data.toList).2 ≠ 0 then (noX, i + 1, (Np.parseS (txtAt l (i + 1)).data.toList).2)
  else ((s, opAt l i, (Np.parseS (txtAt l (i + 1)).data.toList).1), i + 2, 0)
def plain (l : List Tf) (i : Nat) : Rx :=
  if (parseN l i).2.2 ≠ 0 then (noX, (parseN l i).2.1, (parseN l i).2.2) else behind l (parseN l i).1 (parseN l i).2.1
/-- Within so many more signs. -/
def within : Nat → List Tf → Nat → Rx
  | 0, l, i => if want l i 4 (sg [40]) ≠ 0 then plain l i else (noX, i, 8)
  | f + 1, l, i =>
    if want l i 4 (sg [40]) ≠ 0 then plain l i
    else if (within f l (i + 1)).2.2 ≠ 0 then (noX, (within f l (i + 1)).2.1, (within f l (i + 1)).2.2)
    else if want l (within f l (i + 1)).2.1 4 (sg [41]) ≠ 0 then (noX, min (within f l (i + 1)).2.1 l.length, want l (within f l (i + 1)).2.1 4 (sg [41]))
    else ((within f l (i + 1)).1, (within f l (i + 1)).2.1 + 1, 0)
def parse (l : List Tf) (i : Int) : Rx := if i < 0 then (noX, 0, 3) else within 32 l i.toNat

/-! ### what holds -/
theorem other_range {k : Int} (h : 1 ≤ k ∧ k ≤ 6) : 1 ≤ other k ∧ other k ≤ 6 := by
  unfold other
  repeat' split
  all_goals omega
theorem other_two {k : Int} (h : 1 ≤ k ∧ k ≤ 6) : other (other k) = k := by
  have : k = 1 ∨ k = 2 ∨ k = 3 ∨ k = 4 ∨ k = 5 ∨ k = 6 := by omega
  rcases this with rfl | rfl | rfl | rfl | rfl | rfl <;> rfl
theorem holds_other {k : Int} (h : 1 ≤ k ∧ k ≤ 6) (v t : Int) : holds (other k) v t = !holds k v t := by
  have : k = 1 ∨ k = 2 ∨ k = 3 ∨ k = 4 ∨ k = 5 ∨ k = 6 := by omega
  rcases this with rfl | rfl | rfl | rfl | rfl | rfl <;> simp only [other, holds] <;> rw [Bool.eq_iff_iff] <;> simp <;> omega
theorem other_no {k : Int} (h : ¬ (1 ≤ k ∧ k ≤ 6)) : other k = 0 := by
  unfold other
  repeat' split
  all_goals omega
theorem holds_no {k : Int} (h : ¬ (1 ≤ k ∧ k ≤ 6)) (v t : Int) : holds k v t = false := by
  unfold holds
  repeat' split
  all_goals first | omega | rfl

/-! ### what is read -/
theorem opAt_range (l : List Tf) (i : Nat) : 0 ≤ opAt l i ∧ opAt l i ≤ 6 := by
  unfold opAt
  repeat' split
  all_goals omega
theorem opAt_lt {l : List Tf} {i : Nat} (h : opAt l i ≠ 0) : i < l.length := by
  unfold opAt at h
  repeat' split at h
  all_goals first | exact absurd rfl h | (rename_i hw; exact Sl.want_lt (by rw [hw]; decide))
theorem noOp_three {l : List Tf} {i : Nat} : noOp l i = 3 ↔ l.length ≤ i := by
  unfold noOp
  by_cases h : want l i 4 ⟨#[]⟩ = 0
  · rw [if_pos h]
    have := Sl.want_lt (l := l) (i := i) (k := 4) (s := ⟨#[]⟩) (by omega)
    omega
  · rw [if_neg h]
    exact Sl.want_three
theorem behind_no {l : List Tf} {s : Sel} {i : Nat} (h : (behind l s i).2.2 ≠ 0) : (behind l s i).1 = noX ∧ PE l i (behind l s i).2.1 (behind l s i).2.2 := by
  unfold behind at h ⊢
  split at h
  · rename_i h1
    rw [if_pos h1]
    exact ⟨rfl, Sl.pe_at (Nat.le_refl _) noOp_three⟩
  · rename_i h1
    rw [if_neg h1]
    have hlt := opAt_lt h1
    split at h
    · rename_i h2
      rw [if_pos h2]
      exact ⟨rfl, Sl.pe_at (by omega) Sl.want_three⟩
    · rename_i h2
      rw [if_neg h2]
      have hlt2 : i + 1 < l.length := Sl.want_lt (l := l) (i := i + 1) (k := 2) (s := ⟨#[]⟩) (by omega)
      split at h
      · rename_i h3
        rw [if_pos h3]
        refine ⟨rfl, by show i + 1 ≤ _; omega, by show _ ≤ i + 1; omega, ?_⟩
        have := (Np.parse_err _ h3).2
        show (Np.parseS (txtAt l (i + 1)).data.toList).2 = 3 ↔ i + 1 = l.length
        omega
      · exact absurd rfl h
theorem behind_ok {l : List Tf} {s : Sel} {i : Nat} (hs : saneS s = true) (h : (behind l s i).2.2 = 0) : sane (behind l s i).1 = true ∧ (behind l s i).2.1 = i + 2 ∧ i + 2 ≤ l.length := by
  unfold behind at h ⊢
  split at h
  · rename_i h1
    exfalso
    have : noOp l i = 0 := h
    unfold noOp at this
    split at this <;> omega
  · rename_i h1
    rw [if_neg h1]
    split at h
    · rename_i h2
      exact absurd h h2
    · rename_i h2
      rw [if_neg h2]
      have hlt2 : i + 1 < l.length := Sl.want_lt (l := l) (i := i + 1) (k := 2) (s := ⟨#[]⟩) (by omega)
      split at h
      · rename_i h3
        exact absurd h h3
      · rename_i h3
        rw [if_neg h3]
        refine ⟨?_, rfl, by omega⟩
        unfold sane
        have := opAt_range l i
        simp only [hs, Np.parse_sane, Bool.true_and, Bool.and_true, decide_eq_true_eq]
        omega
theorem plain_ok {l : List Tf} {i : Nat} (h : (plain l i).2.2 = 0) : sane (plain l i).1 = true ∧ i + 2 < (plain l i).2.1 ∧ (plain l i).2.1 ≤ l.length := by
  unfold plain at h ⊢
  split at h
  · rename_i h1
    exact absurd h h1
  · rename_i h1
    rw [if_neg h1]
    have h1 : (parseN l i).2.2 = 0 := by simpa using h1
    obtain ⟨hs, h2, h3⟩ := Sl.parseN_ok (l := l) (i := i) (s := (parseN l i).1) (n := (parseN l i).2.1) (by rw [← h1])
    obtain ⟨b1, b2, b3⟩ := behind_ok hs h
    exact ⟨b1, by omega, by omega⟩
theorem plain_no {l : List Tf} {i : Nat} (h : (plain l i).2.2 ≠ 0) : (plain l i).1 = noX ∧ PE l i (plain l i).2.1 (plain l i).2.2 := by
  unfold plain at h ⊢
  split at h
  · rename_i h1
    rw [if_pos h1]
    exact ⟨rfl, (Sl.parseN_no (l := l) (i := i) (s := (parseN l i).1) (n := (parseN l i).2.1) rfl h1).2⟩
  · rename_i h1
    rw [if_neg h1]
    have h1 : (parseN l i).2.2 = 0 := by simpa using h1
    obtain ⟨hs, h2, h3⟩ := Sl.parseN_ok (l := l) (i := i) (s := (parseN l i).1) (n := (parseN l i).2.1) (by rw [← h1])
    obtain ⟨b1, b2, b3, b4⟩ := behind_no h
    exact ⟨b1, b2, by omega, b4⟩
theorem within_ok : ∀ (f : Nat) (l : List Tf) (i : Nat), (within f l i).2.2 = 0 → sane (within f l i).1 = true ∧ i + 2 < (within f l i).2.1 ∧ (within f l i).2.1 ≤ l.length
  | 0, l, i, h => by
    unfold within at h ⊢
    split at h
    · rename_i h1
      rw [if_pos h1]
      exact plain_ok h
    · have h8 : (8 : Int) = 0 := h
      omega
  | f + 1, l, i, h => by
    unfold within at h ⊢
    split at h
    · rename_i h1
      rw [if_pos h1]
      exact plain_ok h
    · rename_i h1
      rw [if_neg h1]
      split at h
      · rename_i h2
        exact absurd h h2
      · rename_i h2
        rw [if_neg h2]
        split at h
        · rename_i h3
          exact absurd h h3
        · rename_i h3
          rw [if_neg h3]
          obtain ⟨a, b, c⟩ := within_ok f l (i + 1) (by omega)
          have := Sl.want_lt (l := l) (i := (within f l (i + 1)).2.1) (k := 4) (s := sg [41]) (by omega)
          exact ⟨a, by show i + 2 < _ + 1; omega, by show _ + 1 ≤ _; omega⟩
theorem within_no : ∀ (f : Nat) (l : List Tf) (i : Nat), (within f l i).2.2 ≠ 0 → (within f l i).1 = noX ∧ PE l i (within f l i).2.1 (within f l i).2.2
  | 0, l, i, h => by
    unfold within at h ⊢
    split at h
    · rename_i h1
      rw [if_pos h1]
      exact plain_no h
    · rename_i h1
      rw [if_neg h1]
      have := Sl.want_lt (l := l) (i := i) (k := 4) (s := sg [40]) (by omega)
      exact ⟨rfl, by show i ≤ _; omega, by show _ ≤ i; omega, by show (8 : Int) = 3 ↔ i = l.length; omega⟩
  | f + 1, l, i, h => by
    unfold within at h ⊢
    split at h
    · rename_i h1
      rw [if_pos h1]
      exact plain_no h
    · rename_i h1
      rw [if_neg h1]
      have hlt := Sl.want_lt (l := l) (i := i) (k := 4) (s := sg [40]) (by omega)
      split at h
      · rename_i h2
        rw [if_pos h2]
        obtain ⟨_, a, b, c⟩ := within_no f l (i + 1) h2
        exact ⟨rfl, a, by show _ ≤ (within f l (i + 1)).2.1; omega, c⟩
      · rename_i h2
        rw [if_neg h2]
        split at h
        · rename_i h3
          rw [if_pos h3]
          obtain ⟨a, b, c⟩ := within_ok f l (i + 1) (by omega)
          exact ⟨rfl, Sl.pe_at (by omega) Sl.want_three⟩
        · exact absurd rfl h
end Go.Proofs.YtkoeggjfdcpokaaGreatDoor.Cd
namespace Go.Proofs.YtkoeggjfdcpokaaGreatDoor.Cd
open Go.Proofs.YtkoeggjfdcpokaaGreatDoor
open Go.Proofs.YtkoeggjfdcpokaaGreatDoor.Sl (T Mt Sel Tf want txtAt parseN saneS prS sg tf tS PE chS)

/-! ### the tokens of what is printed -/
def tX (x : Ex) : List (Nat × T) := tS x.1 ++ [(4, sign x.2.1), (2, Np.printS x.2.2)]
def chX (x : Ex) : List (T × (Nat × T)) := chS x.1 ++ [([32], (4, sign x.2.1)), ([32], (2, Np.printS x.2.2))]
theorem sane_parts {x : Ex} (h : sane x = true) : saneS x.1 = true ∧ (1 ≤ x.2.1 ∧ x.2.1 ≤ 6) ∧ Np.saneB x.2.2 = true := by
  unfold sane at h
  simp only [Bool.and_eq_true, decide_eq_true_eq] at h
  exact ⟨h.1.1, h.1.2, h.2⟩
theorem sign_good {k : Int} (h : 1 ≤ k ∧ k ≤ 6) : Lx.Good 4 (sign k) := by
  have : k = 1 ∨ k = 2 ∨ k = 3 ∨ k = 4 ∨ k = 5 ∨ k = 6 := by omega
  rcases this with rfl | rfl | rfl | rfl | rfl | rfl
  · exact Sl.good_sign (c := 62) (by decide)
  · exact Sl.good_two (c := 62) (d := 61) (by decide)
  · exact Sl.good_sign (c := 60) (by decide)
  · exact Sl.good_two (c := 60) (d := 61) (by decide)
  · exact Sl.good_two (c := 61) (d := 61) (by decide)
  · exact Sl.good_two (c := 33) (d := 61) (by decide)
theorem sign_stop (k : Int) (l : T) : Lx.Stop 4 (sign k) (32 :: l) :=
  ⟨fun h => by simp at h, fun h => by simp at h, fun _ c _ => by show Lx.two c.toNat 32 = false; simp [Lx.two]⟩
theorem dig_isD {c : UInt8} (h : Np.dig c = true) : Lx.isD c = true := by
  unfold Np.dig at h
  unfold Lx.isD Lp.digB
  simpa using h
theorem dig_isL {c : UInt8} (h : Np.dig c = true) : Lx.isL c = false := by
  have := Np.dig_bd h
  rw [Bool.eq_false_iff]
  intro hh
  unfold Lx.isL Lp.letB at hh
  simp only [Bool.or_eq_true, Bool.and_eq_true, decide_eq_true_eq] at hh
  omega
theorem digs_num {w : T} (h : Np.digs w = true) : w.all Lx.numC = true := by
  unfold Np.digs at h
  rw [List.all_eq_true] at h ⊢
  intro c hc
  unfold Lx.numC
  rw [dig_isD (h c hc)]
  simp
theorem printU_good (u : Nat) : ∃ c w, Np.printU u = c :: w ∧ Np.dig c = true ∧ w.all Lx.numC = true := by
  unfold Np.printU
  have hd := Np.dec_digs (u / 1000)
  obtain ⟨c, w, e⟩ := List.exists_cons_of_ne_nil (Np.dec_ne (u / 1000))
  rw [e] at hd ⊢
  rw [Np.digs_cons, Bool.and_eq_true] at hd
  refine ⟨c, _, rfl, hd.1, ?_⟩
  show (w ++ Np.tailU (u % 1000)).all Lx.numC = true
  rw [List.all_append, digs_num hd.2, Bool.true_and]
  unfold Np.tailU
  split
  · rfl
  · have := (Np.frac_facts (u % 1000) (by omega)).1
    rw [List.all_cons, digs_num this]
    rfl
theorem num_good {v : Int} (h : Np.saneB v = true) : Lx.Good 2 (Np.printS v) := by
  unfold Np.printS
  rw [if_neg (by rw [h]; decide)]
  obtain ⟨c, w, e, hc, hw⟩ := printU_good v.natAbs
  refine .inr (.inl ⟨rfl, ?_⟩)
  split
  · refine ⟨45, _, rfl, by decide, ?_, ?_⟩
    · rw [e]
      show (Lx.isD 45 || (decide ((45 : UInt8).toNat = 45) && Lx.isD c)) = true
      rw [dig_isD hc]
      decide
    · rw [e, List.all_cons, hw]
      unfold Lx.numC
      rw [dig_isD hc]
      simp
  · exact ⟨c, w, e, dig_isL hc, by rw [dig_isD hc]; rfl, hw⟩
theorem wh_blank : Lx.Wh [32] := fun _ => rfl
theorem asm_chX {x : Ex} (h : sane x = true) (f : T) : Lx.asm (chX x) f = pr x ++ f := by
  obtain ⟨h1, _, _⟩ := sane_parts h
  unfold chX pr
  rw [if_pos h, Sl.asm_app, Sl.asm_prS h1]
  show prS x.1 ++ ([32] ++ (sign x.2.1 ++ ([32] ++ (Np.printS x.2.2 ++ f)))) = _
  simp
theorem chain_chX {x : Ex} (h : sane x = true) (L : List (T × (Nat × T))) (f : T) (hL : Lx.Chain L f) (hn : ∀ c r, Lx.asm L f = c :: r → Lx.numC c = false) : Lx.Chain (chX x ++ L) f := by
  obtain ⟨h1, h2, h3⟩ := sane_parts h
  unfold chX
  rw [List.append_assoc]
  refine Sl.chain_prS h1 _ f ⟨wh_blank, sign_good h2, ?_, wh_blank, num_good h3, ⟨fun h => by simp at h, fun _ => hn, fun h => by simp at h⟩, hL⟩ ?_ ?_
  · exact sign_stop _ _
  · show (32 : UInt8).toNat ≠ 61
    decide
  · intro _ c r hc
    have hc' : (32 : UInt8) :: (sign x.2.1 ++ Lx.asm ([([32], (2, Np.printS x.2.2))] ++ L) f) = c :: r := hc
    injection hc' with h1 _
    rw [← h1]
    decide

/-! ### within signs -/
def opens (d : Nat) : List (T × (Nat × T)) := List.replicate d ([], (4, [40]))
def shuts (d : Nat) : List (T × (Nat × T)) := List.replicate d ([], (4, [41]))
theorem chain_shuts : ∀ d, Lx.Chain (shuts d) [] ∧ ∀ c r, Lx.asm (shuts d) [] = c :: r → Lx.numC c = false
  | 0 => ⟨rfl, fun c r h => by simp [shuts, Lx.asm] at h⟩
  | d + 1 => by
    obtain ⟨h, _⟩ := chain_shuts d
    refine ⟨⟨Lx.wh_nil, Sl.good_sign (by decide), Lx.stop_sign (by simp [Lx.two]), h⟩, fun c r h => ?_⟩
    have h' : (41 : UInt8) :: Lx.asm (shuts d) [] = c :: r := h
    injection h' with h1 _
    rw [← h1]
    decide
theorem chain_opens (L : List (T × (Nat × T))) (f : T) (hL : Lx.Chain L f) : ∀ d, Lx.Chain (opens d ++ L) f
  | 0 => hL
  | d + 1 => ⟨Lx.wh_nil, Sl.good_sign (by decide), Lx.stop_sign (by simp [Lx.two]), chain_opens L f hL d⟩
theorem asm_opens (L : List (T × (Nat × T))) (f : T) : ∀ d, Lx.asm (opens d ++ L) f = List.replicate d 40 ++ Lx.asm L f
  | 0 => rfl
  | d + 1 => by
    show [] ++ ([40] ++ Lx.asm (opens d ++ L) f) = _
    rw [asm_opens L f d]
    rfl
theorem asm_shuts : ∀ d, Lx.asm (shuts d) [] = List.replicate d 41
  | 0 => rfl
  | d + 1 => by
    show [] ++ ([41] ++ Lx.asm (shuts d) []) = _
    rw [asm_shuts d]
    rfl
/-- The text within so many signs. -/
def prW (d : Nat) (x : Ex) : T := List.replicate d 40 ++ (pr x ++ List.replicate d 41)
def tW (d : Nat) (x : Ex) : List (Nat × T) := List.replicate d (4, [40]) ++ (tX x ++ List.replicate d (4, [41]))
theorem tX_len {x : Ex} (h : sane x = true) : (tX x).length ≤ 36 := by
  have := Sl.tS_len (sane_parts h).1
  unfold tX
  rw [List.length_append]
  simp; omega
theorem lex_within {x : Ex} (h : sane x = true) {d : Nat} (hd : d ≤ 40) : (Lx.lex 65536 (prW d x)).1.map Lx.flat = tW d x ∧ (Lx.lex 65536 (prW d x)).2.1 = [] ∧ (Lx.lex 65536 (prW d x)).2.2 = 0 := by
  obtain ⟨hs, hn⟩ := chain_shuts d
  have hc := chain_opens _ _ (chain_chX h (shuts d) [] hs hn) d
  have hlen := tX_len h
  have hX : (chX x).map (·.2) = tX x := by
    unfold chX tX chS
    rw [List.map_append, List.map_map]
    congr 1
    exact List.map_id _
  have hXl : (chX x).length = (tX x).length := by rw [← hX, List.length_map]
  have hl : (opens d ++ (chX x ++ shuts d)).length ≤ 65536 := by
    rw [List.length_append, List.length_append, hXl]
    simp [opens, shuts]; omega
  have := Lx.lex_chain _ _ 65536 hl hc
  rw [asm_opens, Sl.asm_app, asm_chX h, asm_shuts] at this
  refine ⟨?_, this.2⟩
  show (Lx.lex 65536 (List.replicate d 40 ++ (pr x ++ List.replicate d 41))).1.map Lx.flat = _
  rw [this.1, List.map_append, List.map_append, hX]
  simp [opens, shuts, tW]

/-! ### what is read of them -/
theorem opAt_sign {l : List Tf} {i : Nat} {k : Int} {r : List Tf} (hk : 1 ≤ k ∧ k ≤ 6) (h : l.drop i = tf (4, sign k) :: r) : opAt l i = k := by
  have w : ∀ b : T, b ≠ [] → want l i 4 (sg b) = if sign k = b then 0 else 1 := fun b hb => Sl.want_sign h b hb
  unfold opAt
  rw [w _ (by decide), w _ (by decide), w _ (by decide), w _ (by decide), w _ (by decide), w _ (by decide)]
  have : k = 1 ∨ k = 2 ∨ k = 3 ∨ k = 4 ∨ k = 5 ∨ k = 6 := by omega
  rcases this with rfl | rfl | rfl | rfl | rfl | rfl <;> decide
theorem plain_print {x : Ex} (h : sane x = true) (a b : List Tf) : plain (a ++ ((tX x).map tf ++ b)) a.length = (x, a.length + (tX x).length, 0) := by
  obtain ⟨h1, h2, h3⟩ := sane_parts h
  have e : a ++ ((tX x).map tf ++ b) = a ++ ((tS x.1).map tf ++ (tf (4, sign x.2.1) :: tf (2, Np.printS x.2.2) :: b)) := by
    unfold tX
    rw [List.map_append]
    simp
  have hp := Sl.parse_print h1 a (tf (4, sign x.2.1) :: tf (2, Np.printS x.2.2) :: b) (fun _ => by
    rw [Sl.want_here]
    have : ¬ ((tf (4, sign x.2.1)).1 = 4 ∧ ((sg [123]).size = 0 ∨ (tf (4, sign x.2.1)).2 = sg [123])) := by
      rintro ⟨_, hh | hh⟩
      · rw [Sl.sg_size] at hh; simp at hh
      · have := Sl.sg_inj hh
        have hk : x.2.1 = 1 ∨ x.2.1 = 2 ∨ x.2.1 = 3 ∨ x.2.1 = 4 ∨ x.2.1 = 5 ∨ x.2.1 = 6 := by omega
        rcases hk with hk | hk | hk | hk | hk | hk <;> rw [hk] at this <;> simp [sign] at this
    rw [if_neg this]
    decide)
  rw [e]
  unfold plain
  rw [hp]
  have d0 : (a ++ ((tS x.1).map tf ++ (tf (4, sign x.2.1) :: tf (2, Np.printS x.2.2) :: b))).drop (a.length + (tS x.1).length) = tf (4, sign x.2.1) :: tf (2, Np.printS x.2.2) :: b := by
    rw [← List.drop_drop, List.drop_left, ← List.length_map (f := tf), List.drop_left]
  have d1 := Sl.drop_next d0
  generalize a ++ ((tS x.1).map tf ++ (tf (4, sign x.2.1) :: tf (2, Np.printS x.2.2) :: b)) = l at d0 d1 ⊢
  show (if (0 : Int) ≠ 0 then _ else behind l x.1 (a.length + (tS x.1).length)) = _
  rw [if_neg (by decide)]
  have ho := opAt_sign h2 d0
  have hw : want l (a.length + (tS x.1).length + 1) 2 ⟨#[]⟩ = 0 := by
    rw [Sl.want_in d1]
    rfl
  have ht : txtAt l (a.length + (tS x.1).length + 1) = sg (Np.printS x.2.2) := Sl.txt_in d1
  unfold behind
  rw [ho, hw, ht]
  have hq : Np.parseS (sg (Np.printS x.2.2)).data.toList = (x.2.2, 0) := Np.parse_print x.2.2 h3
  rw [hq, if_neg (by omega), if_neg (by decide), if_neg (by simp)]
  unfold tX
  rw [List.length_append]
  rfl
theorem within_open {l : List Tf} {i : Nat} {r : List Tf} (h : l.drop i = tf (4, [40]) :: r) : want l i 4 (sg [40]) = 0 := by
  rw [Sl.want_sign h [40] (by decide)]
  rfl
/-- Within d signs more, d at most so many as may be. -/
theorem within_print {x : Ex} (h : sane x = true) : ∀ (d f : Nat) (a b : List Tf), d ≤ f →
    within f (a ++ (List.replicate d (tf (4, [40])) ++ ((tX x).map tf ++ (List.replicate d (tf (4, [41])) ++ b)))) a.length = (x, a.length + d + (tX x).length + d, 0)
  | 0, f, a, b, _ => by
    have hw : want (a ++ ((tX x).map tf ++ b)) a.length 4 (sg [40]) ≠ 0 := by
      have d0 : (a ++ ((tX x).map tf ++ b)).drop a.length = tf (1, x.1.1.data.toList) :: (((if x.1.2 = [] then [] else Sl.tM true x.1.2) ++ [(4, sign x.2.1), (2, Np.printS x.2.2)]).map tf ++ b) := by
        rw [List.drop_left]
        rfl
      rw [Sl.want_in d0]
      rw [if_neg (fun e => by have : (1 : Int) = 4 := e.1; omega)]
      decide
    have hp := plain_print h a b
    cases f with
    | zero =>
      show within 0 (a ++ ((tX x).map tf ++ b)) a.length = _
      unfold within
      rw [if_pos hw, hp]
      rfl
    | succ f =>
      show within (f + 1) (a ++ ((tX x).map tf ++ b)) a.length = _
      unfold within
      rw [if_pos hw, hp]
      rfl
  | d + 1, 0, _, _, hd => by omega
  | d + 1, f + 1, a, b, hd => by
    have e : a ++ (List.replicate (d + 1) (tf (4, [40])) ++ ((tX x).map tf ++ (List.replicate (d + 1) (tf (4, [41])) ++ b))) =
        (a ++ [tf (4, [40])]) ++ (List.replicate d (tf (4, [40])) ++ ((tX x).map tf ++ (List.replicate d (tf (4, [41])) ++ (tf (4, [41]) :: b)))) := by
      have e1 : List.replicate (d + 1) (tf (4, [41])) ++ b = List.replicate d (tf (4, [41])) ++ (tf (4, [41]) :: b) := by
        rw [List.replicate_succ']
        simp
      rw [e1, List.replicate_succ]
      simp
    have ih := within_print h d f (a ++ [tf (4, [40])]) (tf (4, [41]) :: b) (by omega)
    have d0 : ((a ++ [tf (4, [40])]) ++ (List.replicate d (tf (4, [40])) ++ ((tX x).map tf ++ (List.replicate d (tf (4, [41])) ++ (tf (4, [41]) :: b))))).drop a.length = tf (4, [40]) :: (List.replicate d (tf (4, [40])) ++ ((tX x).map tf ++ (List.replicate d (tf (4, [41])) ++ (tf (4, [41]) :: b)))) := by
      rw [List.append_assoc, List.drop_left]
      rfl
    have d1 : ((a ++ [tf (4, [40])]) ++ (List.replicate d (tf (4, [40])) ++ ((tX x).map tf ++ (List.replicate d (tf (4, [41])) ++ (tf (4, [41]) :: b))))).drop (a.length + 1 + d + (tX x).length + d) = tf (4, [41]) :: b := by
      have hl : a.length + 1 + d + (tX x).length + d = ((a ++ [tf (4, [40])]) ++ (List.replicate d (tf (4, [40])) ++ ((tX x).map tf ++ List.replicate d (tf (4, [41]))))).length := by
        simp; omega
      rw [hl, show (a ++ [tf (4, [40])]) ++ (List.replicate d (tf (4, [40])) ++ ((tX x).map tf ++ (List.replicate d (tf (4, [41])) ++ (tf (4, [41]) :: b)))) = ((a ++ [tf (4, [40])]) ++ (List.replicate d (tf (4, [40])) ++ ((tX x).map tf ++ List.replicate d (tf (4, [41]))))) ++ (tf (4, [41]) :: b) by simp]
      exact List.drop_left
    rw [e]
    have ha : (a ++ [tf (4, [40])]).length = a.length + 1 := by simp
    rw [ha] at ih
    generalize (a ++ [tf (4, [40])]) ++ (List.replicate d (tf (4, [40])) ++ ((tX x).map tf ++ (List.replicate d (tf (4, [41])) ++ (tf (4, [41]) :: b)))) = l at ih d0 d1 ⊢
    have h0 := within_open d0
    have h1 : want l (a.length + 1 + d + (tX x).length + d) 4 (sg [41]) = 0 := by
      rw [Sl.want_sign d1 [41] (by decide)]
      rfl
    unfold within
    rw [if_neg (by rw [h0]; decide), ih]
    show (if (0 : Int) ≠ 0 then _ else if want l (a.length + 1 + d + (tX x).length + d) 4 (sg [41]) ≠ 0 then _ else (x, a.length + 1 + d + (tX x).length + d + 1, (0 : Int))) = _
    rw [if_neg (by decide), if_neg (by rw [h1]; decide)]
    congr 2
    omega
/-- One more than may be. -/
theorem within_deep : ∀ (f : Nat) (a b : List Tf), within f (a ++ (List.replicate (f + 1) (tf (4, [40])) ++ b)) a.length = (noX, a.length + f, 8)
  | 0, a, b => by
    have d0 : (a ++ (List.replicate 1 (tf (4, [40])) ++ b)).drop a.length = tf (4, [40]) :: b := by rw [List.drop_left]; rfl
    have h0 := within_open d0
    unfold within
    rw [if_neg (by rw [h0]; decide)]
    rfl
  | f + 1, a, b => by
    have e : a ++ (List.replicate (f + 2) (tf (4, [40])) ++ b) = (a ++ [tf (4, [40])]) ++ (List.replicate (f + 1) (tf (4, [40])) ++ b) := by
      rw [List.replicate_succ]
      simp
    have ih := within_deep f (a ++ [tf (4, [40])]) b
    have d0 : ((a ++ [tf (4, [40])]) ++ (List.replicate (f + 1) (tf (4, [40])) ++ b)).drop a.length = tf (4, [40]) :: (List.replicate (f + 1) (tf (4, [40])) ++ b) := by
      rw [List.append_assoc, List.drop_left]
      rfl
    have ha : (a ++ [tf (4, [40])]).length = a.length + 1 := by simp
    rw [e]
    rw [ha] at ih
    generalize (a ++ [tf (4, [40])]) ++ (List.replicate (f + 1) (tf (4, [40])) ++ b) = l at ih d0 ⊢
    have h0 := within_open d0
    unfold within
    rw [if_neg (by rw [h0]; decide), ih]
    show (if (8 : Int) ≠ 0 then ((noX, a.length + 1 + f, (8 : Int)) : Rx) else _) = _
    rw [if_pos (by decide)]
    congr 2
    omega
theorem parse_within {x : Ex} (h : sane x = true) {d : Nat} (hd : d ≤ 32) : parse ((tW d x).map tf) 0 = (x, (tW d x).length, 0) := by
  have := within_print h d 32 [] [] hd
  have e : (tW d x).map tf = [] ++ (List.replicate d (tf (4, [40])) ++ ((tX x).map tf ++ (List.replicate d (tf (4, [41])) ++ []))) := by
    unfold tW
    simp
  have el : (tW d x).length = ([] : List Tf).length + d + (tX x).length + d := by
    unfold tW
    simp; omega
  unfold parse
  rw [if_neg (by decide), e, el]
  exact this
theorem parse_deep {x : Ex} {d : Nat} (hd : 33 ≤ d) : parse ((tW d x).map tf) 0 = (noX, 32, 8) := by
  have e : (tW d x).map tf = [] ++ (List.replicate (32 + 1) (tf (4, [40])) ++ (List.replicate (d - 33) (tf (4, [40])) ++ ((tX x).map tf ++ List.replicate d (tf (4, [41]))))) := by
    obtain ⟨k, rfl⟩ : ∃ k, d = 33 + k := ⟨d - 33, by omega⟩
    unfold tW
    rw [List.map_append, List.map_append, List.map_replicate, List.map_replicate, show 33 + k - 33 = k by omega, List.nil_append, ← List.append_assoc (List.replicate 33 _), List.replicate_append_replicate]
  have := within_deep 32 [] (List.replicate (d - 33) (tf (4, [40])) ++ ((tX x).map tf ++ List.replicate d (tf (4, [41]))))
  unfold parse
  rw [if_neg (by decide), e]
  exact this
end Go.Proofs.YtkoeggjfdcpokaaGreatDoor.Cd
namespace Go.Proofs.YtkoeggjfdcpokaaGreatDoor.Cd
open Go.Proofs.YtkoeggjfdcpokaaGreatDoor
open Go.Proofs.YtkoeggjfdcpokaaGreatDoor.Sl (T Mt Sel Tf want txtAt parseN saneS prS sg)

def opS (s : T) : Int := if s = [62] then 1 else if s = [62, 61] then 2 else if s = [60] then 3 else if s = [60, 61] then 4 else if s = [61, 61] then 5 else if s = [33, 61] then 6 else 0
theorem opS_range (s : T) : 0 ≤ opS s ∧ opS s ≤ 6 := by
  unfold opS
  repeat' split
  all_goals omega
theorem sg_eq (s : ByteArray) (t : T) : s = sg t ↔ s.data.toList = t := by
  constructor
  · rintro rfl
    simp [sg]
  · intro h
    cases s with
    | mk d =>
      unfold sg
      rw [← h]
theorem want_is {l : List Tf} {i : Nat} {k : Int} {s t : ByteArray} (h : l[i]? = some (k, s)) (ht : t.size ≠ 0) : want l i k t = 0 ↔ s = t := by
  unfold want
  simp only [h]
  constructor
  · intro h
    split at h
    · rename_i h1
      exact h1.2.resolve_left ht
    · omega
  · rintro rfl
    rw [if_pos ⟨trivial, .inr rfl⟩]
theorem want_kind {l : List Tf} {i : Nat} {k k' : Int} {s t : ByteArray} (h : l[i]? = some (k', s)) (hk : k' ≠ k) : want l i k t = 1 := by
  unfold want
  simp only [h]
  rw [if_neg (fun h1 => hk h1.1)]
theorem want_any {l : List Tf} {i : Nat} {k : Int} {s : ByteArray} (h : l[i]? = some (k, s)) : want l i k ⟨#[]⟩ = 0 := by
  unfold want
  simp only [h]
  rw [if_pos ⟨trivial, .inl rfl⟩]
theorem sg_size (a : UInt8) (t : T) : (sg (a :: t)).size ≠ 0 := by
  unfold sg
  rw [Lib.size_eq]
  simp
theorem opAt_tok {l : List Tf} {i : Nat} {s : ByteArray} (h : l[i]? = some (4, s)) : opAt l i = opS s.data.toList := by
  unfold opAt opS
  simp only [want_is h (sg_size _ _), sg_eq]
theorem opAt_other {l : List Tf} {i : Nat} (h : want l i 4 ⟨#[]⟩ ≠ 0) : opAt l i = 0 := by
  unfold opAt
  cases hi : l[i]? with
  | none =>
    have hw : ∀ s, want l i 4 s = 3 := fun s => by unfold want; simp only [hi]
    simp only [hw]
    rfl
  | some t =>
    obtain ⟨k, s⟩ := t
    by_cases hk : k = 4
    · subst hk
      exact absurd (want_any hi) h
    · simp only [want_kind hi hk]
      rfl
/-- What is read behind a selector, as the landed code reads it. -/
theorem behind_way {l : List Tf} (s : Sel) {i : Nat} (hi : i ≤ l.length) : behind l s i =
    if want l i 4 ⟨#[]⟩ ≠ 0 then (noX, i, want l i 4 ⟨#[]⟩) else if opS (txtAt l i).data.toList = 0 then (noX, i, 1)
    else if want l (i + 1) 2 ⟨#[]⟩ ≠ 0 then (noX, i + 1, want l (i + 1) 2 ⟨#[]⟩) else if (Np.parseS (txtAt l (i + 1)).data.toList).2 ≠ 0 then (noX, i + 1, (Np.parseS (txtAt l (i + 1)).data.toList).2)
    else ((s, opS (txtAt l i).data.toList, (Np.parseS (txtAt l (i + 1)).data.toList).1), i + 2, 0) := by
  unfold behind noOp
  by_cases h : want l i 4 ⟨#[]⟩ ≠ 0
  · rw [if_pos (opAt_other h), if_pos h, if_neg h, Nat.min_eq_left hi]
  · rw [if_neg h]
    have h0 : want l i 4 ⟨#[]⟩ = 0 := by simpa using h
    have hlt : i < l.length := Sl.want_lt (l := l) (i := i) (k := 4) (s := ⟨#[]⟩) (by omega)
    have ho : opAt l i = opS (txtAt l i).data.toList := by
      have hi' : l[i]? = some l[i] := List.getElem?_eq_getElem hlt
      obtain ⟨k, t⟩ : ∃ k t, l[i] = (k, t) := ⟨_, _, rfl⟩
      have hk : l[i]? = some (l[i].1, l[i].2) := hi'
      by_cases h4 : l[i].1 = 4
      · rw [h4] at hk
        rw [opAt_tok hk]
        unfold txtAt
        simp only [hk]
      · have := want_kind (t := ⟨#[]⟩) hk h4
        omega
    rw [ho, if_pos h0, Nat.min_eq_left hi, Nat.min_eq_left (by omega : i + 1 ≤ l.length)]
/-- One sign ) behind what was asked. -/
def cl1 (l : List Tf) (r : Rx) : Rx := if r.2.2 ≠ 0 then (noX, r.2.1, r.2.2) else if want l r.2.1 4 (sg [41]) ≠ 0 then (noX, min r.2.1 l.length, want l r.2.1 4 (sg [41])) else (r.1, r.2.1 + 1, 0)
def clN (l : List Tf) : Nat → Rx → Rx
  | 0, r => r
  | n + 1, r => clN l n (cl1 l r)
theorem clN_no (l : List Tf) (i : Nat) (z : Int) (hz : z ≠ 0) : ∀ n, clN l n (noX, i, z) = (noX, i, z)
  | 0 => rfl
  | n + 1 => by
    unfold clN cl1
    simp only [if_pos hz]
    exact clN_no l i z hz n
theorem clN_plain_no {l : List Tf} {i n : Nat} (h : (plain l i).2.2 ≠ 0) : clN l n (plain l i) = (noX, (plain l i).2.1, (plain l i).2.2) := by
  have hp := (plain_no h).1
  have : plain l i = (noX, (plain l i).2.1, (plain l i).2.2) := by
    conv => lhs; rw [← Prod.eta (plain l i), hp]
  conv => lhs; rw [this]
  exact clN_no l _ _ h n
theorem clN_step {l : List Tf} {n i : Nat} {x : Ex} (hi : i ≤ l.length) : clN l (n + 1) (x, i, 0) = if want l i 4 (sg [41]) ≠ 0 then (noX, i, want l i 4 (sg [41])) else clN l n (x, i + 1, 0) := by
  show clN l n (cl1 l (x, i, 0)) = _
  unfold cl1
  simp only [if_neg (show ¬ ((0 : Int) ≠ 0) from fun h => h rfl)]
  by_cases h : want l i 4 (sg [41]) ≠ 0
  · rw [if_pos h, if_pos h, Nat.min_eq_left hi]
    exact clN_no l _ _ h n
  · rw [if_neg h, if_neg h]
theorem within_bare {l : List Tf} {f i : Nat} (h : want l i 4 (sg [40]) ≠ 0) : within f l i = plain l i := by
  cases f <;> unfold within <;> rw [if_pos h]
theorem within_full {l : List Tf} {i : Nat} (h : want l i 4 (sg [40]) = 0) : within 0 l i = (noX, i, 8) := by
  unfold within
  rw [if_neg (by omega)]
theorem within_one {l : List Tf} {f i : Nat} (h : want l i 4 (sg [40]) = 0) : within (f + 1) l i = cl1 l (within f l (i + 1)) := by
  show (if want l i 4 (sg [40]) ≠ 0 then plain l i
    else if (within f l (i + 1)).2.2 ≠ 0 then (noX, (within f l (i + 1)).2.1, (within f l (i + 1)).2.2)
    else if want l (within f l (i + 1)).2.1 4 (sg [41]) ≠ 0 then (noX, min (within f l (i + 1)).2.1 l.length, want l (within f l (i + 1)).2.1 4 (sg [41]))
    else ((within f l (i + 1)).1, (within f l (i + 1)).2.1 + 1, 0)) = _
  rw [if_neg (by omega)]
  rfl
/-- The state of the loop that takes the signs (: so many are open. -/
def St1 (l : List Tf) (R : Rx) (n i : Nat) : Prop := n ≤ 32 ∧ R = clN l n (within (32 - n) l i)
theorem st1_more {l : List Tf} {R : Rx} {n i : Nat} (h : St1 l R n i) (hw : want l i 4 (sg [40]) = 0) (hn : n ≠ 32) : St1 l R (n + 1) (i + 1) := by
  have := h.1
  refine ⟨by omega, ?_⟩
  rw [h.2, show 32 - n = (32 - (n + 1)) + 1 by omega, within_one hw]
  rfl
theorem st1_deep {l : List Tf} {R : Rx} {i : Nat} (h : St1 l R 32 i) (hw : want l i 4 (sg [40]) = 0) : R = (noX, i, 8) := by
  rw [h.2, Nat.sub_self, within_full hw]
  exact clN_no l _ _ (by decide) _
theorem st1_bare {l : List Tf} {R : Rx} {n i : Nat} (h : St1 l R n i) (hw : want l i 4 (sg [40]) ≠ 0) : R = clN l n (plain l i) := by
  rw [h.2, within_bare hw]
end Go.Proofs.YtkoeggjfdcpokaaGreatDoor.Cd

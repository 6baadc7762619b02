/-
  Plain lists for layer label: names, values, labels, what is made of pairs, found, laid, taken away, merged, and their order. Nothing of any program but the order of texts.
-/
import GoSem.Op.String
import Derived.Lib.Bytealg
namespace Go.Proofs.YtgahahichplpkaaDoor.Lp

abbrev Pr := ByteArray × ByteArray

/-! ### texts -/
theorem tl (a : ByteArray) : a.toList = a.data.toList := ByteArray.toList_eq a
theorem ext {a b : ByteArray} (h : a.toList = b.toList) : a = b := by
  rw [tl, tl] at h
  cases a; cases b
  simp at h
  simpa using h
theorem tl_iff {a b : ByteArray} : a.toList = b.toList ↔ a = b := ⟨ext, fun h => by rw [h]⟩
theorem beq_tl (a b : ByteArray) : (a.toList == b.toList) = decide (a = b) := by
  rw [Bool.eq_iff_iff]; simp [tl_iff]

def blt (a b : ByteArray) : Bool := Op.bytesLess a.toList b.toList

theorem less_irrefl : ∀ l : List UInt8, Op.bytesLess l l = false
  | [] => rfl
  | a :: x => by simp [Op.bytesLess, less_irrefl x]
theorem less_trans : ∀ {x y z : List UInt8}, Op.bytesLess x y = true → Op.bytesLess y z = true → Op.bytesLess x z = true
  | _, [], _, h, _ => by simp [Op.bytesLess] at h
  | _, _ :: _, [], _, h => by simp [Op.bytesLess] at h
  | [], _ :: _, _ :: _, _, _ => rfl
  | a :: x, b :: y, c :: z, h1, h2 => by
    simp only [Op.bytesLess, Bool.or_eq_true, decide_eq_true_eq, Bool.and_eq_true, beq_iff_eq] at h1 h2 ⊢
    rcases h1 with h1 | ⟨rfl, h1⟩
    · rcases h2 with h2 | ⟨rfl, h2⟩
      · exact .inl (UInt8.lt_trans h1 h2)
      · exact .inl h1
    · rcases h2 with h2 | ⟨rfl, h2⟩
      · exact .inl h2
      · exact .inr ⟨rfl, less_trans h1 h2⟩
theorem less_total : ∀ (x y : List UInt8), Op.bytesLess x y = true ∨ x = y ∨ Op.bytesLess y x = true
  | [], [] => .inr (.inl rfl)
  | [], _ :: _ => .inl rfl
  | _ :: _, [] => .inr (.inr rfl)
  | a :: x, b :: y => by
    simp only [Op.bytesLess, Bool.or_eq_true, decide_eq_true_eq, Bool.and_eq_true, beq_iff_eq, List.cons.injEq]
    rcases UInt8.lt_or_lt_of_ne (a := a) (b := b) |> fun f => (if h : a = b then Or.inl h else Or.inr (f h)) with h | h | h
    · subst h
      rcases less_total x y with h | h | h
      · exact .inl (.inr ⟨rfl, h⟩)
      · exact .inr (.inl ⟨rfl, h⟩)
      · exact .inr (.inr (.inr ⟨rfl, h⟩))
    · exact .inl (.inl h)
    · exact .inr (.inr (.inl h))
theorem blt_irrefl (a : ByteArray) : blt a a = false := less_irrefl _
theorem blt_trans {a b c : ByteArray} (h1 : blt a b = true) (h2 : blt b c = true) : blt a c = true := less_trans h1 h2
theorem blt_total (a b : ByteArray) : blt a b = true ∨ a = b ∨ blt b a = true := by
  rcases less_total a.toList b.toList with h | h | h
  · exact .inl h
  · exact .inr (.inl (ext h))
  · exact .inr (.inr h)
theorem blt_asymm {a b : ByteArray} (h : blt a b = true) : blt b a = false := by
  cases h' : blt b a with
  | false => rfl
  | true => have := blt_trans h h'; rw [blt_irrefl] at this; cases this
theorem blt_ne {a b : ByteArray} (h : blt a b = true) : a ≠ b := fun e => by subst e; rw [blt_irrefl] at h; cases h
theorem le_trans' {a b c : ByteArray} (h1 : blt b a = false) (h2 : blt c b = false) : blt c a = false := by
  rcases blt_total a b with h | h | h
  · rcases blt_total b c with h' | h' | h'
    · exact blt_asymm (blt_trans h h')
    · subst h'; exact blt_asymm h
    · rw [h'] at h2; cases h2
  · subst h; exact h2
  · rw [h] at h1; cases h1
theorem lt_of_lt_le {a b c : ByteArray} (h1 : blt a b = true) (h2 : blt c b = false) : blt a c = true := by
  rcases blt_total b c with h | h | h
  · exact blt_trans h1 h
  · subst h; exact h1
  · rw [h] at h2; cases h2

/-- -1, 0 or 1 of two texts. -/
def cmpT (a b : ByteArray) : Int := if blt a b then -1 else if blt b a then 1 else 0
theorem compareBytes_eq : ∀ x y : List UInt8, Lib.compareBytes x y = if Op.bytesLess x y then -1 else if Op.bytesLess y x then 1 else 0
  | [], [] => rfl
  | [], _ :: _ => rfl
  | _ :: _, [] => rfl
  | a :: x, b :: y => by
    unfold Lib.compareBytes Op.bytesLess
    rw [compareBytes_eq x y]
    by_cases h1 : a < b
    · simp [h1]
    · by_cases h2 : b < a
      · have : ¬ a = b := fun e => by subst e; exact UInt8.lt_irrefl _ h2
        simp [h1, h2, this]
      · have : a = b := UInt8.le_antisymm (UInt8.not_lt.1 h2) (UInt8.not_lt.1 h1)
        subst this
        simp
theorem cmpT_eq (a b : ByteArray) : Lib.compareBytes a.data.toList b.data.toList = cmpT a b := by
  rw [compareBytes_eq, ← tl, ← tl]; rfl
theorem cmpT_self (a : ByteArray) : cmpT a a = 0 := by simp [cmpT, blt_irrefl]
theorem cmpT_zero {a b : ByteArray} (h : cmpT a b = 0) : a = b := by
  unfold cmpT at h
  rcases blt_total a b with h' | h' | h'
  · simp [h'] at h
  · exact h'
  · simp [h', blt_asymm h'] at h
theorem cmpT_neg (a b : ByteArray) : cmpT a b < 0 ↔ blt a b = true := by
  unfold cmpT
  cases h : blt a b <;> cases h' : blt b a <;> simp
theorem cmpT_flip (a b : ByteArray) : cmpT b a = - cmpT a b := by
  unfold cmpT
  rcases blt_total a b with h | h | h
  · simp [h, blt_asymm h]
  · subst h; simp [blt_irrefl]
  · simp [h, blt_asymm h]
theorem cmpT_bd (a b : ByteArray) : -1 ≤ cmpT a b ∧ cmpT a b ≤ 1 := by
  unfold cmpT
  split
  · omega
  · split <;> omega

/-! ### names, values, labels -/
def letB (c : UInt8) : Bool := (decide (97 ≤ c.toNat) && decide (c.toNat ≤ 122)) || (decide (65 ≤ c.toNat) && decide (c.toNat ≤ 90))
def digB (c : UInt8) : Bool := decide (48 ≤ c.toNat) && decide (c.toNat ≤ 57)
def okc (c : UInt8) : Bool := letB c || digB c || decide (c.toNat = 95)
def nameL (l : List UInt8) : Bool := decide (1 ≤ l.length) && decide (l.length ≤ 64) && !digB (l.headD 48) && l.all okc
def nameB (s : ByteArray) : Bool := nameL s.toList
def bigV (p : Pr) : Bool := decide (64 < p.2.size)
def badN (p : Pr) : Bool := !nameB p.1
def large (l : List Pr) : Bool := decide (16 < l.length) || l.any bigV
def misn (l : List Pr) : Bool := l.any badN
def rising : List Pr → Bool
  | [] => true
  | [_] => true
  | x :: y :: r => blt x.1 y.1 && rising (y :: r)
def saneB (l : List Pr) : Bool := !large l && !misn l && rising l
def asL (l : List Pr) : List Pr := if saneB l then l else []
def nms (l : List Pr) : List ByteArray := l.map (·.1)
def twice (l : List Pr) : Bool := !decide ((nms l).Nodup)
def wrong (l : List Pr) : Int := if large l then 4 else if misn l then 7 else if twice l then 6 else 0
def sorted (l : List Pr) : List Pr := l.mergeSort fun x y => !blt y.1 x.1
def makeS (l : List Pr) : List Pr := if wrong l = 0 then sorted l else []
def getS (l : List Pr) (n : ByteArray) : Option ByteArray := (l.find? fun p => decide (p.1 = n)).map (·.2)
def drop (l : List Pr) (g : ByteArray → Bool) : List Pr := l.filter fun p => !g p.1
def has (l : List Pr) (n : ByteArray) : Bool := l.any fun p => decide (p.1 = n)
def repl (l o : List Pr) : List Pr := drop l (has o) ++ o
def without (l : List Pr) (n : ByteArray) : List Pr := drop (asL l) fun x => decide (x = n)
def withP (l : List Pr) (n v : ByteArray) : List Pr := repl (asL l) [(n, v)]
def merge (a b : List Pr) : List Pr := repl (asL a) (asL b)
def cmpP (x y : Pr) : Int := if cmpT x.1 y.1 = 0 then cmpT x.2 y.2 else cmpT x.1 y.1
def cmpL : List Pr → List Pr → Int
  | [], [] => 0
  | [], _ :: _ => -1
  | _ :: _, [] => 1
  | x :: xs, y :: ys => if cmpP x y = 0 then cmpL xs ys else cmpP x y

theorem has_iff {l : List Pr} {n : ByteArray} : has l n = true ↔ n ∈ nms l := by
  unfold has nms
  simp only [List.any_eq_true, decide_eq_true_eq, List.mem_map]
theorem has_no {l : List Pr} {n : ByteArray} : has l n = false ↔ n ∉ nms l := by
  rw [← has_iff]; cases has l n <;> simp
theorem nms_perm {l m : List Pr} (h : l.Perm m) : (nms l).Perm (nms m) := h.map _
/-- Rising as a whole. -/
def Ris (l : List Pr) : Prop := l.Pairwise fun x y => blt x.1 y.1 = true
theorem rising_iff : ∀ l : List Pr, rising l = true ↔ Ris l
  | [] => by simp [rising, Ris]
  | [x] => by simp [rising, Ris]
  | x :: y :: r => by
    have ih := rising_iff (y :: r)
    unfold rising
    rw [Bool.and_eq_true, ih]
    unfold Ris
    constructor
    · rintro ⟨h, hp⟩
      refine List.pairwise_cons.2 ⟨fun z hz => ?_, hp⟩
      rcases List.mem_cons.1 hz with rfl | hz
      · exact h
      · exact blt_trans h ((List.pairwise_cons.1 hp).1 z hz)
    · intro hp
      obtain ⟨h1, h2⟩ := List.pairwise_cons.1 hp
      exact ⟨h1 y (by simp), h2⟩
theorem Ris.nodup {l : List Pr} (h : Ris l) : (nms l).Nodup := by
  unfold nms
  rw [List.nodup_iff_pairwise_ne, List.pairwise_map]
  exact h.imp fun h => blt_ne h
theorem ris_unique : ∀ {a b : List Pr}, Ris a → Ris b → a.Perm b → a = b
  | [], b, _, _, hp => by rw [hp.nil_eq]
  | x :: a, b, ha, hb, hp => by
    obtain ⟨h1, h2⟩ := List.pairwise_cons.1 ha
    cases b with
    | nil => exact absurd hp.symm.nil_eq (by simp)
    | cons y b =>
      obtain ⟨k1, k2⟩ := List.pairwise_cons.1 hb
      have e : x = y := by
        rcases List.mem_cons.1 (hp.mem_iff.1 (List.mem_cons_self (a := x) (l := a))) with e | hx
        · exact e
        · rcases List.mem_cons.1 (hp.symm.mem_iff.1 (List.mem_cons_self (a := y) (l := b))) with e | hy
          · exact e.symm
          · have := h1 y hy
            rw [blt_asymm (k1 x hx)] at this; cases this
      subst e
      rw [ris_unique h2 k2 ((List.perm_cons x).1 hp)]

theorem sorted_perm (l : List Pr) : (sorted l).Perm l := List.mergeSort_perm l _
theorem sorted_ris {l : List Pr} (h : (nms l).Nodup) : Ris (sorted l) := by
  have hs : (sorted l).Pairwise fun x y => (!blt y.1 x.1) = true := by
    refine List.pairwise_mergeSort (le := fun x y : Pr => !blt y.1 x.1) (fun a b c h1 h2 => ?_) (fun a b => ?_) l
    · simp at h1 h2 ⊢
      exact le_trans' h1 h2
    · simp only [Bool.or_eq_true, Bool.not_eq_true']
      rcases blt_total a.1 b.1 with h | h | h
      · exact .inl (blt_asymm h)
      · exact .inl (by rw [h]; exact blt_irrefl _)
      · exact .inr (blt_asymm h)
  have hn : (nms (sorted l)).Nodup := (nms_perm (sorted_perm l)).nodup_iff.2 h
  unfold nms at hn
  rw [List.nodup_iff_pairwise_ne, List.pairwise_map] at hn
  refine (List.Pairwise.and hs hn).imp ?_
  rintro a b ⟨h1, h2⟩
  rcases blt_total a.1 b.1 with h | h | h
  · exact h
  · exact absurd h h2
  · simp [h] at h1
theorem sorted_eq {l m : List Pr} (hm : Ris m) (hp : m.Perm l) : sorted l = m :=
  ris_unique (sorted_ris ((nms_perm hp).nodup_iff.1 hm.nodup)) hm ((sorted_perm l).trans hp.symm)
theorem any_perm {l m : List Pr} (f : Pr → Bool) (h : l.Perm m) : l.any f = m.any f := by
  rw [Bool.eq_iff_iff]; simp [h.mem_iff]
theorem large_perm {l m : List Pr} (h : l.Perm m) : large l = large m := by unfold large; rw [h.length_eq, any_perm _ h]
theorem misn_perm {l m : List Pr} (h : l.Perm m) : misn l = misn m := any_perm _ h
theorem twice_perm {l m : List Pr} (h : l.Perm m) : twice l = twice m := by
  unfold twice; rw [decide_eq_decide.2 (nms_perm h).nodup_iff]
theorem wrong_perm {l m : List Pr} (h : l.Perm m) : wrong l = wrong m := by unfold wrong; rw [large_perm h, misn_perm h, twice_perm h]
theorem wrong_zero {l : List Pr} (h : wrong l = 0) : large l = false ∧ misn l = false ∧ (nms l).Nodup := by
  unfold wrong at h
  cases h1 : large l <;> simp [h1] at h
  cases h2 : misn l <;> simp [h2] at h
  cases h3 : twice l <;> simp [h3] at h
  exact ⟨rfl, rfl, by simpa [twice] using h3⟩
theorem wrong_of {l : List Pr} (h1 : large l = false) (h2 : misn l = false) (h3 : (nms l).Nodup) : wrong l = 0 := by
  unfold wrong twice; simp [h1, h2, h3]
theorem sane_iff (l : List Pr) : saneB l = true ↔ large l = false ∧ misn l = false ∧ Ris l := by
  unfold saneB; simp [rising_iff, and_assoc]
theorem sane_wrong {l : List Pr} (h : saneB l = true) : wrong l = 0 := by
  obtain ⟨h1, h2, h3⟩ := (sane_iff l).1 h
  exact wrong_of h1 h2 h3.nodup
theorem sane_make {l : List Pr} (h : saneB l = true) : makeS l = l := by
  unfold makeS
  rw [if_pos (sane_wrong h)]
  exact sorted_eq ((sane_iff l).1 h).2.2 (List.Perm.refl _)
theorem make_eq {l : List Pr} (h : wrong l = 0) : makeS l = sorted l := by unfold makeS; rw [if_pos h]
theorem make_no {l : List Pr} (h : wrong l ≠ 0) : makeS l = [] := by unfold makeS; rw [if_neg h]
theorem make_perm {l : List Pr} (h : wrong l = 0) : (makeS l).Perm l := by rw [make_eq h]; exact sorted_perm l
theorem make_sane {l : List Pr} (h : wrong l = 0) : saneB (makeS l) = true := by
  obtain ⟨h1, h2, h3⟩ := wrong_zero h
  rw [sane_iff, large_perm (make_perm h), misn_perm (make_perm h), make_eq h]
  exact ⟨h1, h2, sorted_ris h3⟩
theorem make_like {l m : List Pr} (h : wrong l = 0) (hp : m.Perm l) : makeS m = makeS l := by
  have hm : wrong m = 0 := by rw [wrong_perm hp]; exact h
  rw [make_eq hm, make_eq h]
  exact sorted_eq (sorted_ris (wrong_zero h).2.2) ((sorted_perm l).trans hp.symm)
theorem make_is {l m : List Pr} (h : wrong l = 0) (hp : m.Perm l) (hr : Ris m) : makeS l = m := by
  rw [make_eq h]; exact sorted_eq hr hp

theorem asL_sane {l : List Pr} (h : saneB l = true) : asL l = l := by unfold asL; rw [if_pos h]
theorem asL_no {l : List Pr} (h : saneB l = false) : asL l = [] := by unfold asL; rw [h]; rfl
theorem sane_nil : saneB [] = true := rfl
theorem asL_is (l : List Pr) : saneB (asL l) = true := by
  cases h : saneB l with
  | true => rw [asL_sane h]; exact h
  | false => rw [asL_no h]; exact sane_nil
theorem sane_sub {l m : List Pr} (h : saneB l = true) (hs : m.Sublist l) : saneB m = true := by
  obtain ⟨h1, h2, h3⟩ := (sane_iff l).1 h
  refine (sane_iff m).2 ⟨?_, ?_, h3.sublist hs⟩
  · unfold large at h1 ⊢
    simp only [Bool.or_eq_false_iff, decide_eq_false_iff_not] at h1 ⊢
    refine ⟨by have := hs.length_le; omega, ?_⟩
    rw [List.any_eq_false] at h1 ⊢
    exact fun x hx => h1.2 x (hs.subset hx)
  · unfold misn at h2 ⊢
    rw [List.any_eq_false] at h2 ⊢
    exact fun x hx => h2 x (hs.subset hx)
theorem drop_sub (l : List Pr) (g : ByteArray → Bool) : (drop l g).Sublist l := List.filter_sublist
theorem sane_len {l : List Pr} (h : saneB l = true) : l.length ≤ 16 := by
  have := ((sane_iff l).1 h).1
  unfold large at this
  simp at this
  omega

/-! ### what is got -/
theorem get_mem {l : List Pr} (h : (nms l).Nodup) {n v : ByteArray} : getS l n = some v ↔ (n, v) ∈ l := by
  induction l with
  | nil => simp [getS]
  | cons p r ih =>
    unfold nms at h ih
    rw [List.map_cons, List.nodup_cons] at h
    unfold getS at ih ⊢
    rw [List.find?_cons]
    by_cases e : p.1 = n
    · simp only [e, decide_true, Option.map_some, Option.some.injEq, List.mem_cons]
      constructor
      · intro e2; exact .inl (by rw [← e, ← e2])
      · rintro (e2 | hm)
        · rw [← e2]
        · exact absurd (List.mem_map.2 ⟨_, hm, e.symm⟩) h.1
    · simp only [e, decide_false, List.mem_cons]
      rw [ih h.2]
      constructor
      · exact .inr
      · rintro (e2 | hm)
        · exact absurd (by rw [← e2]) e
        · exact hm
theorem get_none {l : List Pr} {n : ByteArray} : getS l n = none ↔ n ∉ nms l := by
  unfold getS nms
  simp only [Option.map_eq_none_iff, List.find?_eq_none, decide_eq_true_eq, List.mem_map, not_exists, not_and]
theorem get_perm {l m : List Pr} (hl : (nms l).Nodup) (h : m.Perm l) (n : ByteArray) : getS m n = getS l n := by
  have hm : (nms m).Nodup := (nms_perm h).nodup_iff.2 hl
  cases hg : getS l n with
  | some v => exact (get_mem hm).2 (h.mem_iff.2 ((get_mem hl).1 hg))
  | none =>
    rw [get_none] at hg ⊢
    exact fun hx => hg ((nms_perm h).mem_iff.1 hx)
theorem get_app (a b : List Pr) (n : ByteArray) : getS (a ++ b) n = (getS a n).or (getS b n) := by
  unfold getS
  rw [List.find?_append]
  cases a.find? fun p => decide (p.1 = n) <;> rfl
theorem get_drop (l : List Pr) (g : ByteArray → Bool) (n : ByteArray) : getS (drop l g) n = if g n then none else getS l n := by
  unfold getS drop
  induction l with
  | nil => simp
  | cons p r ih =>
    rw [List.filter_cons]
    cases hg : g p.1
    · simp only [Bool.not_false, if_true, List.find?_cons]
      by_cases e : p.1 = n
      · subst e; simp [hg]
      · simp only [e, decide_false]; exact ih
    · simp only [Bool.not_true, Bool.false_eq_true, if_false, List.find?_cons]
      by_cases e : p.1 = n
      · subst e; rw [ih]; simp [hg]
      · simp only [e, decide_false]; exact ih
theorem nms_app (a b : List Pr) : nms (a ++ b) = nms a ++ nms b := List.map_append
theorem repl_nodup {l o : List Pr} (hl : (nms l).Nodup) (ho : (nms o).Nodup) : (nms (repl l o)).Nodup := by
  unfold repl
  rw [nms_app, List.nodup_append]
  refine ⟨((drop_sub l _).map _).nodup hl, ho, fun x hx y hy e => ?_⟩
  subst e
  obtain ⟨p, hp, rfl⟩ := List.mem_map.1 hx
  have := (List.mem_filter.1 hp).2
  rw [has_iff.2 hy] at this
  cases this
theorem get_repl {l o : List Pr} (n : ByteArray) : getS (repl l o) n = (getS o n).or (getS l n) := by
  unfold repl
  rw [get_app, get_drop]
  cases h : has o n with
  | true =>
    have : n ∈ nms o := has_iff.1 h
    cases hg : getS o n with
    | none => exact absurd this (get_none.1 hg)
    | some v => rfl
  | false =>
    have : n ∉ nms o := has_no.1 h
    rw [get_none.2 this]
    simp
theorem misn_app (a b : List Pr) : misn (a ++ b) = (misn a || misn b) := List.any_append
theorem big_app (a b : List Pr) : (a ++ b).any bigV = (a.any bigV || b.any bigV) := List.any_append
theorem large_iff (l : List Pr) : large l = false ↔ l.length ≤ 16 ∧ l.any bigV = false := by
  unfold large; simp
theorem drop_no (l : List Pr) (g : ByteArray → Bool) (h : ∀ p ∈ l, g p.1 = false) : drop l g = l := by
  unfold drop; exact List.filter_eq_self.2 fun p hp => by rw [h p hp]; rfl
theorem drop_drop (l : List Pr) (g h : ByteArray → Bool) : drop (drop l g) h = drop l fun n => g n || h n := by
  unfold drop
  rw [List.filter_filter]
  congr 1; funext p; show (!h p.1 && !g p.1) = !(g p.1 || h p.1); cases g p.1 <;> cases h p.1 <;> rfl
end Go.Proofs.YtgahahichplpkaaDoor.Lp

/-
  Plain lists and numbers for layer num: what a number's text is, and what number a text is. Nothing of any program.
-/
import Derived.Lib.ItoaNum
import Derived.Lib.ItoaMem
import Derived.Lib.TrimByte
import Derived.Lib.IndexMore
namespace Go.Proofs.YtjlonndkkeoohaaDoor.Np
open Go.Lib (decDigits nDigits)

def mx : Nat := 9007199254740992
def dig (c : UInt8) : Bool := decide (48 ≤ c.toNat ∧ c.toNat ≤ 57)
def digs (l : List UInt8) : Bool := l.all dig
/-- The number that digits are. -/
def num (l : List UInt8) : Nat := l.foldl (fun a c => 10 * a + (c.toNat - 48)) 0
/-- Three places: a part with zeros behind. -/
def pad (p : List UInt8) : List UInt8 := (p ++ [48, 48, 48]).take 3

def d8 (n : Nat) : UInt8 := UInt8.ofNat (48 + n)
/-- The places of r thousandths without zeros at the end. -/
def frac (r : Nat) : List UInt8 :=
  d8 (r / 100) :: if r % 100 = 0 then [] else d8 (r / 10 % 10) :: if r % 10 = 0 then [] else [d8 (r % 10)]
def tailU (r : Nat) : List UInt8 := if r = 0 then [] else 46 :: frac r
def printU (u : Nat) : List UInt8 := decDigits (u / 1000) ++ tailU (u % 1000)
def saneB (v : Int) : Bool := decide (-9007199254740992 ≤ v ∧ v ≤ 9007199254740992)
def printS (v : Int) : List UInt8 :=
  if saneB v = false then [] else if v < 0 then 45 :: printU v.natAbs else printU v.natAbs

/-- What a number of thousandths without a sign comes to. -/
def fin (neg : Bool) (n : Nat) : Int × Int :=
  if mx < n then (0, 2) else (if neg then -(n : Int) else (n : Int), 0)
def whole (b : List UInt8) : List UInt8 := b.takeWhile (· != 46)
def rest (b : List UInt8) : List UInt8 := b.dropWhile (· != 46)
/-- The digits of an unsigned text, if it is one. -/
def unsig (b : List UInt8) : Option (List UInt8) :=
  match rest b with
  | [] => if whole b ≠ [] ∧ digs (whole b) = true then some (whole b ++ [48, 48, 48]) else none
  | _ :: p => if p = [] ∨ 3 < p.length then none else if whole b ≠ [] ∧ digs (whole b ++ pad p) = true then some (whole b ++ pad p) else none
def neg (l : List UInt8) : Bool := l.head? == some 45
def body (l : List UInt8) : List UInt8 := if neg l then l.tail else l
def parseS (l : List UInt8) : Int × Int :=
  match unsig (body l) with
  | none => (0, 1)
  | some d => fin (neg l) (num d)

/-! digits -/
theorem d8_toNat (n : Nat) (h : n < 10) : (d8 n).toNat = 48 + n := by
  unfold d8; rw [UInt8.toNat_ofNat']; omega
theorem dig_d8 (n : Nat) (h : n < 10) : dig (d8 n) = true := by
  unfold dig; rw [d8_toNat n h]; simp; omega
theorem dig_ne {c : UInt8} (h : dig c = true) : c ≠ 46 ∧ c ≠ 45 := by
  constructor <;> (rintro rfl; revert h; decide)
theorem dig_bd {c : UInt8} (h : dig c = true) : 48 ≤ c.toNat ∧ c.toNat ≤ 57 := by
  unfold dig at h; simpa using h
theorem dig_48 : dig 48 = true := by decide

theorem num_append (a b : List UInt8) : num (a ++ b) = b.foldl (fun a c => 10 * a + (c.toNat - 48)) (num a) := by
  unfold num; rw [List.foldl_append]
theorem num_snoc (l : List UInt8) (c : UInt8) : num (l ++ [c]) = 10 * num l + (c.toNat - 48) := by
  rw [num_append]; rfl
theorem num_000 (l : List UInt8) : num (l ++ [48, 48, 48]) = 1000 * num l := by
  rw [num_append]; simp only [List.foldl_cons, List.foldl_nil]; simp; omega
theorem foldl_eq (l : List UInt8) : ∀ a : Nat, l.foldl (fun a c => 10 * a + (c.toNat - 48)) a = a * 10 ^ l.length + num l := by
  induction l with
  | nil => intro a; simp [num]
  | cons c t ih =>
    intro a
    have e : num (c :: t) = t.foldl (fun a c => 10 * a + (c.toNat - 48)) (10 * 0 + (c.toNat - 48)) := rfl
    rw [List.foldl_cons, ih, e, ih, List.length_cons, Nat.pow_succ, Nat.add_mul]
    rw [Nat.mul_zero, Nat.zero_add, Nat.mul_comm 10 a, Nat.mul_assoc, Nat.mul_comm 10]
    omega
theorem num_app (a b : List UInt8) : num (a ++ b) = num a * 10 ^ b.length + num b := by
  rw [num_append, foldl_eq]
theorem num_lt (l : List UInt8) (h : digs l = true) : num l < 10 ^ l.length := by
  induction l with
  | nil => simp [num]
  | cons c t ih =>
    have hc : dig c = true ∧ digs t = true := by simpa [digs] using h
    have := ih hc.2
    have hb := dig_bd hc.1
    rw [show c :: t = [c] ++ t from rfl, num_app]
    have e : num [c] = c.toNat - 48 := by simp [num]
    rw [e, List.length_append, List.length_singleton, Nat.pow_add, Nat.pow_one]
    have : (c.toNat - 48) * 10 ^ t.length ≤ 9 * 10 ^ t.length := Nat.mul_le_mul_right _ (by omega)
    omega

theorem digs_app (a b : List UInt8) : digs (a ++ b) = (digs a && digs b) := by unfold digs; rw [List.all_append]
theorem digs_nil : digs [] = true := rfl
theorem digs_cons (c : UInt8) (t : List UInt8) : digs (c :: t) = (dig c && digs t) := by simp [digs]

theorem dec_digs (u : Nat) : digs (decDigits u) = true := by
  induction u using Nat.strongRecOn with
  | _ u ih =>
    by_cases h : u < 10
    · rw [decDigits, dif_pos h, digs_cons, digs_nil]
      have := dig_d8 u h; unfold d8 at this; rw [this]; rfl
    · rw [decDigits, dif_neg h, digs_app, ih (u / 10) (by omega), digs_cons, digs_nil]
      have := dig_d8 (u % 10) (by omega); unfold d8 at this; rw [this]; rfl
theorem dec_num (u : Nat) : num (decDigits u) = u := by
  induction u using Nat.strongRecOn with
  | _ u ih =>
    by_cases h : u < 10
    · rw [decDigits, dif_pos h]
      have := d8_toNat u h; unfold d8 at this
      simp only [num, List.foldl_cons, List.foldl_nil]; rw [this]; omega
    · rw [decDigits, dif_neg h, num_snoc, ih (u / 10) (by omega)]
      have := d8_toNat (u % 10) (by omega); unfold d8 at this
      rw [this]; omega
theorem dec_ne (u : Nat) : decDigits u ≠ [] := by
  intro h
  have := Lib.decDigits_length u
  rw [h] at this
  have := Lib.nDigits_pos u
  simp at *
  omega

/-! text without a point -/
theorem digs_no (l : List UInt8) (h : digs l = true) : ∀ c ∈ l, (c != 46) = true := by
  intro c hc
  have := dig_ne (List.all_eq_true.mp h c hc)
  simpa using this.1
theorem whole_plain (w : List UInt8) (h : digs w = true) : whole w = w := by
  unfold whole
  induction w with
  | nil => rfl
  | cons c t ih =>
    have hc : dig c = true ∧ digs t = true := by simpa [digs] using h
    have := (dig_ne hc.1).1
    rw [List.takeWhile_cons, if_pos (by simpa using this), ih hc.2]
theorem rest_plain (w : List UInt8) (h : digs w = true) : rest w = [] := by
  unfold rest
  induction w with
  | nil => rfl
  | cons c t ih =>
    have hc : dig c = true ∧ digs t = true := by simpa [digs] using h
    have := (dig_ne hc.1).1
    rw [List.dropWhile_cons, if_pos (by simpa using this), ih hc.2]
theorem whole_pt (w p : List UInt8) (h : digs w = true) : whole (w ++ 46 :: p) = w := by
  unfold whole
  induction w with
  | nil => rfl
  | cons c t ih =>
    have hc : dig c = true ∧ digs t = true := by simpa [digs] using h
    have := (dig_ne hc.1).1
    rw [List.cons_append, List.takeWhile_cons, if_pos (by simpa using this), ih hc.2]
theorem rest_pt (w p : List UInt8) (h : digs w = true) : rest (w ++ 46 :: p) = 46 :: p := by
  unfold rest
  induction w with
  | nil => rfl
  | cons c t ih =>
    have hc : dig c = true ∧ digs t = true := by simpa [digs] using h
    have := (dig_ne hc.1).1
    rw [List.cons_append, List.dropWhile_cons, if_pos (by simpa using this), ih hc.2]

theorem unsig_plain (w : List UInt8) (h : digs w = true) (h0 : w ≠ []) : unsig w = some (w ++ [48, 48, 48]) := by
  unfold unsig
  rw [rest_plain w h, whole_plain w h]
  simp [h, h0]
theorem unsig_pt (w p : List UInt8) (h : digs w = true) (h0 : w ≠ []) (hp : digs p = true) (hp0 : p ≠ []) (hp3 : p.length ≤ 3) :
    unsig (w ++ 46 :: p) = some (w ++ pad p) := by
  unfold unsig
  rw [rest_pt w p h, whole_pt w p h]
  have e : digs (w ++ pad p) = true := by
    rw [digs_app, h, Bool.true_and]
    unfold pad digs
    refine List.all_eq_true.mpr fun c hc => ?_
    have := List.mem_of_mem_take hc
    rw [List.mem_append] at this
    rcases this with hm | hm
    · exact List.all_eq_true.mp hp c hm
    · have : c = 48 := by simpa using hm
      rw [this]; rfl
  have h3 : ¬ (3 < p.length) := by omega
  simp [hp0, h3, e, h0]
theorem unsig_long (w p : List UInt8) (h : digs w = true) (hp : p = [] ∨ 3 < p.length) : unsig (w ++ 46 :: p) = none := by
  unfold unsig
  rw [rest_pt w p h]
  simp [hp]

/-- What an unsigned text with digits is. -/
theorem unsig_some {b d : List UInt8} (h : unsig b = some d) :
    digs d = true ∧ whole b ≠ [] ∧ digs (whole b) = true ∧ ((b = whole b ∧ d = b ++ [48, 48, 48]) ∨ ∃ p, b = whole b ++ 46 :: p ∧ p ≠ [] ∧ p.length ≤ 3 ∧ digs p = true ∧ d = whole b ++ pad p) := by
  have hb : b = whole b ++ rest b := (List.takeWhile_append_dropWhile).symm
  unfold unsig at h
  split at h
  · rename_i hr
    rw [hr, List.append_nil] at hb
    split at h
    · rename_i hc
      obtain rfl := Option.some.inj h
      refine ⟨?_, hc.1, hc.2, Or.inl ⟨hb, by rw [← hb]⟩⟩
      rw [digs_app, hc.2]; rfl
    · exact absurd h (by simp)
  · rename_i x p hr
    have hx : x = 46 := by
      have hh : rest b ≠ [] := by rw [hr]; simp
      have := List.head_dropWhile_not (fun c : UInt8 => c != 46) hh
      have e : (rest b).head hh = x := by simp [hr]
      unfold rest at e
      rw [e] at this
      simpa using this
    subst hx
    split at h
    · exact absurd h (by simp)
    · rename_i hc
      split at h
      · rename_i hd
        obtain rfl := Option.some.inj h
        rw [hr] at hb
        have hw : digs (whole b) = true ∧ digs (pad p) = true := by
          have := hd.2; rw [digs_app] at this; simpa using this
        have hl : p.length ≤ 3 := by
          rcases Nat.lt_or_ge 3 p.length with h' | h'
          · exact absurd (Or.inr h') hc
          · exact h'
        refine ⟨hd.2, hd.1, hw.1, Or.inr ⟨p, hb, fun e => hc (Or.inl e), hl, ?_, rfl⟩⟩
        have : p = (pad p).take p.length := by
          unfold pad; rw [List.take_take, Nat.min_eq_left hl]; simp
        rw [this]
        unfold digs
        refine List.all_eq_true.mpr fun c hc' => ?_
        exact List.all_eq_true.mp hw.2 c (List.mem_of_mem_take hc')
      · exact absurd h (by simp)

theorem head_dig {w : List UInt8} (h : digs w = true) : ∀ t, neg (w ++ t) = true → w = [] := by
  intro t ht
  cases w with
  | nil => rfl
  | cons c w =>
    have hc : dig c = true ∧ digs w = true := by simpa [digs] using h
    unfold neg at ht
    have : c = 45 := by simpa using ht
    exact absurd this (dig_ne hc.1).2
theorem neg_of (w t : List UInt8) (h : digs w = true) (h0 : w ≠ []) : neg (w ++ t) = false := by
  cases e : neg (w ++ t) with
  | false => rfl
  | true => exact absurd (head_dig h t e) h0

theorem parse_pos (b : List UInt8) (h : neg b = false) : parseS b = match unsig b with | none => (0, 1) | some d => fin false (num d) := by
  unfold parseS body; rw [h]; rfl
theorem parse_neg (b : List UInt8) : parseS (45 :: b) = match unsig b with | none => (0, 1) | some d => fin true (num d) := by
  have : neg (45 :: b) = true := rfl
  unfold parseS body; rw [this]; rfl

/-! back -/
theorem frac_facts (r : Nat) (h : r < 1000) : digs (frac r) = true ∧ frac r ≠ [] ∧ (frac r).length ≤ 3 ∧ num (pad (frac r)) = r ∧ (pad (frac r)).length = 3 := by
  have a := d8_toNat (r / 100) (by omega)
  have b := d8_toNat (r / 10 % 10) (by omega)
  have c := d8_toNat (r % 10) (by omega)
  have a' := dig_d8 (r / 100) (by omega)
  have b' := dig_d8 (r / 10 % 10) (by omega)
  have c' := dig_d8 (r % 10) (by omega)
  unfold frac
  by_cases h1 : r % 100 = 0
  · rw [if_pos h1]
    refine ⟨by simp [digs, a'], by simp, by simp, ?_, by simp [pad]⟩
    simp [pad, num, a]; omega
  · rw [if_neg h1]
    by_cases h2 : r % 10 = 0
    · rw [if_pos h2]
      refine ⟨by simp [digs, a', b'], by simp, by simp, ?_, by simp [pad]⟩
      simp [pad, num, a, b]; omega
    · rw [if_neg h2]
      refine ⟨by simp [digs, a', b', c'], by simp, by simp, ?_, by simp [pad]⟩
      simp [pad, num, a, b, c]; omega

theorem unsig_print (u : Nat) : ∃ d, unsig (printU u) = some d ∧ num d = u := by
  unfold printU tailU
  by_cases h : u % 1000 = 0
  · rw [if_pos h, List.append_nil]
    refine ⟨_, unsig_plain _ (dec_digs _) (dec_ne _), ?_⟩
    rw [num_000, dec_num]; omega
  · rw [if_neg h]
    obtain ⟨f1, f2, f3, f4, f5⟩ := frac_facts (u % 1000) (by omega)
    refine ⟨_, unsig_pt _ _ (dec_digs _) (dec_ne _) f1 f2 f3, ?_⟩
    rw [num_app, f5, f4, dec_num]; omega
theorem printU_neg (u : Nat) : neg (printU u) = false := by
  unfold printU; exact neg_of _ _ (dec_digs _) (dec_ne _)
theorem printU_ne (u : Nat) : printU u ≠ [] := by
  unfold printU; simp [dec_ne]

theorem parse_printU (u : Nat) (h : u ≤ mx) : parseS (printU u) = ((u : Int), 0) := by
  obtain ⟨d, h1, h2⟩ := unsig_print u
  rw [parse_pos _ (printU_neg u), h1]
  show fin false (num d) = _
  rw [h2]; unfold fin; rw [if_neg (by omega)]; rfl
theorem parse_printN (u : Nat) (h : u ≤ mx) : parseS (45 :: printU u) = (-(u : Int), 0) := by
  obtain ⟨d, h1, h2⟩ := unsig_print u
  rw [parse_neg, h1]
  show fin true (num d) = _
  rw [h2]; unfold fin; rw [if_neg (by omega)]; rfl

theorem sane_iff (v : Int) : saneB v = true ↔ (-9007199254740992 ≤ v ∧ v ≤ 9007199254740992) := by
  unfold saneB; simp
theorem sane_abs (v : Int) (h : saneB v = true) : v.natAbs ≤ mx := by
  have := (sane_iff v).mp h; unfold mx; omega

theorem parse_print (v : Int) (h : saneB v = true) : parseS (printS v) = (v, 0) := by
  unfold printS
  rw [h, if_neg (by simp)]
  by_cases hn : v < 0
  · rw [if_pos hn, parse_printN _ (sane_abs v h)]
    rw [show (-(v.natAbs : Int)) = v by omega]
  · rw [if_neg hn, parse_printU _ (sane_abs v h)]
    rw [show ((v.natAbs : Int)) = v by omega]
theorem print_ne (v : Int) (h : saneB v = true) : printS v ≠ [] := by
  unfold printS
  rw [h, if_neg (by simp)]
  by_cases hn : v < 0
  · rw [if_pos hn]; simp
  · rw [if_neg hn]; exact printU_ne _
theorem print_no (v : Int) (h : saneB v = false) : printS v = [] := by
  unfold printS; rw [if_pos h]
theorem parse_nil : parseS [] = (0, 1) := by decide

theorem print_inj (v w : Int) (hv : saneB v = true) (hw : saneB w = true) : printS v = printS w ↔ v = w := by
  constructor
  · intro h
    have a := parse_print v hv
    rw [h, parse_print w hw] at a
    exact (Prod.mk.inj a).1.symm
  · rintro rfl; rfl

/-- What a parsed text has come to. -/
theorem parse_err (l : List UInt8) (h : (parseS l).2 ≠ 0) : (parseS l).1 = 0 ∧ ((parseS l).2 = 1 ∨ (parseS l).2 = 2) := by
  unfold parseS at *
  cases e : unsig (body l) with
  | none => simp
  | some d =>
    rw [e] at h
    simp only [fin] at h ⊢
    split at h
    · rename_i h1; simp [h1]
    · exact absurd rfl h
theorem parse_sane (l : List UInt8) : saneB (parseS l).1 = true := by
  unfold parseS
  cases unsig (body l) with
  | none => rfl
  | some d =>
    simp only [fin]
    split
    · rfl
    · rename_i h
      rw [sane_iff]
      unfold mx at h
      split <;> simp <;> omega

/-- The digits of a number are no more than those of any text that it is. -/
theorem dec_le (w : List UInt8) (h : digs w = true) (h0 : w ≠ []) : (decDigits (num w)).length ≤ w.length := by
  rw [Lib.decDigits_length]
  rcases Nat.eq_zero_or_pos (num w) with h1 | h1
  · rw [h1, Lib.nDigits_small (by omega)]
    cases w with
    | nil => exact absurd rfl h0
    | cons c t => simp
  · have := num_lt w h
    rcases Nat.lt_or_ge w.length (nDigits (num w)) with h2 | h2
    · exfalso
      have hk : ∃ k, nDigits (num w) = k + 1 := ⟨nDigits (num w) - 1, by have := Lib.nDigits_pos (num w); omega⟩
      obtain ⟨k, hk⟩ := hk
      have h3 : 10 ^ k ≤ num w := pow_le (num w) h1 k hk
      have h4 : 10 ^ w.length ≤ 10 ^ k := Nat.pow_le_pow_right (by omega) (by omega)
      omega
    · exact h2
where
  pow_le : ∀ (u : Nat), 1 ≤ u → ∀ k, nDigits u = k + 1 → 10 ^ k ≤ u := by
    intro u
    induction u using Nat.strongRecOn with
    | _ u ih =>
      intro hu k hk
      by_cases h : u < 10
      · rw [Lib.nDigits_small h] at hk
        obtain rfl : k = 0 := by omega
        simpa using hu
      · rw [Lib.nDigits_big h] at hk
        cases k with
        | zero => have := Lib.nDigits_pos (u / 10); omega
        | succ k =>
          have := ih (u / 10) (by omega) (by omega) k (by omega)
          rw [Nat.pow_succ]; omega

theorem pad_len (p : List UInt8) : (pad p).length = 3 := by unfold pad; simp
theorem pad_digs (p : List UInt8) (h : digs p = true) : digs (pad p) = true := by
  unfold pad digs
  refine List.all_eq_true.mpr fun c hc => ?_
  have := List.mem_of_mem_take hc
  rw [List.mem_append] at this
  rcases this with hm | hm
  · exact List.all_eq_true.mp h c hm
  · have : c = 48 := by simpa using hm
    rw [this]; rfl
theorem frac_len (p : List UInt8) (h : digs p = true) (h0 : p ≠ []) (h3 : p.length ≤ 3) : (tailU (num (pad p))).length ≤ p.length + 1 := by
  match p, h, h0, h3 with
  | [], _, h0, _ => exact absurd rfl h0
  | [a], h, _, _ =>
    have ha := dig_bd (c := a) (by simpa [digs] using h)
    have e : num (pad [a]) = 100 * (a.toNat - 48) := by simp [pad, num]; omega
    rw [e]; unfold tailU
    split
    · simp
    · unfold frac; rw [if_pos (by omega)]; simp
  | [a, b], h, _, _ =>
    have hab : dig a = true ∧ dig b = true := by simpa [digs] using h
    have ha := dig_bd hab.1
    have hb := dig_bd hab.2
    have e : num (pad [a, b]) = 100 * (a.toNat - 48) + 10 * (b.toNat - 48) := by simp [pad, num]; omega
    rw [e]; unfold tailU
    split
    · simp
    · unfold frac
      split
      · simp
      · rw [if_pos (by omega)]; simp
  | [a, b, c], _, _, _ =>
    unfold tailU frac
    repeat (first | split | simp)
  | _ :: _ :: _ :: _ :: _, _, _, h3 => simp at h3

theorem print_le (b d : List UInt8) (h : unsig b = some d) : (printU (num d)).length ≤ b.length := by
  obtain ⟨h1, h2, h3, h4⟩ := unsig_some h
  unfold printU
  rcases h4 with ⟨hb, rfl⟩ | ⟨p, hb, hp0, hp3, hpd, rfl⟩
  · rw [num_000, Nat.mul_mod_right, show tailU 0 = [] from rfl, List.append_nil, Nat.mul_div_cancel_left _ (by omega)]
    rw [← hb] at h2 h3
    exact dec_le b h3 h2
  · have hl := num_lt (pad p) (pad_digs p hpd)
    rw [pad_len] at hl
    rw [num_app, pad_len]
    have e1 : (num (whole b) * 10 ^ 3 + num (pad p)) / 1000 = num (whole b) := by omega
    have e2 : (num (whole b) * 10 ^ 3 + num (pad p)) % 1000 = num (pad p) := by omega
    rw [e1, e2, List.length_append]
    have a := dec_le (whole b) h3 h2
    have c := frac_len p hpd hp0 hp3
    have : b.length = (whole b).length + (p.length + 1) := by
      have := congrArg List.length hb
      rw [List.length_append] at this; simpa using this
    omega

theorem body_len (l : List UInt8) : l.length = (body l).length + if neg l then 1 else 0 := by
  unfold body neg
  cases l with
  | nil => rfl
  | cons c t =>
    by_cases h : c = 45
    · subst h; simp
    · simp [h]

theorem print_len (l : List UInt8) (h : (parseS l).2 = 0) : (printS (parseS l).1).length ≤ l.length := by
  have hs := parse_sane l
  have hb := body_len l
  cases e : unsig (body l) with
  | none => unfold parseS at h; rw [e] at h; simp at h
  | some d =>
    have hl := print_le _ _ e
    have ep : parseS l = fin (neg l) (num d) := by unfold parseS; rw [e]
    by_cases hm : mx < num d
    · rw [ep] at h; unfold fin at h; rw [if_pos hm] at h; simp at h
    · have e1 : (parseS l).1 = if neg l then -(num d : Int) else (num d : Int) := by
        rw [ep]; unfold fin; rw [if_neg hm]
      rw [e1] at hs ⊢
      unfold printS
      rw [hs, if_neg (by simp)]
      cases hn : neg l with
      | false =>
        rw [hn] at hb
        simp only [Bool.false_eq_true, if_false] at hb ⊢
        rw [if_neg (by omega), Int.natAbs_natCast]; omega
      | true =>
        rw [hn] at hb
        simp only [if_true] at hb ⊢
        rw [Int.natAbs_neg, Int.natAbs_natCast]
        split
        · simp; omega
        · omega

/-- A zero ahead changes nothing. -/
theorem whole_zero (b : List UInt8) : whole (48 :: b) = 48 :: whole b := rfl
theorem rest_zero (b : List UInt8) : rest (48 :: b) = rest b := rfl
theorem num_zero (l : List UInt8) : num (48 :: l) = num l := rfl
theorem digs_zero (l : List UInt8) : digs (48 :: l) = digs l := by rw [digs_cons]; rfl
theorem unsig_zero (b d : List UInt8) (h : unsig b = some d) : unsig (48 :: b) = some (48 :: d) := by
  unfold unsig at *
  rw [rest_zero, whole_zero]
  cases hr : rest b with
  | nil =>
    rw [hr] at h
    simp only at h ⊢
    by_cases hc : whole b ≠ [] ∧ digs (whole b) = true
    · rw [if_pos hc] at h
      obtain rfl := Option.some.inj h
      rw [if_pos ⟨by simp, by rw [digs_zero]; exact hc.2⟩]; rfl
    · rw [if_neg hc] at h; exact absurd h (by simp)
  | cons x p =>
    rw [hr] at h
    simp only at h ⊢
    by_cases hc : p = [] ∨ 3 < p.length
    · rw [if_pos hc] at h; exact absurd h (by simp)
    · rw [if_neg hc] at h ⊢
      by_cases hd : whole b ≠ [] ∧ digs (whole b ++ pad p) = true
      · rw [if_pos hd] at h
        obtain rfl := Option.some.inj h
        rw [if_pos ⟨by simp, by rw [List.cons_append, digs_zero]; exact hd.2⟩]; rfl
      · rw [if_neg hd] at h; exact absurd h (by simp)
theorem parse_zero_pos (l : List UInt8) (h : (parseS l).2 = 0) (hn : neg l = false) : parseS (48 :: l) = parseS l := by
  rw [parse_pos l hn, parse_pos (48 :: l) rfl]
  rw [parse_pos l hn] at h
  cases e : unsig l with
  | none => rw [e] at h; simp at h
  | some d => rw [unsig_zero _ _ e]; rfl
theorem parse_zero_neg (l : List UInt8) (h : (parseS (45 :: l)).2 = 0) : parseS (45 :: 48 :: l) = parseS (45 :: l) := by
  rw [parse_neg, parse_neg]
  rw [parse_neg] at h
  cases e : unsig l with
  | none => rw [e] at h; simp at h
  | some d => rw [unsig_zero _ _ e]; rfl
theorem parse_ok_ne (l : List UInt8) (h : (parseS l).2 = 0) : l ≠ [] := by
  rintro rfl; rw [parse_nil] at h; simp at h

/-! whole numbers, and other texts -/
theorem print_nat (u : Nat) (h : u ≤ mx) : printS (u : Int) = printU u := by
  unfold printS
  have : saneB (u : Int) = true := by rw [sane_iff]; unfold mx at h; omega
  rw [this, if_neg (by simp), if_neg (by omega), Int.natAbs_natCast]
theorem printU_whole (k r : Nat) (h : r < 1000) : printU (1000 * k + r) = decDigits k ++ tailU r := by
  unfold printU
  rw [show (1000 * k + r) / 1000 = k by omega, show (1000 * k + r) % 1000 = r by omega]
theorem print_neg (v : Int) (h : saneB v = true) (h0 : 0 < v) : printS (-v) = 45 :: printS v := by
  have h' : saneB (-v) = true := by rw [sane_iff] at *; omega
  have e1 : printS v = printU v.natAbs := by
    unfold printS; rw [h, if_neg (by simp), if_neg (by omega)]
  have e2 : printS (-v) = 45 :: printU v.natAbs := by
    unfold printS; rw [h', if_neg (by simp), if_pos (by omega), Int.natAbs_neg]
  rw [e1, e2]
theorem parse_plain (w : List UInt8) (h : digs w = true) (h0 : w ≠ []) (hm : 1000 * num w ≤ mx) : parseS w = (1000 * (num w : Int), 0) := by
  have := neg_of w [] h h0
  rw [List.append_nil] at this
  rw [parse_pos w this, unsig_plain w h h0]
  simp only [fin, num_000]
  rw [if_neg (by omega)]; simp
theorem parse_000 (w : List UInt8) (h : digs w = true) (h0 : w ≠ []) (hm : 1000 * num w ≤ mx) : parseS (w ++ [46, 48, 48, 48]) = (1000 * (num w : Int), 0) := by
  rw [parse_pos _ (neg_of w _ h h0), unsig_pt w [48, 48, 48] h h0 rfl (by simp) (by simp)]
  have e : pad [48, 48, 48] = [48, 48, 48] := rfl
  simp only [fin, e, num_000]
  rw [if_neg (by omega)]; simp
theorem parse_0000 (w : List UInt8) (h : digs w = true) (h0 : w ≠ []) : parseS (w ++ [46, 48, 48, 48, 48]) = (0, 1) := by
  rw [parse_pos _ (neg_of w _ h h0), unsig_long w [48, 48, 48, 48] h (by simp)]

/-! what trims and cuts come to -/
theorem trim_frac (r : Nat) (h0 : r ≠ 0) (h : r < 1000) : Lib.trimRightB [d8 (r / 100), d8 (r / 10 % 10), d8 (r % 10)] 48 = frac r := by
  have e : ∀ n, n < 10 → ((d8 n == 48) = decide (n = 0)) := by decide
  unfold Lib.trimRightB frac
  simp only [List.reverse_cons, List.reverse_nil, List.nil_append, List.cons_append, List.dropWhile_cons]
  rw [e _ (by omega), e _ (by omega), e _ (by omega)]
  by_cases h2 : r % 10 = 0
  · by_cases h1 : r / 10 % 10 = 0
    · have h3 : r % 100 = 0 := by omega
      have h4 : ¬ (r / 100 = 0) := by omega
      simp [h1, h2, h3, h4]
    · have h3 : ¬ (r % 100 = 0) := by omega
      simp [h1, h2, h3]
  · have h3 : ¬ (r % 100 = 0) := by omega
    simp [h2, h3]
theorem dec_1000 (r : Nat) (h : r < 1000) : decDigits (1000 + r) = [49, d8 (r / 100), d8 (r / 10 % 10), d8 (r % 10)] := by
  rw [decDigits, dif_neg (by omega), decDigits, dif_neg (by omega), decDigits, dif_neg (by omega), decDigits, dif_pos (by omega)]
  have e1 : (1000 + r) / 10 / 10 / 10 = 1 := by omega
  have e2 : (1000 + r) / 10 / 10 % 10 = r / 100 := by omega
  have e3 : (1000 + r) / 10 % 10 = r / 10 % 10 := by omega
  have e4 : (1000 + r) % 10 = r % 10 := by omega
  rw [e1, e2, e3, e4]; rfl

theorem index_dot (b : List UInt8) : Lib.index b [46] = if rest b = [] then -1 else ((whole b).length : Int) := by
  induction b with
  | nil => rfl
  | cons c t ih =>
    unfold Lib.index
    by_cases hc : c = 46
    · subst hc; rfl
    · have h1 : (List.isPrefixOf [46] (c :: t)) = false := by
        simp [List.isPrefixOf]; exact fun e => hc e.symm
      have hw : whole (c :: t) = c :: whole t := by unfold whole; rw [List.takeWhile_cons, if_pos (by simpa using hc)]
      have hr : rest (c :: t) = rest t := by unfold rest; rw [List.dropWhile_cons, if_pos (by simpa using hc)]
      rw [h1, hw, hr, ih]
      by_cases h2 : rest t = []
      · simp [h2]
      · simp only [h2, if_false]
        rw [if_neg (by simp), if_neg (by simp)]
        simp
theorem cut_dot (b : List UInt8) : Lib.cut b [46] = (whole b, (rest b).tail, !(rest b).isEmpty) := by
  have hb : b = whole b ++ rest b := (List.takeWhile_append_dropWhile).symm
  unfold Lib.cut
  rw [index_dot]
  by_cases h : rest b = []
  · rw [if_pos h, if_neg (by omega), h]
    rw [h, List.append_nil] at hb
    rw [← hb]; rfl
  · simp only [if_neg h]
    rw [if_pos (by omega)]
    have e1 : b.take (whole b).length = whole b := by
      conv => lhs; arg 2; rw [hb]
      simp
    have e2 : b.drop ((whole b).length + 1) = (rest b).tail := by
      conv => lhs; arg 2; rw [hb]
      rw [List.drop_append]; simp
    simp only [Int.toNat_natCast, List.length_singleton, e1, e2]
    simp [h]
end Go.Proofs.YtjlonndkkeoohaaDoor.Np

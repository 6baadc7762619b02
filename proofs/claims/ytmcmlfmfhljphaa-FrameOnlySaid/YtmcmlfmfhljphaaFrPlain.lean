/-
  Plain lists for layer frame: a record's octets, what is got of octets, all records one behind the other, what is cut short, what is changed. Nothing of any program.
-/
import Derived.Test.YtmcmlfmfhljphaaCodPlain
import Derived.Test.YtmcmlfmfhljphaaCrcPlain
namespace Go.Proofs.Ytmcmlfmfhljphaa.Kf
open Go.Proofs.Ytmcmlfmfhljphaa

def quad (s : Nat) : List Nat := [s % 256, s / 256 % 256, s / 65536 % 256, s / 16777216]
def tail4 (p : List Nat) : List Nat := quad (Kp.sum p)
def rcd (p : List Nat) : List Nat := Kc.enc p.length ++ (p ++ tail4 p)
def recs (L : List (List Nat)) : List Nat := L.flatMap rcd
def put (b p : List Nat) : List Nat := if p.length ≤ 65536 then b ++ rcd p else b
def get (l : List Nat) : Kc.R (List Nat) :=
  if (Kc.getU l).2.2 = 0 then
    if 65536 < (Kc.getU l).1 then ([], [], 4)
    else if (Kc.getU l).2.1.length < (Kc.getU l).1 + 4 then ([], [], 3)
    else if ((Kc.getU l).2.1.drop (Kc.getU l).1).take 4 = tail4 ((Kc.getU l).2.1.take (Kc.getU l).1) then ((Kc.getU l).2.1.take (Kc.getU l).1, (Kc.getU l).2.1.drop ((Kc.getU l).1 + 4), 0)
    else ([], [], 5)
  else ([], [], (Kc.getU l).2.2)
def allF : Nat → List Nat → List (List Nat) × Nat × Int
  | 0, _ => ([], 0, 0)
  | f + 1, l =>
    if l = [] then ([], 0, 0)
    else if (get l).2.2 = 0 then ((get l).1 :: (allF f (get l).2.1).1, l.length - (get l).2.1.length + (allF f (get l).2.1).2.1, (allF f (get l).2.1).2.2)
    else ([], 0, (get l).2.2)
def all (l : List Nat) : List (List Nat) × Nat × Int := allF l.length l

theorem tail4_len (p : List Nat) : (tail4 p).length = 4 := rfl
theorem quad_small {s : Nat} (h : s < 4294967296) : ∀ x ∈ quad s, x < 256 := by
  intro x hx
  simp only [quad, List.mem_cons, List.not_mem_nil, or_false] at hx
  omega
theorem tail4_small {p : List Nat} (h : ∀ x ∈ p, x < 256) : ∀ x ∈ tail4 p, x < 256 := quad_small (Kp.sum_lt h)
theorem rcd_len (p : List Nat) : (rcd p).length = (Kc.enc p.length).length + p.length + 4 := by
  unfold rcd
  rw [List.length_append, List.length_append, tail4_len]; omega
theorem rcd_le {p : List Nat} (h : p.length ≤ 65536) : (rcd p).length ≤ p.length + 13 := by
  rw [rcd_len]
  have := Kc.enc_len9 (n := p.length) (by omega)
  omega
theorem rcd_small {p : List Nat} (h : ∀ x ∈ p, x < 256) : ∀ x ∈ rcd p, x < 256 := by
  intro x hx
  rcases List.mem_append.1 hx with hx | hx
  · exact Kc.enc_small _ x hx
  · rcases List.mem_append.1 hx with hx | hx
    · exact h x hx
    · exact tail4_small h x hx
theorem put_ok {p : List Nat} (h : p.length ≤ 65536) (b : List Nat) : put b p = b ++ rcd p := by unfold put; rw [if_pos h]
theorem recs_nil : recs [] = [] := rfl
theorem recs_cons (p : List Nat) (L : List (List Nat)) : recs (p :: L) = rcd p ++ recs L := rfl
theorem recs_app (L M : List (List Nat)) : recs (L ++ M) = recs L ++ recs M := List.flatMap_append
theorem recs_snoc (L : List (List Nat)) (p : List Nat) : recs (L ++ [p]) = recs L ++ rcd p := by rw [recs_app]; simp [recs]
theorem recs_small : ∀ {L : List (List Nat)}, (∀ p ∈ L, ∀ x ∈ p, x < 256) → ∀ x ∈ recs L, x < 256 := by
  intro L h x hx
  obtain ⟨p, hp, hx⟩ := List.mem_flatMap.1 hx
  exact rcd_small (h p hp) x hx
theorem recs_len : ∀ {L : List (List Nat)} {k : Nat}, (∀ p ∈ L, p.length ≤ k) → k ≤ 65536 → (recs L).length ≤ (k + 13) * L.length
  | [], _, _, _ => by simp [recs]
  | p :: r, k, h, hk => by
    have ih := recs_len (L := r) (fun q hq => h q (by simp [hq])) hk
    have h1 := h p (by simp)
    have h2 := rcd_le (p := p) (by omega)
    rw [recs_cons, List.length_append, List.length_cons, Nat.mul_add]
    omega

theorem get_rcd {p : List Nat} (h : p.length ≤ 65536) (t : List Nat) : get (rcd p ++ t) = (p, t, 0) := by
  unfold get rcd
  rw [List.append_assoc, Kc.getU_enc (by omega)]
  show (if 65536 < p.length then _ else if (p ++ tail4 p ++ t).length < p.length + 4 then _ else if ((p ++ tail4 p ++ t).drop p.length).take 4 = tail4 ((p ++ tail4 p ++ t).take p.length) then ((p ++ tail4 p ++ t).take p.length, (p ++ tail4 p ++ t).drop (p.length + 4), (0 : Int)) else _) = _
  have hl : (p ++ tail4 p ++ t).length = p.length + 4 + t.length := by rw [List.length_append, List.length_append, tail4_len]
  have h1 : (p ++ tail4 p ++ t).take p.length = p := by rw [List.append_assoc, List.take_left]
  have h2 : (p ++ tail4 p ++ t).drop p.length = tail4 p ++ t := by rw [List.append_assoc, List.drop_left]
  have h3 : (p ++ tail4 p ++ t).drop (p.length + 4) = t := by rw [← List.drop_drop, h2]; exact List.drop_left (l₁ := tail4 p)
  have h4 : (tail4 p ++ t).take 4 = tail4 p := List.take_left (l₁ := tail4 p)
  rw [if_neg (by omega), if_neg (by omega), h1, h2, h3, if_pos h4]
theorem get_only {l p r : List Nat} (hs : ∀ x ∈ l, x < 256) (h : get l = (p, r, 0)) : l = rcd p ++ r ∧ p.length ≤ 65536 := by
  unfold get at h
  split at h
  · rename_i he
    split at h
    · simp at h
    · rename_i h4
      split at h
      · simp at h
      · rename_i h3
        split at h
        · rename_i h5
          simp only [Prod.mk.injEq, and_true] at h
          obtain ⟨e1, _⟩ := Kc.getU_only (n := (Kc.getU l).1) (t := (Kc.getU l).2.1) hs (by rw [← he])
          generalize (Kc.getU l).1 = n at *
          generalize (Kc.getU l).2.1 = u at *
          obtain ⟨rfl, rfl⟩ := h
          have hl : (u.take n).length = n := by rw [List.length_take]; omega
          refine ⟨?_, by omega⟩
          unfold rcd
          rw [hl, ← h5, List.append_assoc, List.append_assoc, ← List.drop_drop, List.take_append_drop, List.take_append_drop]
          exact e1
        · simp at h
  · rename_i he
    simp only [Prod.mk.injEq] at h
    exact absurd h.2.2 he
theorem get_no {l p r : List Nat} {e : Int} (h : get l = (p, r, e)) (he : e ≠ 0) : p = [] ∧ r = [] := by
  unfold get at h
  split at h
  · split at h
    · simp only [Prod.mk.injEq] at h; exact ⟨h.1.symm, h.2.1.symm⟩
    · split at h
      · simp only [Prod.mk.injEq] at h; exact ⟨h.1.symm, h.2.1.symm⟩
      · split at h
        · simp only [Prod.mk.injEq] at h; exact absurd h.2.2.symm he
        · simp only [Prod.mk.injEq] at h; exact ⟨h.1.symm, h.2.1.symm⟩
  · simp only [Prod.mk.injEq] at h; exact ⟨h.1.symm, h.2.1.symm⟩
theorem get_short {p : List Nat} (h : p.length ≤ 65536) {k : Nat} (hk : k < (rcd p).length) : get ((rcd p).take k) = ([], [], 3) := by
  have hl := rcd_len p
  unfold rcd at hk ⊢
  unfold get
  by_cases h1 : k < (Kc.enc p.length).length
  · rw [List.take_append_of_le_length (by omega), Kc.getU_short (by omega) h1]; rfl
  · rw [List.take_append, List.take_of_length_le (l := Kc.enc p.length) (by omega), Kc.getU_enc (by omega)]
    show (if 65536 < p.length then _ else if ((p ++ tail4 p).take (k - (Kc.enc p.length).length)).length < p.length + 4 then _ else _) = _
    rw [if_neg (by omega), if_pos]
    rw [List.length_take, List.length_append, tail4_len]
    unfold rcd at hl
    omega

theorem allF_stop : ∀ (L : List (List Nat)) (f : Nat) (t : List Nat) (z : Int), (∀ p ∈ L, p.length ≤ 65536) → (recs L ++ t).length ≤ f → ((t = [] ∧ z = 0) ∨ (t ≠ [] ∧ (get t).2.2 = z ∧ z ≠ 0)) → allF f (recs L ++ t) = (L, (recs L).length, z)
  | [], f, t, z, _, hf, ht => by
    rw [recs_nil, List.nil_append] at hf ⊢
    rcases ht with ⟨rfl, rfl⟩ | ⟨h1, h2, h3⟩
    · cases f with
      | zero => rfl
      | succ f => simp [allF]
    · cases f with
      | zero => exact absurd (List.length_eq_zero_iff.1 (by omega)) h1
      | succ f => rw [allF, if_neg h1, if_neg (by rw [h2]; exact h3), h2]; rfl
  | p :: r, f, t, z, hL, hf, ht => by
    have hp := hL p (by simp)
    have hpos := Kc.enc_pos p.length
    have hl := rcd_len p
    rw [recs_cons, List.append_assoc] at hf ⊢
    rw [List.length_append] at hf
    cases f with
    | zero => omega
    | succ f =>
      have ih := allF_stop r f t z (fun q hq => hL q (by simp [hq])) (by omega) ht
      have hne : rcd p ++ (recs r ++ t) ≠ [] := by
        intro e
        have := congrArg List.length e
        simp at this
        have h0 := this.1
        rw [h0] at hl
        simp at hl
      rw [allF, if_neg hne, get_rcd hp, if_pos rfl]
      show (p :: (allF f (recs r ++ t)).1, (rcd p ++ (recs r ++ t)).length - (recs r ++ t).length + (allF f (recs r ++ t)).2.1, (allF f (recs r ++ t)).2.2) = _
      rw [ih]
      show (p :: r, (rcd p ++ (recs r ++ t)).length - (recs r ++ t).length + (recs r).length, z) = (p :: r, (rcd p ++ recs r).length, z)
      rw [List.length_append (as := rcd p) (bs := recs r), List.length_append (as := rcd p) (bs := recs r ++ t)]
      congr 2
      omega
theorem all_recs {L : List (List Nat)} (h : ∀ p ∈ L, p.length ≤ 65536) : all (recs L) = (L, (recs L).length, 0) := by
  have := allF_stop L (recs L).length [] 0 h (by simp) (.inl ⟨rfl, rfl⟩)
  rw [List.append_nil] at this
  exact this
theorem allF_only : ∀ (f : Nat) (l : List Nat) (m : List (List Nat)) (n : Nat) (z : Int), (∀ x ∈ l, x < 256) → l.length ≤ f → allF f l = (m, n, z) →
    ∃ t, l = recs m ++ t ∧ n = (recs m).length ∧ (z = 0 ↔ t = []) ∧ ∀ p ∈ m, p.length ≤ 65536
  | 0, l, m, n, z, _, hf, h => by
    have hl : l = [] := List.length_eq_zero_iff.1 (by omega)
    simp only [allF, Prod.mk.injEq] at h
    obtain ⟨rfl, rfl, rfl⟩ := h
    exact ⟨[], by simp [hl, recs], rfl, by simp, by simp⟩
  | f + 1, l, m, n, z, hs, hf, h => by
    rw [allF] at h
    split at h
    · rename_i hl
      simp only [Prod.mk.injEq] at h
      obtain ⟨rfl, rfl, rfl⟩ := h
      exact ⟨[], by simp [hl, recs], rfl, by simp, by simp⟩
    · rename_i hl
      split at h
      · rename_i he
        obtain ⟨e1, h6⟩ := get_only (p := (get l).1) (r := (get l).2.1) hs (by rw [← he])
        generalize (get l).1 = p at *
        generalize (get l).2.1 = r at *
        have hlen := congrArg List.length e1
        have hrl := rcd_len p
        rw [List.length_append] at hlen
        obtain ⟨t, a1, a2, a3, a4⟩ := allF_only f r (allF f r).1 (allF f r).2.1 (allF f r).2.2 (fun x hx => hs x (by rw [e1]; exact List.mem_append_right _ hx)) (by omega) rfl
        simp only [Prod.mk.injEq] at h
        obtain ⟨rfl, rfl, rfl⟩ := h
        refine ⟨t, ?_, ?_, a3, ?_⟩
        · rw [recs_cons, List.append_assoc, ← a1]; exact e1
        · rw [recs_cons, List.length_append, a2]; omega
        · intro q hq
          rcases List.mem_cons.1 hq with rfl | hq
          · exact h6
          · exact a4 q hq
      · rename_i he
        simp only [Prod.mk.injEq] at h
        obtain ⟨rfl, rfl, rfl⟩ := h
        exact ⟨l, by simp [recs], rfl, by simp [he, hl], by simp⟩
theorem all_only {l : List Nat} {m : List (List Nat)} {n : Nat} {z : Int} (hs : ∀ x ∈ l, x < 256) (h : all l = (m, n, z)) :
    n ≤ l.length ∧ recs m = l.take n ∧ (z = 0 ↔ n = l.length) ∧ ∀ p ∈ m, p.length ≤ 65536 := by
  obtain ⟨t, e1, e2, e3, e4⟩ := allF_only l.length l m n z hs (Nat.le_refl _) h
  have hl := congrArg List.length e1
  rw [List.length_append] at hl
  refine ⟨by omega, by rw [e1, e2, List.take_left], ?_, e4⟩
  rw [e3]
  constructor
  · rintro rfl; simp at hl; omega
  · intro hn; exact List.length_eq_zero_iff.1 (by omega)

/-- Cut anywhere: i records are whole. -/
theorem all_cut {L : List (List Nat)} (h : ∀ p ∈ L, p.length ≤ 65536) {at_ i : Nat} (h1 : at_ ≤ (recs L).length) (_ : i ≤ L.length) (h3 : (recs (L.take i)).length ≤ at_) (h4 : i = L.length ∨ at_ < (recs (L.take (i + 1))).length) :
    all ((recs L).take at_) = (L.take i, (recs (L.take i)).length, if at_ = (recs (L.take i)).length then 0 else 3) := by
  have hL : recs L = recs (L.take i) ++ recs (L.drop i) := by rw [← recs_app, List.take_append_drop]
  have ht : (recs L).take at_ = recs (L.take i) ++ (recs (L.drop i)).take (at_ - (recs (L.take i)).length) := by
    rw [hL, List.take_append, List.take_of_length_le h3]
  have hall : ∀ p ∈ L.take i, p.length ≤ 65536 := fun p hp => h p (List.mem_of_mem_take hp)
  unfold all
  rw [ht]
  refine allF_stop _ _ _ _ hall (Nat.le_refl _) ?_
  by_cases he : at_ = (recs (L.take i)).length
  · rw [if_pos he, he, Nat.sub_self]
    exact .inl ⟨rfl, rfl⟩
  · rw [if_neg he]
    refine .inr ?_
    have hi : i < L.length := by
      rcases Nat.lt_or_ge i L.length with h' | h'
      · exact h'
      · rw [List.take_of_length_le h'] at he h3; omega
    have h5 : at_ < (recs (L.take (i + 1))).length := by
      rcases h4 with h4 | h4
      · omega
      · exact h4
    rw [List.take_succ_eq_append_getElem hi, recs_snoc, List.length_append] at h5
    have hd : recs (L.drop i) = rcd L[i] ++ recs (L.drop (i + 1)) := by rw [List.drop_eq_getElem_cons hi, recs_cons]
    have hk : at_ - (recs (L.take i)).length < (rcd L[i]).length := by omega
    rw [hd, List.take_append_of_le_length (by omega)]
    refine ⟨?_, by rw [get_short (h _ (List.getElem_mem hi)) hk], by decide⟩
    intro e
    have := congrArg List.length e
    rw [List.length_take, List.length_nil] at this
    omega

/-! ### what is changed -/
theorem flip_cons (x : Nat) (l : List Nat) (k : Nat) : Kp.flip (x :: l) (k + 8) = x :: Kp.flip l k := by
  unfold Kp.flip
  rw [show (k + 8) / 8 = k / 8 + 1 by omega, show (k + 8) % 8 = k % 8 by omega]
  rfl
theorem burst_cons (x : Nat) (l : List Nat) (k y : Nat) : ∀ i, Kp.burst (x :: l) (k + 8) y i = x :: Kp.burst l k y i
  | 0 => rfl
  | i + 1 => by
    unfold Kp.burst
    rw [burst_cons x l k y i]
    split
    · rw [show k + 8 + i = k + i + 8 by omega, flip_cons]
    · rfl
theorem burst_none (l : List Nat) (k : Nat) : ∀ i, Kp.burst l k 0 i = l
  | 0 => rfl
  | i + 1 => by
    unfold Kp.burst
    rw [if_neg (by simp), burst_none l k i]
/-- A record of few octets of which bits are changed within 32. -/
theorem get_burst {p : List Nat} (hp : p.length ≤ 100) {k y : Nat} (hk : k ≤ 8 * p.length) (hy : y < 4294967296) :
    get (Kp.burst (rcd p) (k + 8) y 32) = if y = 0 then (p, [], 0) else ([], [], 5) := by
  have he : rcd p = p.length :: (p ++ tail4 p) := by unfold rcd; rw [Kc.enc_lo (by omega)]; rfl
  by_cases h0 : y = 0
  · subst h0
    rw [burst_none, if_pos rfl]
    have := get_rcd (p := p) (by omega) []
    rwa [List.append_nil] at this
  · rw [if_neg h0, he, burst_cons]
    obtain ⟨q, hq⟩ : ∃ q, Kp.burst (p ++ tail4 p) k y 32 = q := ⟨_, rfl⟩
    have hl : q.length = p.length + 4 := by rw [← hq, Kp.burst_len, List.length_append, tail4_len]
    have hg : Kc.getU (p.length :: q) = (p.length, q, 0) := by
      have := Kc.getU_enc (n := p.length) (by omega) q
      rwa [Kc.enc_lo (by omega)] at this
    have hne : (q.drop p.length).take 4 ≠ tail4 (q.take p.length) := by
      intro e
      have e2 : q = q.take p.length ++ tail4 (q.take p.length) := by
        rw [← e, List.take_of_length_le (l := q.drop p.length) (by rw [List.length_drop]; omega), List.take_append_drop]
      have s1 : Kp.sum q = 558161692 := by rw [e2]; exact Kp.own_sum _ _ rfl
      have s2 : Kp.sum (p ++ tail4 p) = 558161692 := Kp.own_sum _ _ rfl
      have := (Kp.sum_burst (p ++ tail4 p) k y (by rw [List.length_append, tail4_len]; omega) hy).1 (by rw [hq, s1, s2])
      exact h0 this
    rw [hq]
    unfold get
    rw [hg]
    show (if 65536 < p.length then _ else if q.length < p.length + 4 then _ else if (q.drop p.length).take 4 = tail4 (q.take p.length) then _ else _) = _
    rw [if_neg (by omega), if_neg (by omega), if_neg hne]
end Go.Proofs.Ytmcmlfmfhljphaa.Kf

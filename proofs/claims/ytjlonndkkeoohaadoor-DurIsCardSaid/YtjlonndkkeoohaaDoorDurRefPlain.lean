/-
  Plain lists for the document's answer of layer dur: how it reads a text, and that it comes to the same.
-/
import Derived.Test.YtjlonndkkeoohaaDoorDurPlain
namespace Go.Proofs.YtjlonndkkeoohaaDoor.Dp
open Go.Lib (decDigits nDigits)
open Go.Proofs.YtjlonndkkeoohaaDoor

/-- Which of the first k units' letters stand at the head: the longest ones; -1 where none does. -/
def best (r : List UInt8) : Nat → Int
  | 0 => -1
  | k + 1 => if (nm k).isPrefixOf r = true ∧ (best r k < 0 ∨ (nm (best r k).toNat).length < (nm k).length) then (k : Int) else best r k
def sat (c : List UInt8) : Nat := min (Np.num c) (4 * Np.mx)
def vof (c : List UInt8) (k : Nat) : Nat := if Np.mx / sz k < sat c then Np.mx / sz k + 1 else sat c
def refGo : (f next sum : Nat) → List UInt8 → Option Nat
  | 0, _, _, _ => none
  | f + 1, next, sum, l =>
    if l = [] then (if next = 0 then none else some sum) else
      if cnt l = [] ∨ best (rst l) 5 < (next : Int) then none else
        refGo f ((best (rst l) 5).toNat + 1) (min (sum + vof (cnt l) (best (rst l) 5).toNat * sz (best (rst l) 5).toNat) (4 * Np.mx)) ((rst l).drop (nm (best (rst l) 5).toNat).length)

theorem sat_nil : sat [] = 0 := rfl
theorem sat_snoc (l : List UInt8) (c : UInt8) : sat (l ++ [c]) = min (sat l * 10 + (c.toNat - 48)) (4 * Np.mx) := by
  unfold sat
  rw [Np.num_snoc]
  unfold Np.mx
  omega
theorem sat_le (l : List UInt8) : sat l ≤ 4 * Np.mx := Nat.min_le_right _ _

/-- What 'best' tells. -/
theorem best_spec (r : List UInt8) : (best r 5 = -1 ∧ ∀ j, j < 5 → ¬ nm j <+: r) ∨ ∃ k : Nat, k < 5 ∧ best r 5 = (k : Int) ∧ nm k <+: r ∧ ∀ j, j < 5 → nm j <+: r → (nm j).length ≤ (nm k).length := by
  have hj : ∀ (P : Nat → Prop), P 0 → P 1 → P 2 → P 3 → P 4 → ∀ j, j < 5 → P j := by
    intro P h0 h1 h2 h3 h4 j h
    rcases (show j = 0 ∨ j = 1 ∨ j = 2 ∨ j = 3 ∨ j = 4 by omega) with rfl | rfl | rfl | rfl | rfl <;> assumption
  cases r with
  | nil => exact Or.inl ⟨by simp [best, nm], hj _ (by simp [nm]) (by simp [nm]) (by simp [nm]) (by simp [nm]) (by simp [nm])⟩
  | cons c t =>
    by_cases h0 : c = 100
    · subst h0
      exact Or.inr ⟨0, by omega, by simp [best, nm, List.isPrefixOf], by simp [nm], hj _ (by simp [nm]) (by simp [nm]) (by simp [nm]) (by simp [nm]) (by simp [nm])⟩
    by_cases h1 : c = 104
    · subst h1
      exact Or.inr ⟨1, by omega, by simp [best, nm, List.isPrefixOf], by simp [nm], hj _ (by simp [nm]) (by simp [nm]) (by simp [nm]) (by simp [nm]) (by simp [nm])⟩
    by_cases h3 : c = 115
    · subst h3
      exact Or.inr ⟨3, by omega, by simp [best, nm, List.isPrefixOf], by simp [nm], hj _ (by simp [nm]) (by simp [nm]) (by simp [nm]) (by simp [nm]) (by simp [nm])⟩
    have h0' : ¬ (100 : UInt8) = c := fun e => h0 e.symm
    have h1' : ¬ (104 : UInt8) = c := fun e => h1 e.symm
    have h3' : ¬ (115 : UInt8) = c := fun e => h3 e.symm
    by_cases h2 : c = 109
    · subst h2
      cases t with
      | nil => exact Or.inr ⟨2, by omega, by simp [best, nm, List.isPrefixOf], by simp [nm], hj _ (by simp [nm]) (by simp [nm]) (by simp [nm]) (by simp [nm]) (by simp [nm])⟩
      | cons d u =>
        by_cases h4 : d = 115
        · subst h4
          exact Or.inr ⟨4, by omega, by simp [best, nm, List.isPrefixOf], by simp [nm], hj _ (by simp [nm]) (by simp [nm]) (by simp [nm]) (by simp [nm]) (by simp [nm])⟩
        · have h4' : ¬ (115 : UInt8) = d := fun e => h4 e.symm
          exact Or.inr ⟨2, by omega, by simp [best, nm, List.isPrefixOf, h4'], by simp [nm], hj _ (by simp [nm]) (by simp [nm]) (by simp [nm]) (by simp [nm]) (by simp [nm, h4'])⟩
    · have h2' : ¬ (109 : UInt8) = c := fun e => h2 e.symm
      exact Or.inl ⟨by simp [best, nm, List.isPrefixOf, h0', h1', h2', h3'], hj _ (by simp [nm, h0']) (by simp [nm, h1']) (by simp [nm, h2']) (by simp [nm, h3']) (by simp [nm, h2'])⟩

def Rel (a b : Nat) : Prop := (a = b ∧ b ≤ Np.mx) ∨ (Np.mx < a ∧ Np.mx < b)
theorem rel_fin {a b : Nat} (h : Rel a b) : fin (some a) = fin (some b) := by
  unfold fin
  rcases h with ⟨rfl, _⟩ | ⟨h1, h2⟩
  · rfl
  · simp only
    rw [if_neg (by omega), if_neg (by omega)]
theorem rel_step {a b : Nat} (c : List UInt8) (k : Nat) (h : Rel a b) : Rel (min (a + vof c k * sz k) (4 * Np.mx)) (b + times c k) := by
  have hp := sz_pos k
  unfold vof times sat
  have hq : Np.mx / sz k ≤ Np.mx := Nat.div_le_self _ _
  have hm : (0 : Nat) < Np.mx := by unfold Np.mx; omega
  by_cases hn : Np.num c ≤ Np.mx / sz k
  · have e : min (Np.num c) (4 * Np.mx) = Np.num c := by omega
    rw [e, if_neg (by omega), if_pos hn]
    have := (Nat.le_div_iff_mul_le hp).mp hn
    generalize Np.num c * sz k = t at *
    rcases h with ⟨rfl, h⟩ | ⟨h1, h2⟩
    · by_cases hs : a + t ≤ Np.mx
      · exact Or.inl ⟨by omega, hs⟩
      · exact Or.inr ⟨by omega, by omega⟩
    · exact Or.inr ⟨by omega, by omega⟩
  · rw [if_pos (by omega), if_neg hn]
    have hd : Np.mx < (Np.mx / sz k + 1) * sz k := by
      have := Nat.div_add_mod Np.mx (sz k)
      have h2 := Nat.mod_lt Np.mx hp
      rw [Nat.add_mul, Nat.one_mul, Nat.mul_comm (Np.mx / sz k)]
      omega
    exact Or.inr ⟨by omega, by omega⟩

theorem prefix_ltr (k : Nat) (l r' : List UInt8) (h : rst l = nm k ++ r') : nm k <+: ltr l := by
  unfold ltr
  rw [h, List.takeWhile_append_of_pos (fun c hc => by simp [nm_nodig k c hc])]
  exact List.prefix_append _ _
theorem ltr_prefix (l : List UInt8) : ltr l <+: rst l := List.takeWhile_prefix _

theorem ref_eq : ∀ (f g next sR sP : Nat) (l : List UInt8), next ≤ 5 → 6 ≤ f + next → 6 ≤ g + next → (next = 0 → l ≠ []) → Rel sR sP → fin (refGo f next sR l) = fin (go g next sP l)
  | 0, _, _, _, _, _, h1, h2, _, _, _ => by omega
  | f + 1, 0, _, _, _, _, h1, _, h3, _, _ => by omega
  | f + 1, g + 1, next, sR, sP, l, hn, hf, hg, hl, hr => by
    unfold refGo go
    by_cases h0 : l = []
    · rw [if_pos h0, if_pos h0, if_neg (fun e => hl e h0)]
      exact rel_fin hr
    · rw [if_neg h0, if_neg h0]
      by_cases hc : cnt l = []
      · rw [if_pos (Or.inl hc), if_pos hc]
      · rw [if_neg hc]
        rcases best_spec (rst l) with ⟨hb, hno⟩ | ⟨k, hk5, hb, hpre, hmax⟩
        · rw [if_pos (Or.inr (by omega)), find_none (fun j h1 h2 e => hno j (by omega) (by rw [← e]; exact ltr_prefix l))]
        · obtain ⟨r', hr'⟩ := hpre
          have hsame : ∀ j, j < 5 → ltr l = nm j → j = k := by
            intro j hj e
            have p1 := prefix_ltr k l r' hr'.symm
            rw [e] at p1
            have h1 := hmax j hj (by rw [← e]; exact ltr_prefix l)
            exact nm_inj' hj hk5 (p1.eq_of_length_le h1).symm
          rw [hb, Int.toNat_natCast]
          by_cases hkn : k < next
          · rw [if_pos (Or.inr (by omega)), find_none (fun j h1 h2 e => by have := hsame j (by omega) e; omega)]
          · rw [if_neg (by
              rintro (h | h)
              · exact hc h
              · omega)]
            have hdrop : (rst l).drop (nm k).length = r' := by rw [← hr']; simp
            rw [hdrop]
            by_cases hd : dhead r'
            · have hl' : l = cnt l ++ (nm k ++ r') := by
                have : cnt l ++ rst l = l := List.takeWhile_append_dropWhile
                rw [← hr'] at this; exact this.symm
              have hcd : Np.digs (cnt l) = true := List.all_takeWhile
              obtain ⟨_, _, e3, e4⟩ := cut_part (cnt l) r' k hcd hd
              rw [← hl'] at e3 e4
              rw [e3, find_of (k := 5 - next) (i := next) (j := k) (by omega) (by omega) (by omega), e4]
              exact ref_eq f g (k + 1) _ _ r' (by omega) (by omega) (by omega) (by omega) (rel_step _ _ hr)
            · have hne : r' ≠ [] := by rintro rfl; exact hd rfl
              have hcn : cnt r' = [] := by
                cases r' with
                | nil => rfl
                | cons c t =>
                  have : Np.dig c = false := by unfold dhead at hd; simpa using hd
                  unfold cnt; rw [List.takeWhile_cons, if_neg (by simp [this])]
              have hlong : ∀ j, j < 5 → ltr l ≠ nm j := by
                intro j hj e
                obtain rfl := hsame j hj e
                unfold ltr at e
                rw [← hr', List.takeWhile_append_of_pos (fun c hc => by simp [nm_nodig j c hc])] at e
                have e2 : (r'.takeWhile fun c => !Np.dig c) = [] := by simpa using e
                cases r' with
                | nil => exact hne rfl
                | cons c t =>
                  have : Np.dig c = false := by unfold dhead at hd; simpa using hd
                  rw [List.takeWhile_cons, if_pos (by simp [this])] at e2
                  exact absurd e2 (by simp)
              rw [find_none (fun j h1 h2 => hlong j (by omega))]
              cases f with
              | zero => omega
              | succ f =>
                unfold refGo
                rw [if_neg hne, if_pos (Or.inl hcn)]
/-- The document's answer is the same. -/
theorem parse_ref (l : List UInt8) : fin (refGo 6 0 0 l) = parseS l := by
  unfold parseS
  by_cases h : l = []
  · subst h; rfl
  · rw [if_neg h]
    exact ref_eq 6 6 0 0 0 l (by omega) (by omega) (by omega) (fun _ => h) (Or.inl ⟨rfl, by omega⟩)
end Go.Proofs.YtjlonndkkeoohaaDoor.Dp

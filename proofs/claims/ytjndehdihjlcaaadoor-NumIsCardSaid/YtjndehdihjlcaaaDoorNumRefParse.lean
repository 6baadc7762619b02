/-
  The walk of the document's Parse: what is answered is Np.parseS of the text's octets, as the program's Parse answers.
-/
import Derived.Test.YtjndehdihjlcaaaDoorNumRef
namespace Go.Proofs.YtjndehdihjlcaaaDoor
open Go.RowKit

theorem refRun_at (s : ByteArray) (a : Int) (h0 : 0 ≤ a) (h1 : a ≤ s.size) (w : World) (hs : s.size ≤ 1000000) :
    Calls Tryd.prog 19 #[.string s, .int .i64 a] w fun e w' => e = .returned (.int .i64 (Np.runN s.data.toList a.toNat)) ∧ w = w' := by
  obtain ⟨k, rfl⟩ := Int.eq_ofNat_of_zero_le h0
  exact refRun_any s k w hs (by omega)

/-! plain -/
def Np.Sat4 (v n : Nat) : Prop := v ≤ 36028797018963968 ∧ (n ≤ Np.mx → v = n) ∧ (Np.mx < n → Np.mx < v)
theorem Np.sat4_zero : Np.Sat4 0 (Np.num []) := ⟨by omega, fun _ => rfl, fun h => by simp [Np.num, Np.mx] at h⟩
theorem Np.sat4_step {v n d v' : Nat} (h : Np.Sat4 v n) (hv : v' = min (10 * v + d) 36028797018963968) : Np.Sat4 v' (10 * n + d) := by
  unfold Np.Sat4 Np.mx at *
  obtain ⟨h1, h2, h3⟩ := h
  subst hv
  refine ⟨by omega, fun h => ?_, fun h => ?_⟩
  · have := h2 (by omega); omega
  · by_cases e : n ≤ 9007199254740992
    · have := h2 e; omega
    · have := h3 (by omega); omega

/-- The digits ahead, and what stands behind them. -/
def Np.pre (b : List UInt8) : List UInt8 := b.takeWhile Np.dig
def Np.suf (b : List UInt8) : List UInt8 := b.dropWhile Np.dig
theorem Np.pre_suf (b : List UInt8) : b = Np.pre b ++ Np.suf b := (List.takeWhile_append_dropWhile).symm
theorem Np.pre_digs (b : List UInt8) : Np.digs (Np.pre b) = true := List.all_takeWhile
theorem Np.suf_head (b : List UInt8) {c : UInt8} {t : List UInt8} (h : Np.suf b = c :: t) : Np.dig c = false := by
  have hh : Np.suf b ≠ [] := by rw [h]; simp
  have := List.head_dropWhile_not Np.dig hh
  have e : (Np.suf b).head hh = c := by simp [h]
  unfold Np.suf at e
  rw [e] at this; exact this
theorem Np.pre_all (b : List UInt8) (h : Np.suf b = []) : b = Np.pre b := by
  have := Np.pre_suf b
  rw [h, List.append_nil] at this; exact this
theorem Np.uns_A1 (b : List UInt8) (h : Np.suf b = []) (h0 : Np.pre b = []) : Np.unsig b = none := by
  have := Np.pre_all b h
  rw [h0] at this; subst this; rfl
theorem Np.uns_A2 (b : List UInt8) (h : Np.suf b = []) (h0 : Np.pre b ≠ []) : Np.unsig b = some (Np.pre b ++ [48, 48, 48]) := by
  have e := Np.pre_all b h
  have := Np.unsig_plain _ (Np.pre_digs b) h0
  rw [← e] at this ⊢
  exact this
theorem Np.takeWhile_ne (D : List UInt8) (c : UInt8) (t : List UInt8) (hD : Np.digs D = true) (hc : (c != 46) = true) : Np.whole (D ++ c :: t) = D ++ c :: Np.whole t := by
  unfold Np.whole
  induction D with
  | nil => rw [List.nil_append, List.nil_append, List.takeWhile_cons, if_pos hc]
  | cons x D ih =>
    have hx : Np.dig x = true ∧ Np.digs D = true := by simpa [Np.digs] using hD
    rw [List.cons_append, List.cons_append, List.takeWhile_cons, if_pos (by simpa using (Np.dig_ne hx.1).1), ih hx.2]
theorem Np.uns_B (b : List UInt8) {c : UInt8} {t : List UInt8} (h : Np.suf b = c :: t) (hc : ¬ c = 46) : Np.unsig b = none := by
  have hd := Np.suf_head b h
  have e : b = Np.pre b ++ c :: t := by rw [← h]; exact Np.pre_suf b
  have hw : Np.digs (Np.whole b) = false := by
    rw [e, Np.takeWhile_ne _ c t (Np.pre_digs b) (by simpa using hc), Np.digs_app, Np.digs_cons, hd]; simp
  unfold Np.unsig
  split
  · rw [if_neg (by simp [hw])]
  · split
    · rfl
    · rw [if_neg (by rw [Np.digs_app, hw]; simp)]
theorem Np.eq_C (b : List UInt8) {t : List UInt8} (h : Np.suf b = 46 :: t) : b = Np.pre b ++ 46 :: t := by rw [← h]; exact Np.pre_suf b
theorem Np.uns_C (b : List UInt8) {t : List UInt8} (h : Np.suf b = 46 :: t) (hn : (Np.pre t).length < 1 ∨ 3 < (Np.pre t).length ∨ Np.pre b = [] ∨ (Np.pre t).length ≠ t.length) : Np.unsig b = none := by
  have e := Np.eq_C b h
  have hr : Np.rest b = 46 :: t := by rw [e]; exact Np.rest_pt _ _ (Np.pre_digs b)
  have hw : Np.whole b = Np.pre b := by
    have := Np.whole_pt (Np.pre b) t (Np.pre_digs b)
    rw [← e] at this; exact this
  have hall : Np.digs t = true → (Np.pre t).length = t.length := by
    intro ht
    have : Np.pre t = t := by
      unfold Np.pre
      have hs : Np.suf t = [] := by
        cases e : Np.suf t with
        | nil => rfl
        | cons c r =>
          have h1 := Np.suf_head t e
          have h2 : c ∈ t := by rw [Np.pre_suf t, e]; simp
          rw [List.all_eq_true.mp ht c h2] at h1; exact absurd h1 (by simp)
      exact (Np.pre_all t hs).symm
    rw [this]
  have hpl : (Np.pre t).length ≤ t.length := (List.takeWhile_sublist _).length_le
  unfold Np.unsig
  rw [hr, hw]
  by_cases hp : t = [] ∨ 3 < t.length
  · simp [hp]
  · simp only [if_neg hp]
    rw [if_neg]
    rintro ⟨h0, h1⟩
    rw [Np.digs_app] at h1
    have hpad : Np.digs (Np.pad t) = true := by simpa using (Bool.and_eq_true _ _ |>.mp h1).2
    have hl : t.length ≤ 3 := by
      rcases Nat.lt_or_ge 3 t.length with h' | h'
      · exact absurd (Or.inr h') hp
      · exact h'
    have ht : Np.digs t = true := by
      have : t = (Np.pad t).take t.length := by unfold Np.pad; rw [List.take_take, Nat.min_eq_left hl]; simp
      rw [this]
      exact List.all_eq_true.mpr fun c hc' => List.all_eq_true.mp hpad c (List.mem_of_mem_take hc')
    have hlen := hall ht
    have hne : t ≠ [] := fun e => hp (Or.inl e)
    have hpos : 0 < t.length := List.length_pos_iff.mpr hne
    rcases hn with hn | hn | hn | hn
    · omega
    · omega
    · exact h0 hn
    · exact hn hlen
theorem Np.uns_C3 (b : List UInt8) {t : List UInt8} (h : Np.suf b = 46 :: t) (h1 : ¬ (Np.pre t).length < 1) (h3 : ¬ 3 < (Np.pre t).length) (h0 : Np.pre b ≠ []) (hl : (Np.pre t).length = t.length) : Np.unsig b = some (Np.pre b ++ Np.pad t) ∧ Np.digs t = true := by
  have e := Np.eq_C b h
  have ht : Np.pre t = t := by
    have := Np.pre_suf t
    have hs : Np.suf t = [] := by
      have := congrArg List.length this
      rw [List.length_append] at this
      exact List.length_eq_zero_iff.mp (by omega)
    rw [hs, List.append_nil] at this; exact this.symm
  have htd : Np.digs t = true := by rw [← ht]; exact Np.pre_digs t
  refine ⟨?_, htd⟩
  have hne : t ≠ [] := by rintro rfl; simp [Np.pre] at h1
  have := Np.unsig_pt (Np.pre b) t (Np.pre_digs b) h0 htd hne (by omega)
  rw [← e] at this; exact this

/-- The value's loops. -/
def Np.keep (l : List UInt8) : List UInt8 := l.filter (· != 46)
theorem Np.keep_digs (l : List UInt8) (h : Np.digs l = true) : Np.keep l = l := List.filter_eq_self.mpr (Np.digs_no l h)
theorem Np.keep_C (D t : List UInt8) (hD : Np.digs D = true) (ht : Np.digs t = true) : Np.keep (D ++ 46 :: t) = D ++ t := by
  unfold Np.keep
  rw [List.filter_append, List.filter_cons]
  have h1 := Np.keep_digs D hD
  have h2 := Np.keep_digs t ht
  unfold Np.keep at h1 h2
  rw [h1, if_neg (by simp), h2]
theorem Np.num_rep (l : List UInt8) (k : Nat) : Np.num (l ++ List.replicate (k + 1) 48) = 10 * Np.num (l ++ List.replicate k 48) := by
  rw [List.replicate_succ', ← List.append_assoc, Np.num_snoc]; simp
theorem Np.pad_rep (p : List UInt8) (h : p.length ≤ 3) : Np.pad p = p ++ List.replicate (3 - p.length) 48 := by
  match p, h with
  | [], _ => rfl
  | [a], _ => rfl
  | [a, b], _ => rfl
  | [a, b, c], _ => rfl
  | _ :: _ :: _ :: _ :: _, h => simp at h
end Go.Proofs.YtjndehdihjlcaaaDoor

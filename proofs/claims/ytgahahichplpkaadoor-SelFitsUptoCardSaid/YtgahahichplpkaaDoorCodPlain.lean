/-
  Plain lists for layer codec: numbers in groups of seven bits, numbers with a sign, texts and labels as octets, and what is got of octets. Nothing of any program.
-/
import Derived.Test.YtgahahichplpkaaDoorLabFacts
namespace Go.Proofs.YtgahahichplpkaaDoor.Kc
open Go.Proofs.YtgahahichplpkaaDoor.Lp

/-! ### numbers in groups of seven bits -/
def enc (n : Nat) : List Nat := if n < 128 then [n] else (128 + n % 128) :: enc (n / 128)
termination_by n
decreasing_by omega
theorem enc_lo {n : Nat} (h : n < 128) : enc n = [n] := by rw [enc, if_pos h]
theorem enc_hi {n : Nat} (h : ¬ n < 128) : enc n = (128 + n % 128) :: enc (n / 128) := by rw [enc, if_neg h]
theorem enc_small (n : Nat) : ∀ x ∈ enc n, x < 256 := by
  induction n using Nat.strongRecOn with
  | ind n ih =>
    intro x hx
    by_cases h : n < 128
    · rw [enc_lo h] at hx; simp at hx; omega
    · rw [enc_hi h, List.mem_cons] at hx
      rcases hx with rfl | hx
      · omega
      · exact ih _ (by omega) x hx
theorem enc_pos (n : Nat) : 0 < (enc n).length := by
  by_cases h : n < 128
  · rw [enc_lo h]; simp
  · rw [enc_hi h]; simp
theorem enc_len_le (n : Nat) : ∀ k, n < 128 ^ k → 0 < k → (enc n).length ≤ k := by
  induction n using Nat.strongRecOn with
  | ind n ih =>
    intro k hk h0
    by_cases h : n < 128
    · rw [enc_lo h]; show 1 ≤ k; omega
    · rw [enc_hi h, List.length_cons]
      obtain ⟨j, rfl⟩ : ∃ j, k = j + 1 := ⟨k - 1, by omega⟩
      have hj : 0 < j := by
        rcases Nat.eq_zero_or_pos j with e | e
        · subst e; simp at hk; omega
        · exact e
      have := ih (n / 128) (by omega) j (by rw [Nat.div_lt_iff_lt_mul (by decide)]; rw [Nat.pow_succ] at hk; exact hk) hj
      omega
theorem enc_len9 {n : Nat} (h : n ≤ 1152921504606846976) : (enc n).length ≤ 9 := enc_len_le n 9 (by show n < 9223372036854775808; omega) (by decide)
theorem enc_mono : ∀ (n m : Nat), n ≤ m → (enc n).length ≤ (enc m).length := by
  intro n
  induction n using Nat.strongRecOn with
  | ind n ih =>
    intro m hnm
    by_cases h : n < 128
    · rw [enc_lo h]; exact enc_pos m
    · rw [enc_hi h, enc_hi (n := m) (by omega), List.length_cons, List.length_cons]
      have := ih (n / 128) (by omega) (m / 128) (Nat.div_le_div_right hnm)
      omega

/-- What is got: it, the rest, the error. -/
abbrev R (α : Type) := α × List Nat × Int
def gu : Nat → Bool → List Nat → R Nat
  | 0, _, _ => (0, [], 2)
  | _ + 1, _, [] => (0, [], 3)
  | k + 1, f, x :: r =>
    if x < 128 then (if x = 0 ∧ f = false then (0, [], 1) else (x, r, 0))
    else if (gu k false r).2.2 = 0 then (x % 128 + 128 * (gu k false r).1, (gu k false r).2.1, 0) else (0, [], (gu k false r).2.2)
def getU (l : List Nat) : R Nat := if (gu 9 true l).2.2 = 0 ∧ 1152921504606846976 < (gu 9 true l).1 then (0, [], 2) else gu 9 true l

theorem gu_enc (n : Nat) : ∀ (k : Nat) (f : Bool) (t : List Nat), n < 128 ^ k → 0 < k → (f = true ∨ n ≠ 0) → gu k f (enc n ++ t) = (n, t, 0) := by
  induction n using Nat.strongRecOn with
  | ind n ih =>
    intro k f t hk h0 hf
    obtain ⟨j, rfl⟩ : ∃ j, k = j + 1 := ⟨k - 1, by omega⟩
    by_cases h : n < 128
    · rw [enc_lo h]
      have hno : ¬ (n = 0 ∧ f = false) := by
        rintro ⟨e1, e2⟩
        rcases hf with hf | hf
        · rw [hf] at e2; cases e2
        · exact hf e1
      show gu (j + 1) f (n :: t) = _
      rw [gu, if_pos h, if_neg hno]
    · have hj : 0 < j := by
        rcases Nat.eq_zero_or_pos j with e | e
        · subst e; simp at hk; omega
        · exact e
      have hi := ih (n / 128) (by omega) j false t (by rw [Nat.div_lt_iff_lt_mul (by decide)]; rw [Nat.pow_succ] at hk; exact hk) hj (.inr (by omega))
      rw [enc_hi h, List.cons_append, gu, if_neg (by omega), hi, if_pos rfl]
      show ((128 + n % 128) % 128 + 128 * (n / 128), t, (0 : Int)) = _
      rw [show (128 + n % 128) % 128 + 128 * (n / 128) = n by omega]
theorem getU_enc {n : Nat} (h : n ≤ 1152921504606846976) (t : List Nat) : getU (enc n ++ t) = (n, t, 0) := by
  unfold getU
  rw [gu_enc n 9 true t (by show n < 9223372036854775808; omega) (by decide) (.inl rfl), if_neg (by simp; omega)]
theorem gu_only : ∀ (k : Nat) (f : Bool) (l : List Nat) (n : Nat) (t : List Nat), (∀ x ∈ l, x < 256) → gu k f l = (n, t, 0) → l = enc n ++ t ∧ (f = false → n ≠ 0)
  | 0, _, _, _, _, _, h => by simp [gu] at h
  | _ + 1, _, [], _, _, _, h => by simp [gu] at h
  | k + 1, f, x :: r, n, t, hs, h => by
    unfold gu at h
    by_cases hx : x < 128
    · rw [if_pos hx] at h
      split at h
      · simp at h
      · rename_i hn
        simp only [Prod.mk.injEq, and_true] at h
        obtain ⟨rfl, rfl⟩ := h
        exact ⟨by rw [enc_lo hx]; rfl, fun hf e => hn ⟨e, hf⟩⟩
    · rw [if_neg hx] at h
      split at h
      · rename_i he
        simp only [Prod.mk.injEq, and_true] at h
        obtain ⟨rfl, rfl⟩ := h
        obtain ⟨e1, e2⟩ := gu_only k false r (gu k false r).1 (gu k false r).2.1 (fun y hy => hs y (by simp [hy])) (by rw [← he])
        have hm := e2 rfl
        have hx2 := hs x (by simp)
        refine ⟨?_, fun _ => by omega⟩
        rw [enc_hi (by omega), show (x % 128 + 128 * (gu k false r).1) / 128 = (gu k false r).1 by omega, show 128 + (x % 128 + 128 * (gu k false r).1) % 128 = x by omega, List.cons_append, ← e1]
      · rename_i he
        simp only [Prod.mk.injEq] at h
        exact absurd h.2.2 he
theorem getU_only {l : List Nat} {n : Nat} {t : List Nat} (hs : ∀ x ∈ l, x < 256) (h : getU l = (n, t, 0)) : l = enc n ++ t ∧ n ≤ 1152921504606846976 := by
  unfold getU at h
  split at h
  · simp at h
  · rename_i hn
    refine ⟨(gu_only 9 true l n t hs h).1, ?_⟩
    rw [h] at hn
    simp only [true_and] at hn
    omega
theorem gu_no : ∀ (k : Nat) (f : Bool) (l : List Nat), (gu k f l).2.2 ≠ 0 → (gu k f l).1 = 0 ∧ (gu k f l).2.1 = []
  | 0, _, _, _ => ⟨rfl, rfl⟩
  | _ + 1, _, [], _ => ⟨rfl, rfl⟩
  | k + 1, f, x :: r, h => by
    unfold gu at h ⊢
    split
    · rename_i hx
      rw [if_pos hx] at h
      split
      · exact ⟨rfl, rfl⟩
      · rename_i hn
        rw [if_neg hn] at h
        exact absurd rfl h
    · rename_i hx
      rw [if_neg hx] at h
      split
      · rename_i he
        rw [if_pos he] at h
        exact absurd rfl h
      · exact ⟨rfl, rfl⟩
theorem getU_no {l : List Nat} {n : Nat} {t : List Nat} {e : Int} (h : getU l = (n, t, e)) (he : e ≠ 0) : n = 0 ∧ t = [] := by
  unfold getU at h
  split at h
  · simp only [Prod.mk.injEq] at h
    exact ⟨h.1.symm, h.2.1.symm⟩
  · have := gu_no 9 true l (by rw [h]; exact he)
    rw [h] at this
    exact this
theorem gu_short (n : Nat) : ∀ (j : Nat) (f : Bool) (k : Nat), k < (enc n).length → k < j → gu j f ((enc n).take k) = (0, [], 3) := by
  induction n using Nat.strongRecOn with
  | ind n ih =>
    intro j f k hk hj
    obtain ⟨i, rfl⟩ : ∃ i, j = i + 1 := ⟨j - 1, by omega⟩
    cases k with
    | zero => simp [gu]
    | succ k =>
      by_cases h : n < 128
      · rw [enc_lo h] at hk; simp at hk
      · rw [enc_hi h] at hk ⊢
        have hi := ih (n / 128) (by omega) i false k (by simpa using hk) (by omega)
        rw [List.take_succ_cons]
        show (if 128 + n % 128 < 128 then _ else if (gu i false ((enc (n / 128)).take k)).2.2 = 0 then _ else _) = _
        rw [if_neg (by omega), hi]; rfl
theorem getU_short {n : Nat} (h : n ≤ 1152921504606846976) {k : Nat} (hk : k < (enc n).length) : getU ((enc n).take k) = (0, [], 3) := by
  have := enc_len9 h
  unfold getU
  rw [gu_short n 9 true k hk (by omega)]; rfl
theorem gu_len : ∀ (k : Nat) (f : Bool) (l : List Nat), (gu k f l).2.1.length ≤ l.length
  | 0, _, _ => by simp [gu]
  | _ + 1, _, [] => by simp [gu]
  | k + 1, f, x :: r => by
    have := gu_len k false r
    unfold gu
    split
    · split <;> simp
    · split
      · simp; omega
      · simp
theorem getU_len (l : List Nat) : (getU l).2.1.length ≤ l.length := by
  unfold getU
  split
  · simp
  · exact gu_len 9 true l
theorem gu_suffix : ∀ (k : Nat) (f : Bool) (l : List Nat), ∀ x ∈ (gu k f l).2.1, x ∈ l
  | 0, _, _ => by simp [gu]
  | _ + 1, _, [] => by simp [gu]
  | k + 1, f, x :: r => by
    have := gu_suffix k false r
    intro y hy
    unfold gu at hy
    split at hy
    · split at hy
      · simp at hy
      · exact List.mem_cons_of_mem _ hy
    · split at hy
      · exact List.mem_cons_of_mem _ (this y hy)
      · simp at hy
theorem getU_suffix (l : List Nat) : ∀ x ∈ (getU l).2.1, x ∈ l := by
  unfold getU
  split
  · simp
  · exact gu_suffix 9 true l
theorem getU_err (l : List Nat) : (getU l).2.2 = 0 ∨ (getU l).2.2 = 1 ∨ (getU l).2.2 = 2 ∨ (getU l).2.2 = 3 := by
  have hg : ∀ (k : Nat) (f : Bool) (l : List Nat), (gu k f l).2.2 = 0 ∨ (gu k f l).2.2 = 1 ∨ (gu k f l).2.2 = 2 ∨ (gu k f l).2.2 = 3 := by
    intro k
    induction k with
    | zero => intro f l; simp [gu]
    | succ k ih =>
      intro f l
      cases l with
      | nil => simp [gu]
      | cons x r =>
        have := ih false r
        unfold gu
        split
        · split <;> simp
        · split
          · simp
          · exact this
  unfold getU
  split
  · simp
  · exact hg 9 true l
def putU (b : List Nat) (n : Int) : List Nat := if 0 ≤ n ∧ n ≤ 1152921504606846976 then b ++ enc n.toNat else b
theorem putU_ok {n : Nat} (h : n ≤ 1152921504606846976) (b : List Nat) : putU b (n : Int) = b ++ enc n := by
  unfold putU
  rw [if_pos (by omega)]; rfl
theorem putU_no {n : Int} (h : ¬ (0 ≤ n ∧ n ≤ 1152921504606846976)) (b : List Nat) : putU b n = b := by
  unfold putU
  rw [if_neg h]

/-! ### numbers with a sign -/
def zig (i : Int) : Nat := if 0 ≤ i then (2 * i).toNat else (-2 * i - 1).toNat
def unzig (n : Nat) : Int := if n % 2 = 1 then -(((n + 1) / 2 : Nat) : Int) else ((n / 2 : Nat) : Int)
theorem unzig_zig (i : Int) : unzig (zig i) = i := by
  unfold zig unzig
  by_cases h : 0 ≤ i
  · rw [if_pos h, if_neg (by omega)]; omega
  · rw [if_neg h, if_pos (by omega)]; omega
theorem zig_unzig (n : Nat) : zig (unzig n) = n := by
  unfold zig unzig
  by_cases h : n % 2 = 1
  · rw [if_pos h, if_neg (by omega)]; omega
  · rw [if_neg h, if_pos (by omega)]; omega
theorem zig_le {i : Int} (h : -576460752303423488 ≤ i ∧ i ≤ 576460752303423488) : zig i ≤ 1152921504606846976 := by
  unfold zig
  split <;> omega
theorem unzig_le {n : Nat} (h : n ≤ 1152921504606846976) : -576460752303423488 ≤ unzig n ∧ unzig n ≤ 576460752303423488 := by
  unfold unzig
  split <;> omega
def putI (b : List Nat) (i : Int) : List Nat := if -576460752303423488 ≤ i ∧ i ≤ 576460752303423488 then b ++ enc (zig i) else b
theorem putI_ok {i : Int} (h : -576460752303423488 ≤ i ∧ i ≤ 576460752303423488) (b : List Nat) : putI b i = b ++ enc (zig i) := by
  unfold putI
  rw [if_pos h]
def getI (l : List Nat) : R Int := if (getU l).2.2 = 0 then (unzig (getU l).1, (getU l).2.1, 0) else (0, [], (getU l).2.2)
theorem getI_enc {i : Int} (h : -576460752303423488 ≤ i ∧ i ≤ 576460752303423488) (t : List Nat) : getI (enc (zig i) ++ t) = (i, t, 0) := by
  unfold getI
  rw [getU_enc (zig_le h)]
  show (unzig (zig i), t, (0 : Int)) = _
  rw [unzig_zig]
theorem getI_err (l : List Nat) : (getI l).2.2 = (getU l).2.2 := by
  unfold getI
  split
  · rename_i h; exact h.symm
  · rfl
theorem getI_only {l : List Nat} {i : Int} {t : List Nat} (hs : ∀ x ∈ l, x < 256) (h : getI l = (i, t, 0)) : l = putI [] i ++ t := by
  unfold getI at h
  split at h
  · rename_i he
    simp only [Prod.mk.injEq, and_true] at h
    obtain ⟨rfl, rfl⟩ := h
    obtain ⟨e1, e2⟩ := getU_only (n := (getU l).1) (t := (getU l).2.1) hs (by rw [← he])
    rw [putI_ok (unzig_le e2), zig_unzig, List.nil_append]
    exact e1
  · rename_i he
    simp only [Prod.mk.injEq] at h
    exact absurd h.2.2 he

theorem getI_bd {l : List Nat} {i : Int} {t : List Nat} {e : Int} (hs : ∀ x ∈ l, x < 256) (h : getI l = (i, t, e)) : -576460752303423488 ≤ i ∧ i ≤ 576460752303423488 := by
  unfold getI at h
  split at h
  · rename_i he
    simp only [Prod.mk.injEq] at h
    obtain ⟨_, e2⟩ := getU_only (n := (getU l).1) (t := (getU l).2.1) hs (by rw [← he])
    rw [← h.1]
    exact unzig_le e2
  · simp only [Prod.mk.injEq] at h
    omega
theorem getI_no {l : List Nat} {i : Int} {t : List Nat} {e : Int} (h : getI l = (i, t, e)) (he : e ≠ 0) : i = 0 ∧ t = [] := by
  unfold getI at h
  split at h
  · simp only [Prod.mk.injEq] at h
    exact absurd h.2.2.symm he
  · simp only [Prod.mk.injEq] at h
    exact ⟨h.1.symm, h.2.1.symm⟩

/-! ### texts -/
def bs (s : ByteArray) : List Nat := s.data.toList.map UInt8.toNat
def tx (l : List Nat) : ByteArray := ⟨(l.map UInt8.ofNat).toArray⟩
theorem bs_len (s : ByteArray) : (bs s).length = s.size := by unfold bs; rw [List.length_map, Array.length_toList]; rfl
theorem bs_small (s : ByteArray) : ∀ x ∈ bs s, x < 256 := by
  intro x hx
  obtain ⟨c, _, rfl⟩ := List.mem_map.1 hx
  exact UInt8.toNat_lt c
theorem tx_size (l : List Nat) : (tx l).size = l.length := by simp [tx, ByteArray.size]
theorem bs_tx {l : List Nat} (h : ∀ x ∈ l, x < 256) : bs (tx l) = l := by
  unfold bs tx
  rw [List.map_map]
  conv => rhs; rw [← List.map_id l]
  exact List.map_congr_left fun x hx => by
    simp only [Function.comp, id]
    exact UInt8.toNat_ofNat_of_lt (h x hx)
theorem tx_bs (s : ByteArray) : tx (bs s) = s := by
  unfold bs tx
  rw [List.map_map]
  cases s with
  | mk d =>
    congr 1
    have : d.toList.map (UInt8.ofNat ∘ UInt8.toNat) = d.toList := by
      conv => rhs; rw [← List.map_id d.toList]
      exact List.map_congr_left fun x _ => by simp
    rw [this]
theorem tx_app (a b : List Nat) : tx (a ++ b) = tx a ++ tx b := by
  apply ByteArray.ext
  rw [ByteArray.data_append]
  simp [tx]
theorem tx_inj {a b : List Nat} (ha : ∀ x ∈ a, x < 256) (hb : ∀ x ∈ b, x < 256) (h : tx a = tx b) : a = b := by rw [← bs_tx ha, h, bs_tx hb]
theorem bs_nil : bs ⟨#[]⟩ = [] := rfl
def encT (l : List Nat) : List Nat := enc l.length ++ l
def putT (b l : List Nat) : List Nat := if l.length ≤ 65536 then b ++ encT l else b
theorem putT_ok {l : List Nat} (h : l.length ≤ 65536) (b : List Nat) : putT b l = b ++ encT l := by
  unfold putT
  rw [if_pos h]
def getT (l : List Nat) : R (List Nat) :=
  if (getU l).2.2 = 0 then
    if 65536 < (getU l).1 then ([], [], 4)
    else if (getU l).2.1.length < (getU l).1 then ([], [], 3)
    else ((getU l).2.1.take (getU l).1, (getU l).2.1.drop (getU l).1, 0)
  else ([], [], (getU l).2.2)
theorem getT_enc {s : List Nat} (h : s.length ≤ 65536) (t : List Nat) : getT (encT s ++ t) = (s, t, 0) := by
  unfold getT encT
  rw [List.append_assoc, getU_enc (by omega)]
  show (if 65536 < s.length then _ else if (s ++ t).length < s.length then _ else ((s ++ t).take s.length, (s ++ t).drop s.length, (0 : Int))) = _
  rw [if_neg (by omega), if_neg (by simp), List.take_left, List.drop_left]
theorem getT_only {l s t : List Nat} (hs : ∀ x ∈ l, x < 256) (h : getT l = (s, t, 0)) : l = encT s ++ t ∧ s.length ≤ 65536 := by
  unfold getT at h
  split at h
  · rename_i he
    split at h
    · simp at h
    · rename_i h4
      split at h
      · simp at h
      · rename_i h3
        simp only [Prod.mk.injEq, and_true] at h
        obtain ⟨rfl, rfl⟩ := h
        obtain ⟨e1, e2⟩ := getU_only (n := (getU l).1) (t := (getU l).2.1) hs (by rw [← he])
        have hlen : ((getU l).2.1.take (getU l).1).length = (getU l).1 := by rw [List.length_take]; omega
        refine ⟨?_, by omega⟩
        unfold encT
        rw [hlen, List.append_assoc, List.take_append_drop]
        exact e1
  · rename_i he
    simp only [Prod.mk.injEq] at h
    exact absurd h.2.2 he
theorem getT_no {l s t : List Nat} {e : Int} (h : getT l = (s, t, e)) (he : e ≠ 0) : s = [] ∧ t = [] := by
  unfold getT at h
  split at h
  · split at h
    · simp only [Prod.mk.injEq] at h; exact ⟨h.1.symm, h.2.1.symm⟩
    · split at h
      · simp only [Prod.mk.injEq] at h; exact ⟨h.1.symm, h.2.1.symm⟩
      · simp only [Prod.mk.injEq] at h; exact absurd h.2.2.symm he
  · simp only [Prod.mk.injEq] at h; exact ⟨h.1.symm, h.2.1.symm⟩
theorem getT_short {s : List Nat} (h : s.length ≤ 65536) {k : Nat} (hk : k < (encT s).length) : getT ((encT s).take k) = ([], [], 3) := by
  unfold encT at hk ⊢
  rw [List.length_append] at hk
  unfold getT
  by_cases h1 : k < (enc s.length).length
  · rw [List.take_append_of_le_length (by omega), getU_short (by omega) h1]; rfl
  · rw [List.take_append, List.take_of_length_le (l := enc s.length) (by omega), getU_enc (by omega)]
    show (if 65536 < s.length then _ else if (s.take (k - (enc s.length).length)).length < s.length then _ else _) = _
    rw [if_neg (by omega), if_pos (by rw [List.length_take]; omega)]
theorem getT_len (l : List Nat) : (getT l).2.1.length ≤ l.length := by
  have := getU_len l
  unfold getT
  split
  · split
    · simp
    · split
      · simp
      · show ((getU l).2.1.drop _).length ≤ _
        rw [List.length_drop]; omega
  · simp
theorem getT_suffix (l : List Nat) : ∀ x ∈ (getT l).2.1, x ∈ l := by
  have := getU_suffix l
  unfold getT
  split
  · split
    · simp
    · split
      · simp
      · intro x hx
        exact this x (List.mem_of_mem_drop hx)
  · simp
theorem getT_text (l : List Nat) : ∀ x ∈ (getT l).1, x ∈ l := by
  have := getU_suffix l
  unfold getT
  split
  · split
    · simp
    · split
      · simp
      · intro x hx
        exact this x (List.mem_of_mem_take hx)
  · simp

/-! ### labels -/
def encP (p : Pr) : List Nat := encT (bs p.1) ++ encT (bs p.2)
def encPs (l : List Pr) : List Nat := l.flatMap encP
def encL (l : List Pr) : List Nat := enc l.length ++ encPs l
def putL (b : List Nat) (l : List Pr) : List Nat := b ++ encL (asL l)
/-- A pair that is got. -/
def gp (l : List Nat) : R Pr :=
  if (getT l).2.2 = 0 then
    if (getT (getT l).2.1).2.2 = 0 then ((tx (getT l).1, tx (getT (getT l).2.1).1), (getT (getT l).2.1).2.1, 0) else (default, [], (getT (getT l).2.1).2.2)
  else (default, [], (getT l).2.2)
def gps : Nat → List Nat → R (List Pr)
  | 0, l => ([], l, 0)
  | k + 1, l =>
    if (gp l).2.2 = 0 then
      if (gps k (gp l).2.1).2.2 = 0 then ((gp l).1 :: (gps k (gp l).2.1).1, (gps k (gp l).2.1).2.1, 0) else ([], [], (gps k (gp l).2.1).2.2)
    else ([], [], (gp l).2.2)
def getL (l : List Nat) : R (List Pr) :=
  if (getU l).2.2 = 0 then
    if 16 < (getU l).1 then ([], [], 4)
    else if (gps (getU l).1 (getU l).2.1).2.2 = 0 then
      if saneB (gps (getU l).1 (getU l).2.1).1 then ((gps (getU l).1 (getU l).2.1).1, (gps (getU l).1 (getU l).2.1).2.1, 0) else ([], [], 1)
    else ([], [], (gps (getU l).1 (getU l).2.1).2.2)
  else ([], [], (getU l).2.2)

def fits (p : Pr) : Prop := p.1.size ≤ 65536 ∧ p.2.size ≤ 65536
theorem gp_enc {p : Pr} (h : fits p) (t : List Nat) : gp (encP p ++ t) = (p, t, 0) := by
  unfold gp encP
  rw [List.append_assoc, getT_enc (by rw [bs_len]; exact h.1)]
  show (if (getT (encT (bs p.2) ++ t)).2.2 = 0 then ((tx (bs p.1), tx (getT (encT (bs p.2) ++ t)).1), (getT (encT (bs p.2) ++ t)).2.1, (0 : Int)) else _) = _
  rw [getT_enc (by rw [bs_len]; exact h.2), tx_bs, if_pos rfl, tx_bs]
theorem gp_short {p : Pr} (h : fits p) {k : Nat} (hk : k < (encP p).length) : (gp ((encP p).take k)).2.2 = 3 := by
  unfold encP at hk ⊢
  rw [List.length_append] at hk
  unfold gp
  by_cases h1 : k < (encT (bs p.1)).length
  · rw [List.take_append_of_le_length (by omega), getT_short (by rw [bs_len]; exact h.1) h1]; rfl
  · rw [List.take_append, List.take_of_length_le (l := encT (bs p.1)) (by omega), getT_enc (by rw [bs_len]; exact h.1)]
    show (if (getT ((encT (bs p.2)).take _)).2.2 = 0 then _ else _ : R Pr).2.2 = 3
    rw [getT_short (by rw [bs_len]; exact h.2) (by omega)]; rfl
theorem gps_enc : ∀ (l : List Pr) (t : List Nat), (∀ p ∈ l, fits p) → gps l.length (encPs l ++ t) = (l, t, 0)
  | [], _, _ => rfl
  | p :: r, t, h => by
    show gps (r.length + 1) ((encP p ++ encPs r) ++ t) = _
    unfold gps
    rw [List.append_assoc, gp_enc (h p (by simp)), if_pos rfl]
    show (if (gps r.length (encPs r ++ t)).2.2 = 0 then _ else _) = _
    rw [gps_enc r t (fun q hq => h q (by simp [hq])), if_pos rfl]
theorem gps_short : ∀ (l : List Pr) (k : Nat), (∀ p ∈ l, fits p) → k < (encPs l).length → gps l.length ((encPs l).take k) = ([], [], 3)
  | [], _, _, h => by simp [encPs] at h
  | p :: r, k, hf, hk => by
    have e : encPs (p :: r) = encP p ++ encPs r := rfl
    rw [e, List.length_append] at hk
    rw [e]
    show gps (r.length + 1) _ = _
    unfold gps
    by_cases h1 : k < (encP p).length
    · rw [List.take_append_of_le_length (by omega)]
      have := gp_short (hf p (by simp)) h1
      rw [if_neg (by rw [this]; decide), this]
    · rw [List.take_append, List.take_of_length_le (l := encP p) (by omega), gp_enc (hf p (by simp)), if_pos rfl]
      show (if (gps r.length ((encPs r).take (k - (encP p).length))).2.2 = 0 then _ else _) = _
      rw [gps_short r (k - (encP p).length) (fun q hq => hf q (by simp [hq])) (by omega)]; rfl
theorem gp_only {l : List Nat} {p : Pr} {t : List Nat} (hs : ∀ x ∈ l, x < 256) (h : gp l = (p, t, 0)) : l = encP p ++ t := by
  unfold gp at h
  split at h
  · rename_i he
    split at h
    · rename_i he2
      simp only [Prod.mk.injEq, and_true] at h
      obtain ⟨rfl, rfl⟩ := h
      obtain ⟨e1, _⟩ := getT_only (s := (getT l).1) (t := (getT l).2.1) hs (by rw [← he])
      have hs2 : ∀ x ∈ (getT l).2.1, x < 256 := fun x hx => hs x (getT_suffix l x hx)
      obtain ⟨e2, _⟩ := getT_only (s := (getT (getT l).2.1).1) (t := (getT (getT l).2.1).2.1) hs2 (by rw [← he2])
      unfold encP
      rw [bs_tx (fun x hx => hs x (getT_text l x hx)), bs_tx (fun x hx => hs2 x (getT_text _ x hx)), List.append_assoc, ← e2]
      exact e1
    · rename_i he2
      simp only [Prod.mk.injEq] at h
      exact absurd h.2.2 he2
  · rename_i he
    simp only [Prod.mk.injEq] at h
    exact absurd h.2.2 he
theorem gp_suffix (l : List Nat) : ∀ x ∈ (gp l).2.1, x ∈ l := by
  unfold gp
  split
  · split
    · intro x hx
      exact getT_suffix l x (getT_suffix _ x hx)
    · simp
  · simp
theorem gps_only : ∀ (k : Nat) (l : List Nat) (m : List Pr) (t : List Nat), (∀ x ∈ l, x < 256) → gps k l = (m, t, 0) → l = encPs m ++ t ∧ m.length = k
  | 0, l, m, t, _, h => by
    simp only [gps, Prod.mk.injEq, and_true] at h
    obtain ⟨rfl, rfl⟩ := h
    exact ⟨rfl, rfl⟩
  | k + 1, l, m, t, hs, h => by
    unfold gps at h
    split at h
    · rename_i he
      split at h
      · rename_i he2
        simp only [Prod.mk.injEq, and_true] at h
        obtain ⟨rfl, rfl⟩ := h
        have e1 := gp_only (p := (gp l).1) (t := (gp l).2.1) hs (by rw [← he])
        obtain ⟨e2, e3⟩ := gps_only k (gp l).2.1 (gps k (gp l).2.1).1 (gps k (gp l).2.1).2.1 (fun x hx => hs x (gp_suffix l x hx)) (by rw [← he2])
        refine ⟨?_, by rw [List.length_cons, e3]⟩
        show l = (encP (gp l).1 ++ encPs _) ++ _
        rw [List.append_assoc, ← e2]
        exact e1
      · rename_i he2
        simp only [Prod.mk.injEq] at h
        exact absurd h.2.2 he2
    · rename_i he
      simp only [Prod.mk.injEq] at h
      exact absurd h.2.2 he
theorem sane_fits {l : List Pr} (h : saneB l = true) : ∀ p ∈ l, fits p := by
  intro p hp
  obtain ⟨h1, h2, _⟩ := (sane_iff l).1 h
  have hv := ((large_iff l).1 h1).2
  rw [List.any_eq_false] at hv
  have hv := hv p hp
  have hn : misn l = false := h2
  unfold misn at hn
  rw [List.any_eq_false] at hn
  have hn := hn p hp
  unfold bigV at hv
  have hnm : nameB p.1 = true := by
    cases h' : nameB p.1 with
    | true => rfl
    | false => simp [badN, h'] at hn
  unfold nameB nameL at hnm
  simp only [decide_eq_true_eq] at hv
  simp only [Bool.and_eq_true, decide_eq_true_eq] at hnm
  have hz : p.1.toList.length = p.1.size := by rw [tl]; rfl
  unfold fits
  omega
theorem getL_enc {l : List Pr} (h : saneB l = true) (t : List Nat) : getL (encL l ++ t) = (l, t, 0) := by
  have hl := sane_len h
  unfold getL encL
  rw [List.append_assoc, getU_enc (by omega)]
  show (if 16 < l.length then _ else if (gps l.length (encPs l ++ t)).2.2 = 0 then if saneB (gps l.length (encPs l ++ t)).1 = true then _ else _ else _) = _
  rw [if_neg (by omega), gps_enc l t (sane_fits h), if_pos rfl, if_pos h]
theorem getL_short {l : List Pr} (h : saneB l = true) {k : Nat} (hk : k < (encL l).length) : getL ((encL l).take k) = ([], [], 3) := by
  have hl := sane_len h
  unfold encL at hk ⊢
  rw [List.length_append] at hk
  unfold getL
  by_cases h1 : k < (enc l.length).length
  · rw [List.take_append_of_le_length (by omega), getU_short (by omega) h1]; rfl
  · rw [List.take_append, List.take_of_length_le (l := enc l.length) (by omega), getU_enc (by omega)]
    show (if 16 < l.length then _ else if (gps l.length ((encPs l).take (k - (enc l.length).length))).2.2 = 0 then _ else _) = _
    rw [if_neg (by omega), gps_short l _ (sane_fits h) (by omega)]; rfl
theorem getL_only {l : List Nat} {m : List Pr} {t : List Nat} (hs : ∀ x ∈ l, x < 256) (h : getL l = (m, t, 0)) : l = encL m ++ t ∧ saneB m = true := by
  unfold getL at h
  split at h
  · rename_i he
    split at h
    · simp at h
    · split at h
      · rename_i he2
        split at h
        · rename_i hsn
          simp only [Prod.mk.injEq, and_true] at h
          obtain ⟨rfl, rfl⟩ := h
          obtain ⟨e1, _⟩ := getU_only (n := (getU l).1) (t := (getU l).2.1) hs (by rw [← he])
          obtain ⟨e2, e3⟩ := gps_only (getU l).1 (getU l).2.1 (gps (getU l).1 (getU l).2.1).1 (gps (getU l).1 (getU l).2.1).2.1 (fun x hx => hs x (getU_suffix l x hx)) (by rw [← he2])
          refine ⟨?_, hsn⟩
          unfold encL
          rw [e3, List.append_assoc, ← e2]
          exact e1
        · simp at h
      · rename_i he2
        simp only [Prod.mk.injEq] at h
        exact absurd h.2.2 he2
  · rename_i he
    simp only [Prod.mk.injEq] at h
    exact absurd h.2.2 he
theorem getL_no {l : List Nat} {m : List Pr} {t : List Nat} {e : Int} (h : getL l = (m, t, e)) (he : e ≠ 0) : m = [] ∧ t = [] := by
  unfold getL at h
  split at h
  · split at h
    · simp only [Prod.mk.injEq] at h; exact ⟨h.1.symm, h.2.1.symm⟩
    · split at h
      · split at h
        · simp only [Prod.mk.injEq] at h; exact absurd h.2.2.symm he
        · simp only [Prod.mk.injEq] at h; exact ⟨h.1.symm, h.2.1.symm⟩
      · simp only [Prod.mk.injEq] at h; exact ⟨h.1.symm, h.2.1.symm⟩
  · simp only [Prod.mk.injEq] at h; exact ⟨h.1.symm, h.2.1.symm⟩
theorem encT_small {l : List Nat} (h : ∀ x ∈ l, x < 256) : ∀ x ∈ encT l, x < 256 := by
  intro x hx
  rcases List.mem_append.1 hx with hx | hx
  · exact enc_small _ x hx
  · exact h x hx
theorem encPs_small (l : List Pr) : ∀ x ∈ encPs l, x < 256 := by
  intro x hx
  obtain ⟨p, _, hx⟩ := List.mem_flatMap.1 hx
  rcases List.mem_append.1 hx with hx | hx
  · exact encT_small (bs_small _) x hx
  · exact encT_small (bs_small _) x hx
theorem encL_small (l : List Pr) : ∀ x ∈ encL l, x < 256 := by
  intro x hx
  rcases List.mem_append.1 hx with hx | hx
  · exact enc_small _ x hx
  · exact encPs_small l x hx
theorem encT_len {l : List Nat} (h : l.length ≤ 65536) : (encT l).length ≤ 9 + l.length := by
  unfold encT
  have := enc_len9 (n := l.length) (by omega)
  rw [List.length_append]; omega
theorem sane_sizes {l : List Pr} (h : saneB l = true) : ∀ p ∈ l, p.1.size ≤ 64 ∧ p.2.size ≤ 64 := by
  intro p hp
  obtain ⟨h1, h2, _⟩ := (sane_iff l).1 h
  have hv := ((large_iff l).1 h1).2
  rw [List.any_eq_false] at hv
  have hv := hv p hp
  have hn : misn l = false := h2
  unfold misn at hn
  rw [List.any_eq_false] at hn
  have hn := hn p hp
  unfold bigV at hv
  have hnm : nameB p.1 = true := by
    cases h' : nameB p.1 with
    | true => rfl
    | false => simp [badN, h'] at hn
  unfold nameB nameL at hnm
  simp only [decide_eq_true_eq] at hv
  simp only [Bool.and_eq_true, decide_eq_true_eq] at hnm
  have hz : p.1.toList.length = p.1.size := by rw [tl]; rfl
  omega
theorem encPs_len : ∀ {l : List Pr}, (∀ p ∈ l, p.1.size ≤ 64 ∧ p.2.size ≤ 64) → (encPs l).length ≤ 146 * l.length
  | [], _ => by simp [encPs]
  | p :: r, h => by
    have ih := encPs_len (l := r) (fun q hq => h q (by simp [hq]))
    obtain ⟨h1, h2⟩ := h p (by simp)
    have e1 := encT_len (l := bs p.1) (by rw [bs_len]; omega)
    have e2 := encT_len (l := bs p.2) (by rw [bs_len]; omega)
    rw [bs_len] at e1 e2
    show ((encT (bs p.1) ++ encT (bs p.2)) ++ encPs r).length ≤ _
    rw [List.length_append, List.length_append, List.length_cons]
    omega
theorem encL_len {l : List Pr} (h : saneB l = true) : 0 < (encL l).length ∧ (encL l).length ≤ 2400 := by
  have h16 := sane_len h
  have e1 := enc_len9 (n := l.length) (by omega)
  have e2 := encPs_len (sane_sizes h)
  have e3 := enc_pos l.length
  unfold encL
  rw [List.length_append]
  omega
end Go.Proofs.YtgahahichplpkaaDoor.Kc

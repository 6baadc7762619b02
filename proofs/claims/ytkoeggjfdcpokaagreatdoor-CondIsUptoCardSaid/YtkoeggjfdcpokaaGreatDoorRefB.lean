/-
  Plain lists for layer codec: numbers in groups of seven bits, numbers with a sign, texts and labels as octets, and what is got of octets. Nothing of any program.
  How a slice of octets reads in memory, that it outlives what a call does; a row of octets of the call's own that is appended to; octets as a text.
  The walk of the document's Quote of layer lex, for the layers above.
  The walk of the document's Print of layer sel.
  The walk of the document's match of layer sel.
  The walk of the document's Parse of layer sel.
-/
import Derived.Test.YtkoeggjfdcpokaaGreatDoorPlnA
import Derived.Test.YtkoeggjfdcpokaaGreatDoorMemA
import Derived.IntWalk
import Derived.Laws.BytesArg
import Derived.Lib.SlBytesConst
import Derived.Deep.DeepCutAuto
import Derived.Test.YtkoeggjfdcpokaaGreatDoorRefA
import Derived.Deep.MidRow
namespace Go.Proofs.YtkoeggjfdcpokaaGreatDoor.Kc
open Go.Proofs.YtkoeggjfdcpokaaGreatDoor.Lp

/-! ### numbers in groups of seven bits -/
def enc (n : Nat) : List Nat := if n < 128 then [n] else (128 + n % 128) :: enc (n / 128)
termination_by n
decreasing_by omega
theorem enc_lo {n : Nat} (h : n < 128) : enc n = [n] := by rw [enc, if_pos h]
theorem enc_hi {n : Nat} (h : ¬ n < 128) : enc n = (128 + n % 128) :: enc (n / 128) := by rw [enc, if_neg h]
theorem enc_small (n : Nat) : ∀ x ∈ enc n, x < 256 := by
  induction n using Nat.strongRecOn with
  | ind n ih =>
    intro x hx
    by_cases h : n < 128
    · rw [enc_lo h] at hx; simp at hx; omega
    · rw [enc_hi h, List.mem_cons] at hx
      rcases hx with rfl | hx
      · omega
      · exact ih _ (by omega) x hx
theorem enc_pos (n : Nat) : 0 < (enc n).length := by
  by_cases h : n < 128
  · rw [enc_lo h]; simp
  · rw [enc_hi h]; simp
theorem enc_len_le (n : Nat) : ∀ k, n < 128 ^ k → 0 < k → (enc n).length ≤ k := by
  induction n using Nat.strongRecOn with
  | ind n ih =>
    intro k hk h0
    by_cases h : n < 128
    · rw [enc_lo h]; show 1 ≤ k; omega
    · rw [enc_hi h, List.length_cons]
      obtain ⟨j, rfl⟩ : ∃ j, k = j + 1 := ⟨k - 1, by omega⟩
      have hj : 0 < j := by
        rcases Nat.eq_zero_or_pos j with e | e
        · subst e; simp at hk; omega
        · exact e
      have := ih (n / 128) (by omega) j (by rw [Nat.div_lt_iff_lt_mul (by decide)]; rw [Nat.pow_succ] at hk; exact hk) hj
      omega
theorem enc_len9 {n : Nat} (h : n ≤ 1152921504606846976) : (enc n).length ≤ 9 := enc_len_le n 9 (by show n < 9223372036854775808; omega) (by decide)
theorem enc_mono : ∀ (n m : Nat), n ≤ m → (enc n).length ≤ (enc m).length := by
  intro n
  induction n using Nat.strongRecOn with
  | ind n ih =>
    intro m hnm
    by_cases h : n < 128
    · rw [enc_lo h]; exact enc_pos m
    · rw [enc_hi h, enc_hi (n := m) (by omega), List.length_cons, List.length_cons]
      have := ih (n / 128) (by omega) (m / 128) (Nat.div_le_div_right hnm)
      omega

/-- What is got: it, the rest, the error. -/
abbrev R (α : Type) := α × List Nat × Int
def gu : Nat → Bool → List Nat → R Nat
  | 0, _, _ => (0, [], 2)
  | _ + 1, _, [] => (0, [], 3)
  | k + 1, f, x :: r =>
    if x < 128 then (if x = 0 ∧ f = false then (0, [], 1) else (x, r, 0))
    else if (gu k false r).2.2 = 0 then (x % 128 + 128 * (gu k false r).1, (gu k false r).2.1, 0) else (0, [], (gu k false r).2.2)
def getU (l : List Nat) : R Nat := if (gu 9 true l).2.2 = 0 ∧ 1152921504606846976 < (gu 9 true l).1 then (0, [], 2) else gu 9 true l

theorem gu_enc (n : Nat) : ∀ (k : Nat) (f : Bool) (t : List Nat), n < 128 ^ k → 0 < k → (f = true ∨ n ≠ 0) → gu k f (enc n ++ t) = (n, t, 0) := by
  induction n using Nat.strongRecOn with
  | ind n ih =>
    intro k f t hk h0 hf
    obtain ⟨j, rfl⟩ : ∃ j, k = j + 1 := ⟨k - 1, by omega⟩
    by_cases h : n < 128
    · rw [enc_lo h]
      have hno : ¬ (n = 0 ∧ f = false) := by
        rintro ⟨e1, e2⟩
        rcases hf with hf | hf
        · rw [hf] at e2; cases e2
        · exact hf e1
      show gu (j + 1) f (n :: t) = _
      rw [gu, if_pos h, if_neg hno]
    · have hj : 0 < j := by
        rcases Nat.eq_zero_or_pos j with e | e
        · subst e; simp at hk; omega
        · exact e
      have hi := ih (n / 128) (by omega) j false t (by rw [Nat.div_lt_iff_lt_mul (by decide)]; rw [Nat.pow_succ] at hk; exact hk) hj (.inr (by omega))
      rw [enc_hi h, List.cons_append, gu, if_neg (by omega), hi, if_pos rfl]
      show ((128 + n % 128) % 128 + 128 * (n / 128), t, (0 : Int)) = _
      rw [show (128 + n % 128) % 128 + 128 * (n / 128) = n by omega]
theorem getU_enc {n : Nat} (h : n ≤ 1152921504606846976) (t : List Nat) : getU (enc n ++ t) = (n, t, 0) := by
  unfold getU
  rw [gu_enc n 9 true t (by show n < 9223372036854775808; omega) (by decide) (.inl rfl), if_neg (by simp; omega)]
theorem gu_only : ∀ (k : Nat) (f : Bool) (l : List Nat) (n : Nat) (t : List Nat), (∀ x ∈ l, x < 256) → gu k f l = (n, t, 0) → l = enc n ++ t ∧ (f = false → n ≠ 0)
  | 0, _, _, _, _, _, h => by simp [gu] at h
  | _ + 1, _, [], _, _, _, h => by simp [gu] at h
  | k + 1, f, x :: r, n, t, hs, h => by
    unfold gu at h
    by_cases hx : x < 128
    · rw [if_pos hx] at h
      split at h
      · simp at h
      · rename_i hn
        simp only [Prod.mk.injEq, and_true] at h
        obtain ⟨rfl, rfl⟩ := h
        exact ⟨by rw [enc_lo hx]; rfl, fun hf e => hn ⟨e, hf⟩⟩
    · rw [if_neg hx] at h
      split at h
      · rename_i he
        simp only [Prod.mk.injEq, and_true] at h
        obtain ⟨rfl, rfl⟩ := h
        obtain ⟨e1, e2⟩ := gu_only k false r (gu k false r).1 (gu k false r).2.1 (fun y hy => hs y (by simp [hy])) (by rw [← he])
        have hm := e2 rfl
        have hx2 := hs x (by simp)
        refine ⟨?_, fun _ => by omega⟩
        rw [enc_hi (by omega), show (x % 128 + 128 * (gu k false r).1) / 128 = (gu k false r).1 by omega, show 128 + (x % 128 + 128 * (gu k false r).1) % 128 = x by omega, List.cons_append, ← e1]
      · rename_i he
        simp only [Prod.mk.injEq] at h
        exact absurd h.2.2 he
theorem getU_only {l : List Nat} {n : Nat} {t : List Nat} (hs : ∀ x ∈ l, x < 256) (h : getU l = (n, t, 0)) : l = enc n ++ t ∧ n ≤ 1152921504606846976 := by
  unfold getU at h
  split at h
  · simp at h
  · rename_i hn
    refine ⟨(gu_only 9 true l n t hs h).1, ?_⟩
    rw [h] at hn
    simp only [true_and] at hn
    omega
theorem gu_no : ∀ (k : Nat) (f : Bool) (l : List Nat), (gu k f l).2.2 ≠ 0 → (gu k f l).1 = 0 ∧ (gu k f l).2.1 = []
  | 0, _, _, _ => ⟨rfl, rfl⟩
  | _ + 1, _, [], _ => ⟨rfl, rfl⟩
  | k + 1, f, x :: r, h => by
    unfold gu at h ⊢
    split
    · rename_i hx
      rw [if_pos hx] at h
      split
      · exact ⟨rfl, rfl⟩
      · rename_i hn
        rw [if_neg hn] at h
        exact absurd rfl h
    · rename_i hx
      rw [if_neg hx] at h
      split
      · rename_i he
        rw [if_pos he] at h
        exact absurd rfl h
      · exact ⟨rfl, rfl⟩
theorem getU_no {l : List Nat} {n : Nat} {t : List Nat} {e : Int} (h : getU l = (n, t, e)) (he : e ≠ 0) : n = 0 ∧ t = [] := by
  unfold getU at h
  split at h
  · simp only [Prod.mk.injEq] at h
    exact ⟨h.1.symm, h.2.1.symm⟩
  · have := gu_no 9 true l (by rw [h]; exact he)
    rw [h] at this
    exact this
theorem gu_short (n : Nat) : ∀ (j : Nat) (f : Bool) (k : Nat), k < (enc n).length → k < j → gu j f ((enc n).take k) = (0, [], 3) := by
  induction n using Nat.strongRecOn with
  | ind n ih =>
    intro j f k hk hj
    obtain ⟨i, rfl⟩ : ∃ i, j = i + 1 := ⟨j - 1, by omega⟩
    cases k with
    | zero => simp [gu]
    | succ k =>
      by_cases h : n < 128
      · rw [enc_lo h] at hk; simp at hk
      · rw [enc_hi h] at hk ⊢
        have hi := ih (n / 128) (by omega) i false k (by simpa using hk) (by omega)
        rw [List.take_succ_cons]
        show (if 128 + n % 128 < 128 then _ else if (gu i false ((enc (n / 128)).take k)).2.2 = 0 then _ else _) = _
        rw [if_neg (by omega), hi]; rfl
theorem getU_short {n : Nat} (h : n ≤ 1152921504606846976) {k : Nat} (hk : k < (enc n).length) : getU ((enc n).take k) = (0, [], 3) := by
  have := enc_len9 h
  unfold getU
  rw [gu_short n 9 true k hk (by omega)]; rfl
theorem gu_len : ∀ (k : Nat) (f : Bool) (l : List Nat), (gu k f l).2.1.length ≤ l.length
  | 0, _, _ => by simp [gu]
  | _ + 1, _, [] => by simp [gu]
  | k + 1, f, x :: r => by
    have := gu_len k false r
    unfold gu
    split
    · split <;> simp
    · split
      · simp; omega
      · simp
theorem getU_len (l : List Nat) : (getU l).2.1.length ≤ l.length := by
  unfold getU
  split
  · simp
  · exact gu_len 9 true l
theorem gu_suffix : ∀ (k : Nat) (f : Bool) (l : List Nat), ∀ x ∈ (gu k f l).2.1, x ∈ l
  | 0, _, _ => by simp [gu]
  | _ + 1, _, [] => by simp [gu]
  | k + 1, f, x :: r => by
    have := gu_suffix k false r
    intro y hy
    unfold gu at hy
    split at hy
    · split at hy
      · simp at hy
      · exact List.mem_cons_of_mem _ hy
    · split at hy
      · exact List.mem_cons_of_mem _ (this y hy)
      · simp at hy
theorem getU_suffix (l : List Nat) : ∀ x ∈ (getU l).2.1, x ∈ l := by
  unfold getU
  split
  · simp
  · exact gu_suffix 9 true l
theorem getU_err (l : List Nat) : (getU l).2.2 = 0 ∨ (getU l).2.2 = 1 ∨ (getU l).2.2 = 2 ∨ (getU l).2.2 = 3 := by
  have hg : ∀ (k : Nat) (f : Bool) (l : List Nat), (gu k f l).2.2 = 0 ∨ (gu k f l).2.2 = 1 ∨ (gu k f l).2.2 = 2 ∨ (gu k f l).2.2 = 3 := by
    intro k
    induction k with
    | zero => intro f l; simp [gu]
    | succ k ih =>
      intro f l
      cases l with
      | nil => simp [gu]
      | cons x r =>
        have := ih false r
        unfold gu
        split
        · split <;> simp
        · split
          · simp
          · exact this
  unfold getU
  split
  · simp
  · exact hg 9 true l
def putU (b : List Nat) (n : Int) : List Nat := if 0 ≤ n ∧ n ≤ 1152921504606846976 then b ++ enc n.toNat else b
theorem putU_ok {n : Nat} (h : n ≤ 1152921504606846976) (b : List Nat) : putU b (n : Int) = b ++ enc n := by
  unfold putU
  rw [if_pos (by omega)]; rfl
theorem putU_no {n : Int} (h : ¬ (0 ≤ n ∧ n ≤ 1152921504606846976)) (b : List Nat) : putU b n = b := by
  unfold putU
  rw [if_neg h]

/-! ### numbers with a sign -/
def zig (i : Int) : Nat := if 0 ≤ i then (2 * i).toNat else (-2 * i - 1).toNat
def unzig (n : Nat) : Int := if n % 2 = 1 then -(((n + 1) / 2 : Nat) : Int) else ((n / 2 : Nat) : Int)
theorem unzig_zig (i : Int) : unzig (zig i) = i := by
  unfold zig unzig
  by_cases h : 0 ≤ i
  · rw [if_pos h, if_neg (by omega)]; omega
  · rw [if_neg h, if_pos (by omega)]; omega
theorem zig_unzig (n : Nat) : zig (unzig n) = n := by
  unfold zig unzig
  by_cases h : n % 2 = 1
  · rw [if_pos h, if_neg (by omega)]; omega
  · rw [if_neg h, if_pos (by omega)]; omega
theorem zig_le {i : Int} (h : -576460752303423488 ≤ i ∧ i ≤ 576460752303423488) : zig i ≤ 1152921504606846976 := by
  unfold zig
  split <;> omega
theorem unzig_le {n : Nat} (h : n ≤ 1152921504606846976) : -576460752303423488 ≤ unzig n ∧ unzig n ≤ 576460752303423488 := by
  unfold unzig
  split <;> omega
def putI (b : List Nat) (i : Int) : List Nat := if -576460752303423488 ≤ i ∧ i ≤ 576460752303423488 then b ++ enc (zig i) else b
theorem putI_ok {i : Int} (h : -576460752303423488 ≤ i ∧ i ≤ 576460752303423488) (b : List Nat) : putI b i = b ++ enc (zig i) := by
  unfold putI
  rw [if_pos h]
def getI (l : List Nat) : R Int := if (getU l).2.2 = 0 then (unzig (getU l).1, (getU l).2.1, 0) else (0, [], (getU l).2.2)
theorem getI_enc {i : Int} (h : -576460752303423488 ≤ i ∧ i ≤ 576460752303423488) (t : List Nat) : getI (enc (zig i) ++ t) = (i, t, 0) := by
  unfold getI
  rw [getU_enc (zig_le h)]
  show (unzig (zig i), t, (0 : Int)) = _
  rw [unzig_zig]
theorem getI_err (l : List Nat) : (getI l).2.2 = (getU l).2.2 := by
  unfold getI
  split
  · rename_i h; exact h.symm
  · rfl
theorem getI_only {l : List Nat} {i : Int} {t : List Nat} (hs : ∀ x ∈ l, x < 256) (h : getI l = (i, t, 0)) : l = putI [] i ++ t := by
  unfold getI at h
  split at h
  · rename_i he
    simp only [Prod.mk.injEq, and_true] at h
    obtain ⟨rfl, rfl⟩ := h
    obtain ⟨e1, e2⟩ := getU_only (n := (getU l).1) (t := (getU l).2.1) hs (by rw [← he])
    rw [putI_ok (unzig_le e2), zig_unzig, List.nil_append]
    exact e1
  · rename_i he
    simp only [Prod.mk.injEq] at h
    exact absurd h.2.2 he

theorem getI_bd {l : List Nat} {i : Int} {t : List Nat} {e : Int} (hs : ∀ x ∈ l, x < 256) (h : getI l = (i, t, e)) : -576460752303423488 ≤ i ∧ i ≤ 576460752303423488 := by
  unfold getI at h
  split at h
  · rename_i he
    simp only [Prod.mk.injEq] at h
    obtain ⟨_, e2⟩ := getU_only (n := (getU l).1) (t := (getU l).2.1) hs (by rw [← he])
    rw [← h.1]
    exact unzig_le e2
  · simp only [Prod.mk.injEq] at h
    omega
theorem getI_no {l : List Nat} {i : Int} {t : List Nat} {e : Int} (h : getI l = (i, t, e)) (he : e ≠ 0) : i = 0 ∧ t = [] := by
  unfold getI at h
  split at h
  · simp only [Prod.mk.injEq] at h
    exact absurd h.2.2.symm he
  · simp only [Prod.mk.injEq] at h
    exact ⟨h.1.symm, h.2.1.symm⟩

/-! ### texts -/
def bs (s : ByteArray) : List Nat := s.data.toList.map UInt8.toNat
def tx (l : List Nat) : ByteArray := ⟨(l.map UInt8.ofNat).toArray⟩
theorem bs_len (s : ByteArray) : (bs s).length = s.size := by unfold bs; rw [List.length_map, Array.length_toList]; rfl
theorem bs_small (s : ByteArray) : ∀ x ∈ bs s, x < 256 := by
  intro x hx
  obtain ⟨c, _, rfl⟩ := List.mem_map.1 hx
  exact UInt8.toNat_lt c
theorem tx_size (l : List Nat) : (tx l).size = l.length := by simp [tx, ByteArray.size]
theorem bs_tx {l : List Nat} (h : ∀ x ∈ l, x < 256) : bs (tx l) = l := by
  unfold bs tx
  rw [List.map_map]
  conv => rhs; rw [← List.map_id l]
  exact List.map_congr_left fun x hx => by
    simp only [Function.comp, id]
    exact UInt8.toNat_ofNat_of_lt (h x hx)
theorem tx_bs (s : ByteArray) : tx (bs s) = s := by
  unfold bs tx
  rw [List.map_map]
  cases s with
  | mk d =>
    congr 1
    have : d.toList.map (UInt8.ofNat ∘ UInt8.toNat) = d.toList := by
      conv => rhs; rw [← List.map_id d.toList]
      exact List.map_congr_left fun x _ => by simp
    rw [this]
theorem tx_app (a b : List Nat) : tx (a ++ b) = tx a ++ tx b := by
  apply ByteArray.ext
  rw [ByteArray.data_append]
  simp [tx]
theorem tx_inj {a b : List Nat} (ha : ∀ x ∈ a, x < 256) (hb : ∀ x ∈ b, x < 256) (h : tx a = tx b) : a = b := by rw [← bs_tx ha, h, bs_tx hb]
theorem bs_nil : bs ⟨#[]⟩ = [] := rfl
def encT (l : List Nat) : List Nat := enc l.length ++ l
def putT (b l : List Nat) : List Nat := if l.length ≤ 65536 then b ++ encT l else b
theorem putT_ok {l : List Nat} (h : l.length ≤ 65536) (b : List Nat) : putT b l = b ++ encT l := by
  unfold putT
  rw [if_pos h]
def getT (l : List Nat) : R (List Nat) :=
  if (getU l).2.2 = 0 then
    if 65536 < (getU l).1 then ([], [], 4)
    else if (getU l).2.1.length < (getU l).1 then ([], [], 3)
    else ((getU l).2.1.take (getU l).1, (getU l).2.1.drop (getU l).1, 0)
  else ([], [], (getU l).2.2)
theorem getT_enc {s : List Nat} (h : s.length ≤ 65536) (t : List Nat) : getT (encT s ++ t) = (s, t, 0) := by
  unfold getT encT
  rw [List.append_assoc, getU_enc (by omega)]
  show (if 65536 < s.length then _ else if (s ++ t).length < s.length then _ else ((s ++ t).take s.length, (s ++ t).drop s.length, (0 : Int))) = _
  rw [if_neg (by omega), if_neg (by simp), List.take_left, List.drop_left]
theorem getT_only {l s t : List Nat} (hs : ∀ x ∈ l, x < 256) (h : getT l = (s, t, 0)) : l = encT s ++ t ∧ s.length ≤ 65536 := by
  unfold getT at h
  split at h
  · rename_i he
    split at h
    · simp at h
    · rename_i h4
      split at h
      · simp at h
      · rename_i h3
        simp only [Prod.mk.injEq, and_true] at h
        obtain ⟨rfl, rfl⟩ := h
        obtain ⟨e1, e2⟩ := getU_only (n := (getU l).1) (t := (getU l).2.1) hs (by rw [← he])
        have hlen : ((getU l).2.1.take (getU l).1).length = (getU l).1 := by rw [List.length_take]; omega
        refine ⟨?_, by omega⟩
        unfold encT
        rw [hlen, List.append_assoc, List.take_append_drop]
        exact e1
  · rename_i he
    simp only [Prod.mk.injEq] at h
    exact absurd h.2.2 he
theorem getT_no {l s t : List Nat} {e : Int} (h : getT l = (s, t, e)) (he : e ≠ 0) : s = [] ∧ t = [] := by
  unfold getT at h
  split at h
  · split at h
    · simp only [Prod.mk.injEq] at h; exact ⟨h.1.symm, h.2.1.symm⟩
    · split at h
      · simp only [Prod.mk.injEq] at h; exact ⟨h.1.symm, h.2.1.symm⟩
      · simp only [Prod.mk.injEq] at h; exact absurd h.2.2.symm he
  · simp only [Prod.mk.injEq] at h; exact ⟨h.1.symm, h.2.1.symm⟩
theorem getT_short {s : List Nat} (h : s.length ≤ 65536) {k : Nat} (hk : k < (encT s).length) : getT ((encT s).take k) = ([], [], 3) := by
  unfold encT at hk ⊢
  rw [List.length_append] at hk
  unfold getT
  by_cases h1 : k < (enc s.length).length
  · rw [List.take_append_of_le_length (by omega), getU_short (by omega) h1]; rfl
  · rw [List.take_append, List.take_of_length_le (l := enc s.length) (by omega), getU_enc (by omega)]
    show (if 65536 < s.length then _ else if (s.take (k - (enc s.length).length)).length < s.length then _ else _) = _
    rw [if_neg (by omega), if_pos (by rw [List.length_take]; omega)]
theorem getT_len (l : List Nat) : (getT l).2.1.length ≤ l.length := by
  have := getU_len l
  unfold getT
  split
  · split
    · simp
    · split
      · simp
      · show ((getU l).2.1.drop _).length ≤ _
        rw [List.length_drop]; omega
  · simp
theorem getT_suffix (l : List Nat) : ∀ x ∈ (getT l).2.1, x ∈ l := by
  have := getU_suffix l
  unfold getT
  split
  · split
    · simp
    · split
      · simp
      · intro x hx
        exact this x (List.mem_of_mem_drop hx)
  · simp
theorem getT_text (l : List Nat) : ∀ x ∈ (getT l).1, x ∈ l := by
  have := getU_suffix l
  unfold getT
  split
  · split
    · simp
    · split
      · simp
      · intro x hx
        exact this x (List.mem_of_mem_take hx)
  · simp

/-! ### labels -/
def encP (p : Pr) : List Nat := encT (bs p.1) ++ encT (bs p.2)
def encPs (l : List Pr) : List Nat := l.flatMap encP
def encL (l : List Pr) : List Nat := enc l.length ++ encPs l
def putL (b : List Nat) (l : List Pr) : List Nat := b ++ encL (asL l)
/-- A pair that is got. -/
def gp (l : List Nat) : R Pr :=
  if (getT l).2.2 = 0 then
    if (getT (getT l).2.1).2.2 = 0 then ((tx (getT l).1, tx (getT (getT l).2.1).1), (getT (getT l).2.1).2.1, 0) else (default, [], (getT (getT l).2.1).2.2)
  else (default, [], (getT l).2.2)
def gps : Nat → List Nat → R (List Pr)
  | 0, l => ([], l, 0)
  | k + 1, l =>
    if (gp l).2.2 = 0 then
      if (gps k (gp l).2.1).2.2 = 0 then ((gp l).1 :: (gps k (gp l).2.1).1, (gps k (gp l).2.1).2.1, 0) else ([], [], (gps k (gp l).2.1).2.2)
    else ([], [], (gp l).2.2)
def getL (l : List Nat) : R (List Pr) :=
  if (getU l).2.2 = 0 then
    if 16 < (getU l).1 then ([], [], 4)
    else if (gps (getU l).1 (getU l).2.1).2.2 = 0 then
      if saneB (gps (getU l).1 (getU l).2.1).1 then ((gps (getU l).1 (getU l).2.1).1, (gps (getU l).1 (getU l).2.1).2.1, 0) else ([], [], 1)
    else ([], [], (gps (getU l).1 (getU l).2.1).2.2)
  else ([], [], (getU l).2.2)

def fits (p : Pr) : Prop := p.1.size ≤ 65536 ∧ p.2.size ≤ 65536
theorem gp_enc {p : Pr} (h : fits p) (t : List Nat) : gp (encP p ++ t) = (p, t, 0) := by
  unfold gp encP
  rw [List.append_assoc, getT_enc (by rw [bs_len]; exact h.1)]
  show (if (getT (encT (bs p.2) ++ t)).2.2 = 0 then ((tx (bs p.1), tx (getT (encT (bs p.2) ++ t)).1), (getT (encT (bs p.2) ++ t)).2.1, (0 : Int)) else _) = _
  rw [getT_enc (by rw [bs_len]; exact h.2), tx_bs, if_pos rfl, tx_bs]
theorem gp_short {p : Pr} (h : fits p) {k : Nat} (hk : k < (encP p).length) : (gp ((encP p).take k)).2.2 = 3 := by
  unfold encP at hk ⊢
  rw [List.length_append] at hk
  unfold gp
  by_cases h1 : k < (encT (bs p.1)).length
  · rw [List.take_append_of_le_length (by omega), getT_short (by rw [bs_len]; exact h.1) h1]; rfl
  · rw [List.take_append, List.take_of_length_le (l := encT (bs p.1)) (by omega), getT_enc (by rw [bs_len]; exact h.1)]
    show (if (getT ((encT (bs p.2)).take _)).2.2 = 0 then _ else _ : R Pr).2.2 = 3
    rw [getT_short (by rw [bs_len]; exact h.2) (by omega)]; rfl
theorem gps_enc : ∀ (l : List Pr) (t : List Nat), (∀ p ∈ l, fits p) → gps l.length (encPs l ++ t) = (l, t, 0)
  | [], _, _ => rfl
  | p :: r, t, h => by
    show gps (r.length + 1) ((encP p ++ encPs r) ++ t) = _
    unfold gps
    rw [List.append_assoc, gp_enc (h p (by simp)), if_pos rfl]
    show (if (gps r.length (encPs r ++ t)).2.2 = 0 then _ else _) = _
    rw [gps_enc r t (fun q hq => h q (by simp [hq])), if_pos rfl]
theorem gps_short : ∀ (l : List Pr) (k : Nat), (∀ p ∈ l, fits p) → k < (encPs l).length → gps l.length ((encPs l).take k) = ([], [], 3)
  | [], _, _, h => by simp [encPs] at h
  | p :: r, k, hf, hk => by
    have e : encPs (p :: r) = encP p ++ encPs r := rfl
    rw [e, List.length_append] at hk
    rw [e]
    show gps (r.length + 1) _ = _
    unfold gps
    by_cases h1 : k < (encP p).length
    · rw [List.take_append_of_le_length (by omega)]
      have := gp_short (hf p (by simp)) h1
      rw [if_neg (by rw [this]; decide), this]
    · rw [List.take_append, List.take_of_length_le (l := encP p) (by omega), gp_enc (hf p (by simp)), if_pos rfl]
      show (if (gps r.length ((encPs r).take (k - (encP p).length))).2.2 = 0 then _ else _) = _
      rw [gps_short r (k - (encP p).length) (fun q hq => hf q (by simp [hq])) (by omega)]; rfl
theorem gp_only {l : List Nat} {p : Pr} {t : List Nat} (hs : ∀ x ∈ l, x < 256) (h : gp l = (p, t, 0)) : l = encP p ++ t := by
  unfold gp at h
  split at h
  · rename_i he
    split at h
    · rename_i he2
      simp only [Prod.mk.injEq, and_true] at h
      obtain ⟨rfl, rfl⟩ := h
      obtain ⟨e1, _⟩ := getT_only (s := (getT l).1) (t := (getT l).2.1) hs (by rw [← he])
      have hs2 : ∀ x ∈ (getT l).2.1, x < 256 := fun x hx => hs x (getT_suffix l x hx)
      obtain ⟨e2, _⟩ := getT_only (s := (getT (getT l).2.1).1) (t := (getT (getT l).2.1).2.1) hs2 (by rw [← he2])
      unfold encP
      rw [bs_tx (fun x hx => hs x (getT_text l x hx)), bs_tx (fun x hx => hs2 x (getT_text _ x hx)), List.append_assoc, ← e2]
      exact e1
    · rename_i he2
      simp only [Prod.mk.injEq] at h
      exact absurd h.2.2 he2
  · rename_i he
    simp only [Prod.mk.injEq] at h
    exact absurd h.2.2 he
theorem gp_suffix (l : List Nat) : ∀ x ∈ (gp l).2.1, x ∈ l := by
  unfold gp
  split
  · split
    · intro x hx
      exact getT_suffix l x (getT_suffix _ x hx)
    · simp
  · simp
theorem gps_only : ∀ (k : Nat) (l : List Nat) (m : List Pr) (t : List Nat), (∀ x ∈ l, x < 256) → gps k l = (m, t, 0) → l = encPs m ++ t ∧ m.length = k
  | 0, l, m, t, _, h => by
    simp only [gps, Prod.mk.injEq, and_true] at h
    obtain ⟨rfl, rfl⟩ := h
    exact ⟨rfl, rfl⟩
  | k + 1, l, m, t, hs, h => by
    unfold gps at h
    split at h
    · rename_i he
      split at h
      · rename_i he2
        simp only [Prod.mk.injEq, and_true] at h
        obtain ⟨rfl, rfl⟩ := h
        have e1 := gp_only (p := (gp l).1) (t := (gp l).2.1) hs (by rw [← he])
        obtain ⟨e2, e3⟩ := gps_only k (gp l).2.1 (gps k (gp l).2.1).1 (gps k (gp l).2.1).2.1 (fun x hx => hs x (gp_suffix l x hx)) (by rw [← he2])
        refine ⟨?_, by rw [List.length_cons, e3]⟩
        show l = (encP (gp l).1 ++ encPs _) ++ _
        rw [List.append_assoc, ← e2]
        exact e1
      · rename_i he2
        simp only [Prod.mk.injEq] at h
        exact absurd h.2.2 he2
    · rename_i he
      simp only [Prod.mk.injEq] at h
      exact absurd h.2.2 he
theorem sane_fits {l : List Pr} (h : saneB l = true) : ∀ p ∈ l, fits p := by
  intro p hp
  obtain ⟨h1, h2, _⟩ := (sane_iff l).1 h
  have hv := ((large_iff l).1 h1).2
  rw [List.any_eq_false] at hv
  have hv := hv p hp
  have hn : misn l = false := h2
  unfold misn at hn
  rw [List.any_eq_false] at hn
  have hn := hn p hp
  unfold bigV at hv
  have hnm : nameB p.1 = true := by
    cases h' : nameB p.1 with
    | true => rfl
    | false => simp [badN, h'] at hn
  unfold nameB nameL at hnm
  simp only [decide_eq_true_eq] at hv
  simp only [Bool.and_eq_true, decide_eq_true_eq] at hnm
  have hz : p.1.toList.length = p.1.size := by rw [tl]; rfl
  unfold fits
  omega
theorem getL_enc {l : List Pr} (h : saneB l = true) (t : List Nat) : getL (encL l ++ t) = (l, t, 0) := by
  have hl := sane_len h
  unfold getL encL
  rw [List.append_assoc, getU_enc (by omega)]
  show (if 16 < l.length then _ else if (gps l.length (encPs l ++ t)).2.2 = 0 then if saneB (gps l.length (encPs l ++ t)).1 = true then _ else _ else _) = _
  rw [if_neg (by omega), gps_enc l t (sane_fits h), if_pos rfl, if_pos h]
theorem getL_short {l : List Pr} (h : saneB l = true) {k : Nat} (hk : k < (encL l).length) : getL ((encL l).take k) = ([], [], 3) := by
  have hl := sane_len h
  unfold encL at hk ⊢
  rw [List.length_append] at hk
  unfold getL
  by_cases h1 : k < (enc l.length).length
  · rw [List.take_append_of_le_length (by omega), getU_short (by omega) h1]; rfl
  · rw [List.take_append, List.take_of_length_le (l := enc l.length) (by omega), getU_enc (by omega)]
    show (if 16 < l.length then _ else if (gps l.length ((encPs l).take (k - (enc l.length).length))).2.2 = 0 then _ else _) = _
    rw [if_neg (by omega), gps_short l _ (sane_fits h) (by omega)]; rfl
theorem getL_only {l : List Nat} {m : List Pr} {t : List Nat} (hs : ∀ x ∈ l, x < 256) (h : getL l = (m, t, 0)) : l = encL m ++ t ∧ saneB m = true := by
  unfold getL at h
  split at h
  · rename_i he
    split at h
    · simp at h
    · split at h
      · rename_i he2
        split at h
        · rename_i hsn
          simp only [Prod.mk.injEq, and_true] at h
          obtain ⟨rfl, rfl⟩ := h
          obtain ⟨e1, _⟩ := getU_only (n := (getU l).1) (t := (getU l).2.1) hs (by rw [← he])
          obtain ⟨e2, e3⟩ := gps_only (getU l).1 (getU l).2.1 (gps (getU l).1 (getU l).2.1).1 (gps (getU l).1 (getU l).2.1).2.1 (fun x hx => hs x (getU_suffix l x hx)) (by rw [← he2])
          refine ⟨?_, hsn⟩
          unfold encL
          rw [e3, List.append_assoc, ← e2]
          exact e1
        · simp at h
      · rename_i he2
        simp only [Prod.mk.injEq] at h
        exact absurd h.2.2 he2
  · rename_i he
    simp only [Prod.mk.injEq] at h
    exact absurd h.2.2 he
theorem getL_no {l : List Nat} {m : List Pr} {t : List Nat} {e : Int} (h : getL l = (m, t, e)) (he : e ≠ 0) : m = [] ∧ t = [] := by
  unfold getL at h
  split at h
  · split at h
    · simp only [Prod.mk.injEq] at h; exact ⟨h.1.symm, h.2.1.symm⟩
    · split at h
      · split at h
        · simp only [Prod.mk.injEq] at h; exact absurd h.2.2.symm he
        · simp only [Prod.mk.injEq] at h; exact ⟨h.1.symm, h.2.1.symm⟩
      · simp only [Prod.mk.injEq] at h; exact ⟨h.1.symm, h.2.1.symm⟩
  · simp only [Prod.mk.injEq] at h; exact ⟨h.1.symm, h.2.1.symm⟩
theorem encT_small {l : List Nat} (h : ∀ x ∈ l, x < 256) : ∀ x ∈ encT l, x < 256 := by
  intro x hx
  rcases List.mem_append.1 hx with hx | hx
  · exact enc_small _ x hx
  · exact h x hx
theorem encPs_small (l : List Pr) : ∀ x ∈ encPs l, x < 256 := by
  intro x hx
  obtain ⟨p, _, hx⟩ := List.mem_flatMap.1 hx
  rcases List.mem_append.1 hx with hx | hx
  · exact encT_small (bs_small _) x hx
  · exact encT_small (bs_small _) x hx
theorem encL_small (l : List Pr) : ∀ x ∈ encL l, x < 256 := by
  intro x hx
  rcases List.mem_append.1 hx with hx | hx
  · exact enc_small _ x hx
  · exact encPs_small l x hx
theorem encT_len {l : List Nat} (h : l.length ≤ 65536) : (encT l).length ≤ 9 + l.length := by
  unfold encT
  have := enc_len9 (n := l.length) (by omega)
  rw [List.length_append]; omega
theorem sane_sizes {l : List Pr} (h : saneB l = true) : ∀ p ∈ l, p.1.size ≤ 64 ∧ p.2.size ≤ 64 := by
  intro p hp
  obtain ⟨h1, h2, _⟩ := (sane_iff l).1 h
  have hv := ((large_iff l).1 h1).2
  rw [List.any_eq_false] at hv
  have hv := hv p hp
  have hn : misn l = false := h2
  unfold misn at hn
  rw [List.any_eq_false] at hn
  have hn := hn p hp
  unfold bigV at hv
  have hnm : nameB p.1 = true := by
    cases h' : nameB p.1 with
    | true => rfl
    | false => simp [badN, h'] at hn
  unfold nameB nameL at hnm
  simp only [decide_eq_true_eq] at hv
  simp only [Bool.and_eq_true, decide_eq_true_eq] at hnm
  have hz : p.1.toList.length = p.1.size := by rw [tl]; rfl
  omega
theorem encPs_len : ∀ {l : List Pr}, (∀ p ∈ l, p.1.size ≤ 64 ∧ p.2.size ≤ 64) → (encPs l).length ≤ 146 * l.length
  | [], _ => by simp [encPs]
  | p :: r, h => by
    have ih := encPs_len (l := r) (fun q hq => h q (by simp [hq]))
    obtain ⟨h1, h2⟩ := h p (by simp)
    have e1 := encT_len (l := bs p.1) (by rw [bs_len]; omega)
    have e2 := encT_len (l := bs p.2) (by rw [bs_len]; omega)
    rw [bs_len] at e1 e2
    show ((encT (bs p.1) ++ encT (bs p.2)) ++ encPs r).length ≤ _
    rw [List.length_append, List.length_append, List.length_cons]
    omega
theorem encL_len {l : List Pr} (h : saneB l = true) : 0 < (encL l).length ∧ (encL l).length ≤ 2400 := by
  have h16 := sane_len h
  have e1 := enc_len9 (n := l.length) (by omega)
  have e2 := encPs_len (sane_sizes h)
  have e3 := enc_pos l.length
  unfold encL
  rw [List.length_append]
  omega
end Go.Proofs.YtkoeggjfdcpokaaGreatDoor.Kc
namespace Go.Proofs.YtkoeggjfdcpokaaGreatDoor
open Go.RowKit

/-! ### octets in memory -/
def oct (x : Nat) : Value := .int .u8 (x : Int)
/-- A slice (its address A) holds the octets l, in blocks below B. -/
structure Rb (w : World) (B : Nat) (A : Option Addr) (l : List Nat) : Prop where
  len : l.length ≤ 9223372036854775807
  small : ∀ x ∈ l, x < 256
  mem : l ≠ [] → ∃ b off, A = some ⟨b, off, none⟩ ∧ b < B ∧ ∀ j u, l[j]? = some u → w.cell? ⟨b, off + j, none⟩ = some (oct u)

section
variable {w w' : World} {B B' : Nat} {A : Option Addr} {l : List Nat}
theorem Rb.none_ (w : World) (B : Nat) (A : Option Addr) : Rb w B A [] := ⟨by simp, by simp, fun h => absurd rfl h⟩
theorem Rb.keep (h : Rb w B A l) (hk : ∀ p : Addr, p.block < B → w'.cell? p = w.cell? p) : Rb w' B A l :=
  ⟨h.len, h.small, fun hn => by
    obtain ⟨b, off, e, hb, hc⟩ := h.mem hn
    exact ⟨b, off, e, hb, fun j u hu => (hk _ hb).trans (hc j u hu)⟩⟩
theorem Rb.more (h : Rb w B A l) (hB : B ≤ B') : Rb w B' A l :=
  ⟨h.len, h.small, fun hn => by
    obtain ⟨b, off, e, hb, hc⟩ := h.mem hn
    exact ⟨b, off, e, by omega, hc⟩⟩
theorem Rb.below (h : Rb w B A l) (hb : Below B w w') : Rb w' B A l := h.keep fun _ hp => hb.cell hp
/-- What holds at a world holds behind a call from there. -/
theorem Rb.on (h : Rb w w.heap.size A l) (hb : Below w.heap.size w w') : Rb w' w'.heap.size A l := (h.below hb).more hb.size
theorem Rb.at_ (h : Rb w B A l) {k : Nat} (hk : k < l.length) :
    ∃ b off, A = some ⟨b, off, none⟩ ∧ b < B ∧ w.cell? ⟨b, off + k, none⟩ = some (oct l[k]) := by
  have hn : l ≠ [] := fun e => by subst e; simp at hk
  obtain ⟨b, off, e, hb, hc⟩ := h.mem hn
  exact ⟨b, off, e, hb, hc _ _ (List.getElem?_eq_getElem hk)⟩
theorem Rb.all (h : Rb w B A l) (hn : 0 < l.length) :
    ∃ b off, A = some ⟨b, off, none⟩ ∧ b < B ∧ ∀ k x, l[k]? = some x → w.cell? ⟨b, off + k, none⟩ = some (oct x) := h.mem (List.length_pos_iff.1 hn)
theorem Rb.take (h : Rb w B A l) (k : Nat) : Rb w B A (l.take k) :=
  ⟨by have := h.len; rw [List.length_take]; omega, fun x hx => h.small x (List.mem_of_mem_take hx), fun hn => by
    have hl : l ≠ [] := fun e => hn (by rw [e]; simp)
    obtain ⟨b, off, e, hb, hc⟩ := h.mem hl
    refine ⟨b, off, e, hb, fun j u hu => hc j u ?_⟩
    rw [List.getElem?_take] at hu
    split at hu
    · exact hu
    · simp at hu⟩
/-- The slice from k on. -/
theorem Rb.cut (h : Rb w B A l) {c k : Nat} (hk : k ≤ l.length) (hc' : l.length ≤ c) : Rb w B (if c = k then A else A.map fun x => x.add k) (l.drop k) :=
  ⟨by have := h.len; rw [List.length_drop]; omega, fun x hx => h.small x (List.mem_of_mem_drop hx), fun hn => by
    have hl : l ≠ [] := fun e => hn (by rw [e]; simp)
    have hlt : k < l.length := by
      rcases Nat.lt_or_ge k l.length with h' | h'
      · exact h'
      · exact absurd (List.drop_eq_nil_of_le h') hn
    obtain ⟨b, off, e, hb, hc⟩ := h.mem hl
    rw [if_neg (by omega), e]
    refine ⟨b, off + k, by simp [Addr.add], hb, fun j u hu => ?_⟩
    rw [List.getElem?_drop] at hu
    rw [Nat.add_assoc]
    exact hc _ u hu⟩
end

/-- The slice's octets as values. -/
def vals (l : List Nat) : List Value := l.map oct
theorem vals_len (l : List Nat) : (vals l).length = l.length := by simp [vals]
theorem vals_app (a b : List Nat) : vals (a ++ b) = vals a ++ vals b := List.map_append
theorem vals_one' : ∀ (l : List Nat), ∀ u ∈ vals l, u.oneCell' = true := by
  intro l u hu
  obtain ⟨x, _, rfl⟩ := List.mem_map.1 hu
  rfl
/-- A row of the call's own that holds the octets l. -/
def OwnB (w : World) (base : Nat) (v : Value) (l : List Nat) : Prop := w.ownsRow base 5 1 v l.length (vals l)
section
variable {w : World} {A : Option Addr} {l : List Nat}
theorem OwnB.rb {base c : Nat} (h : OwnB w base (.slice A l.length c) l) (hl : l.length ≤ 9223372036854775807) (hs : ∀ x ∈ l, x < 256) : Rb w w.heap.size A l :=
  ⟨hl, hs, fun hn => by
    have h0 : 0 < l.length := List.length_pos_iff.2 hn
    rcases h.2 with ⟨_, e⟩ | ⟨g, cap, cur, hv, _, hg, _⟩
    · omega
    · have hA : A = some ⟨g, 0, none⟩ := by injection hv
      subst hA
      exact ⟨g, 0, rfl, (Array.getElem?_eq_some_iff.1 hg).1, fun j u hu => by
        have := World.ownsRow.cells h (g := g) rfl j (oct u) (by unfold vals; rw [List.getElem?_map, hu]; rfl)
        simpa [Addr.add_lit] using this⟩⟩
theorem OwnB.slice {base : Nat} {v : Value} (h : OwnB w base v l) : ∃ A c, v = .slice A l.length c := by
  rcases h.2 with ⟨rfl, h0⟩ | ⟨g, cap, cur, rfl, _⟩
  · obtain rfl : l = [] := List.length_eq_zero_iff.1 h0
    exact ⟨none, 0, rfl⟩
  · exact ⟨_, cap, rfl⟩
end

theorem info_oct : (Tryz.prog.info? 5).map (fun i => (i.zero, i.size, i.bytes)) = some (some (.int .u8 0), 1, 1) := by kernel_rfl
theorem run_app_none {w : World} {base : Nat} {v : Value} {n : Nat} {xs : List Value} (hown : w.ownsRow base 5 1 v n xs) (ty : TypeId) (c : Nat) :
    (Builtin.append_ #[92, 92] ty #[v, .slice none 0 c]).run Tryz.prog w = .ok v w := by
  obtain ⟨i0, hi, _, _, _⟩ := info_parts info_oct
  rcases hown.2 with ⟨rfl, rfl⟩ | ⟨g, cap, cur, rfl, _, _, hnc, _⟩
  · simp [Builtin.append_, run_underlying Tryz.underlying92, sizeOf, typeInfo, hi, Builtin.lenOf, Builtin.firstCells]
  · simp [Builtin.append_, run_underlying Tryz.underlying92, sizeOf, typeInfo, hi, Builtin.lenOf, Builtin.firstCells, hnc, storeCells]
theorem OwnB.base {w : World} {base : Nat} {v : Value} {l : List Nat} (h : OwnB w base v l) : ∀ k, v.ownBlock = some k → base ≤ k := by
  intro k hk
  rcases h.2 with ⟨rfl, _⟩ | ⟨g, cap, cur, rfl, hb, _⟩
  · simp [Value.ownBlock] at hk
  · simp [Value.ownBlock] at hk
    omega
theorem OwnB.nil (w : World) (base : Nat) : OwnB w base (.slice none 0 0) [] := ⟨rfl, .inl ⟨rfl, rfl⟩⟩
theorem OwnB.alloc {w : World} {base : Nat} {v : Value} {l : List Nat} (h : OwnB w base v l) (o : Obj) : OwnB (w.alloc o) base v l := World.ownsRow.alloc h o
theorem OwnB.below {w w' : World} {base : Nat} {v : Value} {l : List Nat} (h : OwnB w base v l) (hb : Below w.heap.size w w') : OwnB w' base v l := by
  refine ⟨h.1, ?_⟩
  rcases h.2 with h0 | ⟨g, cap, cur, hv, hbs, hg, hr⟩
  · exact .inl h0
  · exact .inr ⟨g, cap, cur, hv, hbs, (hb.block g (Array.getElem?_eq_some_iff.1 hg).1).trans hg, hr⟩
theorem OwnB.mono {w : World} {base base' : Nat} {v : Value} {l : List Nat} (h : OwnB w base v l) (hb : base' ≤ base) : OwnB w base' v l := by
  refine ⟨h.1, ?_⟩
  rcases h.2 with h0 | ⟨g, cap, cur, hv, hbs, hr⟩
  · exact .inl h0
  · exact .inr ⟨g, cap, cur, hv, by omega, hr⟩
theorem ownB_made (w : World) : OwnB (w.alloc (.cells #[] 5)) w.heap.size (.slice (some ⟨w.heap.size, 0, none⟩) 0 0) [] := World.ownsRow_made w #[] 0 (Nat.le_refl _) (Nat.zero_le _) (by simp)
theorem wp_app (w : World) {ops : Array Oper} {rest : List Oper} {o : Oper} {a : Act} {Q : Exit → Act → World → Prop} (hgd : o.guard = none) (s x : Operand)
    (ho : o.op = .call { callee := .builtin .append, args := #[s, x], argTypes := #[92, 92] })
    (base : Nat) (v : Value) (l m : List Nat) (hs : a.eval s = v) (hown : OwnB w base v l) (A : Option Addr) (n c : Nat) (hn : n = m.length) (hx : a.eval x = .slice A n c) (hr : Rb w w.heap.size A m)
    (hlen : l.length + m.length ≤ 8000000) (hbase : base ≤ w.heap.size)
    (h : ∀ v' w', OwnB w' base v' (l ++ m) → Below base w w' → wpList Tryz.prog ops Q rest (a.put o.dst v') w') : wpList Tryz.prog ops Q (o :: rest) a w := by
  subst hn
  obtain ⟨i0, hi, hz0, hz1, hz2⟩ := info_parts info_oct
  cases A with
  | none =>
    have hm : m = [] := by
      cases m with
      | nil => rfl
      | cons p r => obtain ⟨b, off, e, _⟩ := hr.mem (by simp); cases e
    subst hm
    refine wpList_plain hgd fun K hK => ?_
    have hrun := run_app_none hown o.type c
    unfold Oper.wp
    simp only [List.length_nil] at hx
    simp [execOp, ho, resolve, invoke, builtin, hs, hx, hrun, Result.andThen]
    exact hK _ _ (h v w (by simpa using hown) (Below.refl _ _))
  | some ad =>
    refine wpList_append_own _ hgd s x 92 ho base 5 i0 _ 1 1 Tryz.underlying92 hi hz0 hz1 hz2 rfl (by decide) v l.length (vals l) hs hown ad m.length c (vals m) hx (by rw [vals_len]; omega) ?_ (vals_one' m) (by unfold maxLen; omega) (by omega) hbase ?_
    · intro j u hj
      have hm : m ≠ [] := fun e => by subst e; simp [vals] at hj
      obtain ⟨b, off, e, _, hc⟩ := hr.mem hm
      cases e
      unfold vals at hj
      rw [List.getElem?_map] at hj
      obtain ⟨x, hx, rfl⟩ := Option.map_eq_some_iff.1 hj
      have := hc j x hx
      rwa [Addr.add_lit]
    · intro v' w' ho' hg _
      refine h v' w' ?_ ((Below.refl base w).grown hg hbase (OwnB.base hown))
      unfold OwnB
      rw [vals_app, List.length_append]
      exact ho'

/-! ### octets as a text -/
theorem conv_rb {w : World} {B : Nat} {A : Option Addr} {n c : Nat} {l : List Nat} (hn : n = l.length) (hr : Rb w B A l) {S : ByteArray} (hS : Kc.tx l = S) :
    (convert 92 9 (.slice A n c)).run Tryz.prog w = .ok (.string S) w := by
  subst hn hS
  by_cases h0 : l = []
  · subst h0
    rw [run_convert_bytes_string w 92 9 5 A _ c Tryz.underlying92 Tryz.underlying5 Tryz.underlying9]
    cases A with
    | none => simp [Conv.bytesToString, Kc.tx]; rfl
    | some a =>
      rw [run_bytesToString w a _ c [] (by rfl)]
      rfl
  · obtain ⟨b, off, rfl, _, hc⟩ := hr.mem h0
    have := run_convert_bytes_arg (P := Tryz.prog) w 92 5 Tryz.underlying92 Tryz.underlying5 b off l.length c (l.map Int.ofNat) (by simp) (fun i hi => by
      rw [hc i l[i] (List.getElem?_eq_getElem hi)]
      simp [oct, List.getD_eq_getElem?_getD, hi]) 9 Tryz.underlying9
    rw [this]
    refine congrArg (fun s => Result.ok (Value.string s) w) ?_
    unfold strOfNums Kc.tx
    rw [List.map_map]
    rfl
theorem rb_new (w : World) (C : Array Value) (t : TypeId) (fr : Nat × Nat) (l : List Nat) (hC : C = (vals l).toArray) (hl : l.length ≤ 9223372036854775807) (hs : ∀ x ∈ l, x < 256) :
    Rb (w.alloc (.cells C t fr)) (w.alloc (.cells C t fr)).heap.size (some ⟨w.heap.size, 0, none⟩) l :=
  ⟨hl, hs, fun _ => ⟨w.heap.size, 0, rfl, by show _ < (w.heap.push _).size; rw [Array.size_push]; omega, fun j u hu => by
    rw [World.cell?_alloc_mark, hC, Nat.zero_add]
    unfold vals
    rw [List.getElem?_toArray, List.getElem?_map, hu]; rfl⟩⟩
/-- A slice of octets as a text, behind a call. -/
def Txt (w : World) (A : Option Addr) (n c : Nat) (S : ByteArray) : Prop := ∀ W, Below w.heap.size w W → (convert 92 9 (.slice A n c)).run Tryz.prog W = .ok (.string S) W
theorem txt_of {w : World} {A : Option Addr} {n c : Nat} {l : List Nat} (hn : n = l.length) (hr : Rb w w.heap.size A l) {S : ByteArray} (hS : Kc.tx l = S) : Txt w A n c S :=
  fun _ h => conv_rb hn (hr.on h) hS
/-- How much room a row of the call's own has. -/
theorem OwnB.cap {w : World} {base : Nat} {A : Option Addr} {n c : Nat} {l : List Nat} (h : OwnB w base (.slice A n c) l) : n ≤ c ∧ c ≤ 9223372036854775807 := by
  rcases h.2 with ⟨hv, _⟩ | ⟨g, cap, cur, hv, _, _, hn, hm, _⟩
  · cases hv; omega
  · cases hv
    unfold maxLen at hm
    obtain ⟨h1, _⟩ := h
    omega
end Go.Proofs.YtkoeggjfdcpokaaGreatDoor
namespace Go.Proofs.YtkoeggjfdcpokaaGreatDoor
open Go.RowKit

def nb (l : Lx.T) : List Nat := l.map UInt8.toNat
theorem nb_small (l : Lx.T) : ∀ x ∈ nb l, x < 256 := by
  intro x hx
  obtain ⟨c, _, rfl⟩ := List.mem_map.1 hx
  exact UInt8.toNat_lt c
theorem nb_app (a b : Lx.T) : nb (a ++ b) = nb a ++ nb b := List.map_append
theorem nb_len (l : Lx.T) : (nb l).length = l.length := List.length_map _
theorem tx_nb (l : Lx.T) : (Kc.tx (nb l)).data.toList = l := by
  unfold Kc.tx nb
  rw [List.map_map]
  show List.map (UInt8.ofNat ∘ UInt8.toNat) l = l
  conv => rhs; rw [← List.map_id l]
  exact List.map_congr_left fun x _ => by simp
theorem body_snoc (s : ByteArray) (k : Nat) (h : k < s.size) : Lx.body (s.data.toList.take (k + 1)) = Lx.body (s.data.toList.take k) ++ Lx.esc (s[k]'h) := by
  have e : s.data.toList.take (k + 1) = s.data.toList.take k ++ [s[k]'h] := by
    have h' : k < s.data.toList.length := by rw [Array.length_toList]; exact h
    rw [List.take_add_one, List.getElem?_eq_getElem h']
    rfl
  rw [e]
  unfold Lx.body
  rw [List.flatMap_append]
  simp
theorem body_len (l : Lx.T) : (Lx.body l).length ≤ 2 * l.length := by
  induction l with
  | nil => simp [Lx.body]
  | cons c r ih =>
    show (Lx.esc c ++ Lx.body r).length ≤ _
    rw [List.length_append, List.length_cons]
    have : (Lx.esc c).length ≤ 2 := by
      unfold Lx.esc
      split
      · simp
      · split <;> simp
    omega
theorem ownB_one (w : World) (x : Nat) (base : Nat) (hb : base ≤ w.heap.size) : OwnB (w.alloc (.cells #[oct x] 5)) base (.slice (some ⟨w.heap.size, 0, none⟩) 1 1) [x] :=
  ⟨rfl, .inr ⟨w.heap.size, 1, #[oct x], rfl, hb, heap_alloc_new w _, Nat.le_refl _, by unfold maxLen; omega, rfl, rfl⟩⟩
set_option maxHeartbeats 6400000 in
theorem rquote_of (s S : ByteArray) (hs : s.size ≤ 1000000) (hS : S.data.toList = Lx.quote s.data.toList) (w : World) :
    Calls Tryz.prog 55 #[.string s] w fun e w' => e = .returned (.string S) ∧ Below w.heap.size w w' := by
  have HS := Lib.hid hS
  obtain ⟨n, hn⟩ : ∃ n, s.size = n := ⟨_, rfl⟩
  have hn1 : n ≤ 1000000 := by omega
  clear hS
  go_enter Tryz.func55, Tryz.ntmps55
  go_wp2_with fail
  go_loopg [3, 4] n (fun g s3 s4 wx => ∃ i : Nat, i + g = n ∧ s4 = .int .i64 i ∧ Hid (OwnB wx w.heap.size s3 (nb (34 :: Lx.body (s.data.toList.take i)))) ∧ Below w.heap.size w wx)
  case atStart => exact ⟨0, by omega, rfl, Lib.hid (ownB_one w 34 w.heap.size (Nat.le_refl _)), below_alloc w _⟩
  case round =>
    obtain ⟨i, hi, rfl, HO, hwx⟩ := hrel
    have hlen : (nb (34 :: Lx.body (s.data.toList.take i))).length ≤ 2 * i + 1 := by
      rw [nb_len, List.length_cons]
      have := body_len (s.data.toList.take i)
      rw [List.length_take] at this
      omega
    obtain ⟨out, hout⟩ : ∃ out, nb (34 :: Lx.body (s.data.toList.take i)) = out := ⟨_, rfl⟩
    rw [hout] at hlen HO
    have HOut := Lib.hid hout
    clear hout
    cases gk with
    | zero =>
      obtain rfl : i = n := by omega
      obtain ⟨A, c, hv⟩ := OwnB.slice HO.out
      subst hv
      obtain ⟨T, hT⟩ : ∃ T, Kc.tx out = T := ⟨_, rfl⟩
      have hsm : ∀ x ∈ out, x < 256 := by rw [← HOut.out]; exact nb_small _
      have hcv := conv_rb (n := out.length) (c := c) rfl (OwnB.rb HO.out (by omega) hsm) hT
      have hTl : T.data.toList = 34 :: Lx.body s.data.toList := by
        rw [← hT, ← HOut.out, tx_nb, List.take_of_length_le (by rw [Array.length_toList]; exact Nat.le_of_eq hn)]
      have hTs : T.size ≤ 9000000 := by
        show T.data.size ≤ _
        rw [← Array.length_toList, hTl, List.length_cons]
        have hbl := body_len s.data.toList
        have hsl : s.data.toList.length = i := by rw [Array.length_toList]; exact hn
        rw [hsl] at hbl
        omega
      have HTl := Lib.hid hTl
      clear hT hTl hsm
      obtain ⟨m, hm⟩ : ∃ m, out.length = m := ⟨_, rfl⟩
      rw [hm] at hcv ⊢
      clear hm
      go_wp2_with fail
      go_ret
      refine ⟨?_, hwx⟩
      have : T ++ (⟨#[34]⟩ : ByteArray) = S := by
        apply Lp.ext
        rw [Lp.tl, Lp.tl, HS.out, ByteArray.data_append]
        simp [HTl.out, Lx.quote]
      rw [← this]
      rfl
    | succ g =>
      have hlt : i < s.size := by omega
      have hltz : (i : Int) < (n : Int) := by omega
      obtain ⟨c, hc⟩ : ∃ c, s[i]'hlt = c := ⟨_, rfl⟩
      have HB : Hid (nb (34 :: Lx.body (s.data.toList.take (i + 1))) = out ++ nb (Lx.esc c)) := Lib.hid (by
        rw [body_snoc s i hlt, hc, ← HOut.out, ← nb_app]; rfl)
      have hc8 := UInt8.toNat_lt c
      have hsz := hwx.size
      by_cases h92 : c.toNat = 92
      · have e : nb (Lx.esc c) = [92, 92] := by unfold Lx.esc; rw [if_pos (.inl h92)]; simp [nb, h92]
        rw [e] at HB
        have hz : ((c.toNat : Int) == 92) = true := by simp; omega
        have hl : out.length + ([92, 92] : List Nat).length ≤ 8000000 := by simp; omega
        clear e
        go_wp2_with (at_builtin; refine wp_app _ rfl _ _ rfl w.heap.size _ out [92, 92] rfl (OwnB.alloc HO.out _) _ 2 2 rfl rfl (rb_new wr _ _ (0, 0) [92, 92] rfl (by simp) (by simp; try omega)) hl (by show _ ≤ (wr.heap.push _).size; rw [Array.size_push]; omega) ?_; intro v4 w4 hown4 hb4)
        go_roundg g
        case measure => omega
        case rel => exact ⟨i + 1, by omega, by simp, Lib.hid (HB.out ▸ hown4), (hwx.alloc hsz _).trans hb4⟩
      by_cases h34 : c.toNat = 34
      · have e : nb (Lx.esc c) = [92, 34] := by unfold Lx.esc; rw [if_pos (.inr h34)]; simp [nb, h34]
        rw [e] at HB
        have hz : ((c.toNat : Int) == 92) = false := by simp; omega
        have hz2 : ((c.toNat : Int) == 34) = true := by simp; omega
        have hl : out.length + ([92, 34] : List Nat).length ≤ 8000000 := by simp; omega
        clear e
        go_wp2_with (at_builtin; refine wp_app _ rfl _ _ rfl w.heap.size _ out [92, 34] rfl (OwnB.alloc HO.out _) _ 2 2 rfl rfl (rb_new wr _ _ (0, 0) [92, 34] rfl (by simp) (by simp; try omega)) hl (by show _ ≤ (wr.heap.push _).size; rw [Array.size_push]; omega) ?_; intro v4 w4 hown4 hb4)
        go_roundg g
        case measure => omega
        case rel => exact ⟨i + 1, by omega, by simp, Lib.hid (HB.out ▸ hown4), (hwx.alloc hsz _).trans hb4⟩
      by_cases h10 : c.toNat = 10
      · have e : nb (Lx.esc c) = [92, 110] := by unfold Lx.esc; rw [if_neg (by omega), if_pos h10]; simp [nb]
        rw [e] at HB
        have hz : ((c.toNat : Int) == 92) = false := by simp; omega
        have hz2 : ((c.toNat : Int) == 34) = false := by simp; omega
        have hz3 : ((c.toNat : Int) == 10) = true := by simp; omega
        have hl : out.length + ([92, 110] : List Nat).length ≤ 8000000 := by simp; omega
        clear e
        go_wp2_with (at_builtin; refine wp_app _ rfl _ _ rfl w.heap.size _ out [92, 110] rfl (OwnB.alloc HO.out _) _ 2 2 rfl rfl (rb_new wr _ _ (0, 0) [92, 110] rfl (by simp) (by simp; try omega)) hl (by show _ ≤ (wr.heap.push _).size; rw [Array.size_push]; omega) ?_; intro v4 w4 hown4 hb4)
        go_roundg g
        case measure => omega
        case rel => exact ⟨i + 1, by omega, by simp, Lib.hid (HB.out ▸ hown4), (hwx.alloc hsz _).trans hb4⟩
      by_cases hno : False
      · exact hno.elim
      · have e : nb (Lx.esc c) = [c.toNat] := by unfold Lx.esc; rw [if_neg (by omega), if_neg h10]; rfl
        rw [e] at HB
        have hz : ((c.toNat : Int) == 92) = false := by simp; omega
        have hz2 : ((c.toNat : Int) == 34) = false := by simp; omega
        have hz3 : ((c.toNat : Int) == 10) = false := by simp; omega
        clear h92 h34 h10
        have hl : out.length + ([c.toNat] : List Nat).length ≤ 8000000 := by simp; omega
        clear e
        go_wp2_with (at_builtin; refine wp_app _ rfl _ _ rfl w.heap.size _ out [c.toNat] rfl (OwnB.alloc HO.out _) _ 1 1 rfl rfl (rb_new wr _ _ (0, 0) [c.toNat] rfl (by simp) (by simp; try omega)) hl (by show _ ≤ (wr.heap.push _).size; rw [Array.size_push]; omega) ?_; intro v4 w4 hown4 hb4)
        go_roundg g
        case measure => omega
        case rel => exact ⟨i + 1, by omega, by simp, Lib.hid (HB.out ▸ hown4), (hwx.alloc hsz _).trans hb4⟩
end Go.Proofs.YtkoeggjfdcpokaaGreatDoor
namespace Go.Proofs.YtkoeggjfdcpokaaGreatDoor
open Go.RowKit Go.Proofs.YtkoeggjfdcpokaaGreatDoor.Lp
open Go.Proofs.YtkoeggjfdcpokaaGreatDoor.Sl (Mt Sel Tf)

def pre : Bool → List Mt → Lx.T
  | _, [] => []
  | b, m :: r => (if b then 123 else 44) :: (Sl.mTxt m ++ pre false r)
theorem prM_pre : ∀ (r : List Mt) (b : Bool), Sl.prM b r = pre b r ++ [125]
  | [], _ => rfl
  | m :: r, b => by
    show (if b then 123 else 44) :: (Sl.mTxt m ++ Sl.prM false r) = (if b then 123 else 44) :: (Sl.mTxt m ++ pre false r) ++ [125]
    rw [prM_pre r false]; simp
theorem pre_snoc : ∀ (r : List Mt) (b : Bool) (m : Mt), pre b (r ++ [m]) = pre b r ++ ((if b = true ∧ r = [] then 123 else 44) :: Sl.mTxt m)
  | [], b, m => by
    show (if b then 123 else 44) :: (Sl.mTxt m ++ []) = [] ++ _
    simp
  | x :: r, b, m => by
    show (if b then 123 else 44) :: (Sl.mTxt x ++ pre false (r ++ [m])) = ((if b then 123 else 44) :: (Sl.mTxt x ++ pre false r)) ++ _
    rw [pre_snoc r false m]
    simp
theorem pre_next {l : List Mt} {i : Nat} {m : Mt} (h : l[i]? = some m) : pre true (l.take (i + 1)) = pre true (l.take i) ++ ((if i = 0 then 123 else 44) :: Sl.mTxt m) := by
  have hlt := (List.getElem?_eq_some_iff.1 h).1
  rw [List.take_add_one, h]
  show pre true (l.take i ++ [m]) = _
  rw [pre_snoc]
  congr 2
  have : l.take i = [] ↔ i = 0 := by
    rw [List.take_eq_nil_iff]
    constructor
    · rintro (h | h)
      · exact h
      · subst h; simp at hlt
    · exact .inl
  simp [this]
theorem sane_parts {N : ByteArray} {l : List Mt} (h : Sl.saneS (N, l) = true) : N.size ≤ 64 ∧ l.length ≤ 8 ∧ ∀ m ∈ l, m.1.size ≤ 64 ∧ m.2.1.size ≤ 64 := by
  refine ⟨name_size h, ?_, ?_⟩
  · unfold Sl.saneS at h
    simp only [Bool.and_eq_true, decide_eq_true_eq] at h
    exact h.1.2
  · intro m hm
    unfold Sl.saneS at h
    simp only [Bool.and_eq_true, decide_eq_true_eq] at h
    have := (List.all_eq_true.1 h.2) m hm
    unfold Sl.mOk nameB nameL at this
    rw [tl] at this
    simp only [Bool.and_eq_true, decide_eq_true_eq] at this
    have h1 := this.1.1.1.2
    rw [Array.length_toList] at h1
    exact ⟨h1, this.2⟩
set_option maxHeartbeats 6400000 in
theorem rprintS_of (N : ByteArray) (A : Option Addr) (c n : Nat) (l : List Mt) (S : ByteArray) (hNs : N.size ≤ 9223372036854775807) (hn : n = l.length) (hS : S.data.toList = Sl.prS (N, l)) (w : World) (hr : Rq w w.heap.size A l) :
    Calls Tryz.prog 33 #[sv N A n c] w fun e w' => e = .returned (.string S) ∧ Below w.heap.size w w' := by
  have HN := Lib.hid hn
  have HS := Lib.hid hS
  have HR := Lib.hid hr
  clear hn hS hr
  obtain ⟨b1, hb1⟩ : ∃ b, Sl.saneS (N, l) = b := ⟨_, rfl⟩
  have H1 := Lib.hid hb1
  clear hb1
  go_enter Tryz.func33, Tryz.ntmps33
  obtain ⟨W, P, hW, hP, hb0, d0, d1, hPW⟩ := box_sel w N A n c
  have X1 : Hid (Bx W P N A n c) := Lib.hid ⟨d0, d1, hPW⟩
  have HB0 : Hid (Below w.heap.size w W) := Lib.hid (hP ▸ hb0)
  have HRW := Lib.hid (HR.out.on HB0.out)
  clear hb0 HR
  go_wp2_with fail
  refine (rsaneS_of N A c n l b1 hNs HN.out H1.out W HRW.out).mono ?_
  rintro e w1 ⟨rfl, hV1⟩
  clear d0 d1
  cases b1 with
  | false =>
    have : S = ⟨#[]⟩ := Lp.ext (by rw [Lp.tl, HS.out, Lp.tl]; unfold Sl.prS; rw [H1.out]; rfl)
    subst this
    go_wp2_with fail
    go_ret
    exact ⟨rfl, below_on HB0.out hV1⟩
  | true =>
    obtain ⟨hN64, hl8, hms⟩ := sane_parts H1.out
    have HMs := Lib.hid hms
    have hn8 : n ≤ 8 := by rw [HN.out]; exact hl8
    clear hms hl8
    obtain ⟨d0, d1, _⟩ := X1.out.on hV1
    go_wp2_with fail
    go_loopg [3, 4] n (fun g s3 s4 wx => ∃ (i : Nat) (T : ByteArray), i + g = n ∧ s4 = .int .i64 i ∧ s3 = .string T ∧ T.size ≤ 64 + 300 * i ∧ Hid (T.data.toList = N.data.toList ++ pre true (l.take i)) ∧ Below W.heap.size W wx)
    case atStart => exact ⟨0, N, by omega, rfl, rfl, by omega, Lib.hid (by simp [pre]), hV1⟩
    case round =>
      obtain ⟨i, T, hi, rfl, rfl, hTs, HT, hwx⟩ := hrel
      clear d0 d1
      obtain ⟨d0, d1, _⟩ := X1.out.on hwx
      cases gk with
      | zero =>
        obtain rfl : i = n := by omega
        have hTl := HT.out
        rw [List.take_of_length_le (by rw [HN.out]; exact Nat.le_refl _)] at hTl
        by_cases h0 : i = 0
        · subst h0
          have hl : l = [] := List.length_eq_zero_iff.1 HN.out.symm
          have : S = T := Lp.ext (by
            rw [Lp.tl, Lp.tl, HS.out, hTl]; unfold Sl.prS; rw [H1.out, hl]; rfl)
          subst this
          clear hTl
          go_wp2_with fail
          go_ret
          exact ⟨rfl, by have := below_on HB0.out hwx; rwa [hP] at this⟩
        · have h0z : (0 : Int) < (i : Int) := by omega
          have hl : ¬ l = [] := fun e => h0 (by rw [HN.out, e]; rfl)
          have : T ++ (⟨#[125]⟩ : ByteArray) = S := Lp.ext (by
            rw [Lp.tl, Lp.tl, HS.out, ByteArray.data_append]
            unfold Sl.prS
            rw [if_pos H1.out]
            show _ = N.data.toList ++ (if l = [] then [] else Sl.prM true l)
            rw [if_neg hl, prM_pre]
            simp [hTl])
          have HTS := Lib.hid this
          clear hTl this h0
          go_wp2_with fail
          go_ret
          refine ⟨?_, below_on HB0.out hwx⟩
          rw [← HTS.out]
          rfl
      | succ g =>
        have hlt : i < n := by omega
        have hltz : (i : Int) < (n : Int) := by omega
        obtain ⟨a1, a2, a3, ha⟩ := getM (l := l) (k := i) (by have := HN.out; omega)
        obtain ⟨bk, off, rfl, hbk, c0, c1, c2⟩ := (HRW.out.on hwx).get ha
        obtain ⟨ha1, ha2⟩ := HMs.out _ (List.mem_of_getElem? ha)
        have HNx := Lib.hid (pre_next ha)
        obtain ⟨Q, hQ⟩ : ∃ Q : ByteArray, Q.data.toList = Lx.quote a2.data.toList := ⟨str _, rfl⟩
        have hQs : Q.size ≤ 130 := by
          have hbl := body_len a2.data.toList
          show Q.data.size ≤ _
          rw [← Array.length_toList, hQ]
          unfold Lx.quote
          rw [List.length_cons, List.length_append, List.length_singleton]
          have hsl : a2.data.toList.length ≤ 64 := by rw [Array.length_toList]; exact ha2
          omega
        have HQ := Lib.hid hQ
        have ha2' : a2.size ≤ 1000000 := by have : a2.size ≤ 64 := ha2; omega
        have ha1' : a1.size ≤ 64 := ha1
        clear ha hQ ha1 ha2
        by_cases hi0 : i = 0
        · subst hi0
          simp only [Nat.zero_mul, Nat.add_zero] at c0 c1 c2
          cases a3 with
          | true =>
            go_wp2_with fail
            refine (rquote_of a2 Q ha2' HQ.out wr).mono ?_
            rintro e w4 ⟨rfl, hw4⟩
            have hV4 := below_on hwx hw4
            go_wp2_with fail
            go_roundg g
            case measure => omega
            case rel =>
              refine ⟨0 + 1, T ++ (⟨#[123]⟩ : ByteArray) ++ a1 ++ (⟨#[33]⟩ : ByteArray) ++ (⟨#[61]⟩ : ByteArray) ++ Q, by omega, by simp, rfl, ?_, Lib.hid ?_, hV4⟩
              · simp only [ByteArray.size_append]
                have h1 : (⟨#[123]⟩ : ByteArray).size = 1 := rfl
                have h2 : (⟨#[61]⟩ : ByteArray).size = 1 := rfl
                have h3 : (⟨#[33]⟩ : ByteArray).size = 1 := rfl
                omega
              · rw [HNx.out]
                simp only [ByteArray.data_append, Array.toList_append, HT.out, HQ.out, Sl.mTxt]
                simp
          | false =>
            go_wp2_with fail
            refine (rquote_of a2 Q ha2' HQ.out wr).mono ?_
            rintro e w4 ⟨rfl, hw4⟩
            have hV4 := below_on hwx hw4
            go_wp2_with fail
            go_roundg g
            case measure => omega
            case rel =>
              refine ⟨0 + 1, T ++ (⟨#[123]⟩ : ByteArray) ++ a1 ++ (⟨#[61]⟩ : ByteArray) ++ Q, by omega, by simp, rfl, ?_, Lib.hid ?_, hV4⟩
              · simp only [ByteArray.size_append]
                have h1 : (⟨#[123]⟩ : ByteArray).size = 1 := rfl
                have h2 : (⟨#[61]⟩ : ByteArray).size = 1 := rfl
                have h3 : (⟨#[33]⟩ : ByteArray).size = 1 := rfl
                omega
              · rw [HNx.out]
                simp only [ByteArray.data_append, Array.toList_append, HT.out, HQ.out, Sl.mTxt]
                simp
        · have hiz : ((i : Int) == 0) = false := by simp; omega
          cases a3 with
          | true =>
            go_wp2_with fail
            refine (rquote_of a2 Q ha2' HQ.out wr).mono ?_
            rintro e w4 ⟨rfl, hw4⟩
            have hV4 := below_on hwx hw4
            go_wp2_with fail
            go_roundg g
            case measure => omega
            case rel =>
              refine ⟨i + 1, T ++ (⟨#[44]⟩ : ByteArray) ++ a1 ++ (⟨#[33]⟩ : ByteArray) ++ (⟨#[61]⟩ : ByteArray) ++ Q, by omega, by simp, rfl, ?_, Lib.hid ?_, hV4⟩
              · simp only [ByteArray.size_append]
                have h1 : (⟨#[44]⟩ : ByteArray).size = 1 := rfl
                have h2 : (⟨#[61]⟩ : ByteArray).size = 1 := rfl
                have h3 : (⟨#[33]⟩ : ByteArray).size = 1 := rfl
                omega
              · rw [HNx.out]
                simp only [ByteArray.data_append, Array.toList_append, HT.out, HQ.out, Sl.mTxt, hi0]
                simp
          | false =>
            go_wp2_with fail
            refine (rquote_of a2 Q ha2' HQ.out wr).mono ?_
            rintro e w4 ⟨rfl, hw4⟩
            have hV4 := below_on hwx hw4
            go_wp2_with fail
            go_roundg g
            case measure => omega
            case rel =>
              refine ⟨i + 1, T ++ (⟨#[44]⟩ : ByteArray) ++ a1 ++ (⟨#[61]⟩ : ByteArray) ++ Q, by omega, by simp, rfl, ?_, Lib.hid ?_, hV4⟩
              · simp only [ByteArray.size_append]
                have h1 : (⟨#[44]⟩ : ByteArray).size = 1 := rfl
                have h2 : (⟨#[61]⟩ : ByteArray).size = 1 := rfl
                have h3 : (⟨#[33]⟩ : ByteArray).size = 1 := rfl
                omega
              · rw [HNx.out]
                simp only [ByteArray.data_append, Array.toList_append, HT.out, HQ.out, Sl.mTxt, hi0]
                simp
end Go.Proofs.YtkoeggjfdcpokaaGreatDoor
namespace Go.Proofs.YtkoeggjfdcpokaaGreatDoor
open Go.RowKit Go.Proofs.YtkoeggjfdcpokaaGreatDoor.Lp
open Go.Proofs.YtkoeggjfdcpokaaGreatDoor.Sl (Mt Sel Tf)

/-- A match's variable that may be written. -/
structure Bf (w : World) (P : Nat) (a b : ByteArray) (c : Bool) : Prop where
  c0 : w.cell? ⟨P, 0, none⟩ = some (.string a)
  c1 : w.cell? ⟨P, 1, none⟩ = some (.string b)
  c2 : w.cell? ⟨P, 2, none⟩ = some (.bool c)
  f0 : w.frozen? ⟨P, 0, none⟩ = false
  f1 : w.frozen? ⟨P, 1, none⟩ = false
  f2 : w.frozen? ⟨P, 2, none⟩ = false
  lt : P < w.heap.size
theorem Bf.on {w w' : World} {P : Nat} {a b : ByteArray} {c : Bool} (h : Bf w P a b c) (hb : Below w.heap.size w w') : Bf w' P a b c :=
  ⟨(hb.cell (p := ⟨P, 0, none⟩) h.lt).trans h.c0, (hb.cell (p := ⟨P, 1, none⟩) h.lt).trans h.c1, (hb.cell (p := ⟨P, 2, none⟩) h.lt).trans h.c2,
    (hb.frozen (p := ⟨P, 0, none⟩) h.lt).trans h.f0, (hb.frozen (p := ⟨P, 1, none⟩) h.lt).trans h.f1, (hb.frozen (p := ⟨P, 2, none⟩) h.lt).trans h.f2, Nat.lt_of_lt_of_le h.lt hb.size⟩
theorem Bf.new (w : World) (a b : ByteArray) (c : Bool) : Bf (w.alloc (Obj.cells #[Value.string a, Value.string b, Value.bool c] 45)) w.heap.size a b c :=
  ⟨World.cell?_alloc_at _ _ _ _ rfl, World.cell?_alloc_at _ _ _ _ rfl, World.cell?_alloc_at _ _ _ _ rfl, frozen_new rfl rfl 0, frozen_new rfl rfl 1, frozen_new rfl rfl 2, by show _ < (w.heap.push _).size; rw [Array.size_push]; omega⟩
theorem box_mm (w : World) : ∃ W P, (w.alloc (Obj.cells #[Value.string ⟨#[]⟩, Value.string ⟨#[]⟩, Value.bool false] 45)).alloc (Obj.cells #[Value.string ⟨#[]⟩, Value.string ⟨#[]⟩, Value.bool false] 45) = W ∧ w.heap.size = P ∧ Below P w W ∧ Bf W P ⟨#[]⟩ ⟨#[]⟩ false ∧ Bf W (P + 1) ⟨#[]⟩ ⟨#[]⟩ false := by
  obtain ⟨W1, hW1⟩ : ∃ W1, w.alloc (Obj.cells #[Value.string ⟨#[]⟩, Value.string ⟨#[]⟩, Value.bool false] 45) = W1 := ⟨_, rfl⟩
  have hs : W1.heap.size = w.heap.size + 1 := by rw [← hW1]; show (w.heap.push _).size = _; rw [Array.size_push]
  have h1 : Bf W1 w.heap.size ⟨#[]⟩ ⟨#[]⟩ false := by rw [← hW1]; exact Bf.new w _ _ _
  have hb1 : Below w.heap.size w W1 := by rw [← hW1]; exact below_alloc w _
  have hb2 := below_alloc W1 (Obj.cells #[Value.string ⟨#[]⟩, Value.string ⟨#[]⟩, Value.bool false] 45)
  refine ⟨_, _, rfl, rfl, ?_, ?_, ?_⟩
  · rw [hW1]; exact below_on hb1 hb2
  · rw [hW1]; exact h1.on hb2
  · rw [hW1, ← hs]; exact Bf.new W1 _ _ _
theorem info_matsize : (Tryz.prog.info? 45).map (·.size) = some 3 := by kernel_rfl
theorem load_mat (w : World) (R : Nat) (a b : ByteArray) (c : Bool) (h0 : w.cell? ⟨R, 0, none⟩ = some (.string a)) (h1 : w.cell? ⟨R, 1, none⟩ = some (.string b)) (h2 : w.cell? ⟨R, 2, none⟩ = some (.bool c)) :
    (loadVar 45 ⟨R, 0, none⟩).run Tryz.prog w = .ok (.agg #[.string a, .string b, .bool c]) w := by
  refine run_loadVar_mid w R 0 45 [.string a, .string b, .bool c] _ ?_ Tryz.underlying45 rfl info_matsize
  intro j v hv
  match j, hv with
  | 0, hv => cases hv; exact h0
  | 1, hv => cases hv; exact h1
  | 2, hv => cases hv; exact h2
theorem results_cell2 {fn : Func} {p u x : Tmp} {ty : TypeId} (h : fn.results = #[.cell p ty, .tmp u, .tmp x]) (tmps : Array Value) (P : Program) (w : World) :
    (results fn tmps).run P w =
      ((asAddr (tmps.getD p undef)).run P w).andThen fun a w₁ => ((loadVar ty a).run P w₁).andThen fun v w₂ => .ok (.tuple #[v, tmps.getD u undef, tmps.getD x undef]) w₂ := by
  simp only [results, h]
  simp [Sem.run_bind, Result.andThen]
/-- Behind the three stores. -/
theorem set_three {w : World} {R : Nat} {x y z : Value} (a b c : Value) (h0 : w.cell? ⟨R, 0, none⟩ = some x) (h1 : w.cell? ⟨R, 1, none⟩ = some y) (h2 : w.cell? ⟨R, 2, none⟩ = some z) :
    (((w.setCell ⟨R, 0, none⟩ a).setCell ⟨R, 1, none⟩ b).setCell ⟨R, 2, none⟩ c).cell? ⟨R, 0, none⟩ = some a ∧ (((w.setCell ⟨R, 0, none⟩ a).setCell ⟨R, 1, none⟩ b).setCell ⟨R, 2, none⟩ c).cell? ⟨R, 1, none⟩ = some b ∧
      (((w.setCell ⟨R, 0, none⟩ a).setCell ⟨R, 1, none⟩ b).setCell ⟨R, 2, none⟩ c).cell? ⟨R, 2, none⟩ = some c ∧ Below R w (((w.setCell ⟨R, 0, none⟩ a).setCell ⟨R, 1, none⟩ b).setCell ⟨R, 2, none⟩ c) := by
  have n (i j : Nat) (h : i ≠ j) : (⟨R, i, none⟩ : Addr) ≠ ⟨R, j, none⟩ := fun e => h (by injection e)
  refine ⟨?_, ?_, ?_, (((Below.refl R w).setCell (p := ⟨R, 0, none⟩) (Nat.le_refl _) _).setCell (p := ⟨R, 1, none⟩) (Nat.le_refl _) _).setCell (p := ⟨R, 2, none⟩) (Nat.le_refl _) _⟩
  · exact (World.cell?_setCell_other _ _ _ _ (n 2 0 (by decide))).trans ((World.cell?_setCell_other _ _ _ _ (n 1 0 (by decide))).trans (World.cell?_setCell_same _ _ _ h0))
  · exact (World.cell?_setCell_other _ _ _ _ (n 2 1 (by decide))).trans (World.cell?_setCell_same _ _ _ ((World.cell?_setCell_other _ _ _ _ (n 0 1 (by decide))).trans h1))
  · exact World.cell?_setCell_same _ _ _ ((World.cell?_setCell_other _ _ _ _ (n 1 2 (by decide))).trans ((World.cell?_setCell_other _ _ _ _ (n 0 2 (by decide))).trans h2))
theorem far_three (w : World) {R Q : Nat} (a b c : Value) (d : Nat) (h : Q = R + 1) : (((w.setCell ⟨R, 0, none⟩ a).setCell ⟨R, 1, none⟩ b).setCell ⟨R, 2, none⟩ c).cell? ⟨Q, d, none⟩ = w.cell? ⟨Q, d, none⟩ := by
  have n (i : Nat) : (⟨R, i, none⟩ : Addr) ≠ ⟨Q, d, none⟩ := by intro e; injection e with e1; omega
  rw [World.cell?_setCell_other _ _ _ _ (n 2), World.cell?_setCell_other _ _ _ _ (n 1), World.cell?_setCell_other _ _ _ _ (n 0)]
set_option maxHeartbeats 6400000 in
set_option maxRecDepth 100000 in
theorem rmatch_of (B : Option Addr) (d q : Nat) (ts : List Tz) (j n : Nat) (m : Mt) (x : Nat) (z : Int) (hq : q = ts.length) (hj : j ≤ 1000000) (hn : n ≤ 1000000) (hm : Sl.matchAt (ts.map flatK) j n = (m, x, z)) (w : World) (hr : Rz w w.heap.size B ts) :
    Calls Tryz.prog 96 #[.slice B q d, .int .i64 (j : Int), .int .i64 (n : Int)] w fun e w' => e = .returned (.tuple #[.agg #[.string m.1, .string m.2.1, .bool m.2.2], .int .i64 (x : Int), .int .i64 z]) ∧ Below w.heap.size w w' := by
  have HQ := Lib.hid hq
  have HM := Lib.hid hm
  have HR := Lib.hid hr
  have hlen : q ≤ 9223372036854775807 := by rw [hq]; exact hr.len
  clear hq hm hr
  go_enter Tryz.func96, Tryz.ntmps96
  go_wp2_with fail
  obtain ⟨W, P, hW, hP, hb0, x1, x2⟩ := box_mm w
  rw [hW, hP]
  clear hW
  have X1 := Lib.hid x1
  have X2 := Lib.hid x2
  have HB0 : Hid (Below w.heap.size w W) := Lib.hid (hP ▸ hb0)
  have HRW := Lib.hid (HR.out.on HB0.out)
  have hPs : P ≤ W.heap.size := Nat.le_of_lt x1.lt
  clear hb0 HR x1 x2
  have KP : Hid (∀ (i : Int) (y : Nat) (V : World), (if i < 0 then 0 else min i.toNat q) = y → Calls Tryz.prog 45 #[.slice B q d, .int .i64 i] V fun e w' => e = .returned (.int .i64 (y : Int)) ∧ Below V.heap.size V w') := Lib.hid (fun i y V h => place_of B d q i y hlen h V)
  obtain ⟨e0, he0⟩ : ∃ z, Sl.nameAt (ts.map flatK) j = z := ⟨_, rfl⟩
  have HE0 := Lib.hid he0
  clear he0
  refine (rname_at B d q ts (j : Int) e0 HQ.out (by rw [nameI_at]; exact HE0.out) W HRW.out).mono ?_
  rintro e w1 ⟨rfl, hV1⟩
  have Y0 := Lib.hid (fun (V : World) (h : Below W.heap.size W V) => (X2.out.on h).c0)
  have Y1 := Lib.hid (fun (V : World) (h : Below W.heap.size W V) => (X2.out.on h).c1)
  have Y2 := Lib.hid (fun (V : World) (h : Below W.heap.size W V) => (X2.out.on h).c2)
  by_cases h0 : e0 = 0
  · subst h0
    obtain ⟨e1, he1⟩ : ∃ z, Sl.want (ts.map flatK) (j + 1) 4 (Sl.sg [33, 61]) = z := ⟨_, rfl⟩
    obtain ⟨e2, he2⟩ : ∃ z, Sl.want (ts.map flatK) (j + 1) 4 (Sl.sg [61]) = z := ⟨_, rfl⟩
    obtain ⟨e3, he3⟩ : ∃ z, Sl.want (ts.map flatK) (j + 2) 3 ⟨#[]⟩ = z := ⟨_, rfl⟩
    have hm := HM.out
    unfold Sl.matchAt at hm
    rw [HE0.out, if_neg (by simp), he1, he2, he3, List.length_map, ← HQ.out] at hm
    have HM2 := Lib.hid hm
    have HE1 : Hid (wantI (ts.map flatK) ((j : Int) + 1) 4 (Sl.sg [33, 61]) = e1) := Lib.hid (by rw [show (j : Int) + 1 = ((j + 1 : Nat) : Int) by omega, wantI_at]; exact he1)
    have HE2 : Hid (wantI (ts.map flatK) ((j : Int) + 1) 4 (Sl.sg [61]) = e2) := Lib.hid (by rw [show (j : Int) + 1 = ((j + 1 : Nat) : Int) by omega, wantI_at]; exact he2)
    have HE3 : Hid (wantI (ts.map flatK) ((j : Int) + 2) 3 ⟨#[]⟩ = e3) := Lib.hid (by rw [show (j : Int) + 2 = ((j + 2 : Nat) : Int) by omega, wantI_at]; exact he3)
    have HE3n := Lib.hid he3
    clear hm he1 he2 he3
    go_wp2_with fail
    refine (want_of B d q ts ((j : Int) + 1) 4 (Sl.sg [33, 61]) e1 HQ.out HE1.out w1 (HRW.out.on hV1)).mono ?_
    rintro e w2 ⟨rfl, hw2⟩
    have hV2 := below_on hV1 hw2
    clear hV1 hw2
    obtain ⟨nt, hnt⟩ : ∃ nt, decide (e1 = 0) = nt := ⟨_, rfl⟩
    have hnt1 : (e1 == 0) = nt := by rw [← hnt]; rfl
    go_upto_if 29 with fail
    have HNt := Lib.hid hnt
    clear hnt
    have hjw1 : IntKind.i64.wrap ((j : Int) + 1) = (j : Int) + 1 := IntWalk.i64_in _ (by omega)
    have hjw2 : IntKind.i64.wrap ((j : Int) + 2) = (j : Int) + 2 := IntWalk.i64_in _ (by omega)
    go_cut [10] (fun _ wx => Hid (nt = true ∨ e2 = 0) ∧ Below W.heap.size W wx)
    case first =>
      cases nt with
      | true =>
        go_wp2_with fail
        go_meet
        exact ⟨Lib.hid (by simp), hV2⟩
      | false =>
        have h1 : e1 ≠ 0 := by have := HNt.out; simpa using this
        go_wp2_with fail
        refine (want_of B d q ts ((j : Int) + 1) 4 (Sl.sg [61]) e2 HQ.out HE2.out w2 (HRW.out.on hV2)).mono ?_
        rintro e w3 ⟨rfl, hw3⟩
        have hV3 := below_on hV2 hw3
        clear hw3
        by_cases h2 : e2 = 0
        · subst h2
          go_wp2_with fail
          go_meet
          exact ⟨Lib.hid (by simp), hV3⟩
        · have hm := HM2.out
          rw [if_pos ⟨h1, h2⟩] at hm
          simp only [Prod.mk.injEq] at hm
          obtain ⟨rfl, hx, rfl⟩ := hm
          have HX : Hid ((if (j : Int) + 1 < 0 then 0 else min ((j : Int) + 1).toNat q) = x) := Lib.hid (by
            rw [if_neg (by omega), show ((j : Int) + 1).toNat = j + 1 by omega]; exact hx)
          have hb1 : (e2 != 0) = true := by simpa using h2
          have hb2 : (e2 == 0) = false := by simpa using h2
          have hcur : Below W.heap.size W w3.drew := hV3.drew
          clear hx h1 h2
          go_upto_region 9 with fail
          first | (go_region_held (fun V => V.cell? ⟨P + 1, 0, none⟩ = some (.string ⟨#[]⟩) ∧ V.cell? ⟨P + 1, 1, none⟩ = some (.string ⟨#[]⟩) ∧ V.cell? ⟨P + 1, 2, none⟩ = some (.bool false))
            (first | exact ⟨Y0.out _ hcur, Y1.out _ hcur, Y2.out _ hcur⟩ | exact ⟨(far_three _ _ _ _ 0 rfl).trans (Y0.out _ hcur), (far_three _ _ _ _ 1 rfl).trans (Y1.out _ hcur), (far_three _ _ _ _ 2 rfl).trans (Y2.out _ hcur)⟩)
            (first
              | (go_at_call 45; with_reducible refine (KP.out ((j : Int) + 1) x _ HX.out).mono ?_; rintro e w' ⟨rfl, hw'⟩; replace hcur := below_on hcur hw'; obtain ⟨r0, r1, r2, s0, s1, s2, _⟩ := X1.out.on hcur))) | fail
          all_goals
            go_wp2_with fail
            obtain ⟨u0, u1, u2, hbX⟩ := set_three (Value.string ⟨#[]⟩) (Value.string ⟨#[]⟩) (Value.bool false) r0 r1 r2
            generalize (((w'.setCell ⟨P, 0, none⟩ (Value.string ⟨#[]⟩)).setCell ⟨P, 1, none⟩ (Value.string ⟨#[]⟩)).setCell ⟨P, 2, none⟩ (Value.bool false)) = X at u0 u1 u2 hbX ⊢
            refine bodyPost_ret (v := .tuple #[.agg #[.string ⟨#[]⟩, .string ⟨#[]⟩, .bool false], .int .i64 (x : Int), .int .i64 e2]) ?_ rfl ⟨rfl, (below_on HB0.out hcur).trans (by rw [hP]; exact hbX)⟩
            rw [results_cell2 rfl]
            have hld := load_mat X P ⟨#[]⟩ ⟨#[]⟩ false u0 u1 u2
            simp [asAddr, Result.andThen, hld]
    case rest =>
      obtain ⟨hh, hVc⟩ := hcut
      have HM3 : Hid ((if e3 ≠ 0 then (Sl.noM, min (j + 2) q, e3) else if 64 < (Sl.txtAt (ts.map flatK) (j + 2)).size ∨ 8 ≤ n then (Sl.noM, min (j + 2) q, 4) else ((Sl.txtAt (ts.map flatK) j, Sl.txtAt (ts.map flatK) (j + 2), decide (e1 = 0)), j + 3, 0)) = (m, x, z)) := Lib.hid (by
        have h := HM2.out
        have hno : ¬ (e1 ≠ 0 ∧ e2 ≠ 0) := by
          rintro ⟨a, b⟩
          rcases hh.out with h1 | h1
          · rw [← HNt.out] at h1; exact a (by simpa using h1)
          · exact b h1
        rw [if_neg hno] at h
        exact h)
      go_wp2_with fail
      refine (want_of B d q ts ((j : Int) + 2) 3 ⟨#[]⟩ e3 HQ.out HE3.out wc (HRW.out.on hVc)).mono ?_
      rintro e w4 ⟨rfl, hw4⟩
      have hV4 := below_on hVc hw4
      clear hw4 hVc hh
      by_cases h3 : e3 = 0
      · subst h3
        have hm := HM3.out
        rw [if_neg (by simp)] at hm
        have hj2 : j + 2 < ts.length := by
          have := Sl.want_lt (l := ts.map flatK) (i := j + 2) (k := 3) (s := ⟨#[]⟩) (by rw [HE3n.out]; decide)
          rwa [List.length_map] at this
        obtain ⟨a1, a2, a3, ha⟩ := getZ (l := ts) (k := j) (by omega)
        obtain ⟨b1, b2, b3, hb⟩ := getZ hj2
        have ta : Sl.txtAt (ts.map flatK) j = a3 := by unfold Sl.txtAt; rw [List.getElem?_map, ha]; rfl
        have tb : Sl.txtAt (ts.map flatK) (j + 2) = b3 := by unfold Sl.txtAt; rw [List.getElem?_map, hb]; rfl
        rw [ta, tb, HNt.out] at hm
        obtain ⟨g, off, rfl, hg, c0, c1, c2⟩ := (HRW.out.on hV4).get ha
        obtain ⟨g', off', he, hg', k0, k1, k2⟩ := (HRW.out.on hV4).get hb
        injection he with he
        injection he with he1 he2
        subst he1 he2
        have hjz : (j : Int) < (q : Int) := by have := HQ.out; omega
        have hjz2 : (j : Int) + 2 < (q : Int) := by have := HQ.out; omega
        have HM4 := Lib.hid hm
        clear ta tb ha hb hm hj2 c0 c1 k0 k1 hg'
        by_cases hbig : 64 < b3.size ∨ 8 ≤ n
        · have hm := HM4.out
          rw [if_pos hbig] at hm
          simp only [Prod.mk.injEq] at hm
          obtain ⟨rfl, hx, rfl⟩ := hm
          have HX : Hid ((if (j : Int) + 2 < 0 then 0 else min ((j : Int) + 2).toNat q) = x) := Lib.hid (by
            rw [if_neg (by omega), show ((j : Int) + 2).toNat = j + 2 by omega]; exact hx)
          have hcur : Below W.heap.size W w4.drew := hV4.drew
          clear hx
          by_cases h64 : 64 < b3.size
          · have h64z : (64 : Int) < (b3.size : Int) := by omega
            clear hbig
            go_upto_region 14 with fail
            first | (go_region_held (fun V => V.cell? ⟨P + 1, 0, none⟩ = some (.string ⟨#[]⟩) ∧ V.cell? ⟨P + 1, 1, none⟩ = some (.string ⟨#[]⟩) ∧ V.cell? ⟨P + 1, 2, none⟩ = some (.bool false))
              (first | exact ⟨Y0.out _ hcur, Y1.out _ hcur, Y2.out _ hcur⟩ | exact ⟨(far_three _ _ _ _ 0 rfl).trans (Y0.out _ hcur), (far_three _ _ _ _ 1 rfl).trans (Y1.out _ hcur), (far_three _ _ _ _ 2 rfl).trans (Y2.out _ hcur)⟩)
              (first
                | (go_at_call 45; with_reducible refine (KP.out ((j : Int) + 2) x _ HX.out).mono ?_; rintro e w' ⟨rfl, hw'⟩; replace hcur := below_on hcur hw'; obtain ⟨r0, r1, r2, s0, s1, s2, _⟩ := X1.out.on hcur))) | fail
            all_goals
              go_wp2_with fail
              obtain ⟨u0, u1, u2, hbX⟩ := set_three (Value.string ⟨#[]⟩) (Value.string ⟨#[]⟩) (Value.bool false) r0 r1 r2
              generalize (((w'.setCell ⟨P, 0, none⟩ (Value.string ⟨#[]⟩)).setCell ⟨P, 1, none⟩ (Value.string ⟨#[]⟩)).setCell ⟨P, 2, none⟩ (Value.bool false)) = X at u0 u1 u2 hbX ⊢
              refine bodyPost_ret (v := .tuple #[.agg #[.string ⟨#[]⟩, .string ⟨#[]⟩, .bool false], .int .i64 (x : Int), .int .i64 4]) ?_ rfl ⟨rfl, (below_on HB0.out hcur).trans (by rw [hP]; exact hbX)⟩
              rw [results_cell2 rfl]
              have hld := load_mat X P ⟨#[]⟩ ⟨#[]⟩ false u0 u1 u2
              simp [asAddr, Result.andThen, hld]
          · have h64z : ¬ (64 : Int) < (b3.size : Int) := by omega
            have h8z : (8 : Int) ≤ (n : Int) := by omega
            clear hbig h64
            go_upto_region 14 with fail
            first | (go_region_held (fun V => V.cell? ⟨P + 1, 0, none⟩ = some (.string ⟨#[]⟩) ∧ V.cell? ⟨P + 1, 1, none⟩ = some (.string ⟨#[]⟩) ∧ V.cell? ⟨P + 1, 2, none⟩ = some (.bool false))
              (first | exact ⟨Y0.out _ hcur, Y1.out _ hcur, Y2.out _ hcur⟩ | exact ⟨(far_three _ _ _ _ 0 rfl).trans (Y0.out _ hcur), (far_three _ _ _ _ 1 rfl).trans (Y1.out _ hcur), (far_three _ _ _ _ 2 rfl).trans (Y2.out _ hcur)⟩)
              (first
                | (go_at_call 45; with_reducible refine (KP.out ((j : Int) + 2) x _ HX.out).mono ?_; rintro e w' ⟨rfl, hw'⟩; replace hcur := below_on hcur hw'; obtain ⟨r0, r1, r2, s0, s1, s2, _⟩ := X1.out.on hcur))) | fail
            all_goals
              go_wp2_with fail
              obtain ⟨u0, u1, u2, hbX⟩ := set_three (Value.string ⟨#[]⟩) (Value.string ⟨#[]⟩) (Value.bool false) r0 r1 r2
              generalize (((w'.setCell ⟨P, 0, none⟩ (Value.string ⟨#[]⟩)).setCell ⟨P, 1, none⟩ (Value.string ⟨#[]⟩)).setCell ⟨P, 2, none⟩ (Value.bool false)) = X at u0 u1 u2 hbX ⊢
              refine bodyPost_ret (v := .tuple #[.agg #[.string ⟨#[]⟩, .string ⟨#[]⟩, .bool false], .int .i64 (x : Int), .int .i64 4]) ?_ rfl ⟨rfl, (below_on HB0.out hcur).trans (by rw [hP]; exact hbX)⟩
              rw [results_cell2 rfl]
              have hld := load_mat X P ⟨#[]⟩ ⟨#[]⟩ false u0 u1 u2
              simp [asAddr, Result.andThen, hld]
        · have hm := HM4.out
          rw [if_neg hbig] at hm
          simp only [Prod.mk.injEq] at hm
          obtain ⟨rfl, rfl, rfl⟩ := hm
          have h64z : ¬ (64 : Int) < (b3.size : Int) := by omega
          have h8z : ¬ (8 : Int) ≤ (n : Int) := by omega
          obtain ⟨r0, r1, r2, s0, s1, s2, _⟩ := X1.out.on hV4
          clear hbig
          go_upto_region 15 with fail
          go_region
          go_wp2_with fail
          obtain ⟨u0, u1, u2, hbX⟩ := set_three (Value.string a3) (Value.string b3) (Value.bool nt) r0 r1 r2
          have hbX := hbX.drew
          have u0 : (((w4.setCell ⟨P, 0, none⟩ (Value.string a3)).setCell ⟨P, 1, none⟩ (Value.string b3)).setCell ⟨P, 2, none⟩ (Value.bool nt)).drew.cell? ⟨P, 0, none⟩ = some (Value.string a3) := u0
          have u1 : (((w4.setCell ⟨P, 0, none⟩ (Value.string a3)).setCell ⟨P, 1, none⟩ (Value.string b3)).setCell ⟨P, 2, none⟩ (Value.bool nt)).drew.cell? ⟨P, 1, none⟩ = some (Value.string b3) := u1
          have u2 : (((w4.setCell ⟨P, 0, none⟩ (Value.string a3)).setCell ⟨P, 1, none⟩ (Value.string b3)).setCell ⟨P, 2, none⟩ (Value.bool nt)).drew.cell? ⟨P, 2, none⟩ = some (Value.bool nt) := u2
          generalize (((w4.setCell ⟨P, 0, none⟩ (Value.string a3)).setCell ⟨P, 1, none⟩ (Value.string b3)).setCell ⟨P, 2, none⟩ (Value.bool nt)).drew = X at u0 u1 u2 hbX ⊢
          refine bodyPost_ret (v := .tuple #[.agg #[.string a3, .string b3, .bool nt], .int .i64 ((j : Int) + 3), .int .i64 0]) ?_ rfl ⟨rfl, by have h := below_on HB0.out hV4; rw [hP] at h; exact h.trans hbX⟩
          rw [results_cell2 rfl]
          have hld := load_mat X P a3 b3 nt u0 u1 u2
          simp [asAddr, Result.andThen, hld]
      · have hm := HM3.out
        rw [if_pos h3] at hm
        simp only [Prod.mk.injEq] at hm
        obtain ⟨rfl, hx, rfl⟩ := hm
        have HX : Hid ((if (j : Int) + 2 < 0 then 0 else min ((j : Int) + 2).toNat q) = x) := Lib.hid (by
          rw [if_neg (by omega), show ((j : Int) + 2).toNat = j + 2 by omega]; exact hx)
        have hb1 : (e3 != 0) = true := by simpa using h3
        have hb2 : (e3 == 0) = false := by simpa using h3
        have hcur : Below W.heap.size W w4.drew := hV4.drew
        clear hx h3
        go_upto_region 14 with fail
        first | (go_region_held (fun V => V.cell? ⟨P + 1, 0, none⟩ = some (.string ⟨#[]⟩) ∧ V.cell? ⟨P + 1, 1, none⟩ = some (.string ⟨#[]⟩) ∧ V.cell? ⟨P + 1, 2, none⟩ = some (.bool false))
          (first | exact ⟨Y0.out _ hcur, Y1.out _ hcur, Y2.out _ hcur⟩ | exact ⟨(far_three _ _ _ _ 0 rfl).trans (Y0.out _ hcur), (far_three _ _ _ _ 1 rfl).trans (Y1.out _ hcur), (far_three _ _ _ _ 2 rfl).trans (Y2.out _ hcur)⟩)
          (first
            | (go_at_call 45; with_reducible refine (KP.out ((j : Int) + 2) x _ HX.out).mono ?_; rintro e w' ⟨rfl, hw'⟩; replace hcur := below_on hcur hw'; obtain ⟨r0, r1, r2, s0, s1, s2, _⟩ := X1.out.on hcur))) | fail
        all_goals
          go_wp2_with fail
          obtain ⟨u0, u1, u2, hbX⟩ := set_three (Value.string ⟨#[]⟩) (Value.string ⟨#[]⟩) (Value.bool false) r0 r1 r2
          generalize (((w'.setCell ⟨P, 0, none⟩ (Value.string ⟨#[]⟩)).setCell ⟨P, 1, none⟩ (Value.string ⟨#[]⟩)).setCell ⟨P, 2, none⟩ (Value.bool false)) = X at u0 u1 u2 hbX ⊢
          refine bodyPost_ret (v := .tuple #[.agg #[.string ⟨#[]⟩, .string ⟨#[]⟩, .bool false], .int .i64 (x : Int), .int .i64 e3]) ?_ rfl ⟨rfl, (below_on HB0.out hcur).trans (by rw [hP]; exact hbX)⟩
          rw [results_cell2 rfl]
          have hld := load_mat X P ⟨#[]⟩ ⟨#[]⟩ false u0 u1 u2
          simp [asAddr, Result.andThen, hld]
  · have hm := HM.out
    unfold Sl.matchAt at hm
    rw [HE0.out, if_pos h0, List.length_map, ← HQ.out] at hm
    simp only [Prod.mk.injEq] at hm
    obtain ⟨rfl, hx, rfl⟩ := hm
    have HX : Hid ((if (j : Int) < 0 then 0 else min (j : Int).toNat q) = x) := Lib.hid (by rw [if_neg (by omega)]; exact hx)
    have hb1 : (e0 != 0) = true := by simpa using h0
    have hb2 : (e0 == 0) = false := by simpa using h0
    have hcur : Below W.heap.size W w1.drew := hV1.drew
    clear hx h0
    go_upto_region 4 with fail
    first | (go_region_held (fun V => V.cell? ⟨P + 1, 0, none⟩ = some (.string ⟨#[]⟩) ∧ V.cell? ⟨P + 1, 1, none⟩ = some (.string ⟨#[]⟩) ∧ V.cell? ⟨P + 1, 2, none⟩ = some (.bool false))
      (first | exact ⟨Y0.out _ hcur, Y1.out _ hcur, Y2.out _ hcur⟩ | exact ⟨(far_three _ _ _ _ 0 rfl).trans (Y0.out _ hcur), (far_three _ _ _ _ 1 rfl).trans (Y1.out _ hcur), (far_three _ _ _ _ 2 rfl).trans (Y2.out _ hcur)⟩)
      (first
        | (go_at_call 45; with_reducible refine (KP.out (j : Int) x _ HX.out).mono ?_; rintro e w' ⟨rfl, hw'⟩; replace hcur := below_on hcur hw'; obtain ⟨r0, r1, r2, s0, s1, s2, _⟩ := X1.out.on hcur))) | fail
    all_goals
      go_wp2_with fail
      obtain ⟨u0, u1, u2, hbX⟩ := set_three (Value.string ⟨#[]⟩) (Value.string ⟨#[]⟩) (Value.bool false) r0 r1 r2
      generalize (((w'.setCell ⟨P, 0, none⟩ (Value.string ⟨#[]⟩)).setCell ⟨P, 1, none⟩ (Value.string ⟨#[]⟩)).setCell ⟨P, 2, none⟩ (Value.bool false)) = X at u0 u1 u2 hbX ⊢
      refine bodyPost_ret (v := .tuple #[.agg #[.string ⟨#[]⟩, .string ⟨#[]⟩, .bool false], .int .i64 (x : Int), .int .i64 e0]) ?_ rfl ⟨rfl, (below_on HB0.out hcur).trans (by rw [hP]; exact hbX)⟩
      rw [results_cell2 rfl]
      have hld := load_mat X P ⟨#[]⟩ ⟨#[]⟩ false u0 u1 u2
      simp [asAddr, Result.andThen, hld]
end Go.Proofs.YtkoeggjfdcpokaaGreatDoor
namespace Go.Proofs.YtkoeggjfdcpokaaGreatDoor
open Go.RowKit Go.Proofs.YtkoeggjfdcpokaaGreatDoor.Lp
open Go.Proofs.YtkoeggjfdcpokaaGreatDoor.Sl (Mt Sel Tf)

/-- A selector's variable that may be written. -/
structure Bw (w : World) (P : Nat) (N : ByteArray) (A : Option Addr) (n c : Nat) : Prop where
  c0 : w.cell? ⟨P, 0, none⟩ = some (.string N)
  c1 : w.cell? ⟨P, 1, none⟩ = some (.slice A n c)
  f0 : w.frozen? ⟨P, 0, none⟩ = false
  f1 : w.frozen? ⟨P, 1, none⟩ = false
  lt : P < w.heap.size
theorem Bw.low {w w' : World} {P Q : Nat} {N : ByteArray} {A : Option Addr} {n c : Nat} (h : Bw w P N A n c) (hb : Below Q w w') (hPQ : P < Q) : Bw w' P N A n c :=
  ⟨(hb.cell (p := ⟨P, 0, none⟩) hPQ).trans h.c0, (hb.cell (p := ⟨P, 1, none⟩) hPQ).trans h.c1, (hb.frozen (p := ⟨P, 0, none⟩) hPQ).trans h.f0, (hb.frozen (p := ⟨P, 1, none⟩) hPQ).trans h.f1, Nat.lt_of_lt_of_le h.lt hb.size⟩
theorem Bw.on {w w' : World} {P : Nat} {N : ByteArray} {A : Option Addr} {n c : Nat} (h : Bw w P N A n c) (hb : Below w.heap.size w w') : Bw w' P N A n c := h.low hb h.lt
theorem Bw.new (w : World) (N : ByteArray) (A : Option Addr) (n c : Nat) : Bw (w.alloc (Obj.cells #[Value.string N, Value.slice A n c] 24)) w.heap.size N A n c :=
  ⟨World.cell?_alloc_at _ _ _ _ rfl, World.cell?_alloc_at _ _ _ _ rfl, frozen_new rfl rfl 0, frozen_new rfl rfl 1, by show _ < (w.heap.push _).size; rw [Array.size_push]; omega⟩
theorem box_ss (w : World) : ∃ W P, (w.alloc (Obj.cells #[Value.string ⟨#[]⟩, Value.slice none 0 0] 24)).alloc (Obj.cells #[Value.string ⟨#[]⟩, Value.slice none 0 0] 24) = W ∧ w.heap.size = P ∧ Below P w W ∧ Bw W P ⟨#[]⟩ none 0 0 ∧ Bw W (P + 1) ⟨#[]⟩ none 0 0 ∧ W.heap.size = P + 2 := by
  obtain ⟨W1, hW1⟩ : ∃ W1, w.alloc (Obj.cells #[Value.string ⟨#[]⟩, Value.slice none 0 0] 24) = W1 := ⟨_, rfl⟩
  have hs : W1.heap.size = w.heap.size + 1 := by rw [← hW1]; show (w.heap.push _).size = _; rw [Array.size_push]
  have h1 : Bw W1 w.heap.size ⟨#[]⟩ none 0 0 := by rw [← hW1]; exact Bw.new w _ _ _ _
  have hb1 : Below w.heap.size w W1 := by rw [← hW1]; exact below_alloc w _
  have hb2 := below_alloc W1 (Obj.cells #[Value.string ⟨#[]⟩, Value.slice none 0 0] 24)
  refine ⟨_, _, rfl, rfl, ?_, ?_, ?_, ?_⟩
  · rw [hW1]; exact below_on hb1 hb2
  · rw [hW1]; exact h1.on hb2
  · rw [hW1, ← hs]; exact Bw.new W1 _ _ _ _
  · rw [hW1]; show (W1.heap.push _).size = _; rw [Array.size_push, hs]
theorem info_selsize : (Tryz.prog.info? 24).map (·.size) = some 2 := by kernel_rfl
theorem load_sel (w : World) (R : Nat) (N : ByteArray) (A : Option Addr) (n c : Nat) (h0 : w.cell? ⟨R, 0, none⟩ = some (.string N)) (h1 : w.cell? ⟨R, 1, none⟩ = some (.slice A n c)) :
    (loadVar 24 ⟨R, 0, none⟩).run Tryz.prog w = .ok (sv N A n c) w := by
  refine run_loadVar_mid w R 0 24 [.string N, .slice A n c] _ ?_ Tryz.underlying24 rfl info_selsize
  intro j v hv
  match j, hv with
  | 0, hv => cases hv; exact h0
  | 1, hv => cases hv; exact h1
theorem set_twoS {w : World} {R : Nat} {x y : Value} (a b : Value) (h0 : w.cell? ⟨R, 0, none⟩ = some x) (h1 : w.cell? ⟨R, 1, none⟩ = some y) :
    ((w.setCell ⟨R, 0, none⟩ a).setCell ⟨R, 1, none⟩ b).cell? ⟨R, 0, none⟩ = some a ∧ ((w.setCell ⟨R, 0, none⟩ a).setCell ⟨R, 1, none⟩ b).cell? ⟨R, 1, none⟩ = some b ∧ Below R w ((w.setCell ⟨R, 0, none⟩ a).setCell ⟨R, 1, none⟩ b) := by
  have n (i j : Nat) (h : i ≠ j) : (⟨R, i, none⟩ : Addr) ≠ ⟨R, j, none⟩ := fun e => h (by injection e)
  refine ⟨?_, ?_, ((Below.refl R w).setCell (p := ⟨R, 0, none⟩) (Nat.le_refl _) _).setCell (p := ⟨R, 1, none⟩) (Nat.le_refl _) _⟩
  · exact (World.cell?_setCell_other _ _ _ _ (n 1 0 (by decide))).trans (World.cell?_setCell_same _ _ _ h0)
  · exact World.cell?_setCell_same _ _ _ ((World.cell?_setCell_other _ _ _ _ (n 0 1 (by decide))).trans h1)
theorem far_two (w : World) {R Q : Nat} (a b : Value) (d : Nat) (h : Q ≠ R) : ((w.setCell ⟨R, 0, none⟩ a).setCell ⟨R, 1, none⟩ b).cell? ⟨Q, d, none⟩ = w.cell? ⟨Q, d, none⟩ := by
  have n (i : Nat) : (⟨R, i, none⟩ : Addr) ≠ ⟨Q, d, none⟩ := by intro e; injection e with e1; exact h e1.symm
  rw [World.cell?_setCell_other _ _ _ _ (n 1), World.cell?_setCell_other _ _ _ _ (n 0)]
theorem OwnQ.setLow {w : World} {base : Nat} {v : Value} {l : List Mt} (h : OwnQ w base v l) {p : Addr} (hp : p.block < base) (u : Value) : OwnQ (w.setCell p u) base v l := by
  refine ⟨h.1, ?_⟩
  rcases h.2 with h0 | ⟨g, cap, cur, hv, hbs, hg, hr⟩
  · exact .inl h0
  · exact .inr ⟨g, cap, cur, hv, hbs, (Below.heap_setCell w p u g (by omega)).trans hg, hr⟩
theorem Bw.setM {w : World} {R : Nat} {N : ByteArray} {A : Option Addr} {n c : Nat} (h : Bw w R N A n c) (B : Option Addr) (k d : Nat) : Bw (w.setCell ⟨R, 1, none⟩ (.slice B k d)) R N B k d := by
  have n1 : (⟨R, 1, none⟩ : Addr) ≠ ⟨R, 0, none⟩ := by simp
  have hb : Below R w (w.setCell ⟨R, 1, none⟩ (.slice B k d)) := (Below.refl R w).setCell (p := ⟨R, 1, none⟩) (Nat.le_refl _) _
  exact ⟨(World.cell?_setCell_other _ _ _ _ n1).trans h.c0, World.cell?_setCell_same _ _ _ h.c1, (World.frozen?_setCell _ _ _ _).trans h.f0, (World.frozen?_setCell _ _ _ _).trans h.f1, Nat.lt_of_lt_of_le h.lt hb.size⟩
theorem OwnQ.sliceN {w : World} {base : Nat} {v : Value} {l : List Mt} (h : OwnQ w base v l) {n : Nat} (hn : l.length = n) : ∃ A c, v = .slice A n c ∧ Cap n c := by
  subst hn; exact OwnQ.slice h
set_option maxHeartbeats 12800000 in
set_option maxRecDepth 100000 in
theorem rparse_of (B : Option Addr) (d q : Nat) (ts : List Tz) (i : Int) (M : ByteArray) (m : List Mt) (k x : Nat) (z : Int) (hq : q = ts.length) (hq2 : q ≤ 1500) (hi1 : -9223372036854775808 ≤ i) (hi2 : i ≤ 9223372036854775807) (hm : Sl.parse (ts.map flatK) i = ((M, m), x, z)) (hk : k = m.length) (w : World) (hr : Rz w w.heap.size B ts) :
    Calls Tryz.prog 68 #[.slice B q d, .int .i64 i] w fun e w' => ∃ A c, e = .returned (.tuple #[sv M A k c, .int .i64 (x : Int), .int .i64 z]) ∧ Hid (Rq w' w'.heap.size A m) ∧ Hid (Cap k c) ∧ Below w.heap.size w w' := by
  have HQ := Lib.hid hq
  have HM := Lib.hid hm
  have HR := Lib.hid hr
  have HK := Lib.hid hk
  have hlen : q ≤ 9223372036854775807 := by omega
  clear hq hm hr hk
  go_enter Tryz.func68, Tryz.ntmps68
  go_wp2_with fail
  obtain ⟨W, P, hW, hP, hb0, x1, x2, hWs⟩ := box_ss w
  rw [hW, hP]
  clear hW
  have X1 := Lib.hid x1
  have X2 := Lib.hid x2
  have HB0 : Hid (Below w.heap.size w W) := Lib.hid (hP ▸ hb0)
  have HRW := Lib.hid (HR.out.on HB0.out)
  clear hb0 HR x1 x2
  have KP : Hid (∀ (i : Int) (y : Nat) (V : World), (if i < 0 then 0 else min i.toNat q) = y → Calls Tryz.prog 45 #[.slice B q d, .int .i64 i] V fun e w' => e = .returned (.int .i64 (y : Int)) ∧ Below V.heap.size V w') := Lib.hid (fun i y V h => place_of B d q i y hlen h V)
  obtain ⟨e0, he0⟩ : ∃ z, nameI (ts.map flatK) i = z := ⟨_, rfl⟩
  have HE0 := Lib.hid he0
  clear he0
  have Y0 := Lib.hid (fun (V : World) (h : Below W.heap.size W V) => (X2.out.on h).c0)
  have Y1 := Lib.hid (fun (V : World) (h : Below W.heap.size W V) => (X2.out.on h).c1)
  refine (rname_at B d q ts i e0 HQ.out HE0.out W HRW.out).mono ?_
  rintro e w1 ⟨rfl, hV1⟩
  by_cases h0 : e0 = 0
  · subst h0
    have hneg : ¬ i < 0 := fun h => by have := HE0.out; unfold nameI at this; rw [if_pos h] at this; simp at this
    obtain ⟨j, rfl⟩ : ∃ j : Nat, i = (j : Int) := ⟨i.toNat, by omega⟩
    have hnj := HE0.out
    rw [nameI_at] at hnj
    obtain ⟨t, ht1, _, _⟩ := Sl.nameAt_zero.1 hnj
    have hjl := (List.getElem?_eq_some_iff.1 ht1).1
    rw [List.length_map] at hjl
    obtain ⟨a1, a2, a3, ha⟩ := getZ hjl
    have ta : Sl.txtAt (ts.map flatK) j = a3 := by unfold Sl.txtAt; rw [List.getElem?_map, ha]; rfl
    have h3 : a3.size ≤ 9223372036854775807 := HRW.out.size _ (List.mem_of_getElem? ha)
    obtain ⟨g, off, rfl, hg, c0, c1, c2⟩ := (HRW.out.on hV1).get ha
    have hjz : (j : Int) < (q : Int) := by have := HQ.out; omega
    have hjq : j < q := by omega
    have hm := HM.out
    rw [parse_at] at hm
    unfold Sl.parseN at hm
    rw [hnj, if_neg (by simp), ta] at hm
    have HM2 := Lib.hid hm
    clear hm ta ha hjl ht1 hnj c0 c1 hneg
    go_wp2_with fail
    obtain ⟨W2, hW2⟩ : ∃ W2, w1.alloc (Obj.cells #[Value.string a3, Value.slice none 0 0] 24) = W2 := ⟨_, rfl⟩
    obtain ⟨R, hR⟩ : ∃ R, w1.heap.size = R := ⟨_, rfl⟩
    have hx3 : Bw W2 R a3 none 0 0 := by rw [← hW2, ← hR]; exact Bw.new w1 _ _ _ _
    have hb12 : Below R w1 W2 := by rw [← hW2, ← hR]; exact below_alloc w1 _
    rw [hW2, hR]
    clear hW2
    have hWR : W.heap.size ≤ R := by rw [← hR]; exact hV1.size
    have HV2 : Hid (Below W.heap.size W W2) := Lib.hid (hV1.trans (hb12.mono hWR))
    have hRs : W2.heap.size ≤ W2.heap.size := Nat.le_refl _
    have X3 := Lib.hid hx3
    have hPR : P + 1 < R := by omega
    obtain ⟨e1, he1⟩ : ∃ z, Sl.want (ts.map flatK) (j + 1) 4 (Sl.sg [123]) = z := ⟨_, rfl⟩
    obtain ⟨e2, he2⟩ : ∃ z, Sl.want (ts.map flatK) (j + 2) 4 (Sl.sg [125]) = z := ⟨_, rfl⟩
    have HE1 : Hid (wantI (ts.map flatK) ((j : Int) + 1) 4 (Sl.sg [123]) = e1) := Lib.hid (by rw [show (j : Int) + 1 = ((j + 1 : Nat) : Int) by omega, wantI_at]; exact he1)
    have HE2 : Hid (wantI (ts.map flatK) ((j : Int) + 2) 4 (Sl.sg [125]) = e2) := Lib.hid (by rw [show (j : Int) + 2 = ((j + 2 : Nat) : Int) by omega, wantI_at]; exact he2)
    have hm := HM2.out
    rw [he1, he2] at hm
    have HM3 := Lib.hid hm
    clear hm HM2 he1 he2 hV1 hb12 hx3 hRs
    refine (want_of _ d q ts ((j : Int) + 1) 4 (Sl.sg [123]) e1 HQ.out HE1.out W2 (HRW.out.on HV2.out)).mono ?_
    rintro e w3 ⟨rfl, hw3⟩
    have hV3 := below_on HV2.out hw3
    have X3' := Lib.hid (X3.out.on hw3)
    by_cases h1 : e1 = 0
    · subst h1
      go_wp2_with fail
      refine (want_of _ d q ts ((j : Int) + 2) 4 (Sl.sg [125]) e2 HQ.out HE2.out w3 (HRW.out.on hV3)).mono ?_
      rintro e w4 ⟨rfl, hw4⟩
      have hV4 := below_on hV3 hw4
      have X4 := Lib.hid (X3'.out.on hw4)
      clear hV3 hw3 hw4 X3'
      by_cases h2 : e2 = 0
      · subst h2
        have hm := HM3.out
        rw [if_neg (by simp), if_pos rfl] at hm
        simp only [Prod.mk.injEq] at hm
        obtain ⟨⟨rfl, rfl⟩, rfl, rfl⟩ := hm
        obtain rfl : k = 0 := HK.out
        obtain ⟨c0, c1, _, _, _⟩ := X4.out
        obtain ⟨r0, r1, s0, s1, _⟩ := X1.out.on hV4
        go_wp2_with fail
        obtain ⟨u0, u1, hbX⟩ := set_twoS (Value.string a3) (Value.slice none 0 0) r0 r1
        generalize ((w4.setCell ⟨P, 0, none⟩ (Value.string a3)).setCell ⟨P, 1, none⟩ (Value.slice none 0 0)) = X at u0 u1 hbX ⊢
        refine bodyPost_ret (v := .tuple #[sv a3 none 0 0, .int .i64 ((j : Int) + 3), .int .i64 0]) ?_ rfl ⟨none, 0, rfl, Lib.hid (Rq.none_ _ _ _), Lib.hid (by decide), (below_on HB0.out hV4).trans (by rw [hP]; exact hbX)⟩
        · rw [results_cell2 rfl]
          have hld := load_sel X P a3 none 0 0 u0 u1
          simp [asAddr, Result.andThen, hld]
          omega
      · have hb1 : (e2 == 0) = false := by simpa using h2
        obtain ⟨⟨ms0, x0⟩, hL⟩ : ∃ r : List Mt × Nat × Int, Sl.loop 9 (ts.map flatK) (j + 2) [] = r := ⟨_, rfl⟩
        obtain ⟨x0, z0⟩ := x0
        have hm := HM3.out
        rw [if_neg (by simp), if_neg h2, hL] at hm
        have HM4 : Hid ((if z0 = 0 then ((a3, ms0), x0, (0 : Int)) else (Sl.none_, x0, z0)) = ((M, m), x, z)) := Lib.hid hm
        have HL := Lib.hid hL
        have hR4 : R < w4.heap.size := X4.out.lt
        clear hm hL h2
        go_wp2_with fail
        go_loopg [10, 11, 12, 13] 9 (fun g s10 _ _ _ wx => ∃ (p : Nat) (ms : List Mt) (A : Option Addr) (c : Nat), s10 = .int .i64 p ∧ ms.length + g = 9 ∧ ms.length ≤ 8 ∧ p ≤ 2000 + 4 * ms.length ∧ Hid (Bw wx R a3 A ms.length c) ∧ Hid (OwnQ wx (R + 1) (.slice A ms.length c) ms) ∧ Hid (∀ u ∈ ms, u.1.size ≤ 9223372036854775807 ∧ u.2.1.size ≤ 9223372036854775807) ∧ Hid (Sl.loop g (ts.map flatK) p ms = (ms0, x0, z0)) ∧ Hid (Below W.heap.size W wx) ∧ R < wx.heap.size)
        case atStart => exact ⟨j + 2, [], none, 0, by simp; omega, rfl, by simp, by omega, X4, Lib.hid (OwnQ.nil _ _), Lib.hid (by simp), HL, Lib.hid hV4, hR4⟩
        case round =>
          obtain ⟨p, ms, A, c, rfl, hg9, h8, hp, HX, HO, HSz, HLp, HV, hRx⟩ := hrel
          cases gk with
          | zero => omega
          | succ g =>
            obtain ⟨L, hLn⟩ : ∃ L, ms.length = L := ⟨_, rfl⟩
            rw [hLn] at hg9 h8 hp HX HO
            rcases hma : Sl.matchAt (ts.map flatK) p L with ⟨⟨b1, b2, b3⟩, y, v⟩
            have HMa := Lib.hid hma
            have hlp := HLp.out
            unfold Sl.loop at hlp
            rw [hLn, hma] at hlp
            have HLq := Lib.hid hlp
            have HLn := Lib.hid hLn
            clear hma hlp HLp hLn
            obtain ⟨c0, c1, t0, t1, _⟩ := HX.out
            go_wp2_with fail
            refine (rmatch_of _ d q ts p L (b1, b2, b3) y v HQ.out (by omega) (by omega) HMa.out wr (HRW.out.on HV.out)).mono ?_
            rintro e w5 ⟨rfl, hw5⟩
            have HV5 := Lib.hid (below_on HV.out hw5)
            have HX5 := Lib.hid (HX.out.on hw5)
            have HO5 := Lib.hid (OwnQ.below HO.out hw5)
            have hR5 : R < w5.heap.size := HX5.out.lt
            clear c0 c1 t0 t1 hw5 HX HO HV
            by_cases hv : v = 0
            · subst hv
              obtain ⟨am1, am2, am3, am4⟩ := Sl.matchAt_ok (l := ts.map flatK) (i := p) (n := L) (by rw [HMa.out])
              rw [HMa.out] at am2
              simp only at am2
              subst am2
              have hsm : b1.size ≤ 64 ∧ b2.size ≤ 64 := by
                have := am1
                rw [HMa.out] at this
                unfold Sl.mOk nameB nameL at this
                rw [tl] at this
                simp only [Bool.and_eq_true, decide_eq_true_eq] at this
                have h1 := this.1.1.1.2
                rw [Array.length_toList] at h1
                exact ⟨h1, this.2⟩
              have hlq := HLq.out
              rw [if_neg (by simp)] at hlq
              have HLr := Lib.hid hlq
              obtain ⟨W6, hW6⟩ : ∃ W6, w5.alloc (Obj.cells #[Value.string b1, Value.string b2, Value.bool b3] 45) = W6 := ⟨_, rfl⟩
              obtain ⟨R6, hR6⟩ : ∃ R6, w5.heap.size = R6 := ⟨_, rfl⟩
              have hsz5 : W.heap.size ≤ w5.heap.size := HV5.out.size
              have hV6 : Below W.heap.size W W6 := by rw [← hW6]; exact HV5.out.alloc hsz5 _
              have hb56 : Below w5.heap.size w5 W6 := by rw [← hW6]; exact below_alloc w5 _
              have HX6 := Lib.hid (HX5.out.on hb56)
              have HO6 := Lib.hid (OwnQ.below HO5.out hb56)
              have hm0 : W6.cell? ⟨R6, 0, none⟩ = some (.string b1) := by rw [← hW6, ← hR6]; exact World.cell?_alloc_at _ _ _ _ rfl
              have hm1 : W6.cell? ⟨R6, 1, none⟩ = some (.string b2) := by rw [← hW6, ← hR6]; exact World.cell?_alloc_at _ _ _ _ rfl
              have hm2 : W6.cell? ⟨R6, 2, none⟩ = some (.bool b3) := by rw [← hW6, ← hR6]; exact World.cell?_alloc_at _ _ _ _ rfl
              obtain ⟨c0, c1, t0, t1, hR6'⟩ := HX6.out
              have hlen1 : ms.length + [(b1, b2, b3)].length ≤ 1000000 := by rw [HLn.out]; simp; omega
              have hLL : (ms ++ [(b1, b2, b3)]).length = L + 1 := by rw [List.length_append, HLn.out]; rfl
              have HO6' : Hid (OwnQ W6 (R + 1) (.slice A L c) ms) := HO6
              clear hlq am1 am3 hb56
              go_upto_region 16 with (at_builtin; refine wp_appq _ rfl _ _ rfl (R + 1) (.slice A L c) ms [(b1, b2, b3)] rfl (OwnQ.alloc HO6'.out _) _ 1 1 rfl rfl (rq_new W6 b1 b2 b3 (by omega) (by omega)) hlen1 (by show _ ≤ (W6.heap.push _).size; rw [Array.size_push]; omega) ?_; intro v7 w7 hown7 hb7; obtain ⟨A7, c7, rfl, hc7⟩ := OwnQ.sliceN hown7 hLL; obtain ⟨y0, y1, f0, f1, _⟩ := ((HX6.out.on (below_alloc W6 (Obj.cells #[Value.string b1, Value.string b2, Value.bool b3] 45))).low hb7 (Nat.lt_succ_self R)))
              obtain ⟨W8, hW8⟩ : ∃ W8, w7.setCell ⟨R, 1, none⟩ (Value.slice A7 (L + 1) c7) = W8 := ⟨_, rfl⟩
              have HX8 : Hid (Bw W8 R a3 A7 (L + 1) c7) := Lib.hid (by
                rw [← hW8]
                exact ((HX6.out.on (below_alloc W6 (Obj.cells #[Value.string b1, Value.string b2, Value.bool b3] 45))).low hb7 (Nat.lt_succ_self R)).setM A7 (L + 1) c7)
              have HO8 : Hid (OwnQ W8 (R + 1) (.slice A7 (L + 1) c7) (ms ++ [(b1, b2, b3)])) := Lib.hid (by
                rw [← hW8]; exact OwnQ.setLow hown7 (Nat.lt_succ_self R) _)
              have HV8 : Hid (Below W.heap.size W W8) := Lib.hid (by
                rw [← hW8]
                exact ((hV6.alloc hV6.size _).trans (hb7.mono (by omega))).setCell (p := ⟨R, 1, none⟩) hWR _)
              have HSz8 : Hid (∀ u ∈ ms ++ [(b1, b2, b3)], u.1.size ≤ 9223372036854775807 ∧ u.2.1.size ≤ 9223372036854775807) := Lib.hid (by
                intro u hu
                rcases List.mem_append.1 hu with hu | hu
                · exact HSz.out u hu
                · rw [List.mem_singleton.1 hu]; exact ⟨Nat.le_trans hsm.1 (by decide), Nat.le_trans hsm.2 (by decide)⟩)
              have HC7 := Lib.hid hc7
              have HLL := Lib.hid hLL
              rw [hW8]
              clear hW8 hown7 hb7 hc7 hLL y0 y1 f0 f1 c0 c1 t0 t1 hm0 hm1 hm2 hV6 hW6 hR6 hR6' HX6 HO6 HO6' hlen1 HX5 HO5 HSz
              obtain ⟨g1, hg1⟩ : ∃ z, Sl.want (ts.map flatK) (p + 3) 4 (Sl.sg [125]) = z := ⟨_, rfl⟩
              obtain ⟨g2, hg2⟩ : ∃ z, Sl.want (ts.map flatK) (p + 3) 4 (Sl.sg [44]) = z := ⟨_, rfl⟩
              have G1 : Hid (wantI (ts.map flatK) ((p : Int) + 3) 4 (Sl.sg [125]) = g1) := Lib.hid (by rw [show (p : Int) + 3 = ((p + 3 : Nat) : Int) by omega, wantI_at]; exact hg1)
              have G2 : Hid (wantI (ts.map flatK) ((p : Int) + 3) 4 (Sl.sg [44]) = g2) := Lib.hid (by rw [show (p : Int) + 3 = ((p + 3 : Nat) : Int) by omega, wantI_at]; exact hg2)
              have hlr := HLr.out
              rw [hg1, hg2] at hlr
              have HLs := Lib.hid hlr
              clear hlr HLr hg1 hg2
              go_wp2_with fail
              refine (want_of _ d q ts ((p : Int) + 3) 4 (Sl.sg [125]) g1 HQ.out G1.out W8 (HRW.out.on HV8.out)).mono ?_
              rintro e w9 ⟨rfl, hw9⟩
              have HV9 := Lib.hid (below_on HV8.out hw9)
              have HX9 := Lib.hid (HX8.out.on hw9)
              have HO9 := Lib.hid (OwnQ.below HO8.out hw9)
              clear hw9 HX8 HO8 HV8
              by_cases h1 : g1 = 0
              · subst h1
                have hls := HLs.out
                rw [if_pos rfl] at hls
                simp only [Prod.mk.injEq] at hls
                obtain ⟨rfl, rfl, rfl⟩ := hls
                have hm := HM4.out
                rw [if_pos rfl] at hm
                simp only [Prod.mk.injEq] at hm
                obtain ⟨⟨rfl, rfl⟩, rfl, rfl⟩ := hm
                obtain rfl : k = L + 1 := by rw [HK.out]; exact HLL.out
                obtain ⟨c0, c1, _, _, hR9⟩ := HX9.out
                obtain ⟨r0, r1, s0, s1, hP9⟩ := X1.out.on HV9.out
                have HRq9 : Hid (Rq w9 w9.heap.size A7 (ms ++ [(b1, b2, b3)])) := Lib.hid (OwnQ.rq HO9.out (by have := HLL.out; omega) HSz8.out)
                go_wp2_with fail
                have hOX := OwnQ.setLow (OwnQ.setLow HO9.out (p := ⟨P, 0, none⟩) (by show P < R + 1; omega) (Value.string a3)) (p := ⟨P, 1, none⟩) (by show P < R + 1; omega) (Value.slice A7 (L + 1) c7)
                obtain ⟨u0, u1, hbX⟩ := set_twoS (Value.string a3) (Value.slice A7 (L + 1) c7) r0 r1
                generalize ((w9.setCell ⟨P, 0, none⟩ (Value.string a3)).setCell ⟨P, 1, none⟩ (Value.slice A7 (L + 1) c7)) = X at u0 u1 hbX hOX ⊢
                refine bodyPost_ret (v := .tuple #[sv a3 A7 (L + 1) c7, .int .i64 ((p + 4 : Nat) : Int), .int .i64 0]) ?_ rfl ⟨A7, c7, rfl, Lib.hid (OwnQ.rq hOX (by have := HLL.out; omega) HSz8.out), HC7, (below_on HB0.out HV9.out).trans (by rw [hP]; exact hbX)⟩
                rw [results_cell2 rfl]
                have hld := load_sel X P a3 A7 (L + 1) c7 u0 u1
                simp [asAddr, Result.andThen, hld]
                omega
              · have hb1 : (g1 == 0) = false := by simpa using h1
                have hls := HLs.out
                rw [if_neg h1] at hls
                have HLt := Lib.hid hls
                clear hls HLs h1
                go_wp2_with fail
                refine (want_of _ d q ts ((p : Int) + 3) 4 (Sl.sg [44]) g2 HQ.out G2.out w9 (HRW.out.on HV9.out)).mono ?_
                rintro e w10 ⟨rfl, hw10⟩
                have HV10 := Lib.hid (below_on HV9.out hw10)
                have HX10 := Lib.hid (HX9.out.on hw10)
                have HO10 := Lib.hid (OwnQ.below HO9.out hw10)
                have hR10 : R < w10.heap.size := HX10.out.lt
                clear hw10 HX9 HO9 HV9
                by_cases h2 : g2 = 0
                · subst h2
                  have hlt := HLt.out
                  rw [if_neg (by simp)] at hlt
                  have HLu := Lib.hid hlt
                  have h88 : L + 1 ≤ 8 := by
                    rcases Nat.lt_or_ge L 8 with h | h
                    · omega
                    · exfalso
                      have hL8 : L = 8 := by omega
                      obtain ⟨_, _, _, am4⟩ := Sl.matchAt_ok (l := ts.map flatK) (i := p) (n := L) (by rw [HMa.out])
                      omega
                  clear hlt HLt
                  go_wp2_with fail
                  go_roundg g
                  case measure => omega
                  case rel => exact ⟨p + 4, ms ++ [(b1, b2, b3)], A7, c7, by simp; omega, by rw [HLL.out]; omega, by rw [HLL.out]; omega, by rw [HLL.out]; omega, Lib.hid (by rw [HLL.out]; exact HX10.out), Lib.hid (by rw [HLL.out]; exact HO10.out), HSz8, HLu, HV10, hR10⟩
                · have hlt := HLt.out
                  rw [if_pos h2, List.length_map, ← HQ.out] at hlt
                  simp only [Prod.mk.injEq] at hlt
                  obtain ⟨rfl, hx, rfl⟩ := hlt
                  have hm := HM4.out
                  rw [if_neg h2] at hm
                  unfold Sl.none_ at hm
                  simp only [Prod.mk.injEq] at hm
                  obtain ⟨⟨rfl, rfl⟩, rfl, rfl⟩ := hm
                  obtain rfl : k = 0 := HK.out
                  have HXx : Hid ((if (p : Int) + 3 < 0 then 0 else min ((p : Int) + 3).toNat q) = x0) := Lib.hid (by
                    rw [if_neg (by omega), show ((p : Int) + 3).toNat = p + 3 by omega]; exact hx)
                  have hb2 : (g2 != 0) = true := by simpa using h2
                  have hb3 : (g2 == 0) = false := by simpa using h2
                  have hcur : Below W.heap.size W w10.drew := HV10.out.drew
                  have hPne : P + 1 ≠ P := by omega
                  clear hx h2
                  go_upto_region 20 with fail
                  first | (go_region_held (fun V => V.cell? ⟨P + 1, 0, none⟩ = some (.string ⟨#[]⟩) ∧ V.cell? ⟨P + 1, 1, none⟩ = some (.slice none 0 0))
                    (first | exact ⟨Y0.out _ hcur, Y1.out _ hcur⟩ | exact ⟨(far_two _ _ _ 0 hPne).trans (Y0.out _ hcur), (far_two _ _ _ 1 hPne).trans (Y1.out _ hcur)⟩)
                    (first
                      | (go_at_call 45; with_reducible refine (KP.out ((p : Int) + 3) x0 _ HXx.out).mono ?_; rintro e w' ⟨rfl, hw'⟩; replace hcur := below_on hcur hw'; obtain ⟨r0, r1, s0, s1, _⟩ := X1.out.on hcur))) | fail
                  all_goals
                    go_wp2_with fail
                    obtain ⟨u0, u1, hbX⟩ := set_twoS (Value.string ⟨#[]⟩) (Value.slice none 0 0) r0 r1
                    generalize ((w'.setCell ⟨P, 0, none⟩ (Value.string ⟨#[]⟩)).setCell ⟨P, 1, none⟩ (Value.slice none 0 0)) = X at u0 u1 hbX ⊢
                    refine bodyPost_ret (v := .tuple #[sv ⟨#[]⟩ none 0 0, .int .i64 (x0 : Int), .int .i64 g2]) ?_ rfl ⟨none, 0, rfl, Lib.hid (Rq.none_ _ _ _), Lib.hid (by decide), (below_on HB0.out hcur).trans (by rw [hP]; exact hbX)⟩
                    · rw [results_cell2 rfl]
                      have hld := load_sel X P ⟨#[]⟩ none 0 0 u0 u1
                      simp [asAddr, Result.andThen, hld]
            · have hlq := HLq.out
              rw [if_pos hv] at hlq
              simp only [Prod.mk.injEq] at hlq
              obtain ⟨rfl, rfl, rfl⟩ := hlq
              have hm := HM4.out
              rw [if_neg hv] at hm
              unfold Sl.none_ at hm
              simp only [Prod.mk.injEq] at hm
              obtain ⟨⟨rfl, rfl⟩, rfl, rfl⟩ := hm
              obtain rfl : k = 0 := HK.out
              have hb1 : (v != 0) = true := by simpa using hv
              have hsz5 : W.heap.size ≤ w5.heap.size := HV5.out.size
              obtain ⟨W6, hW6⟩ : ∃ W6, w5.alloc (Obj.cells #[Value.string b1, Value.string b2, Value.bool b3] 45) = W6 := ⟨_, rfl⟩
              have hV6 : Below W.heap.size W W6 := by rw [← hW6]; exact HV5.out.alloc hsz5 _
              have hc0 := Y0.out _ hV6
              have hc1 := Y1.out _ hV6
              obtain ⟨r0, r1, s0, s1, _⟩ := X1.out.on hV6
              clear hv
              go_wp2_with fail
              obtain ⟨u0, u1, hbX⟩ := set_twoS (Value.string ⟨#[]⟩) (Value.slice none 0 0) r0 r1
              generalize ((W6.setCell ⟨P, 0, none⟩ (Value.string ⟨#[]⟩)).setCell ⟨P, 1, none⟩ (Value.slice none 0 0)) = X at u0 u1 hbX ⊢
              refine bodyPost_ret (v := .tuple #[sv ⟨#[]⟩ none 0 0, .int .i64 (y : Int), .int .i64 v]) ?_ rfl ⟨none, 0, rfl, Lib.hid (Rq.none_ _ _ _), Lib.hid (by decide), (below_on HB0.out hV6).trans (by rw [hP]; exact hbX)⟩
              · rw [results_cell2 rfl]
                have hld := load_sel X P ⟨#[]⟩ none 0 0 u0 u1
                simp [asAddr, Result.andThen, hld]
    · have hm := HM3.out
      rw [if_pos h1] at hm
      simp only [Prod.mk.injEq] at hm
      obtain ⟨⟨rfl, rfl⟩, rfl, rfl⟩ := hm
      obtain rfl : k = 0 := HK.out
      have hb1 : (e1 != 0) = true := by simpa using h1
      obtain ⟨c0, c1, _, _, _⟩ := X3'.out
      obtain ⟨r0, r1, s0, s1, _⟩ := X1.out.on hV3
      clear h1
      go_wp2_with fail
      obtain ⟨u0, u1, hbX⟩ := set_twoS (Value.string a3) (Value.slice none 0 0) r0 r1
      generalize ((w3.setCell ⟨P, 0, none⟩ (Value.string a3)).setCell ⟨P, 1, none⟩ (Value.slice none 0 0)) = X at u0 u1 hbX ⊢
      refine bodyPost_ret (v := .tuple #[sv a3 none 0 0, .int .i64 ((j : Int) + 1), .int .i64 0]) ?_ rfl ⟨none, 0, rfl, Lib.hid (Rq.none_ _ _ _), Lib.hid (by decide), (below_on HB0.out hV3).trans (by rw [hP]; exact hbX)⟩
      · rw [results_cell2 rfl]
        have hld := load_sel X P a3 none 0 0 u0 u1
        simp [asAddr, Result.andThen, hld]
  · have hm := HM.out
    have hnone : Sl.parse (ts.map flatK) i = (Sl.none_, (if i < 0 then 0 else min i.toNat q), e0) := by
      unfold Sl.parse
      have he := HE0.out
      unfold nameI at he
      by_cases hi : i < 0
      · rw [if_pos hi] at he ⊢
        rw [if_pos hi, he]
      · rw [if_neg hi] at he ⊢
        rw [if_neg hi]
        unfold Sl.parseN
        rw [he, if_pos h0, List.length_map, ← HQ.out]
    rw [hnone] at hm
    unfold Sl.none_ at hm
    simp only [Prod.mk.injEq] at hm
    obtain ⟨⟨rfl, rfl⟩, hx, rfl⟩ := hm
    obtain rfl : k = 0 := HK.out
    have HX := Lib.hid hx
    have hb1 : (e0 != 0) = true := by simpa using h0
    have hb2 : (e0 == 0) = false := by simpa using h0
    have hcur : Below W.heap.size W w1.drew := hV1.drew
    have hPne : P + 1 ≠ P := by omega
    clear hx h0 hnone
    go_upto_region 4 with fail
    first | (go_region_held (fun V => V.cell? ⟨P + 1, 0, none⟩ = some (.string ⟨#[]⟩) ∧ V.cell? ⟨P + 1, 1, none⟩ = some (.slice none 0 0))
      (first | exact ⟨Y0.out _ hcur, Y1.out _ hcur⟩ | exact ⟨(far_two _ _ _ 0 hPne).trans (Y0.out _ hcur), (far_two _ _ _ 1 hPne).trans (Y1.out _ hcur)⟩)
      (first
        | (go_at_call 45; with_reducible refine (KP.out i x _ HX.out).mono ?_; rintro e w' ⟨rfl, hw'⟩; replace hcur := below_on hcur hw'; obtain ⟨r0, r1, s0, s1, _⟩ := X1.out.on hcur))) | fail
    all_goals
      go_wp2_with fail
      obtain ⟨u0, u1, hbX⟩ := set_twoS (Value.string ⟨#[]⟩) (Value.slice none 0 0) r0 r1
      generalize ((w'.setCell ⟨P, 0, none⟩ (Value.string ⟨#[]⟩)).setCell ⟨P, 1, none⟩ (Value.slice none 0 0)) = X at u0 u1 hbX ⊢
      refine bodyPost_ret (v := .tuple #[sv ⟨#[]⟩ none 0 0, .int .i64 (x : Int), .int .i64 e0]) ?_ rfl ⟨none, 0, rfl, Lib.hid (Rq.none_ _ _ _), Lib.hid (by decide), (below_on HB0.out hcur).trans (by rw [hP]; exact hbX)⟩
      · rw [results_cell2 rfl]
        have hld := load_sel X P ⟨#[]⟩ none 0 0 u0 u1
        simp [asAddr, Result.andThen, hld]
end Go.Proofs.YtkoeggjfdcpokaaGreatDoor

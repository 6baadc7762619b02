/-
  Plain numbers for layer crc: one step of a bit, of an octet, of octets; what adds up, what is lost, what a changed bit does, what 32 changed bits do. Nothing of any program.
-/
namespace Go.Proofs.Ytmcmlfmfhljphaa.Kp

def one (v : Nat) : Nat := if v % 2 = 1 then (v / 2) ^^^ 3988292384 else v / 2
def it : Nat → Nat → Nat
  | 0, v => v
  | k + 1, v => it k (one v)
def step (c x : Nat) : Nat := it 8 (c ^^^ x)
def upd (c : Nat) (l : List Nat) : Nat := l.foldl step c
def sum (l : List Nat) : Nat := upd 4294967295 l ^^^ 4294967295

theorem xor_lt {a b : Nat} (ha : a < 4294967296) (hb : b < 4294967296) : a ^^^ b < 4294967296 := Nat.xor_lt_two_pow (n := 32) ha hb
theorem xor_lt8 {a b : Nat} (ha : a < 256) (hb : b < 256) : a ^^^ b < 256 := Nat.xor_lt_two_pow (n := 8) ha hb
theorem one_lt {v : Nat} (h : v < 4294967296) : one v < 4294967296 := by
  unfold one
  split
  · exact xor_lt (by omega) (by omega)
  · omega
theorem it_lt : ∀ (k : Nat) {v : Nat}, v < 4294967296 → it k v < 4294967296
  | 0, _, h => h
  | k + 1, _, h => it_lt k (one_lt h)
theorem step_lt {c x : Nat} (hc : c < 4294967296) (hx : x < 256) : step c x < 4294967296 := it_lt 8 (xor_lt hc (by omega))
theorem upd_lt : ∀ (l : List Nat) {c : Nat}, c < 4294967296 → (∀ x ∈ l, x < 256) → upd c l < 4294967296
  | [], _, h, _ => h
  | x :: r, _, h, hl => upd_lt r (step_lt h (hl x (by simp))) (fun y hy => hl y (by simp [hy]))
theorem sum_lt {l : List Nat} (hl : ∀ x ∈ l, x < 256) : sum l < 4294967296 := xor_lt (upd_lt l (by omega) hl) (by omega)

theorem half_xor (a b : Nat) : (a ^^^ b) / 2 = (a / 2) ^^^ (b / 2) := by
  apply Nat.eq_of_testBit_eq
  intro i
  simp [Nat.testBit_div_two]
theorem odd_xor (a b : Nat) : (a ^^^ b) % 2 = (a + b) % 2 := by
  have h := Nat.testBit_xor a b 0
  simp only [Nat.testBit_zero] at h
  have ha : a % 2 = 0 ∨ a % 2 = 1 := by omega
  have hb : b % 2 = 0 ∨ b % 2 = 1 := by omega
  have hx : (a ^^^ b) % 2 = 0 ∨ (a ^^^ b) % 2 = 1 := by omega
  rcases ha with ha | ha <;> rcases hb with hb | hb <;> rcases hx with hx | hx <;> simp [ha, hb, hx] at h <;> omega
theorem xx (a : Nat) : a ^^^ a = 0 := Nat.xor_self a
theorem xz {a b : Nat} (h : a ^^^ b = 0) : a = b := by
  have := congrArg (fun z => z ^^^ b) h
  simpa [Nat.xor_assoc, Nat.xor_self] using this
theorem swap4 (a b c d : Nat) : (a ^^^ b) ^^^ (c ^^^ d) = (a ^^^ c) ^^^ (b ^^^ d) := by
  rw [Nat.xor_assoc, Nat.xor_assoc, ← Nat.xor_assoc b c d, Nat.xor_comm b c, Nat.xor_assoc c b d]
theorem one_xor (a b : Nat) : one (a ^^^ b) = one a ^^^ one b := by
  unfold one
  rw [odd_xor, half_xor]
  have ha : a % 2 = 0 ∨ a % 2 = 1 := by omega
  have hb : b % 2 = 0 ∨ b % 2 = 1 := by omega
  rcases ha with ha | ha <;> rcases hb with hb | hb
  · rw [if_neg (by omega), if_neg (by omega), if_neg (by omega)]
  · rw [if_pos (by omega), if_neg (by omega), if_pos (by omega), Nat.xor_assoc]
  · rw [if_pos (by omega), if_pos (by omega), if_neg (by omega), Nat.xor_assoc, Nat.xor_assoc, Nat.xor_comm (b / 2)]
  · rw [if_neg (by omega), if_pos (by omega), if_pos (by omega), swap4, xx, Nat.xor_zero]
theorem it_xor : ∀ (k a b : Nat), it k (a ^^^ b) = it k a ^^^ it k b
  | 0, _, _ => rfl
  | k + 1, a, b => by
    show it k (one (a ^^^ b)) = _
    rw [one_xor, it_xor k]; rfl
theorem it_add : ∀ (j k v : Nat), it (j + k) v = it k (it j v)
  | 0, k, v => by rw [Nat.zero_add]; rfl
  | j + 1, k, v => by rw [Nat.add_right_comm]; exact it_add j k (one v)
theorem one_0 : one 0 = 0 := rfl
theorem it_0 : ∀ k, it k 0 = 0
  | 0 => rfl
  | k + 1 => it_0 k
theorem one_zero {v : Nat} (h : v < 4294967296) (e : one v = 0) : v = 0 := by
  unfold one at e
  split at e
  · have := xz e
    omega
  · omega
theorem it_zero : ∀ (k : Nat) {v : Nat}, v < 4294967296 → it k v = 0 → v = 0
  | 0, _, _, e => e
  | k + 1, _, h, e => one_zero h (it_zero k (one_lt h) e)
theorem it_inj (k : Nat) {a b : Nat} (ha : a < 4294967296) (hb : b < 4294967296) (e : it k a = it k b) : a = b := by
  apply xz
  apply it_zero k (xor_lt ha hb)
  rw [it_xor, e, xx]

theorem it_shift : ∀ (k v : Nat), v % 2 ^ k = 0 → it k v = v / 2 ^ k
  | 0, v, _ => by simp [it]
  | k + 1, v, h => by
    have h2 : v % 2 = 0 := by
      have := Nat.mod_mod_of_dvd v (Nat.pow_dvd_pow 2 (show 1 ≤ k + 1 by omega))
      rw [h] at this
      simpa using this.symm
    have ho : one v = v / 2 := by unfold one; rw [if_neg (by omega)]
    have h3 : v / 2 % 2 ^ k = 0 := by
      obtain ⟨q, rfl⟩ := Nat.dvd_of_mod_eq_zero h
      rw [show 2 ^ (k + 1) * q = 2 * (2 ^ k * q) by rw [Nat.pow_succ, Nat.mul_comm (2 ^ k) 2, Nat.mul_assoc], Nat.mul_div_cancel_left _ (by decide)]
      exact Nat.mul_mod_right _ _
    show it k (one v) = _
    rw [ho, it_shift k (v / 2) h3, Nat.div_div_eq_div_mul, Nat.pow_succ, Nat.mul_comm]
theorem it_pow (i : Nat) : it i (2 ^ i) = 1 := by
  rw [it_shift i _ (by simp)]
  exact Nat.div_self (Nat.two_pow_pos i)

/-- A number is its lowest octet and the rest. -/
theorem low_rest (v : Nat) : v = (v % 256) ^^^ (256 * (v / 256)) := by
  apply Nat.eq_of_testBit_eq
  intro i
  rw [Nat.testBit_xor, show (256 : Nat) = 2 ^ 8 from rfl, Nat.testBit_mod_two_pow, Nat.testBit_two_pow_mul, Nat.testBit_div_two_pow]
  by_cases h : i < 8
  · simp [h, show ¬ 8 ≤ i by omega]
  · simp [h, show 8 ≤ i by omega, show i - 8 + 8 = i by omega]
theorem it8_256 (w : Nat) : it 8 (256 * w) = w := by
  rw [it_shift 8 _ (by simp [Nat.mul_mod_right])]
  exact Nat.mul_div_cancel_left w (by decide)
theorem it8_low (v : Nat) : it 8 v = it 8 (v % 256) ^^^ (v / 256) := by
  conv => lhs; rw [low_rest v]
  rw [it_xor, it8_256]
theorem xor_low (c x : Nat) (hx : x < 256) : (c ^^^ x) % 256 = (c % 256) ^^^ x := by
  apply Nat.eq_of_testBit_eq
  intro i
  rw [show (256 : Nat) = 2 ^ 8 from rfl, Nat.testBit_mod_two_pow, Nat.testBit_xor, Nat.testBit_xor, Nat.testBit_mod_two_pow]
  by_cases h : i < 8
  · simp [h]
  · have : x.testBit i = false := Nat.testBit_lt_two_pow (Nat.lt_of_lt_of_le hx (Nat.pow_le_pow_right (n := 2) (by decide) (show 8 ≤ i by omega)))
    simp [h, this]
theorem xor_high (c x : Nat) (hx : x < 256) : (c ^^^ x) / 256 = c / 256 := by
  apply Nat.eq_of_testBit_eq
  intro i
  rw [show (256 : Nat) = 2 ^ 8 from rfl, Nat.testBit_div_two_pow, Nat.testBit_div_two_pow, Nat.testBit_xor]
  have : x.testBit (i + 8) = false := Nat.testBit_lt_two_pow (Nat.lt_of_lt_of_le hx (Nat.pow_le_pow_right (n := 2) (by decide) (show 8 ≤ i + 8 by omega)))
  simp [this]
/-- A step by a table of 256. -/
theorem step_table (c x : Nat) (hx : x < 256) : step c x = it 8 ((c % 256) ^^^ x) ^^^ (c / 256) := by
  unfold step
  rw [it8_low, xor_low c x hx, xor_high c x hx]

theorem xor_left {a b c : Nat} : a ^^^ b = a ^^^ c ↔ b = c := by
  constructor
  · intro h
    have := congrArg (fun z => a ^^^ z) h
    simpa [← Nat.xor_assoc, xx] using this
  · intro h; rw [h]
theorem xor_right {a b c : Nat} : b ^^^ a = c ^^^ a ↔ b = c := by
  rw [Nat.xor_comm b, Nat.xor_comm c]; exact xor_left
theorem step_sum {c d x : Nat} (hc : c < 4294967296) (hd : d < 4294967296) (hx : x < 256) : step c x = step d x ↔ c = d :=
  ⟨fun e => xor_right.mp (it_inj 8 (xor_lt hc (by omega)) (xor_lt hd (by omega)) e), fun e => by rw [e]⟩
theorem step_oct {c x y : Nat} (hc : c < 4294967296) (hx : x < 256) (hy : y < 256) : step c x = step c y ↔ x = y :=
  ⟨fun e => xor_left.mp (it_inj 8 (xor_lt hc (by omega)) (xor_lt hc (by omega)) e), fun e => by rw [e]⟩
theorem step_own (c : Nat) : step c (c % 256) = c / 256 := by
  unfold step
  have : c ^^^ (c % 256) = 256 * (c / 256) := by
    conv => lhs; lhs; rw [low_rest c]
    rw [Nat.xor_comm (c % 256), Nat.xor_assoc, xx, Nat.xor_zero]
  rw [this, it8_256]

/-! ### octets -/
theorem upd_nil (c : Nat) : upd c [] = c := rfl
theorem upd_cons (c x : Nat) (l : List Nat) : upd c (x :: l) = upd (step c x) l := rfl
theorem upd_append (c : Nat) (l m : List Nat) : upd c (l ++ m) = upd (upd c l) m := List.foldl_append
theorem step_xor (a b x y : Nat) : step (a ^^^ b) (x ^^^ y) = step a x ^^^ step b y := by
  unfold step
  rw [swap4, it_xor]
theorem upd_xor : ∀ (l m : List Nat) (a b : Nat), l.length = m.length → upd (a ^^^ b) (List.zipWith (· ^^^ ·) l m) = upd a l ^^^ upd b m
  | [], [], _, _, _ => rfl
  | [], _ :: _, _, _, h => by simp at h
  | _ :: _, [], _, _, h => by simp at h
  | x :: l, y :: m, a, b, h => by
    rw [List.zipWith_cons_cons, upd_cons, upd_cons, upd_cons, step_xor]
    exact upd_xor l m _ _ (by simpa using h)
/-- What changes of the sum ahead: moved on by as many bits. -/
theorem upd_add : ∀ (l : List Nat) (c d : Nat), upd (c ^^^ d) l = upd c l ^^^ it (8 * l.length) d
  | [], _, _ => rfl
  | x :: l, c, d => by
    rw [upd_cons, upd_cons]
    have : step (c ^^^ d) x = step c x ^^^ it 8 d := by
      unfold step
      rw [Nat.xor_assoc, Nat.xor_comm d x, ← Nat.xor_assoc, it_xor]
    rw [this, upd_add l, ← it_add]
    congr 2
    simp; omega
theorem upd_inj (l : List Nat) {c d : Nat} (hc : c < 4294967296) (hd : d < 4294967296) (e : upd c l = upd d l) : c = d := by
  have h : upd (c ^^^ (c ^^^ d)) l = upd d l := by rw [← Nat.xor_assoc, xx, Nat.zero_xor]
  rw [upd_add, ← e] at h
  have h2 : it (8 * l.length) (c ^^^ d) = 0 := by
    have := congrArg (fun z => upd c l ^^^ z) h
    simpa [← Nat.xor_assoc, xx] using this
  exact xz (it_zero _ (xor_lt hc hd) h2)

/-- The sum of octets changed by three. -/
theorem sum_three (l m n : List Nat) (h1 : l.length = m.length) (h2 : l.length = n.length) :
    sum (List.zipWith (· ^^^ ·) (List.zipWith (· ^^^ ·) l m) n) = sum l ^^^ sum m ^^^ sum n := by
  unfold sum
  have e : upd 4294967295 (List.zipWith (· ^^^ ·) (List.zipWith (· ^^^ ·) l m) n) = upd 4294967295 l ^^^ upd 4294967295 m ^^^ upd 4294967295 n := by
    rw [← upd_xor l m _ _ h1, ← upd_xor _ n _ _ (by simp [← h1, ← h2])]
    simp
  rw [e]
  generalize upd 4294967295 l = x
  generalize upd 4294967295 m = y
  generalize upd 4294967295 n = z
  rw [swap4 x, xx, Nat.xor_zero, ← Nat.xor_assoc]

/-! ### octets and their own sum -/
theorem it_mul (k b : Nat) : it k (2 ^ k * b) = b := by
  rw [it_shift k _ (by simp)]
  exact Nat.mul_div_cancel_left b (Nat.two_pow_pos k)
theorem step_it (k v b : Nat) : step (it k v) b = it (k + 8) (v ^^^ (2 ^ k * b)) := by
  unfold step
  rw [it_add, it_xor k, it_mul]
theorem upd_four (v a b c d : Nat) : upd v [a, b, c, d] = it 32 (v ^^^ a ^^^ (256 * b) ^^^ (65536 * c) ^^^ (16777216 * d)) := by
  show step (step (step (step v a) b) c) d = _
  have h0 : step v a = it 8 (v ^^^ a) := rfl
  rw [h0, step_it 8, step_it 16, step_it 24]
theorem four (s : Nat) : (s % 256) ^^^ (256 * (s / 256 % 256)) ^^^ (65536 * (s / 65536 % 256)) ^^^ (16777216 * (s / 16777216)) = s := by
  have e1 := low_rest s
  have e2 := low_rest (s / 256)
  have e3 := low_rest (s / 65536)
  have d1 : s / 256 / 256 = s / 65536 := by rw [Nat.div_div_eq_div_mul]
  have d2 : s / 65536 / 256 = s / 16777216 := by rw [Nat.div_div_eq_div_mul]
  have mx : ∀ a b : Nat, 256 * (a ^^^ b) = 256 * a ^^^ 256 * b := by
    intro a b
    apply Nat.eq_of_testBit_eq
    intro i
    rw [show (256 : Nat) = 2 ^ 8 from rfl, Nat.testBit_two_pow_mul, Nat.testBit_xor, Nat.testBit_xor, Nat.testBit_two_pow_mul, Nat.testBit_two_pow_mul]
    by_cases h : 8 ≤ i <;> simp [h]
  rw [d1] at e2
  rw [d2] at e3
  have m1 : ∀ a : Nat, 256 * (256 * a) = 65536 * a := fun a => by omega
  have m2 : ∀ a : Nat, 256 * (65536 * a) = 16777216 * a := fun a => by omega
  conv => rhs; rw [e1, e2, e3]
  simp only [mx, m1, m2, Nat.xor_assoc]
theorem own_sum (l : List Nat) (s : Nat) (hs : sum l = s) :
    sum (l ++ [s % 256, s / 256 % 256, s / 65536 % 256, s / 16777216]) = 558161692 := by
  unfold sum
  rw [upd_append, upd_four]
  have hu : upd 4294967295 l = s ^^^ 4294967295 := by rw [← hs]; unfold sum; rw [Nat.xor_assoc, xx, Nat.xor_zero]
  have hf := four s
  rw [Nat.xor_assoc, Nat.xor_assoc] at hf
  rw [Nat.xor_assoc, Nat.xor_assoc, Nat.xor_assoc, hf, hu, Nat.xor_comm s, Nat.xor_assoc, xx, Nat.xor_zero]
  decide +kernel

/-! ### changed bits -/
def flip (l : List Nat) (k : Nat) : List Nat := l.set (k / 8) (l.getD (k / 8) 0 ^^^ 2 ^ (k % 8))
theorem flip_len (l : List Nat) (k : Nat) : (flip l k).length = l.length := by simp [flip]
theorem flip_lt {l : List Nat} (hl : ∀ x ∈ l, x < 256) (k : Nat) : ∀ x ∈ flip l k, x < 256 := by
  intro x hx
  rcases List.mem_or_eq_of_mem_set hx with h | h
  · exact hl x h
  · rw [h]
    have hp : 2 ^ (k % 8) < 256 := Nat.pow_lt_pow_right (a := 2) (by decide) (show k % 8 < 8 by omega)
    refine xor_lt8 ?_ hp
    rw [List.getD_eq_getElem?_getD]
    rcases h' : l[k / 8]? with _ | y
    · simp
    · simpa using hl y (List.mem_of_getElem? h')
theorem it8_bit {r : Nat} (h : r < 8) : it 8 (2 ^ r) = it (8 - r) 1 := by
  rw [show 8 = r + (8 - r) by omega, it_add, it_pow, show r + (8 - r) - r = 8 - r by omega]
theorem upd_flip : ∀ (l : List Nat) (c k : Nat), k < 8 * l.length → upd c (flip l k) = upd c l ^^^ it (8 * l.length - k) 1
  | [], _, _, h => by simp at h
  | x :: l, c, k, h => by
    by_cases h8 : k < 8
    · have e : flip (x :: l) k = (x ^^^ 2 ^ k) :: l := by
        unfold flip
        rw [show k / 8 = 0 by omega, show k % 8 = k by omega]
        rfl
      rw [e, upd_cons, upd_cons]
      have hs : step c (x ^^^ 2 ^ k) = step c x ^^^ it (8 - k) 1 := by
        unfold step
        rw [← Nat.xor_assoc, it_xor, it8_bit h8]
      rw [hs, upd_add, ← it_add]
      congr 2
      simp; omega
    · have e : flip (x :: l) k = x :: flip l (k - 8) := by
        unfold flip
        rw [show k / 8 = (k - 8) / 8 + 1 by omega, show k % 8 = (k - 8) % 8 by omega]
        rfl
      rw [e, upd_cons, upd_cons, upd_flip l _ (k - 8) (by simp at h; omega)]
      congr 2
      simp; omega

/-- The octets behind i rounds of the law's loop. -/
def burst (l : List Nat) (bit y : Nat) : Nat → List Nat
  | 0 => l
  | i + 1 => if y / 2 ^ i % 2 = 1 then flip (burst l bit y i) (bit + i) else burst l bit y i
theorem burst_len (l : List Nat) (bit y : Nat) : ∀ i, (burst l bit y i).length = l.length
  | 0 => rfl
  | i + 1 => by
    unfold burst
    split
    · rw [flip_len, burst_len]
    · exact burst_len l bit y i
theorem burst_lt {l : List Nat} (hl : ∀ x ∈ l, x < 256) (bit y : Nat) : ∀ i, ∀ x ∈ burst l bit y i, x < 256
  | 0 => hl
  | i + 1 => by
    unfold burst
    split
    · exact flip_lt (burst_lt hl bit y i) _
    · exact burst_lt hl bit y i
theorem mod_bit (y i : Nat) (h : y / 2 ^ i % 2 = 1) : y % 2 ^ (i + 1) = (y % 2 ^ i) ^^^ 2 ^ i := by
  apply Nat.eq_of_testBit_eq
  intro j
  rw [Nat.testBit_xor, Nat.testBit_mod_two_pow, Nat.testBit_mod_two_pow, Nat.testBit_two_pow]
  have hb : y.testBit i = true := by rw [Nat.testBit_eq_decide_div_mod_eq]; simp [h]
  rcases Nat.lt_trichotomy j i with hj | hj | hj
  · simp [hj, show j < i + 1 by omega, show ¬ i = j by omega]
  · subst hj; simp [hb]
  · simp [show ¬ j < i + 1 by omega, show ¬ j < i by omega, show ¬ i = j by omega]
theorem mod_nobit (y i : Nat) (h : ¬ y / 2 ^ i % 2 = 1) : y % 2 ^ (i + 1) = y % 2 ^ i := by
  apply Nat.eq_of_testBit_eq
  intro j
  rw [Nat.testBit_mod_two_pow, Nat.testBit_mod_two_pow]
  have hb : y.testBit i = false := by rw [Nat.testBit_eq_decide_div_mod_eq]; simpa using h
  rcases Nat.lt_trichotomy j i with hj | hj | hj
  · simp [hj, show j < i + 1 by omega]
  · subst hj; simp [hb]
  · simp [show ¬ j < i + 1 by omega, show ¬ j < i by omega]
theorem upd_burst (l : List Nat) (c bit y : Nat) (hb : bit + 32 ≤ 8 * l.length) : ∀ i, i ≤ 32 → upd c (burst l bit y i) = upd c l ^^^ it (8 * l.length - bit) (y % 2 ^ i)
  | 0, _ => by simp [burst, Nat.mod_one, it_0]
  | i + 1, h => by
    unfold burst
    split
    · rename_i hy
      rw [upd_flip _ _ _ (by rw [burst_len]; omega), burst_len, upd_burst l c bit y hb i (by omega), mod_bit y i hy, it_xor, Nat.xor_assoc]
      congr 2
      rw [show 8 * l.length - bit = i + (8 * l.length - (bit + i)) by omega, it_add, it_pow]
    · rename_i hy
      rw [upd_burst l c bit y hb i (by omega), mod_nobit y i hy]
theorem sum_burst (l : List Nat) (bit y : Nat) (hb : bit + 32 ≤ 8 * l.length) (hy : y < 4294967296) : sum (burst l bit y 32) = sum l ↔ y = 0 := by
  unfold sum
  rw [xor_right, upd_burst l _ bit y hb 32 (by omega), show y % 2 ^ 32 = y from Nat.mod_eq_of_lt hy]
  constructor
  · intro h
    have h2 : it (8 * l.length - bit) y = 0 := by
      have := congrArg (fun z => upd 4294967295 l ^^^ z) h
      simpa [← Nat.xor_assoc, xx] using this
    exact it_zero _ hy h2
  · intro h; rw [h, it_0, Nat.xor_zero]

/-! ### the document's examples -/
theorem ex1 : sum [49, 50, 51, 52, 53, 54, 55, 56, 57] = 3421780262 := by decide +kernel
theorem ex2 : sum [] = 0 := by decide +kernel
theorem ex3 : step 1 0 = 1996959894 := by decide +kernel
end Go.Proofs.Ytmcmlfmfhljphaa.Kp

/-
  The walk of GetUint of layer codec (nine octets at most, group by group).
-/
import Derived.Test.YtmcmlfmfhljphaaFrCon
import Derived.Deep.DeepCutAuto
namespace Go.Proofs.Ytmcmlfmfhljphaa
open Go.RowKit

/-- What is got of the rest, the number so far and the place beside. -/
theorem gu_step {k : Nat} {f : Bool} {x : Nat} {r : List Nat} : Kc.gu (k + 1) f (x :: r) =
    if x < 128 then (if x = 0 ∧ f = false then (0, [], 1) else (x, r, 0))
    else if (Kc.gu k false r).2.2 = 0 then (x % 128 + 128 * (Kc.gu k false r).1, (Kc.gu k false r).2.1, 0) else (0, [], (Kc.gu k false r).2.2) := rfl
/-- The answer from place i on, a the number so far. -/
def fin (a i : Nat) (q : Kc.R Nat) : Kc.R Nat := if q.2.2 = 0 then (if 1152921504606846976 < a + 128 ^ i * q.1 then (0, [], 2) else (a + 128 ^ i * q.1, q.2.1, 0)) else (0, [], q.2.2)
theorem fin_start (l : List Nat) : fin 0 0 (Kc.gu 9 true l) = Kc.getU l := by
  unfold fin Kc.getU
  by_cases h : (Kc.gu 9 true l).2.2 = 0
  · rw [if_pos h]
    simp only [Nat.zero_add, Nat.pow_zero, Nat.one_mul]
    by_cases h2 : 1152921504606846976 < (Kc.gu 9 true l).1
    · rw [if_pos h2, if_pos ⟨h, h2⟩]
    · rw [if_neg h2, if_neg (fun hh => h2 hh.2), ← h]
  · rw [if_neg h, if_neg (fun hh => h hh.1)]
    obtain ⟨a, b⟩ := Kc.gu_no 9 true l h
    rw [← a, ← b]
theorem fin_next {a i k x : Nat} {f : Bool} {r : List Nat} (h : ¬ x < 128) : fin a i (Kc.gu (k + 1) f (x :: r)) = fin (a + 128 ^ i * (x % 128)) (i + 1) (Kc.gu k false r) := by
  rw [gu_step, if_neg h]
  unfold fin
  by_cases h0 : (Kc.gu k false r).2.2 = 0
  · have e : a + 128 ^ i * (x % 128 + 128 * (Kc.gu k false r).1) = a + 128 ^ i * (x % 128) + 128 ^ (i + 1) * (Kc.gu k false r).1 := by
      rw [Nat.mul_add, Nat.pow_succ, Nat.mul_assoc, Nat.add_assoc]
    rw [if_pos h0]
    simp only [if_pos, h0]
    rw [e]
  · rw [if_neg h0]
    simp only
    rw [if_neg h0, if_neg h0]
theorem fin_none {a i k : Nat} {f : Bool} : fin a i (Kc.gu (k + 1) f []) = (0, [], 3) := rfl
theorem fin_over {a i : Nat} {f : Bool} {l : List Nat} : fin a i (Kc.gu 0 f l) = (0, [], 2) := rfl
theorem fin_last {a i k x : Nat} {f : Bool} {r : List Nat} (h : x < 128) : fin a i (Kc.gu (k + 1) f (x :: r)) = if x = 0 ∧ f = false then (0, [], 1) else if 1152921504606846976 < a + 128 ^ i * x then (0, [], 2) else (a + 128 ^ i * x, r, 0) := by
  rw [gu_step, if_pos h]
  by_cases h0 : x = 0 ∧ f = false
  · rw [if_pos h0, if_pos h0]; rfl
  · rw [if_neg h0, if_neg h0]; rfl
theorem w64_nat {v : Nat} (h : v ≤ 9223372036854775807) : wrap64 (v : Int) = (v : Int) := IntWalk.wrap64_in _ (by omega)
theorem p128 : (128 : Nat) ^ 8 = 72057594037927936 := by rfl
/-- One group more. -/
theorem group_more {i a y : Nat} (hi : i ≤ 8) (ha : a < 128 ^ i) :
    ∃ v a' : Nat, a + 128 ^ i * (y % 128) = a' ∧ a' < 128 ^ (i + 1) ∧ wrap64 (((y % 128 : Nat) : Int) * 2 ^ (7 * i)) = (v : Int) ∧ wrap64 ((a : Int) + (v : Int)) = (a' : Int) ∧ (y % 128 = 0 → a' ≤ 1152921504606846976) := by
  have hpw : 128 ^ i ≤ 72057594037927936 := by
    have := Nat.pow_le_pow_right (n := 128) (by decide) hi
    rwa [p128] at this
  have hm : y % 128 ≤ 127 := by omega
  generalize y % 128 = m at hm ⊢
  have hvb : 128 ^ i * m ≤ 128 ^ i * 127 := Nat.mul_le_mul_left _ hm
  have hp2 : (2 : Int) ^ (7 * i) = ((128 ^ i : Nat) : Int) := by
    rw [Int.natCast_pow, Int.pow_mul]; rfl
  have hsucc : 128 ^ (i + 1) = 128 ^ i * 128 := Nat.pow_succ ..
  refine ⟨128 ^ i * m, a + 128 ^ i * m, rfl, ?_, ?_, ?_, ?_⟩
  · rw [hsucc]
    generalize 128 ^ i * m = v at *
    generalize 128 ^ i = p at *
    omega
  · rw [hp2, Int.mul_comm, ← Int.natCast_mul]
    refine w64_nat ?_
    generalize 128 ^ i * m = v at *
    generalize 128 ^ i = p at *
    omega
  · rw [← Int.natCast_add]
    refine w64_nat ?_
    generalize 128 ^ i * m = v at *
    generalize 128 ^ i = p at *
    omega
  · intro h
    subst h
    rw [Nat.mul_zero]
    generalize 128 ^ i = p at *
    omega
set_option maxHeartbeats 3200000 in
set_option maxRecDepth 100000 in
theorem getU_at (A : Option Addr) (n c : Nat) (l r : List Nat) (x k : Nat) (z : Int) (hn : n = l.length) (hc : Cap n c) (hg : Kc.getU l = (x, r, z)) (hk : k = r.length) (w : World) (B : Nat) (hr : Rb w B A l) :
    Calls Try.prog 18 #[.slice A n c] w fun e w' => ∃ A' c', e = .returned (.tuple #[.int .i64 (x : Int), .slice A' k c', .int .i64 z]) ∧ Hid (Rb w B A' r) ∧ Hid (Cap k c') ∧ Below w.heap.size w w' := by
  have HN := Lib.hid hn
  have HG : Hid (fin 0 0 (Kc.gu 9 true (l.drop 0)) = (x, r, z)) := Lib.hid (by rw [List.drop_zero, fin_start]; exact hg)
  have HK := Lib.hid hk
  have HS := Lib.hid hr.small
  have HR := Lib.hid hr
  obtain ⟨hc1, hc2⟩ := hc
  have hlen : n ≤ 9223372036854775807 := by rw [hn]; exact hr.len
  clear hn hg hk hr
  obtain ⟨t, ht⟩ : ∃ t, min n 9 = t := ⟨_, rfl⟩
  have ht1 : min (n : Int) 9 = (t : Int) := by omega
  have ht0 : (if (9 : Int) < (n : Int) then (9 : Int) else (n : Int)) = (t : Int) := by split <;> omega
  have ht2 : t ≤ n := by omega
  have ht3 : t ≤ c := by omega
  have ht9 : t ≤ 9 := by omega
  have HT := Lib.hid ht
  clear ht
  go_enter Try.func18, Try.ntmps18
  go_wp2_with fail
  go_loopg [5, 6, 7, 14] t (fun g s5 _ _ s14 wx => ∃ (i a : Nat), i + g = t ∧ s14 = .int .i64 i ∧ s5 = .int .i64 a ∧ a < 128 ^ i ∧ Hid (fin a i (Kc.gu (9 - i) (decide (i = 0)) (l.drop i)) = (x, r, z)) ∧ wx = w)
  case atStart => exact ⟨0, 0, by omega, rfl, rfl, by decide, HG, rfl⟩
  case round =>
    obtain ⟨i, a, hi, rfl, rfl, ha, HI, rfl⟩ := hrel
    cases gk with
    | zero =>
      obtain rfl : i = t := by omega
      have h := HI.out
      by_cases h9 : n < 9
      · have h9z : (n : Int) < 9 := by omega
        obtain rfl : i = n := by have := HT.out; omega
        obtain ⟨q, hq⟩ : ∃ q, 9 - i = q + 1 := ⟨8 - i, by omega⟩
        rw [List.drop_eq_nil_of_le (by have := HN.out; omega), hq, fin_none] at h
        simp only [Prod.mk.injEq] at h
        obtain ⟨rfl, rfl, rfl⟩ := h
        obtain rfl : k = 0 := HK.out
        clear hq
        go_wp2_with fail
        go_ret3
        exact ⟨none, 0, rfl, Lib.hid (Rb.none_ _ _ _), Lib.hid cap0, Below.refl _ _⟩
      · have h9z : ¬ (n : Int) < 9 := by omega
        obtain rfl : i = 9 := by have := HT.out; omega
        rw [show 9 - 9 = 0 from rfl, fin_over] at h
        simp only [Prod.mk.injEq] at h
        obtain ⟨rfl, rfl, rfl⟩ := h
        obtain rfl : k = 0 := HK.out
        go_wp2_with fail
        go_ret3
        exact ⟨none, 0, rfl, Lib.hid (Rb.none_ _ _ _), Lib.hid cap0, Below.refl _ _⟩
    | succ g =>
      have hlt : (i : Int) < (t : Int) := by omega
      have hit : i < t := by omega
      have hil : i < l.length := by have := HN.out; omega
      obtain ⟨bk, off, rfl, hbk, c0⟩ := HR.out.at_ hil
      obtain ⟨y, hy⟩ : ∃ y, l[i] = y := ⟨_, rfl⟩
      rw [hy] at c0
      have hy8 : y < 256 := by rw [← hy]; exact HS.out _ (List.getElem_mem hil)
      have hD := HI.out
      rw [List.drop_eq_getElem_cons hil, hy] at hD
      unfold oct at c0
      have hi8 : i ≤ 8 := by omega
      obtain ⟨q9, hq9⟩ : ∃ q9, 9 - i = q9 + 1 := ⟨8 - i, by omega⟩
      rw [hq9] at hD
      obtain ⟨v, a', HA, hab, e2, e3, hz0⟩ := group_more (y := y) hi8 ha
      obtain ⟨m, hm⟩ : ∃ m, y % 128 = m := ⟨_, rfl⟩
      rw [hm] at HA e2 hz0
      have hz0 := Lib.hid hz0
      have HAB := Lib.hid hab
      have e1 : (y : Int) % 128 = (m : Int) := by omega
      clear hab ha
      by_cases h8 : y < 128
      · have h8z : ¬ (128 : Int) ≤ (y : Int) := by omega
        have hym : m = y := by omega
        rw [fin_last h8, ← hym, HA] at hD
        clear HA
        by_cases hbig : 1152921504606846976 < a'
        · have hbz : (1152921504606846976 : Int) < (a' : Int) := by omega
          have hno : ¬ (m = 0 ∧ decide (i = 0) = false) := fun h => absurd (hz0.out h.1) (by omega)
          rw [if_neg hno, if_pos hbig] at hD
          simp only [Prod.mk.injEq] at hD
          obtain ⟨rfl, rfl, rfl⟩ := hD
          obtain rfl : k = 0 := HK.out
          clear hno hm hym hy
          go_wp2_with fail
          go_ret3
          exact ⟨none, 0, rfl, Lib.hid (Rb.none_ _ _ _), Lib.hid cap0, Below.refl _ _⟩
        · have hbz : ¬ (1152921504606846976 : Int) < (a' : Int) := by omega
          by_cases hy0 : y = 0 ∧ 0 < i
          · obtain ⟨h0, h1⟩ := hy0
            have hi0 : (0 : Int) < (i : Int) := by omega
            have hyz : ((y : Int) == 0) = true := by rw [h0]; rfl
            rw [if_pos ⟨by omega, by simp; omega⟩] at hD
            simp only [Prod.mk.injEq] at hD
            obtain ⟨rfl, rfl, rfl⟩ := hD
            obtain rfl : k = 0 := HK.out
            clear hy hym hm h0
            go_wp2_with fail
            go_ret3
            exact ⟨none, 0, rfl, Lib.hid (Rb.none_ _ _ _), Lib.hid cap0, Below.refl _ _⟩
          · rw [if_neg (by simp only [decide_eq_false_iff_not]; omega), if_neg hbig] at hD
            simp only [Prod.mk.injEq] at hD
            obtain ⟨rfl, rfl, rfl⟩ := hD
            have HKn : Hid (k = n - (i + 1)) := Lib.hid (by rw [HK.out, List.length_drop]; have := HN.out; omega)
            have HCut0 := HR.out.cut (c := c) (k := i + 1) (by omega) (by have := HN.out; omega)
            obtain ⟨X, hX⟩ : ∃ X, (if c = i + 1 then some (⟨bk, off, none⟩ : Addr) else some ⟨bk, off + (i + 1), none⟩) = X := ⟨_, rfl⟩
            have HCut : Hid (Rb wr B X (l.drop (i + 1))) := Lib.hid (by rw [← hX]; exact HCut0)
            clear HCut0
            have HCC := Lib.hid (show n - (i + 1) ≤ c - (i + 1) ∧ c - (i + 1) ≤ 9223372036854775807 by omega)
            clear hy hym hm
            by_cases hy1 : y = 0
            · have hi0 : ¬ (0 : Int) < (i : Int) := by omega
              have hyz : ((y : Int) == 0) = true := by rw [hy1]; rfl
              have hi0n : ¬ 0 < i := by omega
              clear hy1 hy0
              go_upto_region 11 with fail
              go_quiet (fail)
              go_wp2_with fail
              go_ret3
              exact ⟨X, c - (i + 1), by rw [HKn.out]; rfl, HCut, Lib.hid (by rw [HKn.out]; exact HCC.out), below_drewN wr _⟩
            · have hyz : ((y : Int) == 0) = false := by
                have : ¬ (y : Int) = 0 := by omega
                simpa using this
              clear hy1 hy0
              go_upto_region 11 with fail
              go_quiet (fail)
              go_wp2_with fail
              go_ret3
              exact ⟨X, c - (i + 1), by rw [HKn.out]; rfl, HCut, Lib.hid (by rw [HKn.out]; exact HCC.out), below_drewN wr _⟩
      · have h8z : (128 : Int) ≤ (y : Int) := by omega
        have HN2 : Hid (fin a' (i + 1) (Kc.gu (9 - (i + 1)) (decide (i + 1 = 0)) (l.drop (i + 1))) = (x, r, z)) := Lib.hid (by
          rw [fin_next h8, hm, HA] at hD
          have e : decide (i + 1 = 0) = false := by simp
          have e9 : 9 - (i + 1) = q9 := by omega
          rw [e, e9]; exact hD)
        clear HA hm hy
        go_wp2_with fail
        go_roundg g
        case measure => omega
        case rel => exact ⟨i + 1, a', by omega, by simp, by rw [e3], HAB.out, HN2, rfl⟩
theorem getU_of : GetUC := by
  intro A n c l r x k z hn hc hg hk w hr
  refine (getU_at A n c l r x k z hn hc hg hk w w.heap.size hr).mono ?_
  rintro e w1 ⟨A1, c1, he, h1, h2, h3⟩
  exact ⟨A1, c1, he, Lib.hid (h1.out.on h3), h2, h3⟩
end Go.Proofs.Ytmcmlfmfhljphaa

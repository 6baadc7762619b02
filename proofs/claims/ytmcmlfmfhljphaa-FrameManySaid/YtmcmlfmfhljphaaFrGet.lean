/-
  Layer frame: Get, with a base of the caller's choice.
-/
import Derived.Test.YtmcmlfmfhljphaaFrPut
import Derived.Test.YtmcmlfmfhljphaaFrGetU
namespace Go.Proofs.Ytmcmlfmfhljphaa
open Go.RowKit

def GetAtC : Prop := ∀ (A : Option Addr) (n c : Nat) (l p r : List Nat) (q k : Nat) (z : Int), n = l.length → Cap n c → Kf.get l = (p, r, z) → q = p.length → k = r.length → ∀ (w : World) (B : Nat), Rb w B A l →
  Calls Try.prog 13 #[.slice A n c] w fun e w' => ∃ X d Y c', e = .returned (.tuple #[.slice X q d, .slice Y k c', .int .i64 z]) ∧ Hid (Rb w B X p) ∧ Hid (Cap q d) ∧ Hid (Rb w B Y r) ∧ Hid (Cap k c') ∧ Below w.heap.size w w'

theorem rb_all {w : World} {B : Nat} {A : Option Addr} {l : List Nat} (h : Rb w B A l) : Rb w w.heap.size A l :=
  ⟨h.len, h.small, fun hn => by
    obtain ⟨b, off, e, _, hc⟩ := h.mem hn
    obtain ⟨x, r, rfl⟩ := List.exists_cons_of_ne_nil hn
    exact ⟨b, off, e, cell_lt (hc 0 x rfl), hc⟩⟩
set_option maxHeartbeats 1600000 in
theorem equal_of (A B : Option Addr) (n c m d : Nat) (l r : List Nat) (hn : n = l.length) (hm : m = r.length) (w : World) (hr : Rb w w.heap.size A l) (hs : Rb w w.heap.size B r) :
    Calls Try.prog 19 #[.slice A n c, .slice B m d] w fun e w' => e = .returned (.bool (decide (l = r))) ∧ Below w.heap.size w w' := by
  obtain ⟨S, hS⟩ : ∃ S, Kc.tx l = S := ⟨_, rfl⟩
  obtain ⟨T, hT⟩ : ∃ T, Kc.tx r = T := ⟨_, rfl⟩
  have X := fun W hb => txt_of (w := w) (c := c) hn hr hS W hb
  have Y := fun W hb => txt_of (w := w) (c := d) hm hs hT W hb
  have x0 := X w (Below.refl _ _)
  have y0 := Y w (Below.refl _ _)
  obtain ⟨b, hb⟩ : ∃ b, decide (l = r) = b := ⟨_, rfl⟩
  have e1 : (S.toList == T.toList) = b := by
    rw [← hb, ← hS, ← hT]
    by_cases h : l = r
    · subst h; simp
    · have h2 : ¬ (Kc.tx l).toList = (Kc.tx r).toList := fun e => h (Kc.tx_inj hr.small hs.small (Lp.tl_iff.1 e))
      rw [decide_eq_false h]
      simpa using h2
  rw [hb]
  clear hS hT hn hm hr hs X Y hb
  go_enter Try.func19, Try.ntmps19
  go_wp2_with fail
  go_ret
  exact ⟨rfl, Below.refl _ _⟩

set_option maxHeartbeats 3200000 in
set_option maxRecDepth 100000 in
theorem getR_at : GetAtC := by
  intro A n c l p r q k z hn hc hg hq hk w B hr
  rcases hu : Kc.getU l with ⟨u, t, y⟩
  have HG := Lib.hid hg
  have HN := Lib.hid hn
  have HC := Lib.hid hc
  have HQ := Lib.hid hq
  have HK := Lib.hid hk
  have HU := Lib.hid hu
  have HR := Lib.hid hr
  clear hg hn hc hq hk hu hr
  obtain ⟨tl, htl⟩ : ∃ k, t.length = k := ⟨_, rfl⟩
  have HT := Lib.hid htl
  clear htl
  have hgt := HG.out
  unfold Kf.get at hgt
  rw [HU.out] at hgt
  simp only at hgt
  go_enter Try.func13, Try.ntmps13
  go_wp2_with fail
  refine (getU_at A n c l t u tl y HN.out HC.out HU.out HT.out.symm w B HR.out).mono ?_
  rintro e w1 ⟨A1, c1, rfl, HR1, HC1, hw1⟩
  have htb : tl ≤ 9223372036854775807 := by have := HC1.out; unfold Cap at this; omega
  have zero : p = [] → r = [] → q = 0 ∧ k = 0 := fun hp hr => ⟨by rw [HQ.out, hp]; rfl, by rw [HK.out, hr]; rfl⟩
  by_cases hy : y = 0
  · subst hy
    rw [if_pos rfl] at hgt
    by_cases h4 : 65536 < u
    · have h4z : (65536 : Int) < (u : Int) := by omega
      rw [if_pos h4] at hgt
      simp only [Prod.mk.injEq] at hgt
      obtain ⟨rfl, rfl, rfl⟩ := hgt
      obtain ⟨rfl, rfl⟩ := zero rfl rfl
      go_wp2_with fail
      go_ret3
      exact ⟨none, 0, none, 0, rfl, Lib.hid (Rb.none_ _ _ _), Lib.hid cap0, Lib.hid (Rb.none_ _ _ _), Lib.hid cap0, hw1⟩
    · have h4z : ¬ (65536 : Int) < (u : Int) := by omega
      rw [if_neg h4] at hgt
      obtain ⟨u4, hu4⟩ : ∃ k, u + 4 = k := ⟨_, rfl⟩
      have hu4z : (u : Int) + 4 = (u4 : Int) := by omega
      have hwr : wrap64 (u4 : Int) = (u4 : Int) := IntWalk.wrap64_in _ (by omega)
      by_cases h3 : tl < u4
      · have h3z : (tl : Int) < (u4 : Int) := by omega
        rw [if_pos (by rw [HT.out, hu4]; exact h3)] at hgt
        simp only [Prod.mk.injEq] at hgt
        obtain ⟨rfl, rfl, rfl⟩ := hgt
        obtain ⟨rfl, rfl⟩ := zero rfl rfl
        go_wp2_with fail
        go_ret3
        exact ⟨none, 0, none, 0, rfl, Lib.hid (Rb.none_ _ _ _), Lib.hid cap0, Lib.hid (Rb.none_ _ _ _), Lib.hid cap0, hw1⟩
      · have h3z : ¬ (tl : Int) < (u4 : Int) := by omega
        rw [if_neg (by rw [HT.out, hu4]; exact h3)] at hgt
        have hcap : tl ≤ c1 ∧ c1 ≤ 9223372036854775807 := HC1.out
        have R1 : Hid (Rb w B A1 (t.take u)) := Lib.hid (HR1.out.take u)
        have R2 : Hid (Rb w B (A1.map fun x => x.add u) ((t.drop u).take 4)) := Lib.hid (by
          have := (HR1.out.cut (c := c1) (k := u) (by rw [HT.out]; omega) (by rw [HT.out]; omega)).take 4
          rwa [if_neg (by omega)] at this)
        obtain ⟨Y, hY⟩ : ∃ Y, (if c1 = u4 then A1 else A1.map fun x => x.add u4) = Y := ⟨_, rfl⟩
        have R3 : Hid (Rb w B Y (t.drop u4)) := Lib.hid (hY ▸ HR1.out.cut (c := c1) (k := u4) (by rw [HT.out]; omega) (by rw [HT.out]; omega) : Rb w B Y (t.drop u4))
        have h1 : u ≤ u4 := by omega
        have h2 : u4 ≤ tl := by omega
        have h2c : u4 ≤ c1 := by omega
        have h1c : u ≤ c1 := by omega
        have hd : u4 - u = 4 := by omega
        have hg2 := Lib.hid hgt
        clear hgt
        go_upto_region 8 with fail
        go_quiet (fail)
        have hwd := hw1.trans (below_drewN w1 nq |>.mono hw1.size)
        have S1 := Lib.hid ((rb_all R1.out).on hwd)
        have S2 := Lib.hid ((rb_all R2.out).on hwd)
        have L1 : Hid (u = (t.take u).length) := Lib.hid (by rw [List.length_take, HT.out]; omega)
        have L2 : Hid (4 = ((t.drop u).take 4).length) := Lib.hid (by rw [List.length_take, List.length_drop, HT.out]; omega)
        have L3 : Hid (tl - u4 = (t.drop u4).length) := Lib.hid (by rw [List.length_drop, HT.out])
        have C1 : Hid (Cap u u) := Lib.hid ⟨Nat.le_refl _, by omega⟩
        have C3 : Hid (Cap (tl - u4) (c1 - u4)) := Lib.hid ⟨by omega, by omega⟩
        go_wp2_with fail
        refine (sumOf_of A1 u u (t.take u) _ L1.out rfl _ S1.out).mono ?_
        rintro e w2 ⟨T, ct, rfl, HT4, HCt, hw2⟩
        have hb2 := hwd.trans (hw2.mono hwd.size)
        have S2' := Lib.hid (S2.out.on hw2)
        have heq := equal_of (A1.map fun x => x.add u) T 4 (c1 - u) 4 ct _ _ L2.out rfl w2 S2'.out HT4.out
        clear hw2 hwd S1 S2 S2' HT4
        by_cases h : (t.drop u).take 4 = Kf.tail4 (t.take u)
        · rw [decide_eq_true h] at heq
          go_wp2_with fail
          refine heq.mono ?_
          rintro e w3 ⟨rfl, hw3⟩
          clear heq
          have hb := hb2.trans (hw3.mono hb2.size)
          have hgt := hg2.out
          rw [if_pos h, hu4] at hgt
          simp only [Prod.mk.injEq] at hgt
          obtain ⟨rfl, rfl, rfl⟩ := hgt
          obtain rfl : q = u := by rw [HQ.out, ← L1.out]
          obtain rfl : k = tl - u4 := by rw [HK.out, ← L3.out]
          go_wp2_with fail
          go_ret3
          exact ⟨A1, _, Y, c1 - u4, rfl, R1, C1, R3, C3, hb⟩
        · rw [decide_eq_false h] at heq
          go_wp2_with fail
          refine heq.mono ?_
          rintro e w3 ⟨rfl, hw3⟩
          clear heq
          have hb := hb2.trans (hw3.mono hb2.size)
          have hgt := hg2.out
          rw [if_neg h] at hgt
          simp only [Prod.mk.injEq] at hgt
          obtain ⟨rfl, rfl, rfl⟩ := hgt
          obtain ⟨rfl, rfl⟩ := zero rfl rfl
          go_wp2_with fail
          go_ret3
          exact ⟨none, 0, none, 0, rfl, Lib.hid (Rb.none_ _ _ _), Lib.hid cap0, Lib.hid (Rb.none_ _ _ _), Lib.hid cap0, hb⟩
  · rw [if_neg hy] at hgt
    simp only [Prod.mk.injEq] at hgt
    obtain ⟨rfl, rfl, rfl⟩ := hgt
    obtain ⟨rfl, rfl⟩ := zero rfl rfl
    have hyb : (y != 0) = true := by simpa using hy
    go_wp2_with fail
    go_ret3
    exact ⟨none, 0, none, 0, rfl, Lib.hid (Rb.none_ _ _ _), Lib.hid cap0, Lib.hid (Rb.none_ _ _ _), Lib.hid cap0, hw1⟩
end Go.Proofs.Ytmcmlfmfhljphaa

/-
  The walks of GetInt and GetText of layer codec.
-/
import Derived.Test.YtnieojdlmanckaaCodGetU
import Derived.Deep.RegionHeld
namespace Go.Proofs.Ytnieojdlmanckaa
open Go.RowKit

theorem getI_eq (l : List Nat) : Kc.getI l = (Kc.unzig (Kc.getU l).1, (Kc.getU l).2.1, (Kc.getU l).2.2) := by
  rcases h : Kc.getU l with ⟨u, rr, z⟩
  unfold Kc.getI
  rw [h]
  by_cases hz : z = 0
  · subst hz; rfl
  · obtain ⟨rfl, rfl⟩ := Kc.getU_no h hz
    show (if z = 0 then _ else _) = _
    rw [if_neg hz]
    simp [Kc.unzig]
theorem getU_le {l : List Nat} {u : Nat} {rr : List Nat} {z : Int} (hs : ∀ x ∈ l, x < 256) (h : Kc.getU l = (u, rr, z)) : u ≤ 1152921504606846976 := by
  by_cases hz : z = 0
  · subst hz; exact (Kc.getU_only hs h).2
  · obtain ⟨rfl, _⟩ := Kc.getU_no h hz
    omega
set_option maxHeartbeats 3200000 in
theorem getI_of : GetIC := by
  intro A n c l r x k z hn hc hg hk w hr
  have HR := Lib.hid hr
  rw [getI_eq] at hg
  rcases h : Kc.getU l with ⟨u, rr, y⟩
  rw [h] at hg
  simp only [Prod.mk.injEq] at hg
  obtain ⟨hx, rfl, rfl⟩ := hg
  have hu := getU_le hr.small h
  have HX := Lib.hid hx
  have HN := Lib.hid hn
  have HK := Lib.hid hk
  have HU := Lib.hid h
  have HC := Lib.hid hc
  clear hx hn hk h hc hr
  go_enter Try.func16, Try.ntmps16
  go_wp2_with fail
  refine (getU_of A n c l rr u k y HN.out HC.out HU.out HK.out w HR.out).mono ?_
  rintro e w1 ⟨A1, c1, rfl, h1⟩
  obtain ⟨q, hq⟩ : ∃ q, u / 2 = q := ⟨_, rfl⟩
  have e1 : (u : Int) / 2 = (q : Int) := by omega
  by_cases h2 : u % 2 = 1
  · have e2 : (u : Int) % 2 = 1 := by omega
    have hx : x = -(q : Int) - 1 := by
      rw [← HX.out]; unfold Kc.unzig; rw [if_pos h2]; omega
    clear hq
    go_wp2_with fail
    go_ret3
    exact ⟨A1, c1, by rw [hx]; rfl, h1⟩
  · have e2 : (u : Int) % 2 = 0 := by omega
    have hx : x = (q : Int) := by
      rw [← HX.out]; unfold Kc.unzig; rw [if_neg h2]; omega
    clear hq
    go_wp2_with fail
    go_ret3
    exact ⟨A1, c1, by rw [hx]; rfl, h1⟩
set_option maxHeartbeats 3200000 in
set_option maxRecDepth 100000 in
theorem getT_at (A : Option Addr) (n c : Nat) (l a r : List Nat) (S : ByteArray) (k : Nat) (z : Int) (hn : n = l.length) (hc : Cap n c) (hg : Kc.getT l = (a, r, z)) (hS : Kc.tx a = S) (hk : k = r.length) (w : World) (B : Nat) (hB : B ≤ w.heap.size) (hr : Rb w B A l) :
    Calls Try.prog 17 #[.slice A n c] w fun e w' => ∃ A' c', e = .returned (.tuple #[.string S, .slice A' k c', .int .i64 z]) ∧ Hid (Rb w B A' r) ∧ Hid (Cap k c') ∧ Below w.heap.size w w' := by
  rcases h : Kc.getU l with ⟨u, rr, y⟩
  have hu := getU_le hr.small h
  have HG := Lib.hid hg
  have HS := Lib.hid hS
  have HK := Lib.hid hk
  have HN := Lib.hid hn
  have HU := Lib.hid h
  have HC := Lib.hid hc
  have HR := Lib.hid hr
  clear hg hS hk hn h hc hr
  go_enter Try.func17, Try.ntmps17
  go_wp2_with fail
  refine (getU_at A n c l rr u rr.length y HN.out HC.out HU.out rfl w B HR.out).mono ?_
  rintro e w1 ⟨A1, c1, rfl, HR1, HC1, hw1⟩
  obtain ⟨n1, hn1⟩ : ∃ n1, rr.length = n1 := ⟨_, rfl⟩
  rw [hn1] at HC1 ⊢
  have HN1 := Lib.hid hn1
  clear hn1
  have hgt := HG.out
  unfold Kc.getT at hgt
  rw [HU.out] at hgt
  simp only at hgt
  have hn1b : n1 ≤ 9223372036854775807 := by have := HC1.out; unfold Cap at this; omega
  by_cases hy : y = 0
  · subst hy
    rw [if_pos rfl] at hgt
    by_cases h4 : 65536 < u
    · have h4z : (65536 : Int) < (u : Int) := by omega
      rw [if_pos h4] at hgt
      simp only [Prod.mk.injEq] at hgt
      obtain ⟨rfl, rfl, rfl⟩ := hgt
      obtain rfl : k = 0 := HK.out
      obtain rfl : S = ⟨#[]⟩ := HS.out.symm
      go_wp2_with fail
      go_ret3
      exact ⟨none, 0, rfl, Lib.hid (Rb.none_ _ _ _), Lib.hid cap0, hw1⟩
    · have h4z : ¬ (65536 : Int) < (u : Int) := by omega
      rw [if_neg h4] at hgt
      by_cases h3 : n1 < u
      · have h3z : (n1 : Int) < (u : Int) := by omega
        rw [if_pos (by rw [HN1.out]; exact h3)] at hgt
        simp only [Prod.mk.injEq] at hgt
        obtain ⟨rfl, rfl, rfl⟩ := hgt
        obtain rfl : k = 0 := HK.out
        obtain rfl : S = ⟨#[]⟩ := HS.out.symm
        go_wp2_with fail
        go_ret3
        exact ⟨none, 0, rfl, Lib.hid (Rb.none_ _ _ _), Lib.hid cap0, hw1⟩
      · have h3z : ¬ (n1 : Int) < (u : Int) := by omega
        rw [if_neg (by rw [HN1.out]; exact h3)] at hgt
        simp only [Prod.mk.injEq] at hgt
        obtain ⟨rfl, rfl, rfl⟩ := hgt
        have hcap : n1 ≤ c1 ∧ c1 ≤ 9223372036854775807 := HC1.out
        have HKn : Hid (k = n1 - u) := Lib.hid (by rw [HK.out, List.length_drop, HN1.out])
        have HCut0 := HR1.out.cut (c := c1) (k := u) (by rw [HN1.out]; omega) (by rw [HN1.out]; omega)
        have HCC := Lib.hid (show n1 - u ≤ c1 - u ∧ c1 - u ≤ 9223372036854775807 by omega)
        have X : Hid (Txt w1 A1 u c1 S) := Lib.hid (txt_of (by rw [List.length_take, HN1.out]; omega) (((HR1.out.more hB).on hw1).take u) HS.out)
        have hun : u ≤ n1 := by omega
        have hucp : u ≤ c1 := by omega
        clear HC1 HK
        obtain ⟨Z, hZ⟩ : ∃ Z, (if c1 = u then A1 else A1.map fun x => x.add u) = Z := ⟨_, rfl⟩
        have HCut : Hid (Rb w B Z (rr.drop u)) := Lib.hid (by rw [← hZ]; exact HCut0)
        clear HCut0
        go_upto_region 8 with fail
        first | (go_region_held (fun W => (convert 23 9 (.slice A1 u c1)).run Try.prog W = .ok (.string S) W)
          (first | exact X.out _ (Below.refl _ _).drew) (fail)) | fail
        go_wp2_with fail
        go_ret3
        exact ⟨Z, c1 - u, by rw [HKn.out]; rfl, HCut, Lib.hid (by rw [HKn.out]; exact HCC.out), hw1.drew⟩
  · rw [if_neg hy] at hgt
    simp only [Prod.mk.injEq] at hgt
    obtain ⟨rfl, rfl, rfl⟩ := hgt
    obtain ⟨rfl, rfl⟩ := Kc.getU_no HU.out hy
    obtain rfl : k = 0 := HK.out
    obtain rfl : S = ⟨#[]⟩ := HS.out.symm
    have hyb : (y != 0) = true := by simpa using hy
    have hyb2 : (y == 0) = false := by simpa using hy
    clear hy
    go_wp2_with fail
    go_ret3
    exact ⟨none, 0, rfl, Lib.hid (Rb.none_ _ _ _), Lib.hid cap0, hw1⟩
theorem getT_of : GetTC := by
  intro A n c l a r S k z hn hc hg hS hk w hr
  refine (getT_at A n c l a r S k z hn hc hg hS hk w w.heap.size (Nat.le_refl _) hr).mono ?_
  rintro e w1 ⟨A1, c1, he, h1, h2, h3⟩
  exact ⟨A1, c1, he, Lib.hid (h1.out.on h3), h2, h3⟩
end Go.Proofs.Ytnieojdlmanckaa

/-
  The walk of layer frame's law FrameCut: it answers true.
-/
import Derived.Test.YtmcmlfmfhljphaaFrMany
namespace Go.Proofs.Ytmcmlfmfhljphaa
open Go.RowKit

theorem recs_mono (L : List (List Nat)) {i j : Nat} (h : i ≤ j) : (Kf.recs (L.take i)).length ≤ (Kf.recs (L.take j)).length := by
  have e := List.take_append_drop i (L.take j)
  rw [List.take_take, Nat.min_eq_left h] at e
  have := congrArg (fun x => (Kf.recs x).length) e
  simp only [Kf.recs_app, List.length_append] at this
  omega
theorem whole_at (L : List (List Nat)) (t : Nat) : ∀ f i, i + f = L.length → (Kf.recs (L.take i)).length ≤ t → ∃ j, j ≤ L.length ∧ (Kf.recs (L.take j)).length ≤ t ∧ (j = L.length ∨ t < (Kf.recs (L.take (j + 1))).length)
  | 0, i, hi, h => ⟨i, by omega, h, .inl (by omega)⟩
  | f + 1, i, hi, h => by
    by_cases h1 : t < (Kf.recs (L.take (i + 1))).length
    · exact ⟨i, by omega, h, .inr h1⟩
    · exact whole_at L t f (i + 1) (by omega) (by omega)
set_option maxHeartbeats 6400000 in
set_option maxRecDepth 100000 in
theorem frameCut_any (H : Frm) (A : Option Addr) (c n : Nat) (L : List (List Nat)) (cut : Int) (w : World) (hn : n = L.length) (hr : Rl w w.heap.size A L) (hnc : Cap n c) :
    Calls Try.prog 3 #[.slice A n c, .int .i64 cut] w fun e w' => e = .returned (.bool true) ∧ Below w.heap.size w w' := by
  have HN := Lib.hid hn
  have HR := Lib.hid hr
  obtain ⟨hnc1, hnc2⟩ := hnc
  clear hn hr
  go_enter Try.func3, Try.ntmps3
  go_wp2_with fail
  refine (awake_any H _).mono ?_
  rintro e w1 ⟨rfl, hb1⟩
  go_wp2_with fail
  refine (small_of A c n L HN.out _ (HR.out.on hb1)).mono ?_
  rintro e w2 ⟨b, rfl, hsm, hw2⟩
  have hb2 := below_on hb1 hw2
  clear hw2 hb1
  cases b with
  | false =>
    go_wp2_with fail
    go_ret
    exact ⟨rfl, hb2⟩
  | true =>
  obtain ⟨hn20, h200⟩ := hsm rfl
  have h65 : ∀ p ∈ L, p.length ≤ 65536 := fun p hp => by have := h200 p hp; omega
  have B0 : Hid (∀ j, (Kf.recs (L.take j)).length ≤ 1000000) := Lib.hid (fun j => by
    have := recs_bd (L := L.take j) (fun p hp => h200 p (List.mem_of_mem_take hp)) (by have := HN.out; rw [List.length_take]; omega)
    omega)
  have hfull : (Kf.recs L).length ≤ 5000 := recs_bd h200 (by have := HN.out; omega)
  obtain ⟨k0, hk0⟩ : ∃ k, (Kf.recs L).length = k := ⟨_, rfl⟩
  obtain ⟨t, ht, htk⟩ := cut_at cut k0
  obtain ⟨i, hi1, hi2, hi3⟩ := whole_at L t L.length 0 (by omega) (by simp [Kf.recs])
  obtain ⟨u, hu⟩ : ∃ u, (Kf.recs (L.take i)).length = u := ⟨_, rfl⟩
  obtain ⟨z, hz⟩ : ∃ z : Int, (if t = (Kf.recs (L.take i)).length then 0 else 3) = z := ⟨_, rfl⟩
  have hall := Kf.all_cut h65 (at_ := t) (i := i) (by omega) hi1 hi2 hi3
  rw [hz, hu] at hall
  have HZ : Hid ((z = 0 ∧ u = t) ∨ (z = 3 ∧ u < t)) := Lib.hid (by
    rw [hu] at hz hi2
    by_cases h : t = u
    · rw [if_pos h] at hz; exact .inl ⟨hz.symm, h.symm⟩
    · rw [if_neg h] at hz; exact .inr ⟨hz.symm, by omega⟩)
  have HX : Hid (i = n ∨ t < (Kf.recs (L.take (i + 1))).length) := Lib.hid (by have := HN.out; rcases hi3 with h | h; exact .inl (by omega); exact .inr h)
  have hin : i ≤ n := by have := HN.out; omega
  have hut : u ≤ t := by rw [← hu]; exact hi2
  have G0 := Lib.hid hall
  have H65 := Lib.hid h65
  have K0 := Lib.hid hk0.symm
  have HU := Lib.hid hu
  have HT : Hid (t = ((Kf.recs L).take t).length) := Lib.hid (by rw [List.length_take]; omega)
  have B1 : Hid ((Kf.recs L).length ≤ 1000000) := Lib.hid (by omega)
  have HI : Hid (i = (L.take i).length) := Lib.hid (by rw [List.length_take]; omega)
  have HKo := Lib.hid ht
  have hk0b : k0 ≤ 5000 := by omega
  have huu : ((u : Int) != (u : Int)) = false := by simp
  have htkz : (t : Int) ≤ (k0 : Int) := by omega
  clear hk0 hu hz hall hi1 hi2 hi3 h65 h200 hsm hfull
  go_wp2_with fail
  refine (records_of H A c n L _ k0 HN.out H65.out B1.out rfl K0.out _ (HR.out.on hb2)).mono ?_
  rintro e w3 ⟨A3, c3, rfl, HR3, HC3, hw3⟩
  have hb3 := below_on hb2 hw3
  obtain ⟨hc31, hc32⟩ := HC3.out
  have hc3z : (t : Int) ≤ (c3 : Int) := by omega
  have HCt : Hid (Cap t c3) := Lib.hid ⟨by omega, hc32⟩
  have HR3t := Lib.hid (HR3.out.take t)
  clear hw3 hb2 HR3
  go_wp2_with fail
  refine (H.all A3 t c3 _ (L.take i) i u z HT.out (by have := B1.out; rw [List.length_take]; omega) HCt.out G0.out HI.out _ HR3t.out).mono ?_
  rintro e w4 ⟨A4, c4, rfl, HR4, HC4, hw4⟩
  have hb4 := below_on hb3 hw4
  clear hw4 hb3 HR3t HCt hc31 hc32 hc3z HC3
  go_wp2_with fail
  go_loopg [11, 12] i (fun g s11 s12 wx => ∃ (j v : Nat), j + g = i ∧ s11 = .int .i64 j ∧ s12 = .int .i64 v ∧ Hid (v = (Kf.recs (L.take j)).length) ∧ Below w4.heap.size w4 wx)
  case atStart => exact ⟨0, 0, by omega, rfl, rfl, Lib.hid (by simp [Kf.recs]), Below.refl _ _⟩
  case round =>
    obtain ⟨j, v, hj, rfl, rfl, HV, hwx⟩ := hrel
    have hbx := below_on hb4 hwx
    have HR4x := Lib.hid (HR4.out.on hwx)
    cases gk with
    | zero =>
      obtain rfl : j = i := by omega
      obtain rfl : v = u := by rw [HV.out, HU.out]
      have hjc : (j : Int) ≤ (c : Int) := by omega
      have hj0 : (0 : Int) ≤ (j : Int) := by omega
      rcases HX.out with rfl | hx
      · go_wp2_with fail
        refine (same_of A4 A c4 c j (L.take j) HI.out _ HR4x.out ((HR.out.on hbx).take j)).mono ?_
        rintro e w5 ⟨rfl, hw5⟩
        have hb5 := below_on hbx hw5
        rcases HZ.out with ⟨rfl, rfl⟩ | ⟨rfl, hlt⟩
        · have hvv : ((v : Int) == (v : Int)) = true := by simp
          go_wp2_with fail
          go_ret
          exact ⟨rfl, hb5⟩
        · have hltz : decide ((v : Int) < (t : Int)) = true := by simp; omega
          go_wp2_with fail
          go_ret
          exact ⟨rfl, hb5⟩
      · by_cases hjn : j = n
        · subst hjn
          go_wp2_with fail
          refine (same_of A4 A c4 c j (L.take j) HI.out _ HR4x.out ((HR.out.on hbx).take j)).mono ?_
          rintro e w5 ⟨rfl, hw5⟩
          have hb5 := below_on hbx hw5
          rcases HZ.out with ⟨rfl, rfl⟩ | ⟨rfl, hlt⟩
          · have hvv : ((v : Int) == (v : Int)) = true := by simp
            go_wp2_with fail
            go_ret
            exact ⟨rfl, hb5⟩
          · have hltz : decide ((v : Int) < (t : Int)) = true := by simp; omega
            go_wp2_with fail
            go_ret
            exact ⟨rfl, hb5⟩
        · obtain ⟨x, hxl⟩ : ∃ x, (Kf.recs (L.take (j + 1))).length = x := ⟨_, rfl⟩
          have hxt : ¬ ((x : Int) ≤ (t : Int)) := by omega
          have HXL := Lib.hid hxl.symm
          have hltz : (j : Int) < (n : Int) := by omega
          have hj1 : (j : Int) + 1 ≤ (c : Int) := by omega
          have HJ1 : Hid (j + 1 = (L.take (j + 1)).length) := Lib.hid (by rw [List.length_take]; have := HN.out; omega)
          clear hxl hx
          go_wp2_with fail
          refine (records_of H A c (j + 1) (L.take (j + 1)) _ x HJ1.out (fun p hp => H65.out p (List.mem_of_mem_take hp)) (B0.out _) rfl HXL.out _ ((HR.out.on hbx).take _)).mono ?_
          rintro e w6 ⟨A6, c6, rfl, _, _, hw6⟩
          have hb6 := below_on hbx hw6
          have HR6 := Lib.hid (HR4x.out.on hw6)
          go_wp2_with fail
          refine (same_of A4 A c4 c j (L.take j) HI.out _ HR6.out ((HR.out.on hb6).take j)).mono ?_
          rintro e w5 ⟨rfl, hw5⟩
          have hb5 := below_on hb6 hw5
          rcases HZ.out with ⟨rfl, rfl⟩ | ⟨rfl, hlt⟩
          · have hvv : ((v : Int) == (v : Int)) = true := by simp
            go_wp2_with fail
            go_ret
            exact ⟨rfl, hb5⟩
          · have hltz : decide ((v : Int) < (t : Int)) = true := by simp; omega
            go_wp2_with fail
            go_ret
            exact ⟨rfl, hb5⟩
    | succ g =>
      have hjn : j < n := by omega
      obtain ⟨x, hxl⟩ : ∃ x, (Kf.recs (L.take (j + 1))).length = x := ⟨_, rfl⟩
      have hxt : (x : Int) ≤ (t : Int) := by
        have := recs_mono L (i := j + 1) (j := i) (by omega)
        have := HU.out
        omega
      have HXL := Lib.hid hxl.symm
      have hltz : (j : Int) < (n : Int) := by omega
      have hj1 : (j : Int) + 1 ≤ (c : Int) := by omega
      have HJ1 : Hid (j + 1 = (L.take (j + 1)).length) := Lib.hid (by rw [List.length_take]; have := HN.out; omega)
      clear hxl
      go_wp2_with fail
      refine (records_of H A c (j + 1) (L.take (j + 1)) _ x HJ1.out (fun p hp => H65.out p (List.mem_of_mem_take hp)) (B0.out _) rfl HXL.out _ ((HR.out.on hbx).take _)).mono ?_
      rintro e w6 ⟨A6, c6, rfl, _, _, hw6⟩
      have hb6 := below_on hbx hw6
      go_wp2_with fail
      refine (records_of H A c (j + 1) (L.take (j + 1)) _ x HJ1.out (fun p hp => H65.out p (List.mem_of_mem_take hp)) (B0.out _) rfl HXL.out _ ((HR.out.on hb6).take _)).mono ?_
      rintro e w7 ⟨A7, c7, rfl, _, _, hw7⟩
      go_wp2_with fail
      go_roundg g
      case measure => omega
      case rel => exact ⟨j + 1, x, by omega, by simp, rfl, HXL, below_on (below_on hwx hw6) hw7⟩
end Go.Proofs.Ytmcmlfmfhljphaa

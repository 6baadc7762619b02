/-
  The walk of layer label's law LabelMade: it answers true.
-/
import Derived.Test.YthknoanhljonoaaLabAs
namespace Go.Proofs.Ythknoanhljonoaa
open Go.RowKit Go.Proofs.Ythknoanhljonoaa.Lp

theorem rev_snoc {l : List Pr} {j : Nat} {p : Pr} (h : l[j]? = some p) : (l.drop j).reverse = (l.drop (j + 1)).reverse ++ [p] := by
  obtain ⟨h1, rfl⟩ := List.getElem?_eq_some_iff.1 h
  rw [List.drop_eq_getElem_cons h1, List.reverse_cons]

set_option maxHeartbeats 6400000 in
set_option maxRecDepth 100000 in
theorem labelMade_any (A : Option Addr) (c n : Nat) (la : List Pr) (w : World) (hn : n = la.length) (hra : Rd w w.heap.size A la) :
    Calls Try.prog 4 #[.slice A n c] w fun e w' => e = .returned (.bool true) ∧ Below w.heap.size w w' := by
  have HN := Lib.hid hn
  have HRa := Lib.hid hra
  clear hn hra
  go_enter Try.func4, Try.ntmps4
  go_wp2_with fail
  refine (awake_any _).mono ?_
  rintro e w1 ⟨rfl, hw1⟩
  go_wp2_with fail
  refine (few_of A c n la HN.out _ (HRa.out.on hw1)).mono ?_
  rintro e w2 ⟨b1, rfl, hb1, hw2⟩
  have hb2 := below_on hw1 hw2
  cases b1 with
  | false =>
    go_wp2_with fail
    go_ret
    exact ⟨rfl, hb2⟩
  | true =>
  have hn40 : n ≤ 40 := hb1 rfl
  clear hb1 hw2 hw1
  obtain ⟨z, hz⟩ : ∃ z, wrong la = z := ⟨_, rfl⟩
  obtain ⟨x, hx⟩ : ∃ x, makeS la = x := ⟨_, rfl⟩
  have HZ := Lib.hid hz
  have HX := Lib.hid hx
  clear hz hx
  by_cases hz0 : z = 0
  · subst hz0
    have HXl : Hid (n = x.length) := Lib.hid (by rw [← HX.out, made_len HZ.out, HN.out])
    have HSx : Hid (saneB x = true) := Lib.hid (by rw [← HX.out]; exact make_sane HZ.out)
    have HG : Hid (∀ N V, (N, V) ∈ la → getS (asL x) N = some V) := Lib.hid (fun N V h => by
      rw [asL_sane HSx.out, ← HX.out]
      exact made_got HZ.out h)
    have HT := Lib.hid (made_turned HZ.out)
    have HA2 := Lib.hid (made_again HZ.out)
    rw [HX.out] at HT HA2
    go_wp2_with fail
    refine (make_as A c n la HN.out x n 0 HZ.out HX.out HXl.out _ (HRa.out.on hb2)).mono ?_
    rintro e w3 ⟨A3, c3, rfl, HR3, hw3⟩
    have hb3 := below_on hb2 hw3
    clear hb2 hw3
    have hnz : ((n : Int) == (n : Int)) = true := by simp
    go_wp2_with fail
    go_loopg [6, 7, 8, 9] n (fun g s6 s7 _ _ wx => ∃ r : Nat, r = g ∧ r ≤ n ∧ s7 = .int .i64 ((r : Int) - 1) ∧ Hid (Own wx w3.heap.size s6 (la.drop r).reverse) ∧ Below w3.heap.size w3 wx)
    case atStart => exact ⟨n, rfl, Nat.le_refl _, rfl, Lib.hid (by rw [List.drop_eq_nil_of_le (by have := HN.out; omega)]; exact Own.nil _ _), Below.refl _ _⟩
    case round =>
      obtain ⟨r, rfl, hrn, rfl, HM, hwx⟩ := hrel
      cases r with
      | zero =>
        have ho := HM.out
        rw [List.drop_zero] at ho
        obtain ⟨A4, c4, rfl⟩ := Own.slice ho
        rw [List.length_reverse, ← HN.out] at ho ⊢
        have hr4 := Own.rd (l := la.reverse) (A := A4) (c := c4) (base := w3.heap.size) (by rw [List.length_reverse, ← HN.out]; exact ho) (by rw [List.length_reverse]; have := HN.out; omega) (fun p hp => HRa.out.size p (List.mem_reverse.1 hp))
        have HR4 := Lib.hid hr4
        clear hr4 ho HM
        go_wp2_with fail
        refine (make_as A4 c4 n la.reverse (by rw [List.length_reverse]; exact HN.out) x n 0 HT.out.1 HT.out.2 HXl.out _ HR4.out).mono ?_
        rintro e w5 ⟨A5, c5, rfl, HR5, hw5⟩
        have hb5 := below_on hwx hw5
        go_wp2_with fail
        refine (make_as A3 c3 n x HXl.out x n 0 HA2.out.1 HA2.out.2 HXl.out _ (HR3.out.on hb5)).mono ?_
        rintro e w6 ⟨A6, c6, rfl, HR6, hw6⟩
        have hb6 := below_on hb5 hw6
        have HR5' := Lib.hid (HR5.out.on hw6)
        clear hb5 hw5 hw6 HR5 hwx
        go_wp2_with fail
        refine (sane_of A3 c3 n x HXl.out true HSx.out _ (HR3.out.on hb6)).mono ?_
        rintro e w7 ⟨rfl, hw7⟩
        have hb7 := below_on hb6 hw7
        have HR5 := Lib.hid (HR5'.out.on hw7)
        have HR6' := Lib.hid (HR6.out.on hw7)
        clear hb6 HR5' HR6 hw7
        go_wp2_with fail
        refine (same_yes A3 A5 c3 c5 n n x HXl.out HXl.out _ (HR3.out.on hb7) HR5.out).mono ?_
        rintro e w8 ⟨rfl, hw8⟩
        have hb8 := below_on hb7 hw8
        go_wp2_with fail
        refine (same_yes A3 A6 c3 c6 n n x HXl.out HXl.out _ (HR3.out.on hb8) (HR6'.out.on hw8)).mono ?_
        rintro e w9 ⟨rfl, hw9⟩
        have hb9 := below_on hb8 hw9
        have hb39 := below_on hb3 hb9
        obtain ⟨s, hs⟩ : ∃ s, saneB la = s := ⟨_, rfl⟩
        have HS := Lib.hid hs
        clear hs
        go_wp2_with fail
        refine (sane_of A c n la HN.out s HS.out _ (HRa.out.on hb39)).mono ?_
        rintro e w10 ⟨rfl, hw10⟩
        have hb10 := below_on hb39 hw10
        cases s with
        | false =>
          go_wp2_with fail
          go_ret
          exact ⟨rfl, hb10⟩
        | true =>
          have HE : Hid (x = la) := Lib.hid (by rw [← HX.out]; exact sane_make HS.out)
          go_wp2_with fail
          refine (same_yes A A3 c c3 n n la HN.out HN.out _ (HRa.out.on hb10) (by have := HR3.out.on (below_on hb9 hw10); rwa [HE.out] at this)).mono ?_
          rintro e w11 ⟨rfl, hw11⟩
          go_wp2_with fail
          go_ret
          exact ⟨rfl, below_on hb10 hw11⟩
      | succ j =>
        have ej : (((j + 1 : Nat) : Int) - 1) = (j : Int) := by omega
        rw [ej]
        have hj0 : (0 : Int) ≤ (j : Int) := by omega
        obtain ⟨bk, off, rfl, hbk, hc⟩ := (HRa.out.below (below_on hb3 hwx)).all (by have := HN.out; omega)
        obtain ⟨N, V, hp⟩ := ex_at (l := la) (k := j) (by have := HN.out; omega)
        obtain ⟨c0, c1⟩ := hc _ _ hp
        have hbk' : bk < wr.heap.size := Nat.lt_of_lt_of_le hbk (below_on hb3 hwx).size
        have hjn : (j : Int) < (n : Int) := by omega
        have HSz := Lib.hid (HRa.out.size _ (List.mem_of_getElem? hp))
        have HP := Lib.hid (List.mem_of_getElem? hp)
        have HRev := Lib.hid (rev_snoc hp)
        have hdl : ((la.drop (j + 1)).reverse).length ≤ 1000 := by rw [List.length_reverse, List.length_drop]; have := HN.out; omega
        have hbs := hwx.size
        have hl1 : ((la.drop (j + 1)).reverse).length + [(N, V)].length ≤ 1000000 := by simp only [List.length_singleton]; omega
        have C0 : Hid (∀ w', Below w3.heap.size w3 w' → w'.cell? ⟨bk, off + j * 2, none⟩ = some (.string N) ∧ w'.cell? ⟨bk, off + j * 2 + 1, none⟩ = some (.string V)) := Lib.hid (fun w' hb => by
          have h0 := Nat.lt_of_lt_of_le hbk hb3.size
          exact ⟨(hb.cell (p := ⟨bk, off + j * 2, none⟩) h0).trans ((hwx.cell (p := ⟨bk, off + j * 2, none⟩) h0).symm.trans c0), (hb.cell (p := ⟨bk, off + j * 2 + 1, none⟩) h0).trans ((hwx.cell (p := ⟨bk, off + j * 2 + 1, none⟩) h0).symm.trans c1)⟩)
        have hbk3 := Nat.lt_of_lt_of_le hbk hb3.size
        clear hc hp ej
        go_wp2_with (at_builtin; refine wp_app _ rfl _ _ rfl w3.heap.size _ (la.drop (j + 1)).reverse [(N, V)] rfl (Own.alloc HM.out _) _ 1 _ rfl rfl (rd_new _ N V HSz.out.1 HSz.out.2 rfl) hl1 (by simp; omega) ?_; intro v4 w4 hown4 hb4; have hx4 := (hwx.alloc hbs _).trans hb4; obtain ⟨e0, e1⟩ := C0.out w4 hx4; have hlt4 : bk < w4.heap.size := Nat.lt_of_lt_of_le hbk3 hx4.size)
        refine (get_of A3 c3 n x HXl.out N (some V) (HG.out N V HP.out) _ (HR3.out.on hx4)).mono ?_
        rintro e w5 ⟨he, hw5⟩
        subst he
        unfold gotV
        have hx5 := below_on hx4 hw5
        obtain ⟨d0, d1⟩ := C0.out w5 hx5
        have hlt5 : bk < w5.heap.size := Nat.lt_of_lt_of_le hbk3 hx5.size
        rw [← HRev.out] at hown4
        have Hown5 := Lib.hid (Own.below hown4 hw5)
        clear hown4 e0 e1 hlt4 hb4 hbs
        go_wp2_with fail
        go_roundg j
        case measure => omega
        case rel => exact ⟨j, rfl, by omega, by simp, Hown5, hx5⟩
  · have HSa := Lib.hid (made_no (by rw [HZ.out]; exact hz0))
    have hx0 : x = [] := by rw [← HX.out]; exact make_no (by rw [HZ.out]; exact hz0)
    subst hx0
    have hne : (z == 0) = false := by simpa using hz0
    have hne' : (z != 0) = true := by simpa using hz0
    clear hz0
    go_wp2_with fail
    refine (make_as A c n la HN.out [] 0 z HZ.out HX.out rfl _ (HRa.out.on hb2)).mono ?_
    rintro e w3 ⟨A3, c3, rfl, HR3, hw3⟩
    have hb3 := below_on hb2 hw3
    go_wp2_with fail
    refine (sane_of A c n la HN.out false HSa.out _ (HRa.out.on hb3)).mono ?_
    rintro e w4 ⟨rfl, hw4⟩
    go_wp2_with fail
    go_ret
    exact ⟨rfl, below_on hb3 hw4⟩
end Go.Proofs.Ythknoanhljonoaa

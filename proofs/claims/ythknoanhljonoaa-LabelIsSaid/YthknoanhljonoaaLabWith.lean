/-
  The walks of label.replace, With, Without and Merge.
-/
import Derived.Test.YthknoanhljonoaaLabMake
namespace Go.Proofs.Ythknoanhljonoaa
open Go.RowKit Go.Maps Go.Proofs.Ythknoanhljonoaa.Lp

theorem drop_len (l : List Pr) (g : ByteArray → Bool) : (drop l g).length ≤ l.length := (drop_sub l g).length_le
set_option maxHeartbeats 1600000 in
theorem replace_of (A B : Option Addr) (c d n k : Nat) (l o : List Pr) (hn : n = l.length) (hk : k = o.length) (h1 : n ≤ 1000) (h2 : k ≤ 1000) (z : Int) (hz : wrong (repl l o) = z) (w : World) (hr : Rd w w.heap.size A l) (hs : Rd w w.heap.size B o) :
    Calls Try.prog 39 #[.slice A n c, .slice B k d] w fun e w' => ∃ A' c', e = .returned (.tuple #[.slice A' (makeS (repl l o)).length c', .int .i64 z]) ∧ Hid (Rd w' w'.heap.size A' (makeS (repl l o))) ∧ Below w.heap.size w w' := by
  have HN := Lib.hid hn
  have HK := Lib.hid hk
  have HZ := Lib.hid hz
  clear hn hk hz
  have hdl : (drop l (Lp.has o)).length + o.length ≤ 1000000 := by
    have := drop_len l (Lp.has o)
    have := HN.out
    have := HK.out
    omega
  have hsz : ∀ p ∈ repl l o, p.1.size ≤ 9223372036854775807 ∧ p.2.size ≤ 9223372036854775807 := by
    intro p hp
    unfold repl at hp
    rcases List.mem_append.1 hp with hp | hp
    · exact hr.size p ((drop_sub l _).subset hp)
    · exact hs.size p hp
  have HSz := Lib.hid hsz
  clear hsz
  go_enter Try.func39, Try.ntmps39
  go_wp2_with fail
  refine (names_of B d k o HK.out h2 _ hs).mono ?_
  rintro e w1 ⟨b, m, rfl, HM, hw1⟩
  have hsee := set_sees HM.out
  go_wp2_with fail
  refine (drop_of A c n l HN.out h1 b (Lp.has o) _ (hr.on hw1) hsee).mono ?_
  rintro e w2 ⟨v, rfl, HO, hw2⟩
  have hw12 := below_on hw1 hw2
  go_wp2_with (at_builtin; refine wp_app _ rfl _ _ rfl w1.heap.size v (drop l (Lp.has o)) o rfl HO.out B k d HK.out rfl (hs.on hw12) hdl hw2.size ?_; intro v3 w3 hown3 hw3)
  obtain ⟨A', c', rfl⟩ := Own.slice hown3
  have hr3 := Own.rd hown3 (by rw [List.length_append]; omega) HSz.out
  have hw13 : Below w.heap.size w w3 := hw12.trans (hw3.mono hw1.size)
  have Hown3 := Lib.hid hown3
  clear hown3
  obtain ⟨q, hq⟩ : ∃ q, (drop l (Lp.has o) ++ o).length = q := ⟨_, rfl⟩
  have HQ := Lib.hid hq
  rw [hq]
  clear hq
  go_wp2_with fail
  refine (make_of A' c' q (repl l o) HQ.out.symm z HZ.out _ hr3).mono ?_
  rintro e w4 ⟨A4, c4, rfl, HR4, hw4⟩
  go_wp2_with fail
  go_ret2
  exact ⟨A4, c4, rfl, HR4, below_on hw13 hw4⟩

set_option maxHeartbeats 1600000 in
theorem with_of (A : Option Addr) (c n : Nat) (l : List Pr) (hn : n = l.length) (nm v : ByteArray) (h1 : nm.size ≤ 9223372036854775807) (h2 : v.size ≤ 9223372036854775807) (z : Int) (hz : wrong (withP l nm v) = z) (w : World) (hr : Rd w w.heap.size A l) :
    Calls Try.prog 16 #[.slice A n c, .string nm, .string v] w fun e w' => ∃ A' c', e = .returned (.tuple #[.slice A' (makeS (withP l nm v)).length c', .int .i64 z]) ∧ Hid (Rd w' w'.heap.size A' (makeS (withP l nm v))) ∧ Below w.heap.size w w' := by
  have HN := Lib.hid hn
  have HZ := Lib.hid hz
  clear hn hz
  have h16 := sane_len (asL_is l)
  have HL : Hid (withP l nm v = repl (asL l) [(nm, v)]) := Lib.hid rfl
  generalize withP l nm v = x at HZ HL ⊢
  go_enter Try.func16, Try.ntmps16
  go_wp2_with fail
  refine (orNone_of A c n l HN.out _ hr).mono ?_
  rintro e w1 ⟨A1, c1, rfl, HR1, hw1⟩
  generalize asL l = m at HR1 HL h16
  obtain ⟨k, hk⟩ : ∃ k, m.length = k := ⟨_, rfl⟩
  rw [hk] at h16 ⊢
  have HK := Lib.hid hk
  clear hk hr
  have HX := HL.out
  subst HX
  go_wp2_with fail
  refine (replace_of A1 _ c1 1 k 1 m [(nm, v)] HK.out.symm rfl (by omega) (by omega) z HZ.out _ (HR1.out.on (below_alloc _ _)) (rd_new _ nm v h1 h2 rfl)).mono ?_
  rintro e w2 ⟨A2, c2, rfl, HR2, hw2⟩
  go_wp2_with fail
  go_ret2
  exact ⟨A2, c2, rfl, HR2, below_on (below_on hw1 (below_alloc _ _)) hw2⟩

theorem without_eq (l : List Pr) (n : ByteArray) : drop (asL l) (Lp.has [(n, n)]) = without l n := by
  unfold without
  congr 1
  rw [← eq_fun]
  funext x
  exact has_one n n x
set_option maxHeartbeats 1600000 in
theorem without_of (A : Option Addr) (c n : Nat) (l : List Pr) (hn : n = l.length) (nm : ByteArray) (h1 : nm.size ≤ 9223372036854775807) (w : World) (hr : Rd w w.heap.size A l) :
    Calls Try.prog 25 #[.slice A n c, .string nm] w fun e w' => ∃ A' c', e = .returned (.slice A' (without l nm).length c') ∧ Hid (Rd w' w'.heap.size A' (without l nm)) ∧ Below w.heap.size w w' := by
  have HN := Lib.hid hn
  clear hn
  have h16 := sane_len (asL_is l)
  have HL : Hid (drop (asL l) (Lp.has [(nm, nm)]) = without l nm) := Lib.hid (without_eq l nm)
  generalize without l nm = x at HL ⊢
  have hmm := @run_makeMap Try.prog
  go_enter Try.func25, Try.ntmps25
  go_wp2_with fail
  refine (orNone_of A c n l HN.out _ hr).mono ?_
  rintro e w1 ⟨A1, c1, rfl, HR1, hw1⟩
  generalize asL l = m at HR1 HL h16
  obtain ⟨k, hk⟩ : ∃ k, m.length = k := ⟨_, rfl⟩
  rw [hk] at h16 ⊢
  have HK := Lib.hid hk
  clear hk hr
  obtain ⟨w2, hrun, hown2, hgr2⟩ := World.ownsMap.update (t := 43) (World.ownsMap_made w1 Try.prog 9 (plainElem (H := Unit) Try.prog 4)) keyed Try.underlying43 (by unfold maxLen; omega) (key_of nm h1) (plainElem_bool Try.underlying4 true)
  have hw2 : Below w1.heap.size w1 w2 := (below_alloc w1 _).grown hgr2 (by simp) (fun k hk => by injection hk with hk; omega)
  have hsee : Sees w2 w1.heap.size (Lp.has [(nm, nm)]) := set_sees (l := [(nm, nm)]) hown2
  go_wp2_with fail
  refine (drop_of A1 c1 k m HK.out.symm (by omega) _ (Lp.has [(nm, nm)]) _ (HR1.out.on hw2) hsee).mono ?_
  rintro e w3 ⟨v, rfl, HO, hw3⟩
  obtain ⟨A3, c3, rfl⟩ := Own.slice HO.out
  have hr3 := Own.rd HO.out (by have := drop_len m (Lp.has [(nm, nm)]); have := HK.out; omega) (fun p hp => HR1.out.size p ((drop_sub m _).subset hp))
  rw [HL.out] at hr3 ⊢
  have HR3 := Lib.hid hr3
  go_wp2_with fail
  go_ret
  exact ⟨A3, c3, rfl, HR3, below_on (below_on hw1 hw2) hw3⟩

set_option maxHeartbeats 1600000 in
theorem merge_of (A B : Option Addr) (c d n k : Nat) (l o : List Pr) (hn : n = l.length) (hk : k = o.length) (z : Int) (hz : wrong (merge l o) = z) (w : World) (hr : Rd w w.heap.size A l) (hs : Rd w w.heap.size B o) :
    Calls Try.prog 18 #[.slice A n c, .slice B k d] w fun e w' => ∃ A' c', e = .returned (.tuple #[.slice A' (makeS (merge l o)).length c', .int .i64 z]) ∧ Hid (Rd w' w'.heap.size A' (makeS (merge l o))) ∧ Below w.heap.size w w' := by
  have HN := Lib.hid hn
  have HK := Lib.hid hk
  have HZ := Lib.hid hz
  clear hn hk hz
  have h1 := sane_len (asL_is l)
  have h2 := sane_len (asL_is o)
  have HL : Hid (merge l o = repl (asL l) (asL o)) := Lib.hid rfl
  generalize merge l o = x at HZ HL ⊢
  go_enter Try.func18, Try.ntmps18
  go_wp2_with fail
  refine (orNone_of A c n l HN.out _ hr).mono ?_
  rintro e w1 ⟨A1, c1, rfl, HR1, hw1⟩
  go_wp2_with fail
  refine (orNone_of B d k o HK.out _ (hs.on hw1)).mono ?_
  rintro e w2 ⟨A2, c2, rfl, HR2, hw2⟩
  generalize asL l = m at HR1 HL h1
  generalize asL o = q at HR2 HL h2
  obtain ⟨i, hi⟩ : ∃ i, m.length = i := ⟨_, rfl⟩
  obtain ⟨j, hj⟩ : ∃ j, q.length = j := ⟨_, rfl⟩
  rw [hi] at h1 ⊢
  rw [hj] at h2 ⊢
  have HI := Lib.hid hi
  have HJ := Lib.hid hj
  clear hi hj hr hs
  have HX := HL.out
  subst HX
  go_wp2_with fail
  refine (replace_of A1 A2 c1 c2 i j m q HI.out.symm HJ.out.symm (by omega) (by omega) z HZ.out _ (HR1.out.on hw2) HR2.out).mono ?_
  rintro e w3 ⟨A3, c3, rfl, HR3, hw3⟩
  go_wp2_with fail
  go_ret2
  exact ⟨A3, c3, rfl, HR3, below_on (below_on hw1 hw2) hw3⟩
end Go.Proofs.Ythknoanhljonoaa

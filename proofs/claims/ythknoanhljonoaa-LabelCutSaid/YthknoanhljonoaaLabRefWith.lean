/-
  The walks of the document's Without, With, Merge.
-/
import Derived.Test.YthknoanhljonoaaLabRefMake
import Derived.Test.YthknoanhljonoaaLabWith
namespace Go.Proofs.Ythknoanhljonoaa
open Go.RowKit Go.Maps Go.Proofs.Ythknoanhljonoaa.Lp

set_option maxHeartbeats 3200000 in
theorem rwithout_of (A : Option Addr) (c n : Nat) (l : List Pr) (hn : n = l.length) (nm : ByteArray) (w : World) (hr : Rd w w.heap.size A l) :
    Calls Try.prog 26 #[.slice A n c, .string nm] w fun e w' => ∃ A' c', e = .returned (.slice A' (without l nm).length c') ∧ Hid (Rd w' w'.heap.size A' (without l nm)) ∧ Below w.heap.size w w' := by
  have HN := Lib.hid hn
  clear hn
  have h16 := sane_len (asL_is l)
  have HL : Hid (drop (asL l) (fun x => decide (x = nm)) = without l nm) := Lib.hid rfl
  generalize without l nm = x at HL ⊢
  go_enter Try.func26, Try.ntmps26
  go_wp2_with fail
  refine (as_of A c n l HN.out _ hr).mono ?_
  rintro e w1 ⟨A1, c1, rfl, HR1, hw1⟩
  have hr1 := HR1.out
  generalize asL l = m at hr1 HL h16
  clear HR1
  obtain ⟨k, hk⟩ : ∃ k, m.length = k := ⟨_, rfl⟩
  rw [hk] at h16 ⊢
  have HK := Lib.hid hk
  clear hk hr
  go_wp2_with fail
  go_loopg [6, 7] k (fun g s6 s7 wx => ∃ i : Nat, i + g = k ∧ s7 = .int .i64 i ∧ Hid (Own wx w1.heap.size s6 (drop (m.take i) (fun x => decide (x = nm)))) ∧ Below w1.heap.size w1 wx)
  case atStart => exact ⟨0, by omega, rfl, Lib.hid (Own.nil _ _), Below.refl _ _⟩
  case round =>
    obtain ⟨i, hi, rfl, HM, hwx⟩ := hrel
    cases gk with
    | zero =>
      obtain rfl : i = k := by omega
      have ho := HM.out
      rw [List.take_of_length_le (by have := HK.out; omega), HL.out] at ho
      obtain ⟨A2, c2, rfl⟩ := Own.slice ho
      have hr2 := Own.rd ho (by rw [← HL.out]; have := drop_len m (fun x => decide (x = nm)); have := HK.out; omega) (fun p hp => hr1.size p ((drop_sub m _).subset (by rw [HL.out]; exact hp)))
      go_wp2_with fail
      go_ret
      exact ⟨A2, c2, rfl, Lib.hid hr2, below_on hw1 hwx⟩
    | succ g =>
      have hlt : i < k := by omega
      have hltz : (i : Int) < (k : Int) := by omega
      obtain ⟨bk, off, rfl, hbk, hc⟩ := (hr1.below hwx).all (by have := HK.out; omega)
      obtain ⟨N, V, hp⟩ := ex_at (l := m) (k := i) (by have := HK.out; omega)
      obtain ⟨c0, c1⟩ := hc _ _ hp
      have hbk' : bk < wr.heap.size := by have := hwx.size; omega
      have HT : Hid (m.take (i + 1) = m.take i ++ [(N, V)]) := Lib.hid (by
        obtain ⟨h1, h2⟩ := List.getElem?_eq_some_iff.1 hp
        rw [List.take_succ_eq_append_getElem h1, h2])
      have HSz := Lib.hid (hr1.size _ (List.mem_of_getElem? hp))
      clear hc hp hr1
      by_cases he : N = nm
      · have HD : Hid (drop (m.take (i + 1)) (fun x => decide (x = nm)) = drop (m.take i) (fun x => decide (x = nm))) := Lib.hid (by
          rw [HT.out, drop_app]
          simp [drop, he])
        have het : N.toList = nm.toList := by rw [he]
        clear he
        go_wp2_with fail
        go_roundg g
        case measure => omega
        case rel => exact ⟨i + 1, by omega, by simp, Lib.hid (by rw [HD.out]; exact HM.out), hwx⟩
      · have HD : Hid (drop (m.take (i + 1)) (fun x => decide (x = nm)) = drop (m.take i) (fun x => decide (x = nm)) ++ [(N, V)]) := Lib.hid (by
          rw [HT.out, drop_app]
          simp [drop, he])
        have heb := beq_no he
        have heb' : (!(N.toList == nm.toList)) = true := by rw [heb]; rfl
        have hdl : (drop (m.take i) (fun x => decide (x = nm))).length ≤ 1000 := Nat.le_trans (drop_len _ _) (by rw [List.length_take]; omega)
        have hbs := hwx.size
        clear he
        go_wp2_with (at_builtin; refine wp_app _ rfl _ _ rfl w1.heap.size _ (drop (m.take i) (fun x => decide (x = nm))) [(N, V)] rfl (Own.alloc HM.out _) _ 1 _ rfl rfl (rd_new _ N V HSz.out.1 HSz.out.2 rfl) (by simp; omega) (by simp; omega) ?_; intro v2 w2 hown2 hb2)
        rw [← HD.out] at hown2
        have Hown2 := Lib.hid hown2
        clear hown2
        go_wp2_with fail
        go_roundg g
        case measure => omega
        case rel => exact ⟨i + 1, by omega, by simp, Hown2, (hwx.alloc hbs _).trans hb2⟩

theorem without_len (l : List Pr) (nm : ByteArray) : (without l nm).length ≤ 16 := Nat.le_trans (drop_len _ _) (sane_len (asL_is l))
theorem without_size {l : List Pr} (nm : ByteArray) (h : ∀ p ∈ l, p.1.size ≤ 9223372036854775807 ∧ p.2.size ≤ 9223372036854775807) : ∀ p ∈ without l nm, p.1.size ≤ 9223372036854775807 ∧ p.2.size ≤ 9223372036854775807 := by
  intro p hp
  have hm := (drop_sub _ _).subset hp
  unfold asL at hm
  split at hm
  · exact h p hm
  · cases hm

set_option maxHeartbeats 3200000 in
theorem rwith_of (A : Option Addr) (c n : Nat) (l : List Pr) (hn : n = l.length) (nm v : ByteArray) (h1 : nm.size ≤ 9223372036854775807) (h2 : v.size ≤ 9223372036854775807) (z : Int) (hz : wrong (withP l nm v) = z) (w : World) (hr : Rd w w.heap.size A l) :
    Calls Try.prog 17 #[.slice A n c, .string nm, .string v] w fun e w' => ∃ A' c', e = .returned (.tuple #[.slice A' (makeS (withP l nm v)).length c', .int .i64 z]) ∧ Hid (Rd w' w'.heap.size A' (makeS (withP l nm v))) ∧ Below w.heap.size w w' := by
  have HN := Lib.hid hn
  have HZ := Lib.hid hz
  clear hn hz
  have HL : Hid (withP l nm v = without l nm ++ [(nm, v)]) := Lib.hid (with_without_app l nm v)
  have hx16 := without_len l nm
  have HXs := Lib.hid (without_size nm hr.size)
  generalize withP l nm v = y at HZ HL ⊢
  go_enter Try.func17, Try.ntmps17
  go_wp2_with fail
  refine (rwithout_of A c n l HN.out nm _ (hr.on (below_alloc _ _))).mono ?_
  rintro e w1 ⟨A1, c1, rfl, HR1, hw1⟩
  generalize without l nm = x at HR1 HL hx16 HXs
  obtain ⟨k, hk⟩ : ∃ k, x.length = k := ⟨_, rfl⟩
  have hk16 : k ≤ 16 := by omega
  rw [hk]
  have HK := Lib.hid hk
  clear hk hr hx16
  have HX := HL.out
  subst HX
  have ho0 := Own.below (own_made w) hw1
  have hb1 : Below w.heap.size w w1 := below_on (below_alloc _ _) hw1
  have hl1 : ([] : List Pr).length + x.length ≤ 1000000 := by have := HK.out; simp only [List.length_nil]; omega
  have hl2 : ([] ++ x : List Pr).length + [(nm, v)].length ≤ 1000000 := by have := HK.out; simp only [List.length_append, List.length_nil, List.length_singleton]; omega
  have tok1 : True := trivial
  have tok2 : True := trivial
  go_wp2_with (first
    | (at_builtin; have _t := tok1; refine wp_app _ rfl _ _ rfl w.heap.size _ [] x rfl ho0 A1 k c1 HK.out.symm rfl HR1.out hl1 hb1.size ?_; intro v2 w2 hown2 hb2; clear tok1)
    | (at_builtin; have _t := tok2; refine wp_app _ rfl _ _ rfl w.heap.size v2 ([] ++ x) [(nm, v)] rfl (Own.alloc hown2 _) _ 1 _ rfl rfl (rd_new _ nm v h1 h2 rfl) hl2 (by have := hb1.size; have := hb2.size; simp; omega) ?_; intro v3 w3 hown3 hb3; clear tok2))
  rw [List.nil_append] at hown3
  obtain ⟨A3, c3, rfl⟩ := Own.slice hown3
  have hr3 := Own.rd hown3 (by rw [List.length_append]; have := HK.out; simp; omega) (fun p hp => by
    rcases List.mem_append.1 hp with hp | hp
    · exact HXs.out p hp
    · rw [List.mem_singleton.1 hp]; exact ⟨h1, h2⟩)
  have Hown3 := Lib.hid hown3
  clear hown3
  have hb13 : Below w.heap.size w w3 := ((hb1.trans hb2).alloc (by have := hb1.size; have := hb2.size; omega) _).trans hb3
  obtain ⟨q, hq⟩ : ∃ q, (x ++ [(nm, v)]).length = q := ⟨_, rfl⟩
  rw [hq]
  have HQ := Lib.hid hq
  clear hq
  go_wp2_with fail
  refine (rmake_of A3 c3 q (x ++ [(nm, v)]) HQ.out.symm z HZ.out _ hr3).mono ?_
  rintro e w4 ⟨A4, c4, rfl, HR4, hw4⟩
  go_wp2_with fail
  go_ret2
  exact ⟨A4, c4, rfl, HR4, below_on hb13 hw4⟩

theorem dels_sane (a b : List Pr) : saneB (dels (asL a) b) = true := sane_sub (asL_is a) (dels_sub _ _)

set_option maxHeartbeats 6400000 in
theorem rmerge_of (A B : Option Addr) (c d n k : Nat) (l o : List Pr) (hn : n = l.length) (hk : k = o.length) (z : Int) (hz : wrong (merge l o) = z) (w : World) (hr : Rd w w.heap.size A l) (hs : Rd w w.heap.size B o) :
    Calls Try.prog 19 #[.slice A n c, .slice B k d] w fun e w' => ∃ A' c', e = .returned (.tuple #[.slice A' (makeS (merge l o)).length c', .int .i64 z]) ∧ Hid (Rd w' w'.heap.size A' (makeS (merge l o))) ∧ Below w.heap.size w w' := by
  have HN := Lib.hid hn
  have HK := Lib.hid hk
  have HZ := Lib.hid hz
  clear hn hk hz
  have HL : Hid (merge l o = dels (asL l) (asL o) ++ asL o) := Lib.hid (merge_dels l o)
  have h1 := sane_len (asL_is l)
  have h2 := sane_len (asL_is o)
  have hsa := asL_is l
  generalize merge l o = r at HZ HL ⊢
  go_enter Try.func19, Try.ntmps19
  go_wp2_with fail
  refine (as_of_in w.heap.size A c n l HN.out _ (by simp) (hr.below (below_alloc _ _))).mono ?_
  rintro e w1 ⟨A1, c1, rfl, HR1, hw1⟩
  generalize asL l = x at HR1 HL h1 hsa
  obtain ⟨nx, hnx⟩ : ∃ q, x.length = q := ⟨_, rfl⟩
  rw [hnx] at h1 ⊢
  have HX := Lib.hid hnx
  have HSa := Lib.hid hsa
  clear hnx hsa hr
  have ho0 := Own.below (own_made w) hw1
  have hb1 : Below w.heap.size w w1 := below_on (below_alloc _ _) hw1
  have hl1 : ([] : List Pr).length + x.length ≤ 1000000 := by have := HX.out; simp only [List.length_nil]; omega
  go_wp2_with (at_builtin; refine wp_app _ rfl _ _ rfl w.heap.size _ [] x rfl ho0 A1 nx c1 HX.out.symm rfl (HR1.out.more hb1.size) hl1 hb1.size ?_; intro v2 w2 hown2 hb2)
  rw [List.nil_append] at hown2
  obtain ⟨A2, c2, rfl⟩ := Own.slice hown2
  have hb12 := hb1.trans hb2
  rw [HX.out] at hown2 ⊢
  have Hown2 := Lib.hid hown2
  clear hown2
  go_wp2_with fail
  refine (as_of_in w.heap.size B d k o HK.out _ hb12.size (hs.below hb12)).mono ?_
  rintro e w3 ⟨B3, d3, rfl, HS3, hw3⟩
  have Hown3 := Lib.hid (Own.below (l := x) (by unfold Own; rw [HX.out]; have := Hown2.out; unfold Own at this; rw [HX.out] at this; exact this) hw3)
  generalize asL o = y at HS3 HL h2
  obtain ⟨ny, hny⟩ : ∃ q, y.length = q := ⟨_, rfl⟩
  rw [hny] at h2 ⊢
  have HY := Lib.hid hny
  clear hny hs
  have HXs := Lib.hid HR1.out.size
  have hb13 := below_on hb12 hw3
  have hsw : Rd w w.heap.size B3 y := HS3.out.keep (fun p hp => (hb13.cell hp).symm)
  have HSw := Lib.hid hsw
  clear hsw
  go_wp2_with fail
  go_loopg [6, 8] ny (fun g s6 s8 wx => ∃ (i : Nat) (Ao : Option Addr) (no co : Nat) (out : List Pr), i + g = ny ∧ s8 = .int .i64 i ∧ s6 = .slice Ao no co ∧ no ≤ 16 ∧ Hid (out = dels x (y.take i)) ∧ Hid (no = out.length) ∧ Hid (Own wx w.heap.size (.slice Ao no co) out) ∧ Below w.heap.size w wx)
  case atStart => exact ⟨0, A2, nx, c2, x, by omega, rfl, rfl, h1, Lib.hid (by simp [dels]), Lib.hid HX.out.symm, Hown3, hb13⟩
  case round =>
    obtain ⟨i, Ao, no, co, out, hi, rfl, rfl, hno, HOut, HNo, HO, hwx⟩ := hrel
    have hrs : ∀ p ∈ out, p.1.size ≤ 9223372036854775807 ∧ p.2.size ≤ 9223372036854775807 := fun p hp => HXs.out p ((dels_sub _ _).subset (by rw [← HOut.out]; exact hp))
    have HRs := Lib.hid hrs
    clear hrs
    cases gk with
    | zero =>
      obtain rfl : i = ny := by omega
      have HR : Hid (out ++ y = r) := Lib.hid (by rw [HL.out, HOut.out, List.take_of_length_le (by have := HY.out; omega)])
      have hl2 : out.length + y.length ≤ 1000000 := by have := HNo.out; have := HY.out; omega
      go_wp2_with (at_builtin; refine wp_app _ rfl _ _ rfl w.heap.size _ out y rfl HO.out B3 i d3 HY.out.symm rfl ((HSw.out.below hwx).more hwx.size) hl2 hwx.size ?_; intro v4 w4 hown4 hb4)
      obtain ⟨A4, c4, rfl⟩ := Own.slice hown4
      have hr4 := Own.rd hown4 (by rw [List.length_append]; omega) (fun p hp => by
        rcases List.mem_append.1 hp with hp | hp
        · exact HRs.out p hp
        · exact HSw.out.size p hp)
      have hb4' := hwx.trans hb4
      clear hown4
      obtain ⟨q, hq⟩ : ∃ q, (out ++ y).length = q := ⟨_, rfl⟩
      rw [hq]
      have HQ := Lib.hid hq
      clear hq
      have hrr := HR.out
      subst hrr
      go_wp2_with fail
      refine (rmake_of A4 c4 q (out ++ y) HQ.out.symm z HZ.out _ hr4).mono ?_
      rintro e w5 ⟨A5, c5, rfl, HR5, hw5⟩
      go_wp2_with fail
      go_ret2
      exact ⟨A5, c5, rfl, HR5, below_on hb4' hw5⟩
    | succ g =>
      have hlt : i < ny := by omega
      have hltz : (i : Int) < (ny : Int) := by omega
      obtain ⟨bk, off, rfl, hbk, hc⟩ := (HSw.out.below hwx).all (by have := HY.out; omega)
      obtain ⟨N, V, hp⟩ := ex_at (l := y) (k := i) (by have := HY.out; omega)
      obtain ⟨c0, c1⟩ := hc _ _ hp
      have hbk' : bk < wr.heap.size := by have := hwx.size; omega
      have HT : Hid (y.take (i + 1) = y.take i ++ [(N, V)]) := Lib.hid (by
        obtain ⟨h1, h2⟩ := List.getElem?_eq_some_iff.1 hp
        rw [List.take_succ_eq_append_getElem h1, h2])
      have hro : Rd wr wr.heap.size Ao out := Own.rd (base := w.heap.size) (c := co) (by have := HO.out; rwa [HNo.out] at this) (by have := HNo.out; omega) HRs.out
      have HRo := Lib.hid hro
      have HW : Hid (without out N = dels x (y.take (i + 1))) := Lib.hid (by
        have hs : saneB out = true := by
          rw [HOut.out]
          exact sane_sub HSa.out (dels_sub _ _)
        rw [without_is hs, HT.out, dels_snoc, HOut.out])
      have hw16 := without_len out N
      clear hc hp hro
      go_wp2_with fail
      refine (rwithout_of Ao co no out HNo.out N _ (HRo.out.on (below_alloc _ _))).mono ?_
      rintro e w5 ⟨A5, c5, rfl, HR5, hw5⟩
      rw [HW.out] at HR5 hw16 ⊢
      obtain ⟨q, hq⟩ : ∃ q, (dels x (y.take (i + 1))).length = q := ⟨_, rfl⟩
      rw [hq] at hw16 ⊢
      have HQ := Lib.hid hq
      clear hq
      have ho5 := Own.below (own_made wr) hw5
      have hb5 : Below wr.heap.size wr w5 := below_on (below_alloc _ _) hw5
      have hl5 : ([] : List Pr).length + (dels x (y.take (i + 1))).length ≤ 1000000 := by have := HQ.out; simp only [List.length_nil]; omega
      go_wp2_with (at_builtin; refine wp_app _ rfl _ _ rfl wr.heap.size _ [] (dels x (y.take (i + 1))) rfl ho5 A5 q c5 HQ.out.symm rfl HR5.out hl5 hb5.size ?_; intro v6 w6 hown6 hb6)
      rw [List.nil_append] at hown6
      obtain ⟨A6, c6, rfl⟩ := Own.slice hown6
      rw [HQ.out] at hown6 ⊢
      have Hown6 := Lib.hid (Own.mono hown6 hwx.size)
      have hb56 := below_on hwx (hb5.trans hb6)
      clear hown6
      go_wp2_with fail
      go_roundg g
      case measure => omega
      case rel => exact ⟨i + 1, A6, q, c6, _, by omega, by simp, rfl, hw16, Lib.hid rfl, Lib.hid HQ.out.symm, Hown6, hb56⟩
end Go.Proofs.Ythknoanhljonoaa

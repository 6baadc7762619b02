/-
  The walk of the document's Parse of layer dur.
-/
import Derived.Test.YtjlonndkkeoohaaDoorDurRef
namespace Go.Proofs.YtjlonndkkeoohaaDoor
open Go.RowKit

def Dp.ans2 (r : Int × Int) : Ending := .returned (.tuple #[.int .i64 r.1, .int .i64 r.2])
theorem Dp.ref_end {f next sum : Nat} : Dp.refGo (f + 1) next sum [] = if next = 0 then none else some sum := rfl
theorem Dp.ref_none {f next sum : Nat} {l : List UInt8} (h : l ≠ []) (hc : Dp.cnt l = [] ∨ Dp.best (Dp.rst l) 5 < (next : Int)) : Dp.refGo (f + 1) next sum l = none := by
  show (if l = [] then _ else if Dp.cnt l = [] ∨ Dp.best (Dp.rst l) 5 < (next : Int) then none else _) = _
  rw [if_neg h, if_pos hc]
theorem Dp.ref_at {f next sum : Nat} {l : List UInt8} (h : l ≠ []) (hc : ¬ Dp.cnt l = []) (k : Nat) (hk : Dp.best (Dp.rst l) 5 = (k : Int)) (hn : next ≤ k) :
    Dp.refGo (f + 1) next sum l = Dp.refGo f (k + 1) (min (sum + Dp.vof (Dp.cnt l) k * Dp.sz k) (4 * Np.mx)) ((Dp.rst l).drop (Dp.nm k).length) := by
  show (if l = [] then _ else if Dp.cnt l = [] ∨ Dp.best (Dp.rst l) 5 < (next : Int) then none else _) = _
  rw [if_neg h, if_neg (by
    rintro (a | a)
    · exact hc a
    · omega), hk]
  rfl
theorem Dp.rst_drop (l : List UInt8) (a : Nat) : l.drop (a + Np.runN l a) = Dp.rst (l.drop a) := by
  unfold Np.runN
  have h : (l.drop a).takeWhile Np.dig ++ Dp.rst (l.drop a) = l.drop a := List.takeWhile_append_dropWhile
  rw [← List.drop_drop]
  conv => lhs; arg 2; rw [← h]
  exact List.drop_left
theorem Dp.run_cnt (l : List UInt8) (a : Nat) : Np.runN l a = (Dp.cnt (l.drop a)).length := rfl
theorem Dp.cnt_at (l : List UInt8) (a i : Nat) (h : i < Np.runN l a) : (Dp.cnt (l.drop a)).take (i + 1) = (Dp.cnt (l.drop a)).take i ++ [(l[a + i]?).getD 0] ∧ Np.dig ((l[a + i]?).getD 0) = true := by
  have h2 : i < (Dp.cnt (l.drop a)).length := h
  have h3 : i < (l.drop a).length := Nat.lt_of_lt_of_le h2 (List.takeWhile_sublist _).length_le
  have e1 : (Dp.cnt (l.drop a))[i] = (l.drop a)[i] := (List.takeWhile_prefix _).getElem h2
  have e2 : (l[a + i]?).getD 0 = (l.drop a)[i] := by
    rw [← List.getElem?_drop, List.getElem?_eq_getElem h3]; rfl
  rw [e2, ← e1]
  refine ⟨List.take_succ_eq_append_getElem h2, ?_⟩
  exact List.all_eq_true.mp List.all_takeWhile _ (List.getElem_mem _)

set_option maxRecDepth 100000 in
set_option maxHeartbeats 8000000 in
theorem rparse_any (s : ByteArray) (hs : s.size ≤ 1000000) (w : World) :
    Calls Tryd.prog 11 #[.string s] w fun e w' => e = Dp.ans2 (Dp.parseS s.data.toList) ∧ Below w.heap.size w w' := by
  have H := Lib.hid (Dp.parse_ref s.data.toList)
  go_enter Tryd.func11, Tryd.ntmps11
  go_wp2_with fail
  refine (units_any _).mono ?_
  rintro e w1 ⟨B, rfl, HU, hB0, hB, hw1⟩
  go_wp2_with fail
  go_loopg [5, 6, 7, 8, 9, 10, 11] 6 (fun g s5 s6 s7 _ _ _ _ wx => ∃ (a next sum : Nat), s7 = .int .i64 a ∧ s6 = .int .i64 ((next : Int) - 1) ∧ s5 = .int .i64 sum ∧ a ≤ s.size ∧ next ≤ 5 ∧ 6 ≤ g + next ∧ sum ≤ 36028797018963968 ∧ Hid (Dp.refGo g next sum (s.data.toList.drop a) = Dp.refGo 6 0 0 s.data.toList) ∧ Below w1.heap.size w1 wx)
  case atStart => exact ⟨0, 0, 0, rfl, rfl, rfl, by omega, by omega, by omega, by omega, Lib.hid rfl, Below.refl _ _⟩
  case round =>
    obtain ⟨a, next, sum, rfl, rfl, rfl, ha, hnext, hg, hsum, HG, hw2⟩ := hrel
    obtain ⟨g, rfl⟩ : ∃ g, gk = g + 1 := ⟨gk - 1, by omega⟩
    by_cases hlt : a < s.size
    · have hl0 : Hid (s.data.toList.drop a ≠ []) := Lib.hid (by
        intro e
        have := congrArg List.length e
        rw [List.length_drop, ← Lib.size_eq] at this
        simp at this; omega)
      have hrun : a + Np.runN s.data.toList a ≤ s.size := by
        have h1 : Np.runN s.data.toList a ≤ (s.data.toList.drop a).length := (List.takeWhile_sublist _).length_le
        rw [List.length_drop, ← Lib.size_eq] at h1; omega
      have Hrd := Lib.hid (Dp.rst_drop s.data.toList a)
      have Hrc := Lib.hid (Dp.run_cnt s.data.toList a)
      have Hca := Lib.hid (Dp.cnt_at s.data.toList a)
      go_wp2_with fail
      refine (refRun_any s a _ hs ha).mono ?_
      rintro e w3 ⟨rfl, rfl⟩
      generalize Np.runN s.data.toList a = n at hrun Hrd Hrc Hca ⊢
      have hunit := fun W => unitAt_any s (a + n) hrun hs W
      rw [Int.natCast_add, Hrd.out] at hunit
      have Hunit := Lib.hid hunit
      clear hunit
      go_wp2_with fail
      refine (Hunit.out _).mono ?_
      rintro e w3 ⟨rfl, hw3⟩
      have hw23 := below_on hw2 hw3
      obtain ⟨hbd0, hbd1⟩ := Dp.best_bd (Dp.rst (s.data.toList.drop a)) 5
      by_cases hn0 : n = 0
      · have HA : Hid (Dp.ans2 (Dp.parseS s.data.toList) = .returned (.tuple #[.int .i64 0, .int .i64 1])) := Lib.hid (by
          rw [← H.out, ← HG.out, Dp.ref_none hl0.out (Or.inl (List.length_eq_zero_iff.mp (by rw [← Hrc.out]; exact hn0)))]; rfl)
        subst hn0
        generalize Dp.best (Dp.rst (s.data.toList.drop a)) 5 = k at hbd0 hbd1 ⊢
        go_wp2_with fail
        go_ret2
        exact ⟨HA.out.symm, below_on hw1 hw23⟩
      · have hn0b : ((n : Int) == 0) = false := by simpa using hn0
        have Hc0 : Hid (¬ Dp.cnt (s.data.toList.drop a) = []) := Lib.hid (fun e => hn0 (by rw [Hrc.out, e]; rfl))
        by_cases hkl : Dp.best (Dp.rst (s.data.toList.drop a)) 5 < (next : Int)
        · have HA : Hid (Dp.ans2 (Dp.parseS s.data.toList) = .returned (.tuple #[.int .i64 0, .int .i64 1])) := Lib.hid (by
            rw [← H.out, ← HG.out, Dp.ref_none hl0.out (Or.inr hkl)]; rfl)
          generalize Dp.best (Dp.rst (s.data.toList.drop a)) 5 = k at hbd0 hbd1 hkl ⊢
          have hkl' : k ≤ (next : Int) - 1 := by omega
          go_wp2_with fail
          go_ret2
          exact ⟨HA.out.symm, below_on hw1 hw23⟩
        · obtain ⟨k, hk⟩ : ∃ k : Nat, Dp.best (Dp.rst (s.data.toList.drop a)) 5 = (k : Int) := Int.eq_ofNat_of_zero_le (by omega)
          have Hk := Lib.hid hk
          rw [hk] at hbd0 hbd1 hkl ⊢
          clear hk
          have hk5 : k < 5 := by omega
          have hnk : next ≤ k := by omega
          have hkl' : ¬ (k : Int) ≤ (next : Int) - 1 := by omega
          have HG2 := Lib.hid (Dp.ref_at (f := g) (sum := sum) hl0.out Hc0.out k Hk.out hnk)
          generalize hcc : Dp.cnt (s.data.toList.drop a) = c at Hrc Hca HG2
          have Hrr := Lib.hid (Dp.rst_drop s.data.toList a)
          clear hcc
          go_wp2_with fail
          go_loopg [10, 11] n (fun g2 s10 s11 wx => ∃ i v : Nat, i + g2 = n ∧ s11 = .int .i64 i ∧ s10 = .int .i64 v ∧ v ≤ 36028797018963968 ∧ Hid (v = Dp.sat (c.take i)) ∧ wx = w3)
          case atStart => exact ⟨0, 0, by omega, rfl, rfl, by omega, Lib.hid rfl, rfl⟩
          case round =>
            obtain ⟨i, v, hi, rfl, rfl, hv, HV, rfl⟩ := hrel
            cases gk with
            | zero =>
              obtain rfl : i = n := by omega
              obtain ⟨c1, c2⟩ := (HU.out.on hB hw23) k hk5
              obtain ⟨NI, eNI, hNl, hN2, HNI⟩ := unit_name k
              rw [eNI] at c1
              clear eNI
              have HV2 : Hid (v = Dp.sat c) := Lib.hid (by rw [HV.out, Hrc.out, List.take_length])
              have hz := Dp.sz_pos k
              have hzl := Dp.sz_le k
              have hqb : 9007199254740992 / Dp.sz k ≤ 9007199254740992 := Nat.div_le_self _ _
              have hq1 : (9007199254740992 : Int) / (Dp.sz k : Int) = ((9007199254740992 / Dp.sz k : Nat) : Int) := rfl
              have hq2 : (9007199254740992 : Int).tdiv (Dp.sz k : Int) = ((9007199254740992 / Dp.sz k : Nat) : Int) := rfl
              have hqz : (9007199254740992 / Dp.sz k) * Dp.sz k ≤ 9007199254740992 := Nat.div_mul_le_self _ _
              have HVO : Hid (Dp.vof c k = if 9007199254740992 / Dp.sz k < v then 9007199254740992 / Dp.sz k + 1 else v) := Lib.hid (by
                unfold Dp.vof; rw [← HV2.out]; rfl)
              have hzne : (((Dp.sz k : Nat) : Int) == 0) = false := by simp; omega
              have hfit : a + i + NI.size ≤ s.size := by
                rcases Dp.best_spec (Dp.rst (s.data.toList.drop a)) with ⟨hb, _⟩ | ⟨k', hk', hb, hpre, _⟩
                · rw [Hk.out] at hb; omega
                · rw [Hk.out] at hb
                  obtain rfl : k = k' := by omega
                  have h1 := hpre.length_le
                  have h2 : (Dp.rst (s.data.toList.drop a)).length = s.size - (a + i) := by
                    rw [← Hrd.out, List.length_drop, ← Lib.size_eq]
                  rw [h2, ← hNl.out] at h1
                  omega
              have HG3 : Hid (Dp.refGo g (k + 1) (min (sum + Dp.vof c k * Dp.sz k) 36028797018963968) (s.data.toList.drop (a + i + NI.size)) = Dp.refGo 6 0 0 s.data.toList) := Lib.hid (by
                rw [← HG.out, HG2.out, hNl.out, ← List.drop_drop, Hrd.out]; rfl)
              generalize Dp.vof c k = vo at HVO HG3
              generalize 9007199254740992 / Dp.sz k = q at hqb hq1 hq2 hqz HVO
              generalize Dp.sz k = z at c2 hz hzl hq1 hq2 hqz hzne HG3
              by_cases hvq : q < v
              · have hvo : vo = q + 1 := by rw [HVO.out, if_pos hvq]
                have hprod : ((q : Int) + 1) * (z : Int) = (((q + 1) * z : Nat) : Int) := by simp
                have hpb : (q + 1) * z ≤ 9007285654740992 := by rw [Nat.add_mul, Nat.one_mul]; omega
                rw [hvo] at HG3
                clear hvo
                generalize (q + 1) * z = pr at hprod hpb HG3
                go_wp2_with fail
                all_goals
                  go_roundg g
                  case measure => omega
                  case rel =>
                    refine ⟨a + i + NI.size, k + 1, min (sum + pr) 36028797018963968, by simp, by simp, ?_, by omega, by omega, by omega, by omega, HG3, hw23⟩
                    refine congrArg (Value.int .i64) ?_
                    omega
              · have hvo : vo = v := by rw [HVO.out, if_neg hvq]
                have hprod : (v : Int) * (z : Int) = ((v * z : Nat) : Int) := by simp
                have hpb : v * z ≤ 9007199254740992 := Nat.le_trans (Nat.mul_le_mul_right z (by omega)) hqz
                rw [hvo] at HG3
                clear hvo
                generalize v * z = pr at hprod hpb HG3
                go_wp2_with fail
                all_goals
                  go_roundg g
                  case measure => omega
                  case rel =>
                    refine ⟨a + i + NI.size, k + 1, min (sum + pr) 36028797018963968, by simp, by simp, ?_, by omega, by omega, by omega, by omega, HG3, hw23⟩
                    refine congrArg (Value.int .i64) ?_
                    omega
            | succ g2 =>
              have hin : i < n := by omega
              have hlt2 : a + i < s.size := by omega
              obtain ⟨x, hx⟩ : ∃ x : UInt8, s[a + i]'hlt2 = x := ⟨_, rfl⟩
              obtain ⟨e1, e2⟩ := Hca.out i hin
              have e3 : (s.data.toList[a + i]?).getD 0 = x := by rw [Lib.data_getElem? s (a + i) hlt2, hx]; rfl
              rw [e3] at e1 e2
              have hxd := Np.dig_bd e2
              have HV2 : Hid (min (v * 10 + (x.toNat - 48)) 36028797018963968 = Dp.sat (c.take (i + 1))) := Lib.hid (by
                rw [e1, Dp.sat_snoc, ← HV.out]; rfl)
              clear e1 e2 e3
              go_wp2_with fail
              all_goals
                go_roundg g2
                case measure => omega
                case rel =>
                  refine ⟨i + 1, min (v * 10 + (x.toNat - 48)) 36028797018963968, by omega, rfl, ?_, by omega, HV2, rfl⟩
                  refine congrArg (Value.int .i64) ?_
                  omega
    · have HL : Hid (s.data.toList.drop a = []) := Lib.hid (by
        apply List.drop_eq_nil_of_le; rw [← Lib.size_eq]; omega)
      by_cases hn0 : next = 0
      · have HA : Hid (Dp.ans2 (Dp.parseS s.data.toList) = .returned (.tuple #[.int .i64 0, .int .i64 1])) := Lib.hid (by
          rw [← H.out, ← HG.out, HL.out, Dp.ref_end, if_pos hn0]; rfl)
        subst hn0
        go_wp2_with fail
        go_ret2
        exact ⟨HA.out.symm, below_on hw1 hw2⟩
      · have hnz : ¬ (next : Int) - 1 < 0 := by omega
        by_cases hsm : sum ≤ 9007199254740992
        · have HA : Hid (Dp.ans2 (Dp.parseS s.data.toList) = .returned (.tuple #[.int .i64 (sum : Int), .int .i64 0])) := Lib.hid (by
            rw [← H.out, ← HG.out, HL.out, Dp.ref_end, if_neg hn0]; unfold Dp.fin; simp only; rw [if_pos (show sum ≤ Np.mx from hsm)]; rfl)
          go_wp2_with fail
          go_ret2
          exact ⟨HA.out.symm, below_on hw1 hw2⟩
        · have HA : Hid (Dp.ans2 (Dp.parseS s.data.toList) = .returned (.tuple #[.int .i64 0, .int .i64 2])) := Lib.hid (by
            rw [← H.out, ← HG.out, HL.out, Dp.ref_end, if_neg hn0]; unfold Dp.fin; simp only; rw [if_neg (show ¬ sum ≤ Np.mx from hsm)]; rfl)
          go_wp2_with fail
          go_ret2
          exact ⟨HA.out.symm, below_on hw1 hw2⟩
end Go.Proofs.YtjlonndkkeoohaaDoor

/-
  The walk of the document's Parse, case by case.
-/
import Derived.Test.YtjndehdihjlcaaaDoorNumRefParse
namespace Go.Proofs.YtjndehdihjlcaaaDoor
open Go.RowKit

theorem Np.fin_large {v n : Nat} {f : Bool} (h : Np.Sat4 v n) (hv : ¬ v ≤ 9007199254740992) : Np.fin f n = (0, 2) := by
  unfold Np.fin
  rw [if_pos]
  rcases Nat.lt_or_ge Np.mx n with h' | h'
  · exact h'
  · have := h.2.1 h'; unfold Np.mx at h'; omega
theorem Np.fin_small {v n : Nat} {f : Bool} (h : Np.Sat4 v n) (hv : v ≤ 9007199254740992) : Np.fin f n = (if f then -(v : Int) else (v : Int), 0) := by
  have e : ¬ Np.mx < n := by
    intro h'; have := h.2.2 h'; unfold Np.mx at this; omega
  unfold Np.fin
  rw [if_neg e, h.2.1 (by omega)]
theorem Np.head_of (s : ByteArray) (h : 0 < s.size) : s.data.toList.head? = some (s[0]'h) := by
  have : s.data.toList[0]? = some (s[0]'h) := by
    rw [List.getElem?_eq_getElem (by rw [← Lib.size_eq]; exact h)]; rfl
  rw [← this, List.head?_eq_getElem?]
/-- What the value's loop comes by. -/
def Np.Fits (s : ByteArray) (a : Nat) : Prop := ∀ j (h : j < s.size), a ≤ j → Np.dig (s[j]'h) = true ∨ s[j]'h = 46
theorem Np.part_snoc (s : ByteArray) (a j : Nat) (ha : a ≤ j) (h : j < s.size) : (s.data.toList.take (j + 1)).drop a = (s.data.toList.take j).drop a ++ [s[j]'h] := by
  rw [Np.take_snoc s j h, List.drop_append_of_le_length (by rw [List.length_take, ← Lib.size_eq]; omega)]
theorem Np.keep_dig (s : ByteArray) (a j : Nat) (ha : a ≤ j) (h : j < s.size) (hd : Np.dig (s[j]'h) = true) :
    Np.num (Np.keep ((s.data.toList.take (j + 1)).drop a)) = 10 * Np.num (Np.keep ((s.data.toList.take j).drop a)) + ((s[j]'h).toNat - 48) := by
  rw [Np.part_snoc s a j ha h]
  unfold Np.keep
  rw [List.filter_append, List.filter_cons, if_pos (by simpa using (Np.dig_ne hd).1), List.filter_nil, Np.num_snoc]
theorem Np.keep_dot (s : ByteArray) (a j : Nat) (ha : a ≤ j) (h : j < s.size) (hd : s[j]'h = 46) :
    Np.num (Np.keep ((s.data.toList.take (j + 1)).drop a)) = Np.num (Np.keep ((s.data.toList.take j).drop a)) := by
  rw [Np.part_snoc s a j ha h]
  unfold Np.keep
  rw [List.filter_append, List.filter_cons, if_neg (by simp [hd]), List.filter_nil, List.append_nil]

set_option maxHeartbeats 1600000 in
theorem refParse0_A1 (s : ByteArray) (hs : s.size ≤ 1000000) (w : World) (n : Nat) (hneg : Np.neg s.data.toList = false) (hpos : 0 < s.size) (hrun : Np.runN s.data.toList 0 = n) (hsz : 0 + n = s.size) (hn : n = 0) (hE : Np.ans (Np.parseS s.data.toList) = .returned (.tuple #[.int .i64 0, .int .i64 1])) :
    Calls Tryd.prog 11 #[.string s] w fun e w' => e = Np.ans (Np.parseS s.data.toList) ∧ w = w' := by
  have HE := Lib.hid hE
  have hn0 : ((n : Int) == 0) = true := by rw [hn]; rfl
  have hlt : ¬ ((n : Int) < (s.size : Int)) := by omega
  have hend : ((n : Int) != (s.size : Int)) = false := by simp only [bne_eq_false_iff_eq]; omega
  have hnb : n ≤ 1000000 := by omega
  have Hsz := Lib.hid hsz
  clear hsz
  clear hE hn
  have Hrun := Lib.hid hrun
  have hpos' : (0 : Int) < (s.size : Int) := by omega
  obtain ⟨c0, hc0⟩ : ∃ c, s[0]'hpos = c := ⟨_, rfl⟩
  have h45 : ((c0.toNat : Int) == 45) = false := by
    have h := Np.head_of s hpos
    rw [hc0] at h
    unfold Np.neg at hneg
    rw [h] at hneg
    rw [beq_eq_false_iff_ne]; intro h2; simp only [beq_eq_false_iff_ne, ne_eq, Option.some.injEq] at hneg; exact hneg (UInt8.toNat_inj.mp (by rw [show (45 : UInt8).toNat = 45 from rfl]; omega))
  clear hrun hneg
  go_enter Tryd.func11, Tryd.ntmps11
  go_wp2_with fail
  refine (refRun_at s 0 (by omega) (by omega) _ hs).mono ?_
  rintro e w1 ⟨rfl, rfl⟩
  rw [show (0 : Int).toNat = 0 from rfl, Hrun.out]
  go_wp2_with fail
  go_ret2
  exact ⟨HE.out.symm, rfl⟩

set_option maxHeartbeats 1600000 in
theorem refParse0_A2 (s : ByteArray) (hs : s.size ≤ 1000000) (w : World) (n : Nat) (hneg : Np.neg s.data.toList = false) (hpos : 0 < s.size) (hrun : Np.runN s.data.toList 0 = n) (hsz : 0 + n = s.size) (hn : 1 ≤ n) (DL : List UInt8) (hun : Np.parseS s.data.toList = Np.fin false (Np.num DL)) (hDL : DL = Np.keep (s.data.toList.drop 0) ++ List.replicate (3 - 0) 48) (hF : Np.Fits s 0) :
    Calls Tryd.prog 11 #[.string s] w fun e w' => e = Np.ans (Np.parseS s.data.toList) ∧ w = w' := by
  have HF := Lib.hid hF
  have Hun := Lib.hid hun
  have HDL := Lib.hid hDL
  have hn0 : ((n : Int) == 0) = false := by rw [beq_eq_false_iff_ne]; omega
  have hlt : ¬ ((n : Int) < (s.size : Int)) := by omega
  have hend : ((n : Int) != (s.size : Int)) = false := by simp only [bne_eq_false_iff_eq]; omega
  have hnb : n ≤ 1000000 := by omega
  have Hsz := Lib.hid hsz
  clear hsz
  clear hF hun hDL
  have Hrun := Lib.hid hrun
  have hpos' : (0 : Int) < (s.size : Int) := by omega
  obtain ⟨c0, hc0⟩ : ∃ c, s[0]'hpos = c := ⟨_, rfl⟩
  have h45 : ((c0.toNat : Int) == 45) = false := by
    have h := Np.head_of s hpos
    rw [hc0] at h
    unfold Np.neg at hneg
    rw [h] at hneg
    rw [beq_eq_false_iff_ne]; intro h2; simp only [beq_eq_false_iff_ne, ne_eq, Option.some.injEq] at hneg; exact hneg (UInt8.toNat_inj.mp (by rw [show (45 : UInt8).toNat = 45 from rfl]; omega))
  clear hrun hneg
  go_enter Tryd.func11, Tryd.ntmps11
  go_wp2_with fail
  refine (refRun_at s 0 (by omega) (by omega) _ hs).mono ?_
  rintro e w1 ⟨rfl, rfl⟩
  rw [show (0 : Int).toNat = 0 from rfl, Hrun.out]
  go_wp2_with fail
  go_loop [8, 9] (fun v i => ∃ j vv : Nat, j ≤ s.size ∧ 0 ≤ j ∧ i = .int .i64 j ∧ v = .int .i64 vv ∧ Np.Sat4 vv (Np.num (Np.keep ((s.data.toList.take j).drop 0)))) (fun _ i => s.size - (intOf i).toNat)
  case atStart => exact ⟨0, 0, by omega, Nat.le_refl _, rfl, rfl, by
    have e : (s.data.toList.take 0).drop 0 = [] := by rw [List.drop_take]; simp
    rw [e]; exact Np.sat4_zero⟩
  case round =>
    obtain ⟨j, vv, hj, haj, rfl, rfl, hsat⟩ := hrel
    have hvv := hsat.1
    have Hsat := Lib.hid hsat
    clear hsat
    by_cases hlt : j < s.size
    · obtain ⟨c, hc⟩ : ∃ c, s[j]'hlt = c := ⟨_, rfl⟩
      rcases HF.out j hlt haj with hd | hd
      · have Hk := Lib.hid (Np.keep_dig s 0 j haj hlt hd)
        rw [hc] at hd
        have hbd := Np.dig_bd hd
        have hne : ((c.toNat : Int) != 46) = true := by
          rw [bne_iff_ne]; intro h
          have := (Np.dig_ne hd).1
          exact this (UInt8.toNat_inj.mp (by rw [show (46 : UInt8).toNat = 46 from rfl]; omega))
        have Hc := Lib.hid hc
        clear hd
        go_wp2_with fail
        all_goals
          go_round
          case rel =>
            refine ⟨j + 1, min (10 * vv + (c.toNat - 48)) 36028797018963968, by omega, by omega, by go_num, ?_, ?_⟩
            · congr 1; omega
            · rw [Hk.out, Hc.out]; exact Np.sat4_step Hsat.out rfl
          case measure => simp [intOf]; omega
      · have Hk := Lib.hid (Np.keep_dot s 0 j haj hlt hd)
        rw [hc] at hd
        have hne : ((c.toNat : Int) != 46) = false := by rw [hd]; rfl
        have Hd := Lib.hid hd
        clear hd
        go_wp2_with fail
        go_round
        case rel => exact ⟨j + 1, vv, by omega, by omega, by go_num, rfl, by rw [Hk.out]; exact Hsat.out⟩
        case measure => simp [intOf]; omega
    · have HS0 : Hid (Np.Sat4 vv (Np.num (Np.keep (s.data.toList.drop 0) ++ List.replicate 0 48))) := Lib.hid (by
        have := Hsat.out
        rw [List.take_of_length_le (by rw [← Lib.size_eq]; omega)] at this
        simpa using this)
      clear Hsat
      go_wp2_with fail
      go_loop [8, 10] (fun v i => ∃ k vf : Nat, 0 + k ≤ 3 ∧ i = .int .i64 ((0 + k : Nat) : Int) ∧ v = .int .i64 vf ∧ Np.Sat4 vf (Np.num (Np.keep (s.data.toList.drop 0) ++ List.replicate k 48))) (fun _ i => 3 - (intOf i).toNat)
      case atStart => exact ⟨0, vv, by omega, by first | rfl | go_num, rfl, HS0.out⟩
      case round =>
        obtain ⟨k, vf, hk, rfl, rfl, hsat⟩ := hrel
        have hvf := hsat.1
        have Hsat := Lib.hid hsat
        clear hsat
        by_cases hk3 : 0 + k < 3
        · have Hr := Lib.hid (Np.num_rep (Np.keep (s.data.toList.drop 0)) k)
          go_wp2_with fail
          all_goals
            go_round
            case rel =>
              refine ⟨k + 1, min (10 * vf + 0) 36028797018963968, by omega, by go_num, ?_, ?_⟩
              · congr 1; omega
              · rw [Hr.out]; exact Np.sat4_step Hsat.out rfl
            case measure => simp [intOf]; omega
        · have HS1 : Hid (Np.Sat4 vf (Np.num DL)) := Lib.hid (by
            have := Hsat.out
            rw [show k = 3 - 0 by omega, ← HDL.out] at this
            exact this)
          clear Hsat
          by_cases hvm : vf ≤ 9007199254740992
          · have HE : Hid (Np.ans (Np.parseS s.data.toList) = .returned (.tuple #[.int .i64 (vf : Int), .int .i64 0])) := Lib.hid (by
              rw [Hun.out, Np.fin_small HS1.out hvm]; rfl)
            go_wp2_with fail
            go_ret2
            exact ⟨HE.out.symm, rfl⟩
          · have HE : Hid (Np.ans (Np.parseS s.data.toList) = .returned (.tuple #[.int .i64 0, .int .i64 2])) := Lib.hid (by
              rw [Hun.out, Np.fin_large HS1.out hvm]; rfl)
            go_wp2_with fail
            go_ret2
            exact ⟨HE.out.symm, rfl⟩

set_option maxHeartbeats 1600000 in
theorem refParse0_B0 (s : ByteArray) (hs : s.size ≤ 1000000) (w : World) (n : Nat) (hneg : Np.neg s.data.toList = false) (hpos : 0 < s.size) (hrun : Np.runN s.data.toList 0 = n) (c : UInt8) (hlt : n < s.size) (hc : s[n]'hlt = c) (h46' : ¬ c = 46) (hn : n = 0) (hE : Np.ans (Np.parseS s.data.toList) = .returned (.tuple #[.int .i64 0, .int .i64 1])) :
    Calls Tryd.prog 11 #[.string s] w fun e w' => e = Np.ans (Np.parseS s.data.toList) ∧ w = w' := by
  have HE := Lib.hid hE
  have hltz : (n : Int) < (s.size : Int) := by omega
  have hend : ((n : Int) != (s.size : Int)) = true := by rw [bne_iff_ne]; omega
  have hnb : n ≤ 1000000 := by omega
  have h46 : ((c.toNat : Int) == 46) = false := by
    rw [beq_eq_false_iff_ne]; intro h2
    exact h46' (UInt8.toNat_inj.mp (by rw [show (46 : UInt8).toNat = 46 from rfl]; omega))
  have hn0 : ((n : Int) == 0) = true := by rw [hn]; rfl
  clear hn
  clear hE h46'
  have Hrun := Lib.hid hrun
  have hpos' : (0 : Int) < (s.size : Int) := by omega
  obtain ⟨c0, hc0⟩ : ∃ c, s[0]'hpos = c := ⟨_, rfl⟩
  have h45 : ((c0.toNat : Int) == 45) = false := by
    have h := Np.head_of s hpos
    rw [hc0] at h
    unfold Np.neg at hneg
    rw [h] at hneg
    rw [beq_eq_false_iff_ne]; intro h2; simp only [beq_eq_false_iff_ne, ne_eq, Option.some.injEq] at hneg; exact hneg (UInt8.toNat_inj.mp (by rw [show (45 : UInt8).toNat = 45 from rfl]; omega))
  clear hrun hneg
  go_enter Tryd.func11, Tryd.ntmps11
  go_wp2_with fail
  refine (refRun_at s 0 (by omega) (by omega) _ hs).mono ?_
  rintro e w1 ⟨rfl, rfl⟩
  rw [show (0 : Int).toNat = 0 from rfl, Hrun.out]
  go_wp2_with fail
  go_ret2
  exact ⟨HE.out.symm, rfl⟩

set_option maxHeartbeats 1600000 in
theorem refParse0_B1 (s : ByteArray) (hs : s.size ≤ 1000000) (w : World) (n : Nat) (hneg : Np.neg s.data.toList = false) (hpos : 0 < s.size) (hrun : Np.runN s.data.toList 0 = n) (c : UInt8) (hlt : n < s.size) (hc : s[n]'hlt = c) (h46' : ¬ c = 46) (hn : 1 ≤ n) (hE : Np.ans (Np.parseS s.data.toList) = .returned (.tuple #[.int .i64 0, .int .i64 1])) :
    Calls Tryd.prog 11 #[.string s] w fun e w' => e = Np.ans (Np.parseS s.data.toList) ∧ w = w' := by
  have HE := Lib.hid hE
  have hltz : (n : Int) < (s.size : Int) := by omega
  have hend : ((n : Int) != (s.size : Int)) = true := by rw [bne_iff_ne]; omega
  have hnb : n ≤ 1000000 := by omega
  have h46 : ((c.toNat : Int) == 46) = false := by
    rw [beq_eq_false_iff_ne]; intro h2
    exact h46' (UInt8.toNat_inj.mp (by rw [show (46 : UInt8).toNat = 46 from rfl]; omega))
  have hn0 : ((n : Int) == 0) = false := by rw [beq_eq_false_iff_ne]; omega
  clear hE h46'
  have Hrun := Lib.hid hrun
  have hpos' : (0 : Int) < (s.size : Int) := by omega
  obtain ⟨c0, hc0⟩ : ∃ c, s[0]'hpos = c := ⟨_, rfl⟩
  have h45 : ((c0.toNat : Int) == 45) = false := by
    have h := Np.head_of s hpos
    rw [hc0] at h
    unfold Np.neg at hneg
    rw [h] at hneg
    rw [beq_eq_false_iff_ne]; intro h2; simp only [beq_eq_false_iff_ne, ne_eq, Option.some.injEq] at hneg; exact hneg (UInt8.toNat_inj.mp (by rw [show (45 : UInt8).toNat = 45 from rfl]; omega))
  clear hrun hneg
  go_enter Tryd.func11, Tryd.ntmps11
  go_wp2_with fail
  refine (refRun_at s 0 (by omega) (by omega) _ hs).mono ?_
  rintro e w1 ⟨rfl, rfl⟩
  rw [show (0 : Int).toNat = 0 from rfl, Hrun.out]
  go_wp2_with fail
  go_ret2
  exact ⟨HE.out.symm, rfl⟩

set_option maxHeartbeats 1600000 in
theorem refParse0_C1 (s : ByteArray) (hs : s.size ≤ 1000000) (w : World) (n : Nat) (hneg : Np.neg s.data.toList = false) (hpos : 0 < s.size) (hrun : Np.runN s.data.toList 0 = n) (c : UInt8) (hlt : n < s.size) (hc : s[n]'hlt = c) (h46' : c = 46) (m : Nat) (hm : m ≤ 1000000) (hrun2 : Np.runN s.data.toList (n + 1) = m) (h1 : m < 1) (hE : Np.ans (Np.parseS s.data.toList) = .returned (.tuple #[.int .i64 0, .int .i64 1])) :
    Calls Tryd.prog 11 #[.string s] w fun e w' => e = Np.ans (Np.parseS s.data.toList) ∧ w = w' := by
  have HE := Lib.hid hE
  have hltz : (n : Int) < (s.size : Int) := by omega
  have hnb : n ≤ 1000000 := by omega
  have Hrun2 := Lib.hid hrun2
  have h46 : ((c.toNat : Int) == 46) = true := by rw [h46']; rfl
  have h1z : (m : Int) < 1 := by omega
  clear hE h46' hrun2
  have Hrun := Lib.hid hrun
  have hpos' : (0 : Int) < (s.size : Int) := by omega
  obtain ⟨c0, hc0⟩ : ∃ c, s[0]'hpos = c := ⟨_, rfl⟩
  have h45 : ((c0.toNat : Int) == 45) = false := by
    have h := Np.head_of s hpos
    rw [hc0] at h
    unfold Np.neg at hneg
    rw [h] at hneg
    rw [beq_eq_false_iff_ne]; intro h2; simp only [beq_eq_false_iff_ne, ne_eq, Option.some.injEq] at hneg; exact hneg (UInt8.toNat_inj.mp (by rw [show (45 : UInt8).toNat = 45 from rfl]; omega))
  clear hrun hneg
  go_enter Tryd.func11, Tryd.ntmps11
  go_wp2_with fail
  refine (refRun_at s 0 (by omega) (by omega) _ hs).mono ?_
  rintro e w1 ⟨rfl, rfl⟩
  rw [show (0 : Int).toNat = 0 from rfl, Hrun.out]
  go_wp2_with fail
  refine (refRun_at s _ (by omega) (by omega) _ hs).mono ?_
  rintro e w1 ⟨rfl, rfl⟩
  rw [show ((n : Int) + 1).toNat = n + 1 by omega, Hrun2.out]
  go_wp2_with fail
  go_ret2
  exact ⟨HE.out.symm, rfl⟩

set_option maxHeartbeats 1600000 in
theorem refParse0_C2 (s : ByteArray) (hs : s.size ≤ 1000000) (w : World) (n : Nat) (hneg : Np.neg s.data.toList = false) (hpos : 0 < s.size) (hrun : Np.runN s.data.toList 0 = n) (c : UInt8) (hlt : n < s.size) (hc : s[n]'hlt = c) (h46' : c = 46) (m : Nat) (hm : m ≤ 1000000) (hrun2 : Np.runN s.data.toList (n + 1) = m) (h1 : ¬ m < 1) (h3 : 3 < m) (hE : Np.ans (Np.parseS s.data.toList) = .returned (.tuple #[.int .i64 0, .int .i64 1])) :
    Calls Tryd.prog 11 #[.string s] w fun e w' => e = Np.ans (Np.parseS s.data.toList) ∧ w = w' := by
  have HE := Lib.hid hE
  have hltz : (n : Int) < (s.size : Int) := by omega
  have hnb : n ≤ 1000000 := by omega
  have Hrun2 := Lib.hid hrun2
  have h46 : ((c.toNat : Int) == 46) = true := by rw [h46']; rfl
  have h1z : ¬ (m : Int) < 1 := by omega
  have h3z : 3 < (m : Int) := by omega
  clear hE h46' hrun2
  have Hrun := Lib.hid hrun
  have hpos' : (0 : Int) < (s.size : Int) := by omega
  obtain ⟨c0, hc0⟩ : ∃ c, s[0]'hpos = c := ⟨_, rfl⟩
  have h45 : ((c0.toNat : Int) == 45) = false := by
    have h := Np.head_of s hpos
    rw [hc0] at h
    unfold Np.neg at hneg
    rw [h] at hneg
    rw [beq_eq_false_iff_ne]; intro h2; simp only [beq_eq_false_iff_ne, ne_eq, Option.some.injEq] at hneg; exact hneg (UInt8.toNat_inj.mp (by rw [show (45 : UInt8).toNat = 45 from rfl]; omega))
  clear hrun hneg
  go_enter Tryd.func11, Tryd.ntmps11
  go_wp2_with fail
  refine (refRun_at s 0 (by omega) (by omega) _ hs).mono ?_
  rintro e w1 ⟨rfl, rfl⟩
  rw [show (0 : Int).toNat = 0 from rfl, Hrun.out]
  go_wp2_with fail
  refine (refRun_at s _ (by omega) (by omega) _ hs).mono ?_
  rintro e w1 ⟨rfl, rfl⟩
  rw [show ((n : Int) + 1).toNat = n + 1 by omega, Hrun2.out]
  go_wp2_with fail
  go_ret2
  exact ⟨HE.out.symm, rfl⟩

set_option maxHeartbeats 1600000 in
theorem refParse0_C3a (s : ByteArray) (hs : s.size ≤ 1000000) (w : World) (n : Nat) (hneg : Np.neg s.data.toList = false) (hpos : 0 < s.size) (hrun : Np.runN s.data.toList 0 = n) (c : UInt8) (hlt : n < s.size) (hc : s[n]'hlt = c) (h46' : c = 46) (m : Nat) (hm : m ≤ 1000000) (hrun2 : Np.runN s.data.toList (n + 1) = m) (h1 : ¬ m < 1) (h3 : ¬ 3 < m) (hn : n = 0) (hE : Np.ans (Np.parseS s.data.toList) = .returned (.tuple #[.int .i64 0, .int .i64 1])) :
    Calls Tryd.prog 11 #[.string s] w fun e w' => e = Np.ans (Np.parseS s.data.toList) ∧ w = w' := by
  have HE := Lib.hid hE
  have hltz : (n : Int) < (s.size : Int) := by omega
  have hnb : n ≤ 1000000 := by omega
  have Hrun2 := Lib.hid hrun2
  have h46 : ((c.toNat : Int) == 46) = true := by rw [h46']; rfl
  have h1z : ¬ (m : Int) < 1 := by omega
  have h3z : ¬ 3 < (m : Int) := by omega
  have hn0 : ((n : Int) == 0) = true := by rw [hn]; rfl
  clear hE h46' hrun2 hn
  have Hrun := Lib.hid hrun
  have hpos' : (0 : Int) < (s.size : Int) := by omega
  obtain ⟨c0, hc0⟩ : ∃ c, s[0]'hpos = c := ⟨_, rfl⟩
  have h45 : ((c0.toNat : Int) == 45) = false := by
    have h := Np.head_of s hpos
    rw [hc0] at h
    unfold Np.neg at hneg
    rw [h] at hneg
    rw [beq_eq_false_iff_ne]; intro h2; simp only [beq_eq_false_iff_ne, ne_eq, Option.some.injEq] at hneg; exact hneg (UInt8.toNat_inj.mp (by rw [show (45 : UInt8).toNat = 45 from rfl]; omega))
  clear hrun hneg
  go_enter Tryd.func11, Tryd.ntmps11
  go_wp2_with fail
  refine (refRun_at s 0 (by omega) (by omega) _ hs).mono ?_
  rintro e w1 ⟨rfl, rfl⟩
  rw [show (0 : Int).toNat = 0 from rfl, Hrun.out]
  go_wp2_with fail
  refine (refRun_at s _ (by omega) (by omega) _ hs).mono ?_
  rintro e w1 ⟨rfl, rfl⟩
  rw [show ((n : Int) + 1).toNat = n + 1 by omega, Hrun2.out]
  go_wp2_with fail
  go_ret2
  exact ⟨HE.out.symm, rfl⟩

set_option maxHeartbeats 1600000 in
theorem refParse0_C3b (s : ByteArray) (hs : s.size ≤ 1000000) (w : World) (n : Nat) (hneg : Np.neg s.data.toList = false) (hpos : 0 < s.size) (hrun : Np.runN s.data.toList 0 = n) (c : UInt8) (hlt : n < s.size) (hc : s[n]'hlt = c) (h46' : c = 46) (m : Nat) (hm : m ≤ 1000000) (hrun2 : Np.runN s.data.toList (n + 1) = m) (h1 : ¬ m < 1) (h3 : ¬ 3 < m) (hn : 1 ≤ n) (hne : n + 1 + m ≠ s.size) (hE : Np.ans (Np.parseS s.data.toList) = .returned (.tuple #[.int .i64 0, .int .i64 1])) :
    Calls Tryd.prog 11 #[.string s] w fun e w' => e = Np.ans (Np.parseS s.data.toList) ∧ w = w' := by
  have HE := Lib.hid hE
  have hltz : (n : Int) < (s.size : Int) := by omega
  have hnb : n ≤ 1000000 := by omega
  have Hrun2 := Lib.hid hrun2
  have h46 : ((c.toNat : Int) == 46) = true := by rw [h46']; rfl
  have h1z : ¬ (m : Int) < 1 := by omega
  have h3z : ¬ 3 < (m : Int) := by omega
  have hn0 : ((n : Int) == 0) = false := by rw [beq_eq_false_iff_ne]; omega
  have hend : ((n : Int) + 1 + (m : Int) != (s.size : Int)) = true := by rw [bne_iff_ne]; omega
  clear hE h46' hrun2
  have Hrun := Lib.hid hrun
  have hpos' : (0 : Int) < (s.size : Int) := by omega
  obtain ⟨c0, hc0⟩ : ∃ c, s[0]'hpos = c := ⟨_, rfl⟩
  have h45 : ((c0.toNat : Int) == 45) = false := by
    have h := Np.head_of s hpos
    rw [hc0] at h
    unfold Np.neg at hneg
    rw [h] at hneg
    rw [beq_eq_false_iff_ne]; intro h2; simp only [beq_eq_false_iff_ne, ne_eq, Option.some.injEq] at hneg; exact hneg (UInt8.toNat_inj.mp (by rw [show (45 : UInt8).toNat = 45 from rfl]; omega))
  clear hrun hneg
  go_enter Tryd.func11, Tryd.ntmps11
  go_wp2_with fail
  refine (refRun_at s 0 (by omega) (by omega) _ hs).mono ?_
  rintro e w1 ⟨rfl, rfl⟩
  rw [show (0 : Int).toNat = 0 from rfl, Hrun.out]
  go_wp2_with fail
  refine (refRun_at s _ (by omega) (by omega) _ hs).mono ?_
  rintro e w1 ⟨rfl, rfl⟩
  rw [show ((n : Int) + 1).toNat = n + 1 by omega, Hrun2.out]
  go_wp2_with fail
  go_ret2
  exact ⟨HE.out.symm, rfl⟩

set_option maxHeartbeats 1600000 in
theorem refParse0_C3c (s : ByteArray) (hs : s.size ≤ 1000000) (w : World) (n : Nat) (hneg : Np.neg s.data.toList = false) (hpos : 0 < s.size) (hrun : Np.runN s.data.toList 0 = n) (c : UInt8) (hlt : n < s.size) (hc : s[n]'hlt = c) (h46' : c = 46) (m : Nat) (hm : m ≤ 1000000) (hrun2 : Np.runN s.data.toList (n + 1) = m) (h1 : ¬ m < 1) (h3 : ¬ 3 < m) (hn : 1 ≤ n) (hee : n + 1 + m = s.size) (DL : List UInt8) (hun : Np.parseS s.data.toList = Np.fin false (Np.num DL)) (hDL : DL = Np.keep (s.data.toList.drop 0) ++ List.replicate (3 - m) 48) (hF : Np.Fits s 0) :
    Calls Tryd.prog 11 #[.string s] w fun e w' => e = Np.ans (Np.parseS s.data.toList) ∧ w = w' := by
  have HF := Lib.hid hF
  have Hun := Lib.hid hun
  have HDL := Lib.hid hDL
  have hltz : (n : Int) < (s.size : Int) := by omega
  have hnb : n ≤ 1000000 := by omega
  have Hrun2 := Lib.hid hrun2
  have h46 : ((c.toNat : Int) == 46) = true := by rw [h46']; rfl
  have h1z : ¬ (m : Int) < 1 := by omega
  have h3z : ¬ 3 < (m : Int) := by omega
  have hn0 : ((n : Int) == 0) = false := by rw [beq_eq_false_iff_ne]; omega
  have hend : ((n : Int) + 1 + (m : Int) != (s.size : Int)) = false := by simp only [bne_eq_false_iff_eq]; omega
  have Hee := Lib.hid hee
  clear h46' hrun2 hee hF hun hDL
  have Hrun := Lib.hid hrun
  have hpos' : (0 : Int) < (s.size : Int) := by omega
  obtain ⟨c0, hc0⟩ : ∃ c, s[0]'hpos = c := ⟨_, rfl⟩
  have h45 : ((c0.toNat : Int) == 45) = false := by
    have h := Np.head_of s hpos
    rw [hc0] at h
    unfold Np.neg at hneg
    rw [h] at hneg
    rw [beq_eq_false_iff_ne]; intro h2; simp only [beq_eq_false_iff_ne, ne_eq, Option.some.injEq] at hneg; exact hneg (UInt8.toNat_inj.mp (by rw [show (45 : UInt8).toNat = 45 from rfl]; omega))
  clear hrun hneg
  go_enter Tryd.func11, Tryd.ntmps11
  go_wp2_with fail
  refine (refRun_at s 0 (by omega) (by omega) _ hs).mono ?_
  rintro e w1 ⟨rfl, rfl⟩
  rw [show (0 : Int).toNat = 0 from rfl, Hrun.out]
  go_wp2_with fail
  refine (refRun_at s _ (by omega) (by omega) _ hs).mono ?_
  rintro e w1 ⟨rfl, rfl⟩
  rw [show ((n : Int) + 1).toNat = n + 1 by omega, Hrun2.out]
  go_wp2_with fail
  go_loop [8, 9] (fun v i => ∃ j vv : Nat, j ≤ s.size ∧ 0 ≤ j ∧ i = .int .i64 j ∧ v = .int .i64 vv ∧ Np.Sat4 vv (Np.num (Np.keep ((s.data.toList.take j).drop 0)))) (fun _ i => s.size - (intOf i).toNat)
  case atStart => exact ⟨0, 0, by omega, Nat.le_refl _, rfl, rfl, by
    have e : (s.data.toList.take 0).drop 0 = [] := by rw [List.drop_take]; simp
    rw [e]; exact Np.sat4_zero⟩
  case round =>
    obtain ⟨j, vv, hj, haj, rfl, rfl, hsat⟩ := hrel
    have hvv := hsat.1
    have Hsat := Lib.hid hsat
    clear hsat
    by_cases hlt : j < s.size
    · obtain ⟨c, hc⟩ : ∃ c, s[j]'hlt = c := ⟨_, rfl⟩
      rcases HF.out j hlt haj with hd | hd
      · have Hk := Lib.hid (Np.keep_dig s 0 j haj hlt hd)
        rw [hc] at hd
        have hbd := Np.dig_bd hd
        have hne : ((c.toNat : Int) != 46) = true := by
          rw [bne_iff_ne]; intro h
          have := (Np.dig_ne hd).1
          exact this (UInt8.toNat_inj.mp (by rw [show (46 : UInt8).toNat = 46 from rfl]; omega))
        have Hc := Lib.hid hc
        clear hd
        go_wp2_with fail
        all_goals
          go_round
          case rel =>
            refine ⟨j + 1, min (10 * vv + (c.toNat - 48)) 36028797018963968, by omega, by omega, by go_num, ?_, ?_⟩
            · congr 1; omega
            · rw [Hk.out, Hc.out]; exact Np.sat4_step Hsat.out rfl
          case measure => simp [intOf]; omega
      · have Hk := Lib.hid (Np.keep_dot s 0 j haj hlt hd)
        rw [hc] at hd
        have hne : ((c.toNat : Int) != 46) = false := by rw [hd]; rfl
        have Hd := Lib.hid hd
        clear hd
        go_wp2_with fail
        go_round
        case rel => exact ⟨j + 1, vv, by omega, by omega, by go_num, rfl, by rw [Hk.out]; exact Hsat.out⟩
        case measure => simp [intOf]; omega
    · have HS0 : Hid (Np.Sat4 vv (Np.num (Np.keep (s.data.toList.drop 0) ++ List.replicate 0 48))) := Lib.hid (by
        have := Hsat.out
        rw [List.take_of_length_le (by rw [← Lib.size_eq]; omega)] at this
        simpa using this)
      clear Hsat
      go_wp2_with fail
      go_loop [8, 10] (fun v i => ∃ k vf : Nat, m + k ≤ 3 ∧ i = .int .i64 ((m + k : Nat) : Int) ∧ v = .int .i64 vf ∧ Np.Sat4 vf (Np.num (Np.keep (s.data.toList.drop 0) ++ List.replicate k 48))) (fun _ i => 3 - (intOf i).toNat)
      case atStart => exact ⟨0, vv, by omega, by first | rfl | go_num, rfl, HS0.out⟩
      case round =>
        obtain ⟨k, vf, hk, rfl, rfl, hsat⟩ := hrel
        have hvf := hsat.1
        have Hsat := Lib.hid hsat
        clear hsat
        by_cases hk3 : m + k < 3
        · have Hr := Lib.hid (Np.num_rep (Np.keep (s.data.toList.drop 0)) k)
          go_wp2_with fail
          all_goals
            go_round
            case rel =>
              refine ⟨k + 1, min (10 * vf + 0) 36028797018963968, by omega, by go_num, ?_, ?_⟩
              · congr 1; omega
              · rw [Hr.out]; exact Np.sat4_step Hsat.out rfl
            case measure => simp [intOf]; omega
        · have HS1 : Hid (Np.Sat4 vf (Np.num DL)) := Lib.hid (by
            have := Hsat.out
            rw [show k = 3 - m by omega, ← HDL.out] at this
            exact this)
          clear Hsat
          by_cases hvm : vf ≤ 9007199254740992
          · have HE : Hid (Np.ans (Np.parseS s.data.toList) = .returned (.tuple #[.int .i64 (vf : Int), .int .i64 0])) := Lib.hid (by
              rw [Hun.out, Np.fin_small HS1.out hvm]; rfl)
            go_wp2_with fail
            go_ret2
            exact ⟨HE.out.symm, rfl⟩
          · have HE : Hid (Np.ans (Np.parseS s.data.toList) = .returned (.tuple #[.int .i64 0, .int .i64 2])) := Lib.hid (by
              rw [Hun.out, Np.fin_large HS1.out hvm]; rfl)
            go_wp2_with fail
            go_ret2
            exact ⟨HE.out.symm, rfl⟩

set_option maxHeartbeats 1600000 in
theorem refParse1_A1 (s : ByteArray) (hs : s.size ≤ 1000000) (w : World) (n : Nat) (hneg : Np.neg s.data.toList = true) (hpos : 0 < s.size) (hrun : Np.runN s.data.toList 1 = n) (hsz : 1 + n = s.size) (hn : n = 0) (hE : Np.ans (Np.parseS s.data.toList) = .returned (.tuple #[.int .i64 0, .int .i64 1])) :
    Calls Tryd.prog 11 #[.string s] w fun e w' => e = Np.ans (Np.parseS s.data.toList) ∧ w = w' := by
  have HE := Lib.hid hE
  have hn0 : ((n : Int) == 0) = true := by rw [hn]; rfl
  have hlt : ¬ (1 + (n : Int) < (s.size : Int)) := by omega
  have hend : (1 + (n : Int) != (s.size : Int)) = false := by simp only [bne_eq_false_iff_eq]; omega
  have hnb : n ≤ 1000000 := by omega
  have Hsz := Lib.hid hsz
  clear hsz
  clear hE hn
  have Hrun := Lib.hid hrun
  have hpos' : (0 : Int) < (s.size : Int) := by omega
  obtain ⟨c0, hc0⟩ : ∃ c, s[0]'hpos = c := ⟨_, rfl⟩
  have h45 : ((c0.toNat : Int) == 45) = true := by
    have h := Np.head_of s hpos
    rw [hc0] at h
    unfold Np.neg at hneg
    rw [h] at hneg
    simp only [beq_iff_eq, Option.some.injEq] at hneg; rw [hneg]; rfl
  clear hrun hneg
  go_enter Tryd.func11, Tryd.ntmps11
  go_wp2_with fail
  refine (refRun_at s 1 (by omega) (by omega) _ hs).mono ?_
  rintro e w1 ⟨rfl, rfl⟩
  rw [show (1 : Int).toNat = 1 from rfl, Hrun.out]
  go_wp2_with fail
  go_ret2
  exact ⟨HE.out.symm, rfl⟩

set_option maxHeartbeats 1600000 in
theorem refParse1_A2 (s : ByteArray) (hs : s.size ≤ 1000000) (w : World) (n : Nat) (hneg : Np.neg s.data.toList = true) (hpos : 0 < s.size) (hrun : Np.runN s.data.toList 1 = n) (hsz : 1 + n = s.size) (hn : 1 ≤ n) (DL : List UInt8) (hun : Np.parseS s.data.toList = Np.fin true (Np.num DL)) (hDL : DL = Np.keep (s.data.toList.drop 1) ++ List.replicate (3 - 0) 48) (hF : Np.Fits s 1) :
    Calls Tryd.prog 11 #[.string s] w fun e w' => e = Np.ans (Np.parseS s.data.toList) ∧ w = w' := by
  have HF := Lib.hid hF
  have Hun := Lib.hid hun
  have HDL := Lib.hid hDL
  have hn0 : ((n : Int) == 0) = false := by rw [beq_eq_false_iff_ne]; omega
  have hlt : ¬ (1 + (n : Int) < (s.size : Int)) := by omega
  have hend : (1 + (n : Int) != (s.size : Int)) = false := by simp only [bne_eq_false_iff_eq]; omega
  have hnb : n ≤ 1000000 := by omega
  have Hsz := Lib.hid hsz
  clear hsz
  clear hF hun hDL
  have Hrun := Lib.hid hrun
  have hpos' : (0 : Int) < (s.size : Int) := by omega
  obtain ⟨c0, hc0⟩ : ∃ c, s[0]'hpos = c := ⟨_, rfl⟩
  have h45 : ((c0.toNat : Int) == 45) = true := by
    have h := Np.head_of s hpos
    rw [hc0] at h
    unfold Np.neg at hneg
    rw [h] at hneg
    simp only [beq_iff_eq, Option.some.injEq] at hneg; rw [hneg]; rfl
  clear hrun hneg
  go_enter Tryd.func11, Tryd.ntmps11
  go_wp2_with fail
  refine (refRun_at s 1 (by omega) (by omega) _ hs).mono ?_
  rintro e w1 ⟨rfl, rfl⟩
  rw [show (1 : Int).toNat = 1 from rfl, Hrun.out]
  go_wp2_with fail
  go_loop [8, 9] (fun v i => ∃ j vv : Nat, j ≤ s.size ∧ 1 ≤ j ∧ i = .int .i64 j ∧ v = .int .i64 vv ∧ Np.Sat4 vv (Np.num (Np.keep ((s.data.toList.take j).drop 1)))) (fun _ i => s.size - (intOf i).toNat)
  case atStart => exact ⟨1, 0, by omega, Nat.le_refl _, rfl, rfl, by
    have e : (s.data.toList.take 1).drop 1 = [] := by rw [List.drop_take]; simp
    rw [e]; exact Np.sat4_zero⟩
  case round =>
    obtain ⟨j, vv, hj, haj, rfl, rfl, hsat⟩ := hrel
    have hvv := hsat.1
    have Hsat := Lib.hid hsat
    clear hsat
    by_cases hlt : j < s.size
    · obtain ⟨c, hc⟩ : ∃ c, s[j]'hlt = c := ⟨_, rfl⟩
      rcases HF.out j hlt haj with hd | hd
      · have Hk := Lib.hid (Np.keep_dig s 1 j haj hlt hd)
        rw [hc] at hd
        have hbd := Np.dig_bd hd
        have hne : ((c.toNat : Int) != 46) = true := by
          rw [bne_iff_ne]; intro h
          have := (Np.dig_ne hd).1
          exact this (UInt8.toNat_inj.mp (by rw [show (46 : UInt8).toNat = 46 from rfl]; omega))
        have Hc := Lib.hid hc
        clear hd
        go_wp2_with fail
        all_goals
          go_round
          case rel =>
            refine ⟨j + 1, min (10 * vv + (c.toNat - 48)) 36028797018963968, by omega, by omega, by go_num, ?_, ?_⟩
            · congr 1; omega
            · rw [Hk.out, Hc.out]; exact Np.sat4_step Hsat.out rfl
          case measure => simp [intOf]; omega
      · have Hk := Lib.hid (Np.keep_dot s 1 j haj hlt hd)
        rw [hc] at hd
        have hne : ((c.toNat : Int) != 46) = false := by rw [hd]; rfl
        have Hd := Lib.hid hd
        clear hd
        go_wp2_with fail
        go_round
        case rel => exact ⟨j + 1, vv, by omega, by omega, by go_num, rfl, by rw [Hk.out]; exact Hsat.out⟩
        case measure => simp [intOf]; omega
    · have HS0 : Hid (Np.Sat4 vv (Np.num (Np.keep (s.data.toList.drop 1) ++ List.replicate 0 48))) := Lib.hid (by
        have := Hsat.out
        rw [List.take_of_length_le (by rw [← Lib.size_eq]; omega)] at this
        simpa using this)
      clear Hsat
      go_wp2_with fail
      go_loop [8, 10] (fun v i => ∃ k vf : Nat, 0 + k ≤ 3 ∧ i = .int .i64 ((0 + k : Nat) : Int) ∧ v = .int .i64 vf ∧ Np.Sat4 vf (Np.num (Np.keep (s.data.toList.drop 1) ++ List.replicate k 48))) (fun _ i => 3 - (intOf i).toNat)
      case atStart => exact ⟨0, vv, by omega, by first | rfl | go_num, rfl, HS0.out⟩
      case round =>
        obtain ⟨k, vf, hk, rfl, rfl, hsat⟩ := hrel
        have hvf := hsat.1
        have Hsat := Lib.hid hsat
        clear hsat
        by_cases hk3 : 0 + k < 3
        · have Hr := Lib.hid (Np.num_rep (Np.keep (s.data.toList.drop 1)) k)
          go_wp2_with fail
          all_goals
            go_round
            case rel =>
              refine ⟨k + 1, min (10 * vf + 0) 36028797018963968, by omega, by go_num, ?_, ?_⟩
              · congr 1; omega
              · rw [Hr.out]; exact Np.sat4_step Hsat.out rfl
            case measure => simp [intOf]; omega
        · have HS1 : Hid (Np.Sat4 vf (Np.num DL)) := Lib.hid (by
            have := Hsat.out
            rw [show k = 3 - 0 by omega, ← HDL.out] at this
            exact this)
          clear Hsat
          by_cases hvm : vf ≤ 9007199254740992
          · have HE : Hid (Np.ans (Np.parseS s.data.toList) = .returned (.tuple #[.int .i64 (-(vf : Int)), .int .i64 0])) := Lib.hid (by
              rw [Hun.out, Np.fin_small HS1.out hvm]; rfl)
            go_wp2_with fail
            go_ret2
            exact ⟨HE.out.symm, rfl⟩
          · have HE : Hid (Np.ans (Np.parseS s.data.toList) = .returned (.tuple #[.int .i64 0, .int .i64 2])) := Lib.hid (by
              rw [Hun.out, Np.fin_large HS1.out hvm]; rfl)
            go_wp2_with fail
            go_ret2
            exact ⟨HE.out.symm, rfl⟩

set_option maxHeartbeats 1600000 in
theorem refParse1_B0 (s : ByteArray) (hs : s.size ≤ 1000000) (w : World) (n : Nat) (hneg : Np.neg s.data.toList = true) (hpos : 0 < s.size) (hrun : Np.runN s.data.toList 1 = n) (c : UInt8) (hlt : 1 + n < s.size) (hc : s[1 + n]'hlt = c) (h46' : ¬ c = 46) (hn : n = 0) (hE : Np.ans (Np.parseS s.data.toList) = .returned (.tuple #[.int .i64 0, .int .i64 1])) :
    Calls Tryd.prog 11 #[.string s] w fun e w' => e = Np.ans (Np.parseS s.data.toList) ∧ w = w' := by
  have HE := Lib.hid hE
  have hltz : 1 + (n : Int) < (s.size : Int) := by omega
  have hend : (1 + (n : Int) != (s.size : Int)) = true := by rw [bne_iff_ne]; omega
  have hnb : n ≤ 1000000 := by omega
  have h46 : ((c.toNat : Int) == 46) = false := by
    rw [beq_eq_false_iff_ne]; intro h2
    exact h46' (UInt8.toNat_inj.mp (by rw [show (46 : UInt8).toNat = 46 from rfl]; omega))
  have hn0 : ((n : Int) == 0) = true := by rw [hn]; rfl
  clear hn
  clear hE h46'
  have Hrun := Lib.hid hrun
  have hpos' : (0 : Int) < (s.size : Int) := by omega
  obtain ⟨c0, hc0⟩ : ∃ c, s[0]'hpos = c := ⟨_, rfl⟩
  have h45 : ((c0.toNat : Int) == 45) = true := by
    have h := Np.head_of s hpos
    rw [hc0] at h
    unfold Np.neg at hneg
    rw [h] at hneg
    simp only [beq_iff_eq, Option.some.injEq] at hneg; rw [hneg]; rfl
  clear hrun hneg
  go_enter Tryd.func11, Tryd.ntmps11
  go_wp2_with fail
  refine (refRun_at s 1 (by omega) (by omega) _ hs).mono ?_
  rintro e w1 ⟨rfl, rfl⟩
  rw [show (1 : Int).toNat = 1 from rfl, Hrun.out]
  go_wp2_with fail
  go_ret2
  exact ⟨HE.out.symm, rfl⟩

set_option maxHeartbeats 1600000 in
theorem refParse1_B1 (s : ByteArray) (hs : s.size ≤ 1000000) (w : World) (n : Nat) (hneg : Np.neg s.data.toList = true) (hpos : 0 < s.size) (hrun : Np.runN s.data.toList 1 = n) (c : UInt8) (hlt : 1 + n < s.size) (hc : s[1 + n]'hlt = c) (h46' : ¬ c = 46) (hn : 1 ≤ n) (hE : Np.ans (Np.parseS s.data.toList) = .returned (.tuple #[.int .i64 0, .int .i64 1])) :
    Calls Tryd.prog 11 #[.string s] w fun e w' => e = Np.ans (Np.parseS s.data.toList) ∧ w = w' := by
  have HE := Lib.hid hE
  have hltz : 1 + (n : Int) < (s.size : Int) := by omega
  have hend : (1 + (n : Int) != (s.size : Int)) = true := by rw [bne_iff_ne]; omega
  have hnb : n ≤ 1000000 := by omega
  have h46 : ((c.toNat : Int) == 46) = false := by
    rw [beq_eq_false_iff_ne]; intro h2
    exact h46' (UInt8.toNat_inj.mp (by rw [show (46 : UInt8).toNat = 46 from rfl]; omega))
  have hn0 : ((n : Int) == 0) = false := by rw [beq_eq_false_iff_ne]; omega
  clear hE h46'
  have Hrun := Lib.hid hrun
  have hpos' : (0 : Int) < (s.size : Int) := by omega
  obtain ⟨c0, hc0⟩ : ∃ c, s[0]'hpos = c := ⟨_, rfl⟩
  have h45 : ((c0.toNat : Int) == 45) = true := by
    have h := Np.head_of s hpos
    rw [hc0] at h
    unfold Np.neg at hneg
    rw [h] at hneg
    simp only [beq_iff_eq, Option.some.injEq] at hneg; rw [hneg]; rfl
  clear hrun hneg
  go_enter Tryd.func11, Tryd.ntmps11
  go_wp2_with fail
  refine (refRun_at s 1 (by omega) (by omega) _ hs).mono ?_
  rintro e w1 ⟨rfl, rfl⟩
  rw [show (1 : Int).toNat = 1 from rfl, Hrun.out]
  go_wp2_with fail
  go_ret2
  exact ⟨HE.out.symm, rfl⟩

set_option maxHeartbeats 1600000 in
theorem refParse1_C1 (s : ByteArray) (hs : s.size ≤ 1000000) (w : World) (n : Nat) (hneg : Np.neg s.data.toList = true) (hpos : 0 < s.size) (hrun : Np.runN s.data.toList 1 = n) (c : UInt8) (hlt : 1 + n < s.size) (hc : s[1 + n]'hlt = c) (h46' : c = 46) (m : Nat) (hm : m ≤ 1000000) (hrun2 : Np.runN s.data.toList (1 + n + 1) = m) (h1 : m < 1) (hE : Np.ans (Np.parseS s.data.toList) = .returned (.tuple #[.int .i64 0, .int .i64 1])) :
    Calls Tryd.prog 11 #[.string s] w fun e w' => e = Np.ans (Np.parseS s.data.toList) ∧ w = w' := by
  have HE := Lib.hid hE
  have hltz : 1 + (n : Int) < (s.size : Int) := by omega
  have hnb : n ≤ 1000000 := by omega
  have Hrun2 := Lib.hid hrun2
  have h46 : ((c.toNat : Int) == 46) = true := by rw [h46']; rfl
  have h1z : (m : Int) < 1 := by omega
  clear hE h46' hrun2
  have Hrun := Lib.hid hrun
  have hpos' : (0 : Int) < (s.size : Int) := by omega
  obtain ⟨c0, hc0⟩ : ∃ c, s[0]'hpos = c := ⟨_, rfl⟩
  have h45 : ((c0.toNat : Int) == 45) = true := by
    have h := Np.head_of s hpos
    rw [hc0] at h
    unfold Np.neg at hneg
    rw [h] at hneg
    simp only [beq_iff_eq, Option.some.injEq] at hneg; rw [hneg]; rfl
  clear hrun hneg
  go_enter Tryd.func11, Tryd.ntmps11
  go_wp2_with fail
  refine (refRun_at s 1 (by omega) (by omega) _ hs).mono ?_
  rintro e w1 ⟨rfl, rfl⟩
  rw [show (1 : Int).toNat = 1 from rfl, Hrun.out]
  go_wp2_with fail
  refine (refRun_at s _ (by omega) (by omega) _ hs).mono ?_
  rintro e w1 ⟨rfl, rfl⟩
  rw [show (1 + (n : Int) + 1).toNat = 1 + n + 1 by omega, Hrun2.out]
  go_wp2_with fail
  go_ret2
  exact ⟨HE.out.symm, rfl⟩

set_option maxHeartbeats 1600000 in
theorem refParse1_C2 (s : ByteArray) (hs : s.size ≤ 1000000) (w : World) (n : Nat) (hneg : Np.neg s.data.toList = true) (hpos : 0 < s.size) (hrun : Np.runN s.data.toList 1 = n) (c : UInt8) (hlt : 1 + n < s.size) (hc : s[1 + n]'hlt = c) (h46' : c = 46) (m : Nat) (hm : m ≤ 1000000) (hrun2 : Np.runN s.data.toList (1 + n + 1) = m) (h1 : ¬ m < 1) (h3 : 3 < m) (hE : Np.ans (Np.parseS s.data.toList) = .returned (.tuple #[.int .i64 0, .int .i64 1])) :
    Calls Tryd.prog 11 #[.string s] w fun e w' => e = Np.ans (Np.parseS s.data.toList) ∧ w = w' := by
  have HE := Lib.hid hE
  have hltz : 1 + (n : Int) < (s.size : Int) := by omega
  have hnb : n ≤ 1000000 := by omega
  have Hrun2 := Lib.hid hrun2
  have h46 : ((c.toNat : Int) == 46) = true := by rw [h46']; rfl
  have h1z : ¬ (m : Int) < 1 := by omega
  have h3z : 3 < (m : Int) := by omega
  clear hE h46' hrun2
  have Hrun := Lib.hid hrun
  have hpos' : (0 : Int) < (s.size : Int) := by omega
  obtain ⟨c0, hc0⟩ : ∃ c, s[0]'hpos = c := ⟨_, rfl⟩
  have h45 : ((c0.toNat : Int) == 45) = true := by
    have h := Np.head_of s hpos
    rw [hc0] at h
    unfold Np.neg at hneg
    rw [h] at hneg
    simp only [beq_iff_eq, Option.some.injEq] at hneg; rw [hneg]; rfl
  clear hrun hneg
  go_enter Tryd.func11, Tryd.ntmps11
  go_wp2_with fail
  refine (refRun_at s 1 (by omega) (by omega) _ hs).mono ?_
  rintro e w1 ⟨rfl, rfl⟩
  rw [show (1 : Int).toNat = 1 from rfl, Hrun.out]
  go_wp2_with fail
  refine (refRun_at s _ (by omega) (by omega) _ hs).mono ?_
  rintro e w1 ⟨rfl, rfl⟩
  rw [show (1 + (n : Int) + 1).toNat = 1 + n + 1 by omega, Hrun2.out]
  go_wp2_with fail
  go_ret2
  exact ⟨HE.out.symm, rfl⟩

set_option maxHeartbeats 1600000 in
theorem refParse1_C3a (s : ByteArray) (hs : s.size ≤ 1000000) (w : World) (n : Nat) (hneg : Np.neg s.data.toList = true) (hpos : 0 < s.size) (hrun : Np.runN s.data.toList 1 = n) (c : UInt8) (hlt : 1 + n < s.size) (hc : s[1 + n]'hlt = c) (h46' : c = 46) (m : Nat) (hm : m ≤ 1000000) (hrun2 : Np.runN s.data.toList (1 + n + 1) = m) (h1 : ¬ m < 1) (h3 : ¬ 3 < m) (hn : n = 0) (hE : Np.ans (Np.parseS s.data.toList) = .returned (.tuple #[.int .i64 0, .int .i64 1])) :
    Calls Tryd.prog 11 #[.string s] w fun e w' => e = Np.ans (Np.parseS s.data.toList) ∧ w = w' := by
  have HE := Lib.hid hE
  have hltz : 1 + (n : Int) < (s.size : Int) := by omega
  have hnb : n ≤ 1000000 := by omega
  have Hrun2 := Lib.hid hrun2
  have h46 : ((c.toNat : Int) == 46) = true := by rw [h46']; rfl
  have h1z : ¬ (m : Int) < 1 := by omega
  have h3z : ¬ 3 < (m : Int) := by omega
  have hn0 : ((n : Int) == 0) = true := by rw [hn]; rfl
  clear hE h46' hrun2 hn
  have Hrun := Lib.hid hrun
  have hpos' : (0 : Int) < (s.size : Int) := by omega
  obtain ⟨c0, hc0⟩ : ∃ c, s[0]'hpos = c := ⟨_, rfl⟩
  have h45 : ((c0.toNat : Int) == 45) = true := by
    have h := Np.head_of s hpos
    rw [hc0] at h
    unfold Np.neg at hneg
    rw [h] at hneg
    simp only [beq_iff_eq, Option.some.injEq] at hneg; rw [hneg]; rfl
  clear hrun hneg
  go_enter Tryd.func11, Tryd.ntmps11
  go_wp2_with fail
  refine (refRun_at s 1 (by omega) (by omega) _ hs).mono ?_
  rintro e w1 ⟨rfl, rfl⟩
  rw [show (1 : Int).toNat = 1 from rfl, Hrun.out]
  go_wp2_with fail
  refine (refRun_at s _ (by omega) (by omega) _ hs).mono ?_
  rintro e w1 ⟨rfl, rfl⟩
  rw [show (1 + (n : Int) + 1).toNat = 1 + n + 1 by omega, Hrun2.out]
  go_wp2_with fail
  go_ret2
  exact ⟨HE.out.symm, rfl⟩

set_option maxHeartbeats 1600000 in
theorem refParse1_C3b (s : ByteArray) (hs : s.size ≤ 1000000) (w : World) (n : Nat) (hneg : Np.neg s.data.toList = true) (hpos : 0 < s.size) (hrun : Np.runN s.data.toList 1 = n) (c : UInt8) (hlt : 1 + n < s.size) (hc : s[1 + n]'hlt = c) (h46' : c = 46) (m : Nat) (hm : m ≤ 1000000) (hrun2 : Np.runN s.data.toList (1 + n + 1) = m) (h1 : ¬ m < 1) (h3 : ¬ 3 < m) (hn : 1 ≤ n) (hne : 1 + n + 1 + m ≠ s.size) (hE : Np.ans (Np.parseS s.data.toList) = .returned (.tuple #[.int .i64 0, .int .i64 1])) :
    Calls Tryd.prog 11 #[.string s] w fun e w' => e = Np.ans (Np.parseS s.data.toList) ∧ w = w' := by
  have HE := Lib.hid hE
  have hltz : 1 + (n : Int) < (s.size : Int) := by omega
  have hnb : n ≤ 1000000 := by omega
  have Hrun2 := Lib.hid hrun2
  have h46 : ((c.toNat : Int) == 46) = true := by rw [h46']; rfl
  have h1z : ¬ (m : Int) < 1 := by omega
  have h3z : ¬ 3 < (m : Int) := by omega
  have hn0 : ((n : Int) == 0) = false := by rw [beq_eq_false_iff_ne]; omega
  have hend : (1 + (n : Int) + 1 + (m : Int) != (s.size : Int)) = true := by rw [bne_iff_ne]; omega
  clear hE h46' hrun2
  have Hrun := Lib.hid hrun
  have hpos' : (0 : Int) < (s.size : Int) := by omega
  obtain ⟨c0, hc0⟩ : ∃ c, s[0]'hpos = c := ⟨_, rfl⟩
  have h45 : ((c0.toNat : Int) == 45) = true := by
    have h := Np.head_of s hpos
    rw [hc0] at h
    unfold Np.neg at hneg
    rw [h] at hneg
    simp only [beq_iff_eq, Option.some.injEq] at hneg; rw [hneg]; rfl
  clear hrun hneg
  go_enter Tryd.func11, Tryd.ntmps11
  go_wp2_with fail
  refine (refRun_at s 1 (by omega) (by omega) _ hs).mono ?_
  rintro e w1 ⟨rfl, rfl⟩
  rw [show (1 : Int).toNat = 1 from rfl, Hrun.out]
  go_wp2_with fail
  refine (refRun_at s _ (by omega) (by omega) _ hs).mono ?_
  rintro e w1 ⟨rfl, rfl⟩
  rw [show (1 + (n : Int) + 1).toNat = 1 + n + 1 by omega, Hrun2.out]
  go_wp2_with fail
  go_ret2
  exact ⟨HE.out.symm, rfl⟩

set_option maxHeartbeats 1600000 in
theorem refParse1_C3c (s : ByteArray) (hs : s.size ≤ 1000000) (w : World) (n : Nat) (hneg : Np.neg s.data.toList = true) (hpos : 0 < s.size) (hrun : Np.runN s.data.toList 1 = n) (c : UInt8) (hlt : 1 + n < s.size) (hc : s[1 + n]'hlt = c) (h46' : c = 46) (m : Nat) (hm : m ≤ 1000000) (hrun2 : Np.runN s.data.toList (1 + n + 1) = m) (h1 : ¬ m < 1) (h3 : ¬ 3 < m) (hn : 1 ≤ n) (hee : 1 + n + 1 + m = s.size) (DL : List UInt8) (hun : Np.parseS s.data.toList = Np.fin true (Np.num DL)) (hDL : DL = Np.keep (s.data.toList.drop 1) ++ List.replicate (3 - m) 48) (hF : Np.Fits s 1) :
    Calls Tryd.prog 11 #[.string s] w fun e w' => e = Np.ans (Np.parseS s.data.toList) ∧ w = w' := by
  have HF := Lib.hid hF
  have Hun := Lib.hid hun
  have HDL := Lib.hid hDL
  have hltz : 1 + (n : Int) < (s.size : Int) := by omega
  have hnb : n ≤ 1000000 := by omega
  have Hrun2 := Lib.hid hrun2
  have h46 : ((c.toNat : Int) == 46) = true := by rw [h46']; rfl
  have h1z : ¬ (m : Int) < 1 := by omega
  have h3z : ¬ 3 < (m : Int) := by omega
  have hn0 : ((n : Int) == 0) = false := by rw [beq_eq_false_iff_ne]; omega
  have hend : (1 + (n : Int) + 1 + (m : Int) != (s.size : Int)) = false := by simp only [bne_eq_false_iff_eq]; omega
  have Hee := Lib.hid hee
  clear h46' hrun2 hee hF hun hDL
  have Hrun := Lib.hid hrun
  have hpos' : (0 : Int) < (s.size : Int) := by omega
  obtain ⟨c0, hc0⟩ : ∃ c, s[0]'hpos = c := ⟨_, rfl⟩
  have h45 : ((c0.toNat : Int) == 45) = true := by
    have h := Np.head_of s hpos
    rw [hc0] at h
    unfold Np.neg at hneg
    rw [h] at hneg
    simp only [beq_iff_eq, Option.some.injEq] at hneg; rw [hneg]; rfl
  clear hrun hneg
  go_enter Tryd.func11, Tryd.ntmps11
  go_wp2_with fail
  refine (refRun_at s 1 (by omega) (by omega) _ hs).mono ?_
  rintro e w1 ⟨rfl, rfl⟩
  rw [show (1 : Int).toNat = 1 from rfl, Hrun.out]
  go_wp2_with fail
  refine (refRun_at s _ (by omega) (by omega) _ hs).mono ?_
  rintro e w1 ⟨rfl, rfl⟩
  rw [show (1 + (n : Int) + 1).toNat = 1 + n + 1 by omega, Hrun2.out]
  go_wp2_with fail
  go_loop [8, 9] (fun v i => ∃ j vv : Nat, j ≤ s.size ∧ 1 ≤ j ∧ i = .int .i64 j ∧ v = .int .i64 vv ∧ Np.Sat4 vv (Np.num (Np.keep ((s.data.toList.take j).drop 1)))) (fun _ i => s.size - (intOf i).toNat)
  case atStart => exact ⟨1, 0, by omega, Nat.le_refl _, rfl, rfl, by
    have e : (s.data.toList.take 1).drop 1 = [] := by rw [List.drop_take]; simp
    rw [e]; exact Np.sat4_zero⟩
  case round =>
    obtain ⟨j, vv, hj, haj, rfl, rfl, hsat⟩ := hrel
    have hvv := hsat.1
    have Hsat := Lib.hid hsat
    clear hsat
    by_cases hlt : j < s.size
    · obtain ⟨c, hc⟩ : ∃ c, s[j]'hlt = c := ⟨_, rfl⟩
      rcases HF.out j hlt haj with hd | hd
      · have Hk := Lib.hid (Np.keep_dig s 1 j haj hlt hd)
        rw [hc] at hd
        have hbd := Np.dig_bd hd
        have hne : ((c.toNat : Int) != 46) = true := by
          rw [bne_iff_ne]; intro h
          have := (Np.dig_ne hd).1
          exact this (UInt8.toNat_inj.mp (by rw [show (46 : UInt8).toNat = 46 from rfl]; omega))
        have Hc := Lib.hid hc
        clear hd
        go_wp2_with fail
        all_goals
          go_round
          case rel =>
            refine ⟨j + 1, min (10 * vv + (c.toNat - 48)) 36028797018963968, by omega, by omega, by go_num, ?_, ?_⟩
            · congr 1; omega
            · rw [Hk.out, Hc.out]; exact Np.sat4_step Hsat.out rfl
          case measure => simp [intOf]; omega
      · have Hk := Lib.hid (Np.keep_dot s 1 j haj hlt hd)
        rw [hc] at hd
        have hne : ((c.toNat : Int) != 46) = false := by rw [hd]; rfl
        have Hd := Lib.hid hd
        clear hd
        go_wp2_with fail
        go_round
        case rel => exact ⟨j + 1, vv, by omega, by omega, by go_num, rfl, by rw [Hk.out]; exact Hsat.out⟩
        case measure => simp [intOf]; omega
    · have HS0 : Hid (Np.Sat4 vv (Np.num (Np.keep (s.data.toList.drop 1) ++ List.replicate 0 48))) := Lib.hid (by
        have := Hsat.out
        rw [List.take_of_length_le (by rw [← Lib.size_eq]; omega)] at this
        simpa using this)
      clear Hsat
      go_wp2_with fail
      go_loop [8, 10] (fun v i => ∃ k vf : Nat, m + k ≤ 3 ∧ i = .int .i64 ((m + k : Nat) : Int) ∧ v = .int .i64 vf ∧ Np.Sat4 vf (Np.num (Np.keep (s.data.toList.drop 1) ++ List.replicate k 48))) (fun _ i => 3 - (intOf i).toNat)
      case atStart => exact ⟨0, vv, by omega, by first | rfl | go_num, rfl, HS0.out⟩
      case round =>
        obtain ⟨k, vf, hk, rfl, rfl, hsat⟩ := hrel
        have hvf := hsat.1
        have Hsat := Lib.hid hsat
        clear hsat
        by_cases hk3 : m + k < 3
        · have Hr := Lib.hid (Np.num_rep (Np.keep (s.data.toList.drop 1)) k)
          go_wp2_with fail
          all_goals
            go_round
            case rel =>
              refine ⟨k + 1, min (10 * vf + 0) 36028797018963968, by omega, by go_num, ?_, ?_⟩
              · congr 1; omega
              · rw [Hr.out]; exact Np.sat4_step Hsat.out rfl
            case measure => simp [intOf]; omega
        · have HS1 : Hid (Np.Sat4 vf (Np.num DL)) := Lib.hid (by
            have := Hsat.out
            rw [show k = 3 - m by omega, ← HDL.out] at this
            exact this)
          clear Hsat
          by_cases hvm : vf ≤ 9007199254740992
          · have HE : Hid (Np.ans (Np.parseS s.data.toList) = .returned (.tuple #[.int .i64 (-(vf : Int)), .int .i64 0])) := Lib.hid (by
              rw [Hun.out, Np.fin_small HS1.out hvm]; rfl)
            go_wp2_with fail
            go_ret2
            exact ⟨HE.out.symm, rfl⟩
          · have HE : Hid (Np.ans (Np.parseS s.data.toList) = .returned (.tuple #[.int .i64 0, .int .i64 2])) := Lib.hid (by
              rw [Hun.out, Np.fin_large HS1.out hvm]; rfl)
            go_wp2_with fail
            go_ret2
            exact ⟨HE.out.symm, rfl⟩

end Go.Proofs.YtjndehdihjlcaaaDoor

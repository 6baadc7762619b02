/-
  The walks of num.printUnsigned and num.Print: what is answered is the text of Np.printS.
-/
import Derived.Test.YtjndehdihjlcaaaDoorNumBase
import Derived.Test.YtjndehdihjlcaaaDoorNumSane
namespace Go.Proofs.YtjndehdihjlcaaaDoor
open Go.RowKit

theorem Np.printU_whole0 (v : Int) (h0 : 0 ≤ v) (h : v % 1000 = 0) : Lib.decDigits (v / 1000).toNat = Np.printU v.toNat := by
  obtain ⟨u, rfl⟩ := Int.eq_ofNat_of_zero_le h0
  unfold Np.printU Np.tailU
  rw [if_pos (by omega), List.append_nil]; congr 1
theorem Np.printU_part (v : Int) (h0 : 0 ≤ v) (h : ¬ v % 1000 = 0) :
    Lib.decDigits (v / 1000).toNat ++ [46] ++ Lib.trimRightB ((Lib.decDigits (1000 + v % 1000).toNat).drop 1) 48 = Np.printU v.toNat := by
  obtain ⟨u, rfl⟩ := Int.eq_ofNat_of_zero_le h0
  have e1 : ((u : Int) / 1000).toNat = u / 1000 := by omega
  have e2 : (1000 + (u : Int) % 1000).toNat = 1000 + u % 1000 := by omega
  have e3 : u % 1000 ≠ 0 := by omega
  rw [e1, e2, Np.dec_1000 _ (by omega), List.drop_succ_cons, List.drop_zero, Np.trim_frac _ e3 (by omega)]
  unfold Np.printU Np.tailU
  rw [Int.toNat_natCast, if_neg e3]; simp

theorem Np.trim_le (l : List UInt8) (c : UInt8) : (Lib.trimRightB l c).length ≤ l.length := by
  unfold Lib.trimRightB
  rw [List.length_reverse]
  refine Nat.le_trans (List.dropWhile_sublist _).length_le ?_
  rw [List.length_reverse]; exact Nat.le_refl _
theorem Np.tailU_len (r : Nat) : (Np.tailU r).length ≤ 4 := by
  unfold Np.tailU Np.frac
  repeat (first | split | simp)
theorem Np.printU_len (u : Nat) (h : u ≤ 9007199254740992) : (Np.printU u).length ≤ 20 := by
  unfold Np.printU
  rw [List.length_append, Lib.decDigits_length]
  have h2 := nd_le 15 (u / 1000) (by omega)
  have := Np.tailU_len (u % 1000)
  omega

set_option maxHeartbeats 800000 in
theorem printU_any (v : Int) (h0 : 0 ≤ v) (h1 : v ≤ 9007199254740992) (w : World) (hok : Ok w) :
    Calls Tryd.prog 20 #[.int .i64 v] w fun e w' => e = .returned (.string ⟨(Np.printU v.toNat).toArray⟩) ∧ Below w.heap.size w w' := by
  have Hok := Lib.hid hok
  clear hok
  by_cases hr : v % 1000 = 0
  · have Hr := Lib.hid hr
    have hb : (v % 1000 == 0) = true := by simpa using hr
    clear hr
    go_enter Tryd.func20, Tryd.ntmps20
    go_wp2_with fail
    refine (itoa_any _ (by omega) (by omega) _ Hok.out).mono ?_
    rintro e w1 ⟨rfl, hw1⟩
    go_wp2_with fail
    go_ret
    refine ⟨?_, hw1⟩
    rw [← Np.printU_whole0 v h0 Hr.out]; rfl
  · have Hr := Lib.hid hr
    have hb : (v % 1000 == 0) = false := by simpa using hr
    clear hr
    go_enter Tryd.func20, Tryd.ntmps20
    go_wp2_with fail
    refine (itoa_str _ (by omega) (by omega) _ Hok.out).mono ?_
    rintro e w1 ⟨S, rfl, ⟨hS0, hS⟩, HS, hw1⟩
    go_wp2_with fail
    refine (itoa_str _ (by omega) (by omega) _ (Hok.out.on hw1)).mono ?_
    rintro e w2 ⟨T, rfl, ⟨hT0, hT⟩, HT, hw2⟩
    go_wp2_with fail
    have hx : (T.extract 1 T.size).data.toList = (Lib.decDigits (1000 + v % 1000).toNat).drop 1 := by
      rw [Lib.extract_to_end, HT.out]
    have Hx := Lib.hid hx
    clear hx
    refine (Tryd.strings_TrimRight_one _ 48 (by decide) _ (by rw [ByteArray.size_extract]; omega)).mono ?_
    rintro e w3 ⟨rfl, rfl⟩
    rw [Hx.out]
    have hUl : (Lib.trimRightB ((Lib.decDigits (1000 + v % 1000).toNat).drop 1) 48).length ≤ 16 := by
      refine Nat.le_trans (Np.trim_le _ _) ?_
      rw [← HT.out, List.length_drop, ← Lib.size_eq]; omega
    generalize hU : Lib.trimRightB ((Lib.decDigits (1000 + v % 1000).toNat).drop 1) 48 = U at hUl ⊢
    have HU := Lib.hid hU
    clear hU
    go_wp2_with fail
    go_ret
    refine ⟨?_, below_on hw1 hw2⟩
    refine congrArg (fun x => Ending.returned (Value.string x)) (str_eq _ _ ?_)
    simp only [ByteArray.data_append, Array.toList_append]
    rw [HS.out, ← HU.out, Np.printU_part v h0 Hr.out |>.symm]

theorem print_any (v : Int) (w : World) (hok : Ok w) :
    Calls Tryd.prog 14 #[.int .i64 v] w fun e w' => e = .returned (.string ⟨(Np.printS v).toArray⟩) ∧ Below w.heap.size w w' := by
  have Hok := Lib.hid hok
  clear hok
  cases hs : Np.saneB v with
  | false =>
    have Hs := Lib.hid (Np.print_no v hs)
    go_enter Tryd.func14, Tryd.ntmps14
    go_wp2_with fail
    refine (sane_any v _).mono ?_
    rintro e w1 ⟨rfl, rfl⟩
    go_wp2_with fail
    go_ret
    exact ⟨by rw [Hs.out]; rfl, Below.refl _ _⟩
  | true =>
    obtain ⟨h1, h2⟩ := (Np.sane_iff v).mp hs
    by_cases hn : v < 0
    · have Hp : Hid (Np.printS v = 45 :: Np.printU (-v).toNat) := Lib.hid (by
        unfold Np.printS
        rw [hs, if_neg (by simp), if_pos hn, show v.natAbs = (-v).toNat by omega])
      go_enter Tryd.func14, Tryd.ntmps14
      go_wp2_with fail
      refine (sane_any v _).mono ?_
      rintro e w1 ⟨rfl, rfl⟩
      go_wp2_with fail
      refine (printU_any (-v) (by omega) (by omega) _ Hok.out).mono ?_
      rintro e w2 ⟨rfl, hw2⟩
      have hl := Np.printU_len (-v).toNat (by omega)
      generalize Np.printU (-v).toNat = U at Hp hl ⊢
      go_wp2_with fail
      go_ret
      refine ⟨?_, hw2⟩
      rw [Hp.out]
      refine congrArg (fun x => Ending.returned (Value.string x)) (str_eq _ _ ?_)
      simp [ByteArray.data_append]
    · have Hp : Hid (Np.printS v = Np.printU v.toNat) := Lib.hid (by
        unfold Np.printS
        rw [hs, if_neg (by simp), if_neg hn, show v.natAbs = v.toNat by omega])
      go_enter Tryd.func14, Tryd.ntmps14
      go_wp2_with fail
      refine (sane_any v _).mono ?_
      rintro e w1 ⟨rfl, rfl⟩
      go_wp2_with fail
      refine (printU_any v (by omega) (by omega) _ Hok.out).mono ?_
      rintro e w2 ⟨rfl, hw2⟩
      go_wp2_with fail
      go_ret
      exact ⟨by rw [Hp.out]; rfl, hw2⟩
end Go.Proofs.YtjndehdihjlcaaaDoor

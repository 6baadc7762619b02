/-
  The walks of layer num's laws NumBack, NumNeg, NumJoin, NumWhole, NumOnce: each answers true.
-/
import Derived.Test.YtjndehdihjlcaaaDoorNumAwake
namespace Go.Proofs.YtjndehdihjlcaaaDoor
open Go.RowKit

theorem Np.printS_len (v : Int) : (Np.printS v).length ≤ 21 := by
  unfold Np.printS
  cases hs : Np.saneB v with
  | false => rw [if_pos rfl]; simp
  | true =>
    have := (Np.sane_iff v).mp hs
    have := Np.printU_len v.natAbs (by omega)
    rw [if_neg (by simp)]
    split
    · simp; omega
    · omega
theorem print_str (v : Int) (w : World) (hok : Ok w) :
    Calls Tryd.prog 14 #[.int .i64 v] w fun e w' => ∃ S : ByteArray, e = .returned (.string S) ∧ S.size ≤ 21 ∧ Hid (S.data.toList = Np.printS v) ∧ Below w.heap.size w w' := by
  refine (print_any v w hok).mono ?_
  rintro e w' ⟨rfl, hb⟩
  refine ⟨_, rfl, ?_, Lib.hid (by simp), hb⟩
  rw [Lib.size_eq]; simpa using Np.printS_len v

theorem app_le (a b : ByteArray) (ha : a.size ≤ 21) (hb : b.size ≤ 10) : (a ++ b).size ≤ 1000000 := by
  rw [ByteArray.size_append]; omega
theorem Np.ex0 : Np.printS 0 = [48] := by
  rw [show (0 : Int) = ((0 : Nat) : Int) from rfl, Np.print_nat 0 (by unfold Np.mx; omega), show (0 : Nat) = 1000 * 0 + 0 from rfl, Np.printU_whole 0 0 (by omega), Np.dec1 0 (by omega)]; rfl
theorem Np.print_1000 (k : Nat) (h : k ≤ 9007199254740) : Np.printS (1000 * (k : Int)) = Lib.decDigits k := by
  have e : (1000 * (k : Int)) = ((1000 * k + 0 : Nat) : Int) := by omega
  rw [e, Np.print_nat _ (by unfold Np.mx; omega), Np.printU_whole k 0 (by omega)]
  show Lib.decDigits k ++ [] = _
  rw [List.append_nil]
theorem Np.join_0 (k : Nat) (h : k ≤ 900719925474) : Np.parseS (Lib.decDigits k ++ [48]) = (10000 * (k : Int), 0) := by
  have hd : Np.digs (Lib.decDigits k ++ [48]) = true := by rw [Np.digs_app, Np.dec_digs]; rfl
  have hn : Np.num (Lib.decDigits k ++ [48]) = 10 * k := by rw [Np.num_snoc, Np.dec_num]; simp
  rw [Np.parse_plain _ hd (by simp) (by rw [hn]; unfold Np.mx; omega), hn]
  congr 1; omega
theorem Np.join_000 (k : Nat) (h : k ≤ 900719925474) : Np.parseS (Lib.decDigits k ++ [46, 48, 48, 48]) = (1000 * (k : Int), 0) := by
  rw [Np.parse_000 _ (Np.dec_digs k) (Np.dec_ne k) (by rw [Np.dec_num]; unfold Np.mx; omega), Np.dec_num]
theorem Np.join_0000 (k : Nat) : Np.parseS (Lib.decDigits k ++ [46, 48, 48, 48, 48]) = (0, 1) :=
  Np.parse_0000 _ (Np.dec_digs k) (Np.dec_ne k)

set_option maxHeartbeats 800000 in
theorem numBack_any (v : Int) (w : World) (hok : Ok w) :
    Calls Tryd.prog 4 #[.int .i64 v] w fun e w' => e = .returned (.bool true) ∧ Below w.heap.size w w' := by
  have Hok := Lib.hid hok
  clear hok
  cases hs : Np.saneB v with
  | false =>
    have Hs := Lib.hid hs
    clear hs
    go_enter Tryd.func4, Tryd.ntmps4
    go_wp2_with fail
    refine (awake1_any _ Hok.out).mono ?_
    rintro e w1 ⟨rfl, hw1⟩
    have Hok1 := Lib.hid (Hok.out.on hw1)
    go_wp2_with fail
    refine (print_of v [] (Np.print_no v Hs.out) _ Hok1.out).mono ?_
    rintro e w2 ⟨rfl, hw2⟩
    have Hok2 := Lib.hid (Hok1.out.on hw2)
    go_wp2_with fail
    refine (parse_of _ (by decide) 0 1 (by decide) _ Hok2.out).mono ?_
    rintro e w3 ⟨rfl, hw3⟩
    go_wp2_with fail
    refine (sane_of v false Hs.out _).mono ?_
    rintro e w4 ⟨rfl, rfl⟩
    go_wp2_with fail
    go_ret
    exact ⟨rfl, below_on (below_on hw1 hw2) hw3⟩
  | true =>
    have Hs := Lib.hid hs
    clear hs
    go_enter Tryd.func4, Tryd.ntmps4
    go_wp2_with fail
    refine (awake1_any _ Hok.out).mono ?_
    rintro e w1 ⟨rfl, hw1⟩
    have Hok1 := Lib.hid (Hok.out.on hw1)
    go_wp2_with fail
    refine (print_str v _ Hok1.out).mono ?_
    rintro e w2 ⟨S, rfl, hS, HS, hw2⟩
    have Hok2 := Lib.hid (Hok1.out.on hw2)
    have hne : S.toList.isEmpty = false := by rw [toList_eq, HS.out]; simpa using Np.print_ne v Hs.out
    go_wp2_with fail
    refine (parse_of S (by omega) v 0 (by rw [HS.out]; exact Np.parse_print v Hs.out) _ Hok2.out).mono ?_
    rintro e w3 ⟨rfl, hw3⟩
    go_wp2_with fail
    refine (sane_of v true Hs.out _).mono ?_
    rintro e w4 ⟨rfl, rfl⟩
    go_wp2_with fail
    go_ret
    exact ⟨rfl, below_on (below_on hw1 hw2) hw3⟩

set_option maxHeartbeats 800000 in
theorem numNeg_any (v u : Int) (w : World) (hok : Ok w) :
    Calls Tryd.prog 6 #[.int .i64 v, .int .i64 u] w fun e w' => e = .returned (.bool true) ∧ Below w.heap.size w w' := by
  have Hok := Lib.hid hok
  clear hok
  cases hs : Np.saneB v with
  | false =>
    have Hs := Lib.hid hs
    clear hs
    go_enter Tryd.func6, Tryd.ntmps6
    go_wp2_with fail
    refine (awake1_any _ Hok.out).mono ?_
    rintro e w1 ⟨rfl, hw1⟩
    go_wp2_with fail
    refine (sane_of v false Hs.out _).mono ?_
    rintro e w2 ⟨rfl, rfl⟩
    go_wp2_with fail
    go_ret
    exact ⟨rfl, hw1⟩
  | true =>
    cases ht : Np.saneB u with
    | false =>
      have Hs := Lib.hid hs
      have Ht := Lib.hid ht
      clear hs ht
      go_enter Tryd.func6, Tryd.ntmps6
      go_wp2_with fail
      refine (awake1_any _ Hok.out).mono ?_
      rintro e w1 ⟨rfl, hw1⟩
      go_wp2_with fail
      refine (sane_of v true Hs.out _).mono ?_
      rintro e w2 ⟨rfl, rfl⟩
      go_wp2_with fail
      refine (sane_of u false Ht.out _).mono ?_
      rintro e w2 ⟨rfl, rfl⟩
      go_wp2_with fail
      go_ret
      exact ⟨rfl, hw1⟩
    | true =>
      have Hs := Lib.hid hs
      have Ht := Lib.hid ht
      clear hs ht
      by_cases h0 : v ≤ 0
      · go_enter Tryd.func6, Tryd.ntmps6
        go_wp2_with fail
        refine (awake1_any _ Hok.out).mono ?_
        rintro e w1 ⟨rfl, hw1⟩
        go_wp2_with fail
        refine (sane_of v true Hs.out _).mono ?_
        rintro e w2 ⟨rfl, rfl⟩
        go_wp2_with fail
        refine (sane_of u true Ht.out _).mono ?_
        rintro e w2 ⟨rfl, rfl⟩
        go_wp2_with fail
        go_ret
        exact ⟨rfl, hw1⟩
      · have hv2 := ((Np.sane_iff v).mp Hs.out).2
        go_enter Tryd.func6, Tryd.ntmps6
        go_wp2_with fail
        refine (awake1_any _ Hok.out).mono ?_
        rintro e w1 ⟨rfl, hw1⟩
        have Hok1 := Lib.hid (Hok.out.on hw1)
        go_wp2_with fail
        refine (sane_of v true Hs.out _).mono ?_
        rintro e w2 ⟨rfl, rfl⟩
        go_wp2_with fail
        refine (sane_of u true Ht.out _).mono ?_
        rintro e w2 ⟨rfl, rfl⟩
        go_wp2_with fail
        refine (print_str _ _ Hok1.out).mono ?_
        rintro e w2 ⟨A, rfl, hA, HA, hw2⟩
        have Hok2 := Lib.hid (Hok1.out.on hw2)
        go_wp2_with fail
        refine (print_str _ _ Hok2.out).mono ?_
        rintro e w3 ⟨B, rfl, hB, HB, hw3⟩
        have Hok3 := Lib.hid (Hok2.out.on hw3)
        have hAB : A.toList = ((⟨#[45]⟩ : ByteArray) ++ B).toList := by
          rw [toList_eq, toList_eq, data_app, HA.out, HB.out, Np.print_neg v Hs.out (by omega)]; rfl
        go_wp2_with fail
        refine (print_str _ _ Hok3.out).mono ?_
        rintro e w4 ⟨C, rfl, hC, HC, hw4⟩
        have Hok4 := Lib.hid (Hok3.out.on hw4)
        go_wp2_with fail
        refine (print_str _ _ Hok4.out).mono ?_
        rintro e w5 ⟨D, rfl, hD, HD, hw5⟩
        have Hok5 := Lib.hid (Hok4.out.on hw5)
        have hw : Below w.heap.size w w5 := below_on (below_on (below_on (below_on hw1 hw2) hw3) hw4) hw5
        by_cases hvu : v = u
        · have hCD : C.toList = D.toList := by rw [toList_eq, toList_eq, HC.out, HD.out, hvu]
          subst hvu
          go_wp2_with fail
          refine (print_of 0 [48] Np.ex0 _ Hok5.out).mono ?_
          rintro e w6 ⟨rfl, hw6⟩
          go_wp2_with fail
          go_ret
          exact ⟨rfl, below_on hw hw6⟩
        · have hCD : (C.toList == D.toList) = false := by
            rw [toList_eq, toList_eq, HC.out, HD.out]
            simpa using fun h => hvu ((Np.print_inj v u Hs.out Ht.out).mp h)
          have hCD' : ¬ C.toList = D.toList := by simpa using hCD
          have hvu' : (v == u) = false := by simpa using hvu
          go_wp2_with fail
          refine (print_of 0 [48] Np.ex0 _ Hok5.out).mono ?_
          rintro e w6 ⟨rfl, hw6⟩
          go_wp2_with fail
          go_ret
          exact ⟨rfl, below_on hw hw6⟩

set_option maxHeartbeats 800000 in
theorem numJoin_any (n : Int) (w : World) (hok : Ok w) :
    Calls Tryd.prog 8 #[.int .i64 n] w fun e w' => e = .returned (.bool true) ∧ Below w.heap.size w w' := by
  have Hok := Lib.hid hok
  clear hok
  by_cases h0 : n < 0
  · go_enter Tryd.func8, Tryd.ntmps8
    go_wp2_with fail
    refine (awake1_any _ Hok.out).mono ?_
    rintro e w1 ⟨rfl, hw1⟩
    go_wp2_with fail
    go_ret
    exact ⟨rfl, hw1⟩
  · by_cases h1 : 900719925474 < n
    · go_enter Tryd.func8, Tryd.ntmps8
      go_wp2_with fail
      refine (awake1_any _ Hok.out).mono ?_
      rintro e w1 ⟨rfl, hw1⟩
      go_wp2_with fail
      go_ret
      exact ⟨rfl, hw1⟩
    · obtain ⟨k, rfl⟩ : ∃ k : Nat, n = k := ⟨n.toNat, by omega⟩
      have hk : k ≤ 900719925474 := by omega
      go_enter Tryd.func8, Tryd.ntmps8
      go_wp2_with fail
      refine (awake1_any _ Hok.out).mono ?_
      rintro e w1 ⟨rfl, hw1⟩
      have Hok1 := Lib.hid (Hok.out.on hw1)
      go_wp2_with fail
      refine (print_str _ _ Hok1.out).mono ?_
      rintro e w2 ⟨S, rfl, hS, HS, hw2⟩
      have Hok2 := Lib.hid (Hok1.out.on hw2)
      have HS' : Hid (S.data.toList = Lib.decDigits k) := Lib.hid (by rw [HS.out]; exact Np.print_1000 k (by omega))
      clear HS
      go_wp2_with fail
      refine (parse_of _ (app_le S _ hS (by decide)) (10000 * (k : Int)) 0 (by rw [data_app, HS'.out]; exact Np.join_0 k hk) _ Hok2.out).mono ?_
      rintro e w3 ⟨rfl, hw3⟩
      have Hok3 := Lib.hid (Hok2.out.on hw3)
      go_wp2_with fail
      refine (parse_of _ (app_le S _ hS (by decide)) (1000 * (k : Int)) 0 (by rw [data_app, HS'.out]; exact Np.join_000 k hk) _ Hok3.out).mono ?_
      rintro e w4 ⟨rfl, hw4⟩
      have Hok4 := Lib.hid (Hok3.out.on hw4)
      go_wp2_with fail
      refine (parse_of _ (app_le S _ hS (by decide)) 0 1 (by rw [data_app, HS'.out]; exact Np.join_0000 k) _ Hok4.out).mono ?_
      rintro e w5 ⟨rfl, hw5⟩
      go_wp2_with fail
      go_ret
      exact ⟨rfl, below_on (below_on (below_on (below_on hw1 hw2) hw3) hw4) hw5⟩

theorem Np.print_more (k r : Nat) (h : k ≤ 9007199254739) (hr : r < 1000) : Np.printS (1000 * (k : Int) + r) = Lib.decDigits k ++ Np.tailU r := by
  have e : (1000 * (k : Int) + r) = ((1000 * k + r : Nat) : Int) := by omega
  rw [e, Np.print_nat _ (by unfold Np.mx; omega), Np.printU_whole k r hr]
theorem Np.dec_at (S : ByteArray) (k j : Nat) (h : S.data.toList = Lib.decDigits k) (hj : j < S.size) : 48 ≤ (S[j]'hj).toNat ∧ (S[j]'hj).toNat ≤ 57 := by
  refine Np.dig_bd ?_
  have hd := Np.dec_digs k
  rw [← h] at hd
  have hm : S[j]'hj ∈ S.data.toList := by
    have : S[j]'hj = S.data.toList[j]'(by rw [← Lib.size_eq]; exact hj) := rfl
    rw [this]; exact List.getElem_mem _
  exact List.all_eq_true.mp hd _ hm

set_option maxHeartbeats 1600000 in
theorem numWhole_any (n : Int) (w : World) (hok : Ok w) :
    Calls Tryd.prog 7 #[.int .i64 n] w fun e w' => e = .returned (.bool true) ∧ Below w.heap.size w w' := by
  have Hok := Lib.hid hok
  clear hok
  by_cases h0 : n < 0
  · go_enter Tryd.func7, Tryd.ntmps7
    go_wp2_with fail
    refine (awake1_any _ Hok.out).mono ?_
    rintro e w1 ⟨rfl, hw1⟩
    go_wp2_with fail
    go_ret
    exact ⟨rfl, hw1⟩
  · by_cases h1 : 9007199254739 < n
    · go_enter Tryd.func7, Tryd.ntmps7
      go_wp2_with fail
      refine (awake1_any _ Hok.out).mono ?_
      rintro e w1 ⟨rfl, hw1⟩
      go_wp2_with fail
      go_ret
      exact ⟨rfl, hw1⟩
    · obtain ⟨k, rfl⟩ : ∃ k : Nat, n = k := ⟨n.toNat, by omega⟩
      have hk : k ≤ 9007199254739 := by omega
      go_enter Tryd.func7, Tryd.ntmps7
      go_wp2_with fail
      refine (awake1_any _ Hok.out).mono ?_
      rintro e w1 ⟨rfl, hw1⟩
      have Hok1 := Lib.hid (Hok.out.on hw1)
      go_wp2_with fail
      refine (print_str _ _ Hok1.out).mono ?_
      rintro e w2 ⟨S, rfl, hS, HS, hw2⟩
      have Hok2 := Lib.hid (Hok1.out.on hw2)
      have HS' : Hid (S.data.toList = Lib.decDigits k) := Lib.hid (by rw [HS.out]; exact Np.print_1000 k (by omega))
      clear HS
      have hne : S.toList.isEmpty = false := by rw [toList_eq, HS'.out]; simpa using Np.dec_ne k
      have hne' : ¬ S.toList = [] := by rw [toList_eq, HS'.out]; exact Np.dec_ne k
      go_wp2_with fail
      go_loop [5] (fun i => ∃ j : Nat, j ≤ S.size ∧ i = .int .i64 j) (fun i => S.size - (intOf i).toNat)
      case atStart => exact ⟨0, Nat.zero_le _, rfl⟩
      case round =>
        obtain ⟨j, hj, rfl⟩ := hrel
        by_cases hlt : j < S.size
        · obtain ⟨hlo, hhi⟩ := Np.dec_at S k j HS'.out hlt
          obtain ⟨c, hc⟩ : ∃ c, S[j]'hlt = c := ⟨_, rfl⟩
          rw [hc] at hlo hhi
          go_wp2_with fail
          go_round
          case rel => exact ⟨j + 1, by omega, by go_num⟩
          case measure => simp [intOf]; omega
        · go_wp2_with fail
          refine (print_str _ _ Hok2.out).mono ?_
          rintro e w3 ⟨T3, rfl, hT3, HT3, hw3⟩
          have Hok3 := Lib.hid (Hok2.out.on hw3)
          have hE3 : T3.toList = (S ++ (⟨#[46, 53]⟩ : ByteArray)).toList := by
            rw [toList_eq, toList_eq, data_app, HT3.out, HS'.out]; exact Np.print_more k 500 hk (by omega)
          go_wp2_with fail
          refine (print_str _ _ Hok3.out).mono ?_
          rintro e w4 ⟨T4, rfl, hT4, HT4, hw4⟩
          have Hok4 := Lib.hid (Hok3.out.on hw4)
          have hE4 : T4.toList = (S ++ (⟨#[46, 48, 53]⟩ : ByteArray)).toList := by
            rw [toList_eq, toList_eq, data_app, HT4.out, HS'.out]; exact Np.print_more k 50 hk (by omega)
          go_wp2_with fail
          refine (print_str _ _ Hok4.out).mono ?_
          rintro e w5 ⟨T5, rfl, hT5, HT5, hw5⟩
          have Hok5 := Lib.hid (Hok4.out.on hw5)
          have hE5 : T5.toList = (S ++ (⟨#[46, 48, 48, 53]⟩ : ByteArray)).toList := by
            rw [toList_eq, toList_eq, data_app, HT5.out, HS'.out]; exact Np.print_more k 5 hk (by omega)
          go_wp2_with fail
          refine (print_str _ _ Hok5.out).mono ?_
          rintro e w6 ⟨T6, rfl, hT6, HT6, hw6⟩
          have Hok6 := Lib.hid (Hok5.out.on hw6)
          have hE6 : T6.toList = (S ++ (⟨#[46, 49, 50]⟩ : ByteArray)).toList := by
            rw [toList_eq, toList_eq, data_app, HT6.out, HS'.out]; exact Np.print_more k 120 hk (by omega)
          go_wp2_with fail
          go_ret
          exact ⟨rfl, below_on (below_on (below_on (below_on (below_on hw1 hw2) hw3) hw4) hw5) hw6⟩
end Go.Proofs.YtjndehdihjlcaaaDoor

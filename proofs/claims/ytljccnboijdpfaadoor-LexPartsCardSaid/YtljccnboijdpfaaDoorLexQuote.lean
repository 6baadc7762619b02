/-
  The walk of layer lex's law LexQuote: it answers true.
-/
import Derived.Test.YtljccnboijdpfaaDoorLexJoined
namespace Go.Proofs.YtljccnboijdpfaaDoor
open Go.RowKit

theorem mask_bd (k : Int) : 0 ≤ bits .and .i64 k 65535 ∧ bits .and .i64 k 65535 ≤ 65535 := by
  have h1 : (BitVec.ofInt 64 65535).toNat = 65535 := by decide
  have h2 : (BitVec.ofInt 64 k &&& BitVec.ofInt 64 65535).toNat ≤ 65535 := by
    rw [BitVec.toNat_and, h1]
    exact Nat.and_le_right
  have e : bits .and .i64 k 65535 = (((BitVec.ofInt 64 k &&& BitVec.ofInt 64 65535).toNat : Nat) : Int) := by
    show IntKind.i64.wrap ((BitVec.ofInt 64 k &&& BitVec.ofInt 64 65535).toNat : Int) = _
    exact IntWalk.i64_in _ (by omega)
  rw [e]
  omega
theorem less_at (k : Int) (n : Nat) (hn : 2 ≤ n) : ∃ a : Nat, (bits .and .i64 k 65535).tmod ((n : Int) - 1) = (a : Int) ∧ a + 1 < n := by
  obtain ⟨h1, _⟩ := mask_bd k
  generalize bits .and .i64 k 65535 = b at h1
  have h2 := Int.tmod_nonneg ((n : Int) - 1) h1
  have h3 := Int.tmod_lt_of_pos b (show (0 : Int) < (n : Int) - 1 by omega)
  exact ⟨(b.tmod ((n : Int) - 1)).toNat, by omega, by omega⟩
theorem body_len : ∀ s : Lx.T, (Lx.body s).length ≤ 2 * s.length
  | [] => by simp [Lx.body]
  | c :: s => by
    have ih := body_len s
    have e : Lx.body (c :: s) = Lx.esc c ++ Lx.body s := rfl
    have h : (Lx.esc c).length ≤ 2 := by
      unfold Lx.esc
      split
      · simp
      · split <;> simp
    rw [e, List.length_append, List.length_cons]
    omega
theorem quote_len (s : Lx.T) : 2 ≤ (Lx.quote s).length ∧ (Lx.quote s).length ≤ 2 * s.length + 2 := by
  have := body_len s
  unfold Lx.quote
  simp only [List.length_cons, List.length_append, List.length_nil]
  omega
theorem add_str {a b : ByteArray} {l m : Lx.T} (ha : a.data.toList = l) (hb : b.data.toList = m) (h : l.length + m.length ≤ 1000000) : ∀ w : World, (Op.stringOp .add a b).run Tryd.prog w = .ok (.string (str (l ++ m))) w := by
  intro w
  have h1 : a.size = l.length := by rw [Lib.size_eq, ha]
  have h2 : b.size = m.length := by rw [Lib.size_eq, hb]
  have e : str (l ++ m) = a ++ b := by
    rw [← ha, ← hb]
    apply ByteArray.ext
    rw [ByteArray.data_append]
    unfold str
    simp
  rw [e]
  exact run_string_add_sum w a b (by omega)
theorem str_back (s : ByteArray) : str s.data.toList = s := by unfold str; cases s; simp
theorem allT_quote (s : Lx.T) : allT (32 :: 9 :: (Lx.quote s ++ [35, 32, 34])) = ([(3, 2, str s)], (Lx.quote s).length + 5, 0) := by
  unfold allT
  rw [Lx.lex_quote s 65535]
  simp only [List.map_cons, List.map_nil, place, List.length_cons, List.length_append, List.length_nil]
  refine Prod.ext ?_ (Prod.ext ?_ rfl)
  · show [(3, _, str s)] = _
    congr 3
    omega
  · show (Lx.quote s).length + (0 + 1 + 1 + 1) + 1 + 1 - 0 = (Lx.quote s).length + 5
    omega
theorem allT_cut (s : Lx.T) (j : Nat) (h : j + 1 < (Lx.quote s).length) : allT ((Lx.quote s).take (j + 1)) = ([], 0, 12) := by
  unfold allT
  rw [Lx.lex_cut s 65535 j h]
  simp
set_option maxHeartbeats 3200000 in
theorem lexQuote_any (H : LexC) (s : ByteArray) (cut : Int) (hs : s.size ≤ 9223372036854775807) (w : World) :
    Calls Tryd.prog 5 #[.string s, .int .i64 cut] w fun e w' => e = .returned (.bool true) ∧ Below w.heap.size w w' := by
  go_enter Tryd.func5, Tryd.ntmps5
  go_wp2_with fail
  refine (awake_any H _).mono ?_
  rintro e w1 ⟨rfl, hb1⟩
  by_cases h0 : (1000 : Int) < (s.size : Int)
  · go_wp2_with fail
    go_ret
    exact ⟨rfl, hb1⟩
  have hsl : s.data.toList.length = s.size := (Lib.size_eq s).symm
  obtain ⟨E, hE⟩ : ∃ E, Lx.quote s.data.toList = E := ⟨_, rfl⟩
  have hq := quote_len s.data.toList
  have ha := allT_quote s.data.toList
  rw [hE] at hq ha
  rw [str_back] at ha
  obtain ⟨Q, hQ⟩ : ∃ Q, str E = Q := ⟨_, rfl⟩
  have hQl : Q.data.toList = E := by rw [← hQ]; rfl
  have hQs : Q.size = E.length := by rw [← hQ, str_len]
  obtain ⟨j, hj, hjn⟩ := less_at cut Q.size (by omega)
  have hcut : allT (E.take (j + 1)) = ([], 0, 12) := by rw [← hE]; exact allT_cut _ j (by rw [hE]; omega)
  have e1 := add_str (a := ⟨#[32, 9]⟩) (l := [32, 9]) rfl hQl (by simp; omega)
  obtain ⟨Q1, hQ1⟩ : ∃ Q, str ([32, 9] ++ E) = Q := ⟨_, rfl⟩
  rw [hQ1] at e1
  have e2 := add_str (a := Q1) (l := [32, 9] ++ E) (b := ⟨#[35, 32, 34]⟩) (m := [35, 32, 34]) (by rw [← hQ1]; rfl) rfl (by simp; omega)
  obtain ⟨Q2, hQ2⟩ : ∃ Q, str ([32, 9] ++ E ++ [35, 32, 34]) = Q := ⟨_, rfl⟩
  rw [hQ2] at e2
  have HA1 : Hid (allT Q2.data.toList = ([(3, 2, s)], Q.size + 5, 0)) := Lib.hid (by rw [← hQ2, str_list, hQs]; exact ha)
  have hQ2s : Q2.size ≤ 1000000 := by rw [← hQ2, str_len]; simp; omega
  have HQl : Hid (Q.data.toList = Lx.quote s.data.toList) := Lib.hid (by rw [hQl, hE])
  obtain ⟨Q3, hQ3⟩ : ∃ Q3, Q.extract 0 (j + 1) = Q3 := ⟨_, rfl⟩
  have hQ3l : Q3.data.toList = E.take (j + 1) := by rw [← hQ3, ByteArray.data_extract, Array.toList_extract, hQl]; simp
  have HA2 : Hid (allT Q3.data.toList = ([], 0, 12)) := Lib.hid (by rw [hQ3l]; exact hcut)
  have hQ3s : Q3.size ≤ 1000000 := by rw [Lib.size_eq, hQ3l, List.length_take]; omega
  have hn1 : ¬ ((Q.size : Int) < 2) := by omega
  have hn2 : ¬ ((Q.size : Int) - 1 = 0) := by omega
  have hj0 : (0 : Int) ≤ (j : Int) := by omega
  have hj1 : (1 : Int) + (j : Int) = ((j + 1 : Nat) : Int) := by omega
  have hj2 : ((j + 1 : Nat) : Int) ≤ (Q.size : Int) := by omega
  have hqz : (((Q.size + 5 : Nat) : Int) != (Q.size : Int) + 5) = false := by simp
  have hss : (s.toList == s.toList) = true := by simp
  have hs1 : s.size ≤ 1000000 := by omega
  have hQb : (Q.size : Int) ≤ 2002 := by omega
  clear hsl hE hq ha hQ hQl hQs hcut hQ1 hQ2 hQ3l
  go_wp2_with fail
  refine (H.quote s Q hs1 HQl.out _).mono ?_
  rintro e w2 ⟨rfl, hw2⟩
  have hb2 := below_on hb1 hw2
  clear hw2 hb1
  go_wp2_with fail
  refine (H.all Q2 _ [(3, 2, s)] 1 (Q.size + 5) 0 hQ2s rfl HA1.out rfl _).mono ?_
  rintro e w3 ⟨B3, d3, rfl, HR3, HC3, hw3⟩
  have hb3 := below_on hb2 hw3
  have hr3 := HR3.out
  obtain ⟨b, o, rfl, hbk, a0, a1, a2⟩ := hr3.at_ (k := 0) (by simp)
  rw [Nat.zero_mul, Nat.add_zero] at a0 a1 a2
  have c0 : w3.cell? ⟨b, o, none⟩ = some (.int .i64 3) := a0
  have c1 : w3.cell? ⟨b, o + 1, none⟩ = some (.int .i64 2) := a1
  have c2 : w3.cell? ⟨b, o + 2, none⟩ = some (.string s) := a2
  clear a0 a1 a2 hr3 hw3 hb2 HR3
  go_wp2_with fail
  refine (H.all Q3 _ [] 0 0 12 hQ3s rfl HA2.out rfl _).mono ?_
  rintro e w4 ⟨B4, d4, rfl, _, _, hw4⟩
  go_wp2_with fail
  go_ret
  exact ⟨rfl, below_on hb3 hw4⟩
end Go.Proofs.YtljccnboijdpfaaDoor

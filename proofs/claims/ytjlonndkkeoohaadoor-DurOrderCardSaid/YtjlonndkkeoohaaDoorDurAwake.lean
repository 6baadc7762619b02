/-
  The walk of layer dur's awake: it answers true; and Parse and Print with their answers under names.
-/
import Derived.Test.YtjlonndkkeoohaaDoorDurPrint
import Derived.Test.YtjlonndkkeoohaaDoorDurParse
namespace Go.Proofs.YtjlonndkkeoohaaDoor
open Go.RowKit

theorem dparse_of (s : ByteArray) (hs : s.size ≤ 1000000) (x y : Int) (h : Dp.parseS s.data.toList = (x, y)) (w : World) (hok : Ok w) :
    Calls Tryd.prog 10 #[.string s] w fun e w' => e = .returned (.tuple #[.int .i64 x, .int .i64 y]) ∧ Below w.heap.size w w' := by
  refine (dparse_any s hs w hok).mono ?_
  rintro e w' ⟨rfl, hb⟩
  refine ⟨?_, hb⟩
  unfold Dp.ans; rw [h]
theorem dprint_of (v : Int) (l : List UInt8) (h : Dp.printS v = l) (w : World) (hok : Ok w) :
    Calls Tryd.prog 14 #[.int .i64 v] w fun e w' => e = .returned (.string ⟨l.toArray⟩) ∧ Below w.heap.size w w' := by
  subst h; exact dprint_any v w hok
theorem dsane_of (v : Int) (b : Bool) (h : Dp.saneB v = b) (w : World) :
    Calls Tryd.prog 12 #[.int .i64 v] w fun e w' => e = .returned (.bool b) ∧ w = w' := by
  subst h; exact dsane_any v w
theorem Dp.part_len (n i : Nat) (h : n ≤ 9007199254740992) : (Dp.part n i).length ≤ 18 := by
  unfold Dp.part
  split
  · simp
  · rw [List.length_append, Lib.decDigits_length]
    have h2 := nd_le 15 n (by omega)
    have h3 : (Dp.nm i).length ≤ 2 := by unfold Dp.nm; split <;> simp
    omega
theorem Dp.from_len : ∀ (k i u : Nat), u ≤ 9007199254740992 → (Dp.printFrom k i u).length ≤ 18 * k
  | 0, _, _, _ => by simp [Dp.printFrom]
  | k + 1, i, u, h => by
    show (Dp.part (u / Dp.sz i) i ++ Dp.printFrom k (i + 1) (u % Dp.sz i)).length ≤ _
    rw [List.length_append]
    have h1 := Dp.part_len (u / Dp.sz i) i (Nat.le_trans (Nat.div_le_self _ _) h)
    have h2 := Dp.from_len k (i + 1) (u % Dp.sz i) (Nat.le_trans (Nat.mod_le _ _) h)
    omega
theorem Dp.print_len (d : Int) : (Dp.printS d).length ≤ 90 := by
  unfold Dp.printS
  cases hs : Dp.saneB d with
  | false => simp
  | true =>
    have := (Dp.sane_iff d).mp hs
    rw [if_neg (by simp)]
    split
    · simp
    · exact Dp.from_len 5 0 _ (by omega)
theorem dprint_str (v : Int) (w : World) (hok : Ok w) :
    Calls Tryd.prog 14 #[.int .i64 v] w fun e w' => ∃ S : ByteArray, e = .returned (.string S) ∧ S.size ≤ 90 ∧ Hid (S.data.toList = Dp.printS v) ∧ Below w.heap.size w w' := by
  refine (dprint_any v w hok).mono ?_
  rintro e w' ⟨rfl, hb⟩
  refine ⟨_, rfl, ?_, Lib.hid (by simp), hb⟩
  rw [str_size]; exact Dp.print_len v
theorem dec1 (n : Nat) (h : n < 10) : Lib.decDigits n = [UInt8.ofNat (48 + n)] := by rw [Lib.decDigits, dif_pos h]
theorem Dp.ex1 : Dp.printS 90061001 = [49, 100, 49, 104, 49, 109, 49, 115, 49, 109, 115] := by
  have h : Dp.saneB 90061001 = true := by decide
  rw [Dp.print_pos _ h (by omega)]
  show Dp.part 1 0 ++ (Dp.part 1 1 ++ (Dp.part 1 2 ++ (Dp.part 1 3 ++ (Dp.part 1 4 ++ [])))) = _
  unfold Dp.part
  rw [dec1 1 (by omega)]
  rfl
theorem Dp.ex2 : Dp.printS 5400000 = [49, 104, 51, 48, 109] := by
  have h : Dp.saneB 5400000 = true := by decide
  rw [Dp.print_pos _ h (by omega)]
  show Dp.part 0 0 ++ (Dp.part 1 1 ++ (Dp.part 30 2 ++ (Dp.part 0 3 ++ (Dp.part 0 4 ++ [])))) = _
  unfold Dp.part
  rw [dec1 1 (by omega), show Lib.decDigits 30 = Lib.decDigits (30 / 10) ++ [UInt8.ofNat (48 + 30 % 10)] by rw [Lib.decDigits, dif_neg (by omega)], dec1 (30 / 10) (by omega)]
  rfl

set_option maxHeartbeats 1600000 in
theorem awake2_any (w : World) (hok : Ok w) :
    Calls Tryd.prog 9 #[] w fun e w' => e = .returned (.bool true) ∧ Below w.heap.size w w' := by
  have Hok := Lib.hid hok
  clear hok
  go_enter Tryd.func9, Tryd.ntmps9
  go_wp2_with fail
  refine (dparse_of ⟨#[57, 48, 109]⟩ (by decide) 5400000 0 (by decide) _ Hok.out).mono ?_
  rintro e w1 ⟨rfl, hw1⟩
  have Hok1 := Lib.hid (Hok.out.on hw1)
  go_wp2_with fail
  refine (dparse_of ⟨#[49, 115, 49, 109]⟩ (by decide) 0 1 (by decide) _ Hok1.out).mono ?_
  rintro e w2 ⟨rfl, hw2⟩
  have Hok2 := Lib.hid (Hok1.out.on hw2)
  go_wp2_with fail
  refine (dprint_of 90061001 _ Dp.ex1 _ Hok2.out).mono ?_
  rintro e w3 ⟨rfl, hw3⟩
  have Hok3 := Lib.hid (Hok2.out.on hw3)
  go_wp2_with fail
  refine (dprint_of 5400000 _ Dp.ex2 _ Hok3.out).mono ?_
  rintro e w4 ⟨rfl, hw4⟩
  have Hok4 := Lib.hid (Hok3.out.on hw4)
  go_wp2_with fail
  refine (dprint_of 0 [48, 115] rfl _ Hok4.out).mono ?_
  rintro e w5 ⟨rfl, hw5⟩
  go_wp2_with fail
  refine (dsane_of 0 true (by decide) _).mono ?_
  rintro e w6 ⟨rfl, rfl⟩
  go_wp2_with fail
  refine (dsane_of (-1) false (by decide) _).mono ?_
  rintro e w6 ⟨rfl, rfl⟩
  go_wp2_with fail
  go_ret
  exact ⟨rfl, below_on (below_on (below_on (below_on hw1 hw2) hw3) hw4) hw5⟩
end Go.Proofs.YtjlonndkkeoohaaDoor

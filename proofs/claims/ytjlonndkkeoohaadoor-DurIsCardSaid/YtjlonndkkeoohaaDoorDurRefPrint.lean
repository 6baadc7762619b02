/-
  The walk of the document's Print of layer dur.
-/
import Derived.Test.YtjlonndkkeoohaaDoorDurRef
import Derived.Deep.DeepCutAuto
namespace Go.Proofs.YtjlonndkkeoohaaDoor
open Go.RowKit

set_option maxRecDepth 100000 in
set_option maxHeartbeats 8000000 in
theorem rprint_any (d : Int) (w : World) :
    Calls Tryd.prog 15 #[.int .i64 d] w fun e w' => e = .returned (.string ⟨(Dp.printS d).toArray⟩) ∧ Below w.heap.size w w' := by
  cases hs : Dp.saneB d with
  | false =>
    have Hs := Lib.hid (Dp.print_no d hs)
    go_enter Tryd.func15, Tryd.ntmps15
    go_wp2_with fail
    refine (rsane_any d _).mono ?_
    rintro e w1 ⟨rfl, rfl⟩
    go_wp2_with fail
    go_ret
    exact ⟨by rw [Hs.out]; rfl, Below.refl _ _⟩
  | true =>
    obtain ⟨h1, h2⟩ := (Dp.sane_iff d).mp hs
    by_cases h0 : d = 0
    · subst h0
      have Hp : Hid (Dp.printS 0 = [48, 115]) := Lib.hid rfl
      go_enter Tryd.func15, Tryd.ntmps15
      go_wp2_with fail
      refine (rsane_any 0 _).mono ?_
      rintro e w1 ⟨rfl, rfl⟩
      go_wp2_with fail
      go_ret
      exact ⟨by rw [Hp.out]; rfl, Below.refl _ _⟩
    · have h0b : (d == 0) = false := by simpa using h0
      have Hp := Lib.hid (Dp.print_pos d hs h0)
      go_enter Tryd.func15, Tryd.ntmps15
      go_wp2_with fail
      refine (rsane_any d _).mono ?_
      rintro e w1 ⟨rfl, rfl⟩
      go_wp2_with fail
      refine (units_any _).mono ?_
      rintro e w1 ⟨B, rfl, HU, hB0, hB, hw1⟩
      go_wp2_with fail
      go_loopg [0, 3, 5] 5 (fun g s0 s3 s5 wx => ∃ (i u : Nat) (S : ByteArray), i + g = 5 ∧ s0 = .int .i64 u ∧ u ≤ 9007199254740992 ∧ s5 = .int .i64 i ∧ s3 = .string S ∧ S.size ≤ 100 * i ∧ Hid (S.data.toList ++ Dp.printFrom g i u = Dp.printFrom 5 0 d.toNat) ∧ Below w1.heap.size w1 wx)
      case atStart => exact ⟨0, d.toNat, _, rfl, by rw [Int.toNat_of_nonneg h1], by omega, rfl, rfl, by decide, Lib.hid rfl, Below.refl _ _⟩
      case round =>
        obtain ⟨i, u, S, hig, rfl, hu, rfl, rfl, hS, HS, hw2⟩ := hrel
        cases gk with
        | zero =>
          obtain rfl : i = 5 := by omega
          go_wp2_with fail
          go_ret
          refine ⟨?_, below_on hw1 hw2⟩
          rw [Hp.out, ← HS.out]
          refine congrArg (fun x => Ending.returned (Value.string x)) (str_eq _ _ ?_)
          exact (List.append_nil _).symm
        | succ g =>
          have hi : i < 5 := by omega
          have HU2 := Lib.hid (HU.out.on hB hw2)
          obtain ⟨c1, c2⟩ := HU2.out i hi
          obtain ⟨NI, eNI, hNl, hN2, HNI⟩ := unit_name i
          rw [eNI] at c1
          clear eNI
          have hstep : Dp.printFrom (g + 1) i u = Dp.part (u / Dp.sz i) i ++ Dp.printFrom g (i + 1) (u % Dp.sz i) := rfl
          have hz := Dp.sz_pos i
          have hzl := Dp.sz_le i
          have hqb : u / Dp.sz i ≤ 9007199254740992 := Nat.le_trans (Nat.div_le_self _ _) hu
          have hrb : u % Dp.sz i ≤ 9007199254740992 := Nat.le_trans (Nat.mod_le _ _) hu
          have hq1 : (u : Int) / (Dp.sz i : Int) = ((u / Dp.sz i : Nat) : Int) := rfl
          have hq2 : (u : Int).tdiv (Dp.sz i : Int) = ((u / Dp.sz i : Nat) : Int) := rfl
          have hr1 : (u : Int) % (Dp.sz i : Int) = ((u % Dp.sz i : Nat) : Int) := rfl
          have hr2 : (u : Int).tmod (Dp.sz i : Int) = ((u % Dp.sz i : Nat) : Int) := rfl
          have hq0 : u / Dp.sz i = 0 ↔ u < Dp.sz i := Nat.div_eq_zero_iff_lt hz
          have Hq0 := Lib.hid hq0
          clear hq0
          have hzne : (((Dp.sz i : Nat) : Int) == 0) = false := by simp; omega
          have hBr : B < wr.heap.size := Nat.lt_of_lt_of_le hB hw2.size
          generalize u / Dp.sz i = q at hqb hq1 hq2 Hq0 hstep
          generalize u % Dp.sz i = r at hrb hr1 hr2 hstep
          generalize Dp.sz i = z at c2 hz hzl hq1 hq2 hr1 hr2 hzne Hq0
          by_cases hge : z ≤ u
          · have hgez : (z : Int) ≤ (u : Int) := by omega
            have hp : Dp.part q i = Lib.decDigits q ++ Dp.nm i := by
              unfold Dp.part; rw [if_neg (by rw [Hq0.out]; omega)]
            have HS1 : Hid (S.data.toList ++ Lib.decDigits q ++ Dp.nm i ++ Dp.printFrom g (i + 1) r = Dp.printFrom 5 0 d.toNat) := Lib.hid (by
              rw [← HS.out, hstep, hp]; simp only [List.append_assoc])
            clear hstep hp
            go_upto_region 11 with fail
            go_cut [3] (fun s3 wx => ∃ T : ByteArray, s3 = .string T ∧ T.size ≤ S.size + 18 ∧ Hid (T.data.toList = S.data.toList ++ Lib.decDigits q ++ Dp.nm i) ∧ Below wr.heap.size wr wx)
            case first =>
              go_region_with (first
                | (go_at_call 23; refine (refDigits_str (q : Int) _ (by omega) (by omega)).mono ?_; rintro e w3 ⟨T, rfl, ⟨hT0, hT1⟩, HT, hw3⟩; have hc3 : w3.cell? ⟨B, i * 2, none⟩ = some (.string NI) := (hw3.cell (p := ⟨B, i * 2, none⟩) hBr).trans c1))
              all_goals
                go_wp2_with fail
                go_meet
                exact ⟨S ++ T ++ NI, rfl, by simp only [ByteArray.size_append]; omega, Lib.hid (by simp only [data_app, HT.out, HNI.out, Int.toNat_natCast]), below_on (Below.refl _ _).drew hw3⟩
            case rest =>
              generalize wc = V at hcut ⊢
              obtain ⟨T, rfl, hT, HT, hcb⟩ := hcut
              have hc2 : V.cell? ⟨B, i * 2 + 1, none⟩ = some (.int .i64 (z : Nat)) := (hcb.cell (p := ⟨B, i * 2 + 1, none⟩) hBr).trans c2
              go_wp2_with fail
              go_roundg g
              case measure => omega
              case rel => exact ⟨i + 1, r, T, by omega, rfl, hrb, rfl, rfl, by omega, Lib.hid (by rw [HT.out]; exact HS1.out), below_on hw2 hcb⟩
          · have hgez : ¬ (z : Int) ≤ (u : Int) := by omega
            have hp : Dp.part q i = [] := by
              unfold Dp.part; rw [if_pos (by rw [Hq0.out]; omega)]
            have HS1 : Hid (S.data.toList ++ Dp.printFrom g (i + 1) r = Dp.printFrom 5 0 d.toNat) := Lib.hid (by
              rw [← HS.out, hstep, hp, List.nil_append])
            clear hstep hp
            go_wp2_with fail
            go_roundg g
            case measure => omega
            case rel => exact ⟨i + 1, r, S, by omega, rfl, hrb, rfl, rfl, by omega, HS1, hw2⟩
end Go.Proofs.YtjlonndkkeoohaaDoor

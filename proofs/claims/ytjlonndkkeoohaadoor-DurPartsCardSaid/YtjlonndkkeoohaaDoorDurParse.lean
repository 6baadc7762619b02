/-
  The walk of dur.Parse: what is answered is Dp.parseS of the text's octets.
-/
import Derived.Test.YtjlonndkkeoohaaDoorDurSane
import Derived.Deep.LoopGhost
import Derived.WalkMore
namespace Go.Proofs.YtjlonndkkeoohaaDoor
open Go.RowKit

def Dp.ans (r : Int × Int) : Ending := .returned (.tuple #[.int .i64 r.1, .int .i64 r.2])

theorem Dp.go_none {f next sum : Nat} {l : List UInt8} (h : l ≠ []) (hc : Dp.cnt l = []) : Dp.go (f + 1) next sum l = none := by
  show (if l = [] then some sum else if Dp.cnt l = [] then none else _) = _
  rw [if_neg h, if_pos hc]
theorem Dp.go_at {f next sum : Nat} {l : List UInt8} (h : l ≠ []) (hc : Dp.cnt l ≠ []) : Dp.go (f + 1) next sum l =
    match Dp.find (Dp.ltr l) (5 - next) next with
    | none => none
    | some i => Dp.go f (i + 1) (sum + Dp.times (Dp.cnt l) i) (Dp.beh l) := by
  show (if l = [] then some sum else if Dp.cnt l = [] then none else _) = _
  rw [if_neg h, if_neg hc]
  rfl
theorem Dp.cnt_digs (l : List UInt8) : Np.digs (Dp.cnt l) = true :=
  List.all_takeWhile
theorem Dp.times_le (c : List UInt8) (i : Nat) : Dp.times c i ≤ 9007199254740993 := by
  unfold Dp.times
  split
  · rename_i h
    have := (Nat.le_div_iff_mul_le (Dp.sz_pos i)).mp h
    unfold Np.mx at this; omega
  · unfold Np.mx; omega

set_option maxRecDepth 100000 in
set_option maxHeartbeats 4000000 in
theorem dparse_any (s : ByteArray) (hs : s.size ≤ 1000000) (w : World) (hok : Ok w) :
    Calls Tryd.prog 10 #[.string s] w fun e w' => e = Dp.ans (Dp.parseS s.data.toList) ∧ Below w.heap.size w w' := by
  have Hok := Lib.hid hok
  clear hok
  by_cases h0 : s.data.toList = []
  · have hse : s.toList = [] := by rw [toList_eq]; exact h0
    have H : Hid (Dp.ans (Dp.parseS s.data.toList) = .returned (.tuple #[.int .i64 0, .int .i64 1])) := Lib.hid (by rw [h0]; rfl)
    clear h0
    go_enter Tryd.func10, Tryd.ntmps10
    go_wp2_with fail
    go_step3
    go_wp2_with fail
    rw [Exit.noGoto_ret]
    go_ret2
    exact ⟨H.out.symm, Below.refl _ _⟩
  · have hse : s.toList.isEmpty = false := by rw [toList_eq]; simpa using h0
    have hse' : ¬ s.toList = [] := by rw [toList_eq]; exact h0
    have H : Hid (Dp.parseS s.data.toList = Dp.fin (Dp.go 6 0 0 s.data.toList)) := Lib.hid (by unfold Dp.parseS; rw [if_neg h0])
    clear h0
    go_enter Tryd.func10, Tryd.ntmps10
    go_wp2_with fail
    go_step3
    go_wp2_with fail
    go_step3
    go_wp2_with fail
    go_loopg [0, 4, 5, 6, 7, 8, 9] 6 (fun g s0 s4 s5 _ _ _ _ wx => ∃ (R : ByteArray) (next sum : Nat), s0 = .string R ∧ s4 = .int .i64 sum ∧ s5 = .int .i64 next ∧ R.size ≤ 1000000 ∧ next ≤ 5 ∧ 6 ≤ g + next ∧ sum ≤ next * 9007199254740993 ∧ Hid (Dp.go g next sum R.data.toList = Dp.go 6 0 0 s.data.toList) ∧ Below w.heap.size w wx)
    case atStart => exact ⟨s, 0, 0, rfl, rfl, rfl, hs, by omega, by omega, by omega, Lib.hid rfl, Below.refl _ _⟩
    case round =>
      obtain ⟨R, next, sum, rfl, rfl, rfl, hR, hnext, hg, hsum, HG, hw1⟩ := hrel
      obtain ⟨g, rfl⟩ : ∃ g, gk = g + 1 := ⟨gk - 1, by omega⟩
      by_cases hR0 : R.data.toList = []
      · have hre : R.toList = [] := by rw [toList_eq]; exact hR0
        have HP : Hid (Dp.parseS s.data.toList = Dp.fin (some sum)) := Lib.hid (by rw [H.out, ← HG.out, hR0]; rfl)
        by_cases hsm : sum ≤ 9007199254740992
        · have hsn : Dp.saneB (sum : Int) = true := by rw [Dp.sane_iff]; omega
          have HA : Hid (Dp.ans (Dp.parseS s.data.toList) = .returned (.tuple #[.int .i64 (sum : Int), .int .i64 0])) := Lib.hid (by
            rw [HP.out]; unfold Dp.fin; simp only; rw [if_pos (show sum ≤ Np.mx from hsm)]; rfl)
          clear hR0
          go_wp2_with fail
          refine (dsane_any _ _).mono ?_
          rintro e w3 ⟨rfl, rfl⟩
          rw [hsn]
          go_wp2_with fail
          rw [Exit.noGoto_ret]
          go_ret2
          exact ⟨HA.out.symm, hw1⟩
        · have hsn : Dp.saneB (sum : Int) = false := by unfold Dp.saneB; simp; omega
          have HA : Hid (Dp.ans (Dp.parseS s.data.toList) = .returned (.tuple #[.int .i64 0, .int .i64 2])) := Lib.hid (by
            rw [HP.out]; unfold Dp.fin; simp only; rw [if_neg (show ¬ sum ≤ Np.mx from hsm)]; rfl)
          clear hR0
          go_wp2_with fail
          refine (dsane_any _ _).mono ?_
          rintro e w3 ⟨rfl, rfl⟩
          rw [hsn]
          go_wp2_with fail
          rw [Exit.noGoto_ret]
          go_ret2
          exact ⟨HA.out.symm, hw1⟩
      · have hre : R.toList.isEmpty = false := by rw [toList_eq]; simpa using hR0
        have hre' : ¬ R.toList = [] := by rw [toList_eq]; exact hR0
        have HR0 := Lib.hid hR0
        clear hR0
        go_wp2_with fail
        refine (cutPart_any R hR _).mono ?_
        rintro e w2 ⟨C, T, B, rfl, ⟨hC, hT, hB⟩, HC, HT, HB, hw2⟩
        have hw12 := below_on hw1 hw2
        by_cases hC0 : Dp.cnt R.data.toList = []
        · have hce : C.toList = [] := by rw [toList_eq, HC.out]; exact hC0
          have HA : Hid (Dp.ans (Dp.parseS s.data.toList) = .returned (.tuple #[.int .i64 0, .int .i64 1])) := Lib.hid (by
            rw [H.out, ← HG.out, Dp.go_none HR0.out hC0]; rfl)
          clear hC0
          go_wp2_with fail
          rw [Exit.noGoto_ret]
          go_ret2
          exact ⟨HA.out.symm, hw12⟩
        · have hce : C.toList.isEmpty = false := by rw [toList_eq, HC.out]; simpa using hC0
          have hce' : ¬ C.toList = [] := by rw [toList_eq, HC.out]; exact hC0
          have HC0 := Lib.hid hC0
          clear hC0
          go_wp2_with fail
          go_loopg [0, 4, 5, 9] (5 - next) (fun g2 s0 s4 s5 s9 wx => ∃ i : Nat, i + g2 = 5 ∧ s9 = .int .i64 i ∧ s0 = .string R ∧ s4 = .int .i64 sum ∧ s5 = .int .i64 next ∧ next ≤ i ∧ Hid (∀ j, next ≤ j → j < i → T.data.toList ≠ Dp.nm j) ∧ wx = w2)
          case atStart => exact ⟨next, by omega, rfl, rfl, rfl, rfl, by omega, Lib.hid (fun j h1 h2 => by omega), rfl⟩
          case round =>
            obtain ⟨i, hi5, rfl, rfl, rfl, rfl, hni, HN, rfl⟩ := hrel
            cases gk with
            | zero =>
              obtain rfl : i = 5 := by omega
              have HA : Hid (Dp.ans (Dp.parseS s.data.toList) = .returned (.tuple #[.int .i64 0, .int .i64 1])) := Lib.hid (by
                rw [H.out, ← HG.out, Dp.go_at HR0.out HC0.out, Dp.find_none (by
                  intro j h1 h2
                  rw [← HT.out]
                  exact HN.out j h1 (by omega))]
                rfl)
              go_wp2_with fail
              go_ret2
              exact ⟨HA.out.symm, hw12⟩
            | succ g2 =>
              have hi : i < 5 := by omega
              have hok2 := Hok.out.on hw12
              have c1 := hok2.name i hi
              have c2 := hok2.size i hi
              rw [Nat.mul_comm] at c1 c2
              have Hok2 := Lib.hid hok2
              clear hok2
              by_cases heq : T.data.toList = Dp.nm i
              · have heT : T.toList = Dp.nm i := by rw [toList_eq]; exact heq
                have HG2 : Hid (Dp.go g (i + 1) (sum + Dp.times C.data.toList i) B.data.toList = Dp.go 6 0 0 s.data.toList) := Lib.hid (by
                  rw [← HG.out, Dp.go_at HR0.out HC0.out, ← HT.out, heq, Dp.find_of hni (by omega) (by omega), HC.out, HB.out])
                have HCd : Hid (Np.digs C.data.toList = true) := Lib.hid (by rw [HC.out]; exact Dp.cnt_digs _)
                have HCn : Hid (C.data.toList ≠ []) := Lib.hid (by rw [HC.out]; exact HC0.out)
                clear heq
                go_wp2_with fail
                refine (times_any C i HCd.out HCn.out hC _ Hok2.out).mono ?_
                rintro e w3 ⟨rfl, hw3⟩
                have ht := Dp.times_le C.data.toList i
                generalize Dp.times C.data.toList i = tm at HG2 ht ⊢
                go_wp2_with fail
                go_roundg g
                case measure => omega
                case rel => exact ⟨B, i + 1, sum + tm, rfl, by simp, by simp, hB, by omega, by omega, by omega, HG2, below_on hw12 hw3⟩
              · have heT : ¬ T.toList = Dp.nm i := by rw [toList_eq]; exact heq
                have heT' : (T.toList == Dp.nm i) = false := by simpa using heT
                have HN2 : Hid (∀ j, next ≤ j → j < i + 1 → T.data.toList ≠ Dp.nm j) := Lib.hid (by
                  intro j h1 h2
                  by_cases e : j = i
                  · subst e; exact heq
                  · exact HN.out j h1 (by omega))
                go_wp2_with fail
                go_roundg g2
                case measure => omega
                case rel => exact ⟨i + 1, by omega, rfl, rfl, rfl, rfl, by omega, HN2, rfl⟩
end Go.Proofs.YtjlonndkkeoohaaDoor

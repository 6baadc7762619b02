/-
  The walks of dur.Sane, dur.cutPart and dur.times.
-/
import Derived.Test.YtjlonndkkeoohaaDoorDurBase
import Derived.Deep.QuietTactic
import Derived.BigQuiet
import Derived.OwnWalk
namespace Go.Proofs.YtjlonndkkeoohaaDoor
open Go.RowKit

theorem dsane_any (v : Int) (w : World) :
    Calls Tryd.prog 12 #[.int .i64 v] w fun e w' => e = .returned (.bool (Dp.saneB v)) ∧ w = w' := by
  by_cases h1 : 0 ≤ v
  · by_cases h2 : v ≤ 9007199254740992
    · have H : Hid (Dp.saneB v = true) := Lib.hid ((Dp.sane_iff v).mpr ⟨h1, h2⟩)
      go_enter Tryd.func12, Tryd.ntmps12
      go_wp2
      go_ret
      exact ⟨by rw [H.out]; rfl, rfl⟩
    · have H : Hid (Dp.saneB v = false) := Lib.hid (by unfold Dp.saneB; simp; omega)
      go_enter Tryd.func12, Tryd.ntmps12
      go_wp2
      go_ret
      exact ⟨by rw [H.out]; rfl, rfl⟩
  · have H : Hid (Dp.saneB v = false) := Lib.hid (by unfold Dp.saneB; simp; omega)
    go_enter Tryd.func12, Tryd.ntmps12
    go_wp2
    go_ret
    exact ⟨by rw [H.out]; rfl, rfl⟩

theorem tail_eq (l : List UInt8) : (l.takeWhile fun c => !Np.dig c) ++ (l.dropWhile fun c => !Np.dig c) = l := List.takeWhile_append_dropWhile
theorem head_eq (l : List UInt8) : Dp.cnt l ++ Dp.rst l = l := List.takeWhile_append_dropWhile
theorem cnt_take (l : List UInt8) : l.take (l.length - (Dp.rst l).length) = Dp.cnt l := by
  have h := head_eq l
  have hl : l.length = (Dp.cnt l).length + (Dp.rst l).length := by rw [← List.length_append, h]
  rw [show l.length - (Dp.rst l).length = (Dp.cnt l).length by omega]
  conv => lhs; arg 2; rw [← h]
  simp

/-- What dur.cutPart answers. -/
theorem cutPart_any (s : ByteArray) (hs : s.size ≤ 1000000) (w : World) :
    Calls Tryd.prog 17 #[.string s] w fun e w' => ∃ C T B : ByteArray, e = .returned (.tuple #[.string C, .string T, .string B]) ∧ (C.size ≤ 1000000 ∧ T.size ≤ 1000000 ∧ B.size ≤ 1000000) ∧
      Hid (C.data.toList = Dp.cnt s.data.toList) ∧ Hid (T.data.toList = Dp.ltr s.data.toList) ∧ Hid (B.data.toList = Dp.beh s.data.toList) ∧ Below w.heap.size w w' := by
  go_enter Tryd.func17, Tryd.ntmps17
  go_wp2_with fail
  refine (trimLeft_any s _).mono ?_
  rintro e w1 ⟨R, rfl, hR, HR, hw1⟩
  have hcz : (s.size : Int) - (R.size : Int) ≤ (s.size : Int) := by omega
  have hcz0 : 0 ≤ (s.size : Int) - (R.size : Int) := by omega
  go_wp2_with fail
  refine (indexAny_any R (by omega) _).mono ?_
  rintro e w2 ⟨rfl, hw2⟩
  have hC : Hid ((s.extract 0 (s.size - R.size)).data.toList = Dp.cnt s.data.toList) := Lib.hid (by
    have e1 : R.size = (Dp.rst s.data.toList).length := by rw [← HR.out, Lib.size_eq]
    rw [Lib.extract_from_zero, e1, Lib.size_eq, cnt_take])
  have hCs : (s.extract 0 (s.size - R.size)).size ≤ 1000000 := by
    rw [ByteArray.size_extract]; omega
  generalize s.extract 0 (s.size - R.size) = C at hC hCs ⊢
  by_cases hd : Dp.beh s.data.toList = []
  · have hi : Lib.indexAny R.data.toList tenB.data.toList = -1 := idx_none _ (by rw [HR.out]; exact hd)
    rw [hi]
    have HT : Hid (R.data.toList = Dp.ltr s.data.toList) := Lib.hid (by
      rw [HR.out]
      have := tail_eq (Dp.rst s.data.toList)
      have hd' : (Dp.rst s.data.toList).dropWhile (fun c => !Np.dig c) = [] := hd
      rw [hd', List.append_nil] at this
      exact this.symm)
    have HB : Hid ([] = Dp.beh s.data.toList) := Lib.hid hd.symm
    clear hd hi
    have hrz : (R.size : Int) ≤ (R.size : Int) := Int.le_refl _
    go_wp2_with fail
    go_quiet (fail)
    go_wp2_with fail
    go_ret3
    exact ⟨C, R, ⟨#[]⟩, rfl, ⟨hCs, by omega, by decide⟩, hC, HT, HB, below_on (below_on hw1 hw2) (below_drewN _ _)⟩
  · have hi : Lib.indexAny R.data.toList tenB.data.toList = ((Dp.ltr s.data.toList).length : Int) := by
      rw [idx_some _ (by rw [HR.out]; exact hd), HR.out]; rfl
    rw [hi]
    have hl := tail_eq (Dp.rst s.data.toList)
    have hl1 : (Dp.ltr s.data.toList).length + (Dp.beh s.data.toList).length = R.size := by
      rw [Lib.size_eq, HR.out, ← List.length_append]; exact congrArg List.length hl
    have HT : Hid ((R.extract 0 (Dp.ltr s.data.toList).length).data.toList = Dp.ltr s.data.toList) := Lib.hid (by
      rw [Lib.extract_from_zero, HR.out]
      conv => lhs; arg 2; rw [← hl]
      exact List.take_left)
    have HB : Hid ((R.extract (Dp.ltr s.data.toList).length R.size).data.toList = Dp.beh s.data.toList) := Lib.hid (by
      rw [Lib.extract_to_end, HR.out]
      conv => lhs; arg 2; rw [← hl]
      exact List.drop_left)
    generalize hn : (Dp.ltr s.data.toList).length = n at hl1 HT HB ⊢
    have hnz : (n : Int) ≤ (R.size : Int) := by omega
    clear hn hd hi hl
    go_wp2_with fail
    go_quiet (fail)
    go_wp2_with fail
    go_ret3
    exact ⟨C, R.extract 0 n, R.extract n R.size, rfl, ⟨hCs, by rw [ByteArray.size_extract]; omega, by rw [ByteArray.size_extract]; omega⟩, hC, HT, HB, below_on (below_on hw1 hw2) (below_drewN _ _)⟩

/-- What dur.times answers of digits. -/
theorem times_any (c : ByteArray) (i : Nat) (hd : Np.digs c.data.toList = true) (h0 : c.data.toList ≠ []) (hs : c.size ≤ 1000000) (w : World) (hok : Ok w) :
    Calls Tryd.prog 18 #[.string c, .int .i64 (Dp.sz i : Nat)] w fun e w' => e = .returned (.int .i64 (Dp.times c.data.toList i : Nat)) ∧ Below w.heap.size w w' := by
  have Hok := Lib.hid hok
  have Hd := Lib.hid hd
  have H0 := Lib.hid h0
  clear hok hd h0
  have hp := Dp.sz_pos i
  have hl := Dp.sz_le i
  have HT : Hid (Dp.times c.data.toList i = if Np.num c.data.toList ≤ 9007199254740992 / Dp.sz i then Np.num c.data.toList * Dp.sz i else 9007199254740993) := Lib.hid rfl
  have hm : Np.num c.data.toList ≤ 9007199254740992 / Dp.sz i → Np.num c.data.toList * Dp.sz i ≤ 9007199254740992 := (Nat.le_div_iff_mul_le hp).mp
  have HM := Lib.hid hm
  clear hm
  generalize Dp.times c.data.toList i = T at HT ⊢
  generalize hn : Np.num c.data.toList = n at HT HM
  have Hn := Lib.hid hn
  clear hn
  generalize Dp.sz i = z at hp hl HT HM ⊢
  have hzne : ((z : Int) == 0) = false := by simp; omega
  have hq : 9007199254740992 / z ≤ 9007199254740992 := Nat.div_le_self _ _
  have hdiv : (9007199254740992 : Int) / (z : Int) = ((9007199254740992 / z : Nat) : Int) := rfl
  generalize 9007199254740992 / z = q at HT HM hq hdiv
  by_cases h63 : n < 9223372036854775808
  · by_cases hnq : n ≤ q
    · have hT : T = n * z := by rw [HT.out, if_pos hnq]
      have hb := HM.out hnq
      have hmul : (n : Int) * (z : Int) = ((n * z : Nat) : Int) := by simp
      rw [← hT] at hmul hb
      clear hT
      go_enter Tryd.func18, Tryd.ntmps18
      go_wp2_with fail
      refine (atoi_any c Hd.out H0.out hs _ Hok.out).mono ?_
      rintro e w1 ⟨he, hw1⟩
      rw [Hn.out, if_pos h63] at he
      subst he
      go_wp2_with fail
      go_ret
      exact ⟨rfl, hw1⟩
    · have hT : T = 9007199254740993 := by rw [HT.out, if_neg hnq]
      subst hT
      go_enter Tryd.func18, Tryd.ntmps18
      go_wp2_with fail
      refine (atoi_any c Hd.out H0.out hs _ Hok.out).mono ?_
      rintro e w1 ⟨he, hw1⟩
      rw [Hn.out, if_pos h63] at he
      subst he
      go_wp2_with fail
      go_ret
      exact ⟨rfl, hw1⟩
  · have hT : T = 9007199254740993 := by rw [HT.out, if_neg (by omega)]
    subst hT
    go_enter Tryd.func18, Tryd.ntmps18
    go_wp2_with fail
    refine (atoi_any c Hd.out H0.out hs _ Hok.out).mono ?_
    rintro e w1 ⟨he, hw1⟩
    rw [Hn.out, if_neg h63] at he
    obtain ⟨v, t, N, rfl⟩ := he
    go_wp2_with fail
    go_ret
    exact ⟨rfl, hw1⟩
end Go.Proofs.YtjlonndkkeoohaaDoor

/-
  The walk of layer label's law LabelCut: it answers true.
-/
import Derived.Test.YthknoanhljonoaaLabAs
import Derived.IntWalk
import Derived.Deep.DeepCutAuto
import Derived.Deep.RegionWith
namespace Go.Proofs.Ythknoanhljonoaa
open Go.RowKit Go.Proofs.Ythknoanhljonoaa.Lp

theorem mask_bd (k : Int) : 0 ≤ bits .and .i64 k 65535 ∧ bits .and .i64 k 65535 ≤ 65535 := by
  have h1 : (BitVec.ofInt 64 65535).toNat = 65535 := by decide
  have h2 : (BitVec.ofInt 64 k &&& BitVec.ofInt 64 65535).toNat ≤ 65535 := by
    rw [BitVec.toNat_and, h1]
    exact Nat.and_le_right
  have e : bits .and .i64 k 65535 = (((BitVec.ofInt 64 k &&& BitVec.ofInt 64 65535).toNat : Nat) : Int) := by
    show IntKind.i64.wrap ((BitVec.ofInt 64 k &&& BitVec.ofInt 64 65535).toNat : Int) = _
    exact IntWalk.i64_in _ (by omega)
  rw [e]
  omega
theorem cut_at (k : Int) (n : Nat) : ∃ a : Nat, (bits .and .i64 k 65535).tmod ((n : Int) + 1) = (a : Int) ∧ a ≤ n := by
  obtain ⟨h1, _⟩ := mask_bd k
  generalize bits .and .i64 k 65535 = b at h1
  have h2 := Int.tmod_nonneg ((n : Int) + 1) h1
  have h3 := Int.tmod_lt_of_pos b (show (0 : Int) < (n : Int) + 1 by omega)
  exact ⟨(b.tmod ((n : Int) + 1)).toNat, by omega, by omega⟩
set_option maxHeartbeats 6400000 in
set_option maxRecDepth 100000 in
theorem labelCut_any (A : Option Addr) (c n : Nat) (la : List Pr) (k : Int) (w : World) (hn : n = la.length) (hra : Rd w w.heap.size A la) (hnc : n ≤ c ∧ c ≤ 9223372036854775807) (_ : (Lit.int .i64 k).wf = true) :
    Calls Try.prog 8 #[.slice A n c, .int .i64 k] w fun e w' => e = .returned (.bool true) ∧ Below w.heap.size w w' := by
  have HN := Lib.hid hn
  have HRa := Lib.hid hra
  obtain ⟨hnc, hcm⟩ := hnc
  clear hn hra
  go_enter Try.func8, Try.ntmps8
  go_wp2_with fail
  refine (awake_any _).mono ?_
  rintro e w1 ⟨rfl, hw1⟩
  go_wp2_with fail
  refine (few_of A c n la HN.out _ (HRa.out.on hw1)).mono ?_
  rintro e w2 ⟨b1, rfl, hb1, hw2⟩
  have hb2 := below_on hw1 hw2
  clear hb1 hw2
  cases b1 with
  | false =>
    go_wp2_with fail
    go_ret
    exact ⟨rfl, hb2⟩
  | true =>
  obtain ⟨sa, hsa⟩ : ∃ s, saneB la = s := ⟨_, rfl⟩
  have HSa := Lib.hid hsa
  clear hsa
  go_wp2_with fail
  refine (sane_of A c n la HN.out sa HSa.out _ (HRa.out.on hb2)).mono ?_
  rintro e w3 ⟨rfl, hw3⟩
  have hb3 := below_on hb2 hw3
  clear hw3 hb2 hw1
  cases sa with
  | false =>
    go_wp2_with fail
    go_ret
    exact ⟨rfl, hb3⟩
  | true =>
  have hn16 : n ≤ 16 := by rw [HN.out]; exact sane_len HSa.out
  obtain ⟨a, ha, han⟩ := cut_at k n
  go_upto_region 5 with fail
  have haz : (a : Int) ≤ (n : Int) := by omega
  have haz0 : (0 : Int) ≤ (a : Int) := by omega
  have hacz : (a : Int) ≤ (c : Int) := by omega
  have HKo := Lib.hid ha
  clear ha
  have HCut := Lib.hid (cut_sane HSa.out a)
  have HM1 := Lib.hid (cut_merge HSa.out a)
  have HM2 := Lib.hid (cut_turned HSa.out a)
  have HL1 : Hid (a = (la.take a).length) := Lib.hid (by rw [List.length_take]; have := HN.out; omega)
  have HL2 : Hid (n - a = (la.drop a).length) := Lib.hid (by rw [List.length_drop]; have := HN.out; omega)
  have HRt : Hid (∀ W, Below w.heap.size w W → Rd W W.heap.size A (la.take a)) := Lib.hid (fun W h => (HRa.out.on h).take a)
  obtain ⟨X, hX⟩ : ∃ X, (if c = a then A else A.map fun x => x.add (a * 2)) = X := ⟨_, rfl⟩
  have HRd : Hid (∀ W, Below w.heap.size w W → Rd W W.heap.size X (la.drop a)) := Lib.hid (fun W h => hX ▸ (HRa.out.on h).cut (by have := HN.out; omega))
  go_cut [7, 8] (fun s7 s8 wx => ∃ A7 c7, s7 = .slice A7 n c7 ∧ s8 = .int .i64 0 ∧ Hid (Rd wx wx.heap.size A7 la) ∧ Below w3.heap.size w3 wx)
  case first =>
    go_region_with (go_at_call 18; refine (merge_as A _ c (c - a) a (n - a) (la.take a) (la.drop a) HL1.out HL2.out la n 0 HM1.out.1 HM1.out.2 HN.out _ (HRt.out _ hb3.drew) (HRd.out _ hb3.drew)).mono ?_; rintro e w4 ⟨A4, c4, rfl, HR4, hw4⟩)
    all_goals
      go_wp2_with fail
      go_meet
      exact ⟨A4, c4, rfl, rfl, HR4, below_on (Below.refl _ _).drew hw4⟩
  case rest =>
    generalize wc = V at hcut ⊢
    obtain ⟨A7, c7, rfl, rfl, HR7, hcb⟩ := hcut
    have hb4 := below_on hb3 hcb
    clear hcb hb3
    go_upto_region 6 with fail
    go_cut [9, 10] (fun s9 s10 wx => ∃ A9 c9, s9 = .slice A9 n c9 ∧ s10 = .int .i64 0 ∧ Hid (Rd wx wx.heap.size A9 la) ∧ Below V.heap.size V wx)
    case first =>
      go_region_with (go_at_call 18; refine (merge_as X A (c - a) c (n - a) a (la.drop a) (la.take a) HL2.out HL1.out la n 0 HM2.out.1 HM2.out.2 HN.out _ (HRd.out _ hb4.drew) (HRt.out _ hb4.drew)).mono ?_; rintro e w4 ⟨A4, c4, rfl, HR4, hw4⟩)
      all_goals
        go_wp2_with fail
        go_meet
        exact ⟨A4, c4, rfl, rfl, HR4, below_on (Below.refl _ _).drew hw4⟩
    case rest =>
      generalize wc = Y at hcut ⊢
      obtain ⟨A9, c9, rfl, rfl, HR9, hcb⟩ := hcut
      have hb5 := below_on hb4 hcb
      have HRm : Hid (Rd Y Y.heap.size A7 la) := Lib.hid (HR7.out.on hcb)
      clear hcb hb4 HR7
      obtain ⟨q, hq⟩ : ∃ q : Int, cmpL (asL (la.take a)) (asL la) = q := ⟨_, rfl⟩
      have hq2 : (a < n ∧ q = -1) ∨ (a = n ∧ q = 0) := by
        rw [← hq, asL_sane HCut.out.1, asL_sane HSa.out, cmpL_take, ← HN.out]
        rcases Nat.lt_or_ge a n with h | h
        · exact .inl ⟨h, if_pos h⟩
        · exact .inr ⟨by omega, if_neg (by omega)⟩
      have HQ := Lib.hid hq
      clear hq
      go_wp2_with fail
      refine (compare_of A A c c a n (la.take a) la HL1.out HN.out q HQ.out _ (HRt.out _ hb5) (HRa.out.on hb5)).mono ?_
      rintro e Z ⟨rfl, hcb⟩
      have hb6 := below_on hb5 hcb
      have HRm2 : Hid (Rd Z Z.heap.size A7 la) := Lib.hid (HRm.out.on hcb)
      have HRn2 : Hid (Rd Z Z.heap.size A9 la) := Lib.hid (HR9.out.on hcb)
      clear hcb hb5 HRm HR9
      go_wp2_with fail
      refine (sane_of A c a (la.take a) HL1.out true HCut.out.1 _ (HRt.out _ hb6)).mono ?_
      rintro e w8 ⟨rfl, hcb⟩
      have hb7 := below_on hb6 hcb
      have HRm3 : Hid (Rd w8 w8.heap.size A7 la) := Lib.hid (HRm2.out.on hcb)
      have HRn3 : Hid (Rd w8 w8.heap.size A9 la) := Lib.hid (HRn2.out.on hcb)
      clear hcb hb6 HRm2 HRn2
      go_wp2_with fail
      refine (sane_of X (c - a) (n - a) (la.drop a) HL2.out true HCut.out.2 _ (HRd.out _ hb7)).mono ?_
      rintro e w9 ⟨rfl, hcb⟩
      have hb8 := below_on hb7 hcb
      have HRm4 : Hid (Rd w9 w9.heap.size A7 la) := Lib.hid (HRm3.out.on hcb)
      have HRn4 : Hid (Rd w9 w9.heap.size A9 la) := Lib.hid (HRn3.out.on hcb)
      clear hcb hb7 HRm3 HRn3
      go_wp2_with fail
      refine (same_yes A7 A c7 c n n la HN.out HN.out _ HRm4.out (HRa.out.on hb8)).mono ?_
      rintro e w10 ⟨rfl, hcb⟩
      have hb9 := below_on hb8 hcb
      have HRn5 : Hid (Rd w10 w10.heap.size A9 la) := Lib.hid (HRn4.out.on hcb)
      clear hcb hb8 HRm4 HRn4
      go_wp2_with fail
      refine (same_yes A9 A c9 c n n la HN.out HN.out _ HRn5.out (HRa.out.on hb9)).mono ?_
      rintro e w11 ⟨rfl, hcb⟩
      have hb10 := below_on hb9 hcb
      clear hcb hb9 HRn5
      rcases hq2 with ⟨hlt, rfl⟩ | ⟨hlt, rfl⟩
      · have hd : decide ((a : Int) < (n : Int)) = true := by simpa using hlt
        go_wp2_with fail
        go_ret
        exact ⟨rfl, hb10⟩
      · have hd : decide ((a : Int) < (n : Int)) = false := by simp; omega
        go_wp2_with fail
        go_ret
        exact ⟨rfl, hb10⟩
end Go.Proofs.Ythknoanhljonoaa

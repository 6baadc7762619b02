/-
  The walk of num.Parse: what is answered is Np.parseS of the text's octets.
-/
import Derived.Test.YtjndehdihjlcaaaDoorNumBase
import Derived.Test.YtjndehdihjlcaaaDoorNumSane
import Derived.Test.YtjndehdihjlcaaaDoorNumDig
import Derived.Lib.SmallJoins
import Derived.Lib.Split
import Derived.Lib.Explode
namespace Go.Proofs.YtjndehdihjlcaaaDoor
open Go.RowKit

def Np.ans (r : Int × Int) : Ending := .returned (.tuple #[.int .i64 r.1, .int .i64 r.2])

theorem Np.body_le (l : List UInt8) : (Np.body l).length ≤ l.length := by
  have := Np.body_len l; omega

theorem toList_eq (q : ByteArray) : q.toList = q.data.toList := by
  have h := Lib.extract_toList q 0 q.size
  rw [Lib.whole_piece] at h
  rw [h, List.drop_zero, Nat.sub_zero, Lib.size_eq, List.take_length]
theorem digits_yes (D : ByteArray) (w : World) (h : Np.digs D.data.toList = true) :
    Calls Tryd.prog 18 #[.string D] w fun e w' => ∃ v : Nat, e = .returned (.tuple #[.int .i64 v, .bool true]) ∧ v ≤ 90071992547409929 ∧ Hid (Np.Sat v (Np.num D.data.toList)) ∧ Below w.heap.size w w' := by
  refine (digits_any D w).mono ?_
  rintro e w' ⟨hp, hb⟩
  rcases hp with ⟨_, v, hs, rfl⟩ | ⟨hf, _⟩
  · exact ⟨v, rfl, hs.1, Lib.hid hs, hb⟩
  · rw [h] at hf; exact absurd hf (by simp)
theorem digits_no (D : ByteArray) (w : World) (h : Np.digs D.data.toList = false) :
    Calls Tryd.prog 18 #[.string D] w fun e w' => e = .returned (.tuple #[.int .i64 0, .bool false]) ∧ Below w.heap.size w w' := by
  refine (digits_any D w).mono ?_
  rintro e w' ⟨hp, hb⟩
  rcases hp with ⟨hf, _⟩ | ⟨_, rfl⟩
  · rw [h] at hf; exact absurd hf (by simp)
  · exact ⟨rfl, hb⟩

theorem data_app (a b : ByteArray) : (a ++ b).data.toList = a.data.toList ++ b.data.toList := by
  rw [ByteArray.data_append, Array.toList_append]
/-- What the digits are of which a text's number is told, in one form for texts with a point and without. -/
def Np.Uns (b DL : List UInt8) : Prop := Np.unsig b = if Np.whole b ≠ [] ∧ Np.digs DL = true then some DL else none
theorem Np.uns_plain {b : List UInt8} (h : Np.rest b = []) : Np.Uns b (Np.whole b ++ [48, 48, 48]) := by
  unfold Np.Uns Np.unsig
  rw [h]; simp only [Np.digs_app]
  have : Np.digs [48, 48, 48] = true := rfl
  rw [this, Bool.and_true]
theorem Np.uns_point {b : List UInt8} {x : UInt8} {p : List UInt8} (h : Np.rest b = x :: p) (h0 : p ≠ []) (h3 : ¬ 3 < p.length) : Np.Uns b (Np.whole b ++ Np.pad p) := by
  unfold Np.Uns Np.unsig
  rw [h]; simp [h0, h3]
theorem Np.uns_err {b : List UInt8} {x : UInt8} {p : List UInt8} (h : Np.rest b = x :: p) (h0 : p = [] ∨ 3 < p.length) : Np.unsig b = none := by
  unfold Np.unsig
  rw [h]; simp [h0]
theorem Np.ans_none {l b : List UInt8} (hb : Np.body l = b) (h : Np.unsig b = none) : Np.ans (Np.parseS l) = .returned (.tuple #[.int .i64 0, .int .i64 1]) := by
  unfold Np.parseS; rw [hb, h]; rfl
theorem Np.ans_digs {l b DL : List UInt8} (hb : Np.body l = b) (h : Np.Uns b DL) (hd : Np.digs DL = false) : Np.ans (Np.parseS l) = .returned (.tuple #[.int .i64 0, .int .i64 1]) :=
  Np.ans_none hb (by rw [h, if_neg (by simp [hd])])
theorem Np.ans_whole {l b DL : List UInt8} (hb : Np.body l = b) (h : Np.Uns b DL) (hd : Np.whole b = []) : Np.ans (Np.parseS l) = .returned (.tuple #[.int .i64 0, .int .i64 1]) :=
  Np.ans_none hb (by rw [h, if_neg (by simp [hd])])
theorem Np.ans_fin {l b DL : List UInt8} {n : Bool} (hb : Np.body l = b) (hn : Np.neg l = n) (h : Np.Uns b DL) (hw : Np.whole b ≠ []) (hd : Np.digs DL = true) : Np.parseS l = Np.fin n (Np.num DL) := by
  unfold Np.parseS; rw [hb, hn, h, if_pos ⟨hw, hd⟩]
theorem Np.ans_large {l b DL : List UInt8} {n : Bool} (hb : Np.body l = b) (hn : Np.neg l = n) (h : Np.Uns b DL) (hw : Np.whole b ≠ []) (hd : Np.digs DL = true) (hm : Np.mx < Np.num DL) :
    Np.ans (Np.parseS l) = .returned (.tuple #[.int .i64 0, .int .i64 2]) := by
  rw [Np.ans_fin hb hn h hw hd]; unfold Np.fin; rw [if_pos hm]; rfl
theorem Np.ans_neg {l b DL : List UInt8} {v : Nat} (hb : Np.body l = b) (hn : Np.neg l = true) (h : Np.Uns b DL) (hw : Np.whole b ≠ []) (hd : Np.digs DL = true) (hm : Np.num DL ≤ Np.mx) (hs : Np.Sat v (Np.num DL)) :
    Np.ans (Np.parseS l) = .returned (.tuple #[.int .i64 (-(v : Int)), .int .i64 0]) := by
  rw [Np.ans_fin hb hn h hw hd]; unfold Np.fin; rw [if_neg (by omega), hs.2.1 hm]; rfl
theorem Np.ans_pos {l b DL : List UInt8} {v : Nat} (hb : Np.body l = b) (hn : Np.neg l = false) (h : Np.Uns b DL) (hw : Np.whole b ≠ []) (hd : Np.digs DL = true) (hm : Np.num DL ≤ Np.mx) (hs : Np.Sat v (Np.num DL)) :
    Np.ans (Np.parseS l) = .returned (.tuple #[.int .i64 (v : Int), .int .i64 0]) := by
  rw [Np.ans_fin hb hn h hw hd]; unfold Np.fin; rw [if_neg (by omega), hs.2.1 hm]; rfl

set_option maxHeartbeats 1600000 in
theorem parse_any (s : ByteArray) (hs : s.size ≤ 1000000) (w : World) (hok : Ok w) :
    Calls Tryd.prog 10 #[.string s] w fun e w' => e = Np.ans (Np.parseS s.data.toList) ∧ Below w.heap.size w w' := by
  have Hok := Lib.hid hok
  clear hok
  have hL : (Np.body s.data.toList).length ≤ 1000000 := Nat.le_trans (Np.body_le _) (by rw [← Lib.size_eq]; exact hs)
  generalize hb : Np.body s.data.toList = b at hL
  generalize hn : Np.neg s.data.toList = n
  have Hb := Lib.hid hb
  have Hn := Lib.hid hn
  clear hb hn
  go_enter Tryd.func10, Tryd.ntmps10
  go_wp2_with fail
  refine (cutPrefix_any s _).mono ?_
  rintro e w1 ⟨rfl, rfl⟩
  rw [Hb.out, Hn.out]
  go_wp2_with fail
  rcases hR : Np.rest b with _ | ⟨x, p⟩
  · have HR := Lib.hid hR
    clear hR
    refine (cut_plain b hL HR.out _ Hok.out).mono ?_
    rintro e w1 ⟨W, rfl, hW, HW, hw1⟩
    go_wp2_with fail
    have HU : Hid (Np.Uns b (W ++ ((⟨#[]⟩ : ByteArray) ++ ⟨#[48, 48, 48]⟩).extract 0 3).data.toList) := Lib.hid (by
      have e : (W ++ ((⟨#[]⟩ : ByteArray) ++ ⟨#[48, 48, 48]⟩).extract 0 3).data.toList = Np.whole b ++ [48, 48, 48] := by
        rw [data_app, HW.out]; rfl
      rw [e]; exact Np.uns_plain HR.out)
    generalize W ++ ((⟨#[]⟩ : ByteArray) ++ ⟨#[48, 48, 48]⟩).extract 0 3 = D at HU ⊢
    cases hd : Np.digs D.data.toList with
    | false =>
      have HE : Hid (Np.ans (Np.parseS s.data.toList) = .returned (.tuple #[.int .i64 0, .int .i64 1])) := Lib.hid (Np.ans_digs Hb.out HU.out hd)
      refine (digits_no D _ hd).mono ?_
      rintro e w2 ⟨rfl, hw2⟩
      clear hd
      cases hwe : W.toList.isEmpty
      all_goals
        go_wp2_with fail
        go_ret2
        exact ⟨HE.out.symm, below_on hw1 hw2⟩
    | true =>
      have Hd := Lib.hid hd
      refine (digits_yes D _ hd).mono ?_
      rintro e w2 ⟨v, rfl, hv, HS, hw2⟩
      clear hd
      cases hwe : W.toList.isEmpty with
      | true =>
        have HE : Hid (Np.ans (Np.parseS s.data.toList) = .returned (.tuple #[.int .i64 0, .int .i64 1])) := Lib.hid (Np.ans_whole Hb.out HU.out (by rw [← HW.out, ← toList_eq]; simpa using hwe))
        go_wp2_with fail
        go_ret2
        exact ⟨HE.out.symm, below_on hw1 hw2⟩
      | false =>
        have HWn : Hid (Np.whole b ≠ []) := Lib.hid (by rw [← HW.out, ← toList_eq]; simpa using hwe)
        by_cases hm : Np.mx < Np.num D.data.toList
        · have HE : Hid (Np.ans (Np.parseS s.data.toList) = .returned (.tuple #[.int .i64 0, .int .i64 2])) := Lib.hid (Np.ans_large Hb.out Hn.out HU.out HWn.out Hd.out hm)
          have hsn : Np.saneB (v : Int) = false := by
            have := HS.out.2.2 hm
            unfold Np.saneB; unfold Np.mx at this; simp; omega
          clear hm
          go_wp2_with fail
          refine (sane_any _ _).mono ?_
          rintro e w3 ⟨rfl, rfl⟩
          go_wp2_with fail
          go_ret2
          exact ⟨HE.out.symm, below_on hw1 hw2⟩
        · have hsn : Np.saneB (v : Int) = true := by
            have := HS.out.2.1 (by omega)
            rw [Np.sane_iff]; unfold Np.mx at hm; omega
          cases n with
          | true =>
            have HE : Hid (Np.ans (Np.parseS s.data.toList) = .returned (.tuple #[.int .i64 (-(v : Int)), .int .i64 0])) := Lib.hid (Np.ans_neg Hb.out Hn.out HU.out HWn.out Hd.out (by omega) HS.out)
            clear hm
            go_wp2_with fail
            refine (sane_any _ _).mono ?_
            rintro e w3 ⟨rfl, rfl⟩
            go_wp2_with fail
            go_ret2
            exact ⟨HE.out.symm, below_on hw1 hw2⟩
          | false =>
            have HE : Hid (Np.ans (Np.parseS s.data.toList) = .returned (.tuple #[.int .i64 (v : Int), .int .i64 0])) := Lib.hid (Np.ans_pos Hb.out Hn.out HU.out HWn.out Hd.out (by omega) HS.out)
            clear hm
            go_wp2_with fail
            refine (sane_any _ _).mono ?_
            rintro e w3 ⟨rfl, rfl⟩
            go_wp2_with fail
            go_ret2
            exact ⟨HE.out.symm, below_on hw1 hw2⟩
  · have HR := Lib.hid hR
    clear hR
    refine (cut_point b hL x p HR.out _ Hok.out).mono ?_
    rintro e w1 ⟨W, Q, rfl, ⟨hW, hQ, hp⟩, HW, HQ, hw1⟩
    have Hp := Lib.hid hp
    clear hp
    by_cases h0 : p = []
    · have HE : Hid (Np.unsig b = none) := Lib.hid (Np.uns_err HR.out (Or.inl h0))
      have hq : Q.toList = [] := by rw [toList_eq, HQ.out, h0]
      clear h0
      go_wp2_with fail
      go_ret2
      exact ⟨(Np.ans_none Hb.out HE.out).symm, hw1⟩
    · have hq : Q.toList.isEmpty = false := by rw [toList_eq, HQ.out]; simpa using h0
      have hq' : ¬ Q.toList = [] := by rw [toList_eq, HQ.out]; exact h0
      by_cases h3 : 3 < p.length
      · have HE : Hid (Np.unsig b = none) := Lib.hid (Np.uns_err HR.out (Or.inr h3))
        have hq3 : (3 : Int) < (Q.size : Int) := by rw [Hp.out]; omega
        clear h0 h3
        go_wp2_with fail
        go_ret2
        exact ⟨(Np.ans_none Hb.out HE.out).symm, hw1⟩
      · have HU0 : Hid (Np.Uns b (Np.whole b ++ Np.pad p)) := Lib.hid (Np.uns_point HR.out h0 h3)
        have hq3 : ¬ (3 : Int) < (Q.size : Int) := by rw [Hp.out]; omega
        clear h0 h3
        go_wp2_with fail
        have HU : Hid (Np.Uns b (W ++ (Q ++ ⟨#[48, 48, 48]⟩).extract 0 3).data.toList) := Lib.hid (by
          have e : (W ++ (Q ++ ⟨#[48, 48, 48]⟩).extract 0 3).data.toList = Np.whole b ++ Np.pad p := by
            rw [data_app, Lib.extract_from_zero, data_app, HW.out, HQ.out]; rfl
          rw [e]; exact HU0.out)
        generalize W ++ (Q ++ ⟨#[48, 48, 48]⟩).extract 0 3 = D at HU ⊢
        clear HU0 hq hq' hq3 HQ Hp hQ
        cases hd : Np.digs D.data.toList with
        | false =>
          have HE : Hid (Np.ans (Np.parseS s.data.toList) = .returned (.tuple #[.int .i64 0, .int .i64 1])) := Lib.hid (Np.ans_digs Hb.out HU.out hd)
          refine (digits_no D _ hd).mono ?_
          rintro e w2 ⟨rfl, hw2⟩
          clear hd
          cases hwe : W.toList.isEmpty
          all_goals
            go_wp2_with fail
            go_ret2
            exact ⟨HE.out.symm, below_on hw1 hw2⟩
        | true =>
          have Hd := Lib.hid hd
          refine (digits_yes D _ hd).mono ?_
          rintro e w2 ⟨v, rfl, hv, HS, hw2⟩
          clear hd
          cases hwe : W.toList.isEmpty with
          | true =>
            have HE : Hid (Np.ans (Np.parseS s.data.toList) = .returned (.tuple #[.int .i64 0, .int .i64 1])) := Lib.hid (Np.ans_whole Hb.out HU.out (by rw [← HW.out, ← toList_eq]; simpa using hwe))
            go_wp2_with fail
            go_ret2
            exact ⟨HE.out.symm, below_on hw1 hw2⟩
          | false =>
            have HWn : Hid (Np.whole b ≠ []) := Lib.hid (by rw [← HW.out, ← toList_eq]; simpa using hwe)
            by_cases hm : Np.mx < Np.num D.data.toList
            · have HE : Hid (Np.ans (Np.parseS s.data.toList) = .returned (.tuple #[.int .i64 0, .int .i64 2])) := Lib.hid (Np.ans_large Hb.out Hn.out HU.out HWn.out Hd.out hm)
              have hsn : Np.saneB (v : Int) = false := by
                have := HS.out.2.2 hm
                unfold Np.saneB; unfold Np.mx at this; simp; omega
              clear hm
              go_wp2_with fail
              refine (sane_any _ _).mono ?_
              rintro e w3 ⟨rfl, rfl⟩
              go_wp2_with fail
              go_ret2
              exact ⟨HE.out.symm, below_on hw1 hw2⟩
            · have hsn : Np.saneB (v : Int) = true := by
                have := HS.out.2.1 (by omega)
                rw [Np.sane_iff]; unfold Np.mx at hm; omega
              cases n with
              | true =>
                have HE : Hid (Np.ans (Np.parseS s.data.toList) = .returned (.tuple #[.int .i64 (-(v : Int)), .int .i64 0])) := Lib.hid (Np.ans_neg Hb.out Hn.out HU.out HWn.out Hd.out (by omega) HS.out)
                clear hm
                go_wp2_with fail
                refine (sane_any _ _).mono ?_
                rintro e w3 ⟨rfl, rfl⟩
                go_wp2_with fail
                go_ret2
                exact ⟨HE.out.symm, below_on hw1 hw2⟩
              | false =>
                have HE : Hid (Np.ans (Np.parseS s.data.toList) = .returned (.tuple #[.int .i64 (v : Int), .int .i64 0])) := Lib.hid (Np.ans_pos Hb.out Hn.out HU.out HWn.out Hd.out (by omega) HS.out)
                clear hm
                go_wp2_with fail
                refine (sane_any _ _).mono ?_
                rintro e w3 ⟨rfl, rfl⟩
                go_wp2_with fail
                go_ret2
                exact ⟨HE.out.symm, below_on hw1 hw2⟩
end Go.Proofs.YtjndehdihjlcaaaDoor

/-
  The walks of the document's Sane and Fits of layer sel.
-/
import Derived.Test.YtgahahichplpkaaDoorSelRef
namespace Go.Proofs.YtgahahichplpkaaDoor
open Go.RowKit Go.Proofs.YtgahahichplpkaaDoor.Lp
open Go.Proofs.YtgahahichplpkaaDoor.Sl (Mt Sel Tf)

theorem all_take {l : List Mt} {i : Nat} {m : Mt} (f : Mt → Bool) (h : l[i]? = some m) (ha : (l.take i).all f = true) : (l.take (i + 1)).all f = f m := by
  rw [List.take_add_one, h, List.all_append, ha]
  simp
theorem all_no {l : List Mt} {i : Nat} {m : Mt} (f : Mt → Bool) (h : l[i]? = some m) (hf : f m = false) : l.all f = false := by
  rw [List.all_eq_false]
  exact ⟨m, List.mem_of_getElem? h, by rw [hf]; decide⟩
set_option maxHeartbeats 3200000 in
theorem rsaneS_of (N : ByteArray) (A : Option Addr) (c n : Nat) (l : List Mt) (b : Bool) (hNs : N.size ≤ 9223372036854775807) (hn : n = l.length) (hb : Sl.saneS (N, l) = b) (w : World) (hr : Rq w w.heap.size A l) :
    Calls Tryd.prog 15 #[sv N A n c] w fun e w' => e = .returned (.bool b) ∧ Below w.heap.size w w' := by
  have HN := Lib.hid hn
  have HB := Lib.hid hb
  have HR := Lib.hid hr
  have hlen : n ≤ 9223372036854775807 := by rw [hn]; exact hr.len
  clear hn hb hr
  go_enter Tryd.func15, Tryd.ntmps15
  obtain ⟨W, P, hW, hP, hb0, d0, d1, hPW⟩ := box_sel w N A n c
  have X1 : Hid (Bx W P N A n c) := Lib.hid ⟨d0, d1, hPW⟩
  have HB0 : Hid (Below w.heap.size w W) := Lib.hid (hP ▸ hb0)
  clear hb0
  go_wp2_with fail
  go_loopg [3] n (fun g s3 wx => ∃ i : Nat, i + g = n ∧ s3 = .int .i64 i ∧ Hid ((l.take i).all Sl.mOk = true) ∧ Below W.heap.size W wx)
  case atStart => exact ⟨0, by omega, rfl, Lib.hid rfl, Below.refl _ _⟩
  case round =>
    obtain ⟨i, hi, rfl, HA, hwx⟩ := hrel
    clear d0 d1
    obtain ⟨e0, e1, hP'⟩ := X1.out.on hwx
    have hwp := below_on HB0.out hwx
    cases gk with
    | zero =>
      obtain rfl : i = n := by omega
      have hall : l.all Sl.mOk = true := by
        have := HA.out
        rwa [List.take_of_length_le (by rw [HN.out]; exact Nat.le_refl _)] at this
      obtain ⟨bn, hbn⟩ : ∃ bn, nameB N = bn := ⟨_, rfl⟩
      have HBn := Lib.hid hbn
      have hb := HB.out
      unfold Sl.saneS at hb
      simp only [hall, hbn, Bool.and_true] at hb
      rw [← HN.out] at hb
      have HBb := Lib.hid hb
      clear hbn hb hall
      go_wp2_with fail
      refine (rname_of N hNs bn HBn.out wr).mono ?_
      rintro e w2 ⟨rfl, rfl⟩
      cases bn with
      | false =>
        have : b = false := by rw [← HBb.out]; rfl
        subst this
        go_wp2_with fail
        go_ret
        exact ⟨rfl, hwp⟩
      | true =>
        by_cases h8 : i ≤ 8
        · have h8z : decide ((i : Int) ≤ 8) = true := by simp; omega
          have : b = true := by rw [← HBb.out]; simp [h8]
          subst this
          go_wp2_with fail
          go_ret
          exact ⟨rfl, hwp⟩
        · have h8z : decide ((i : Int) ≤ 8) = false := by simp; omega
          have : b = false := by rw [← HBb.out]; simp [h8]
          subst this
          go_wp2_with fail
          go_ret
          exact ⟨rfl, hwp⟩
    | succ g =>
      have hlt : i < n := by omega
      have hltz : (i : Int) < (n : Int) := by omega
      obtain ⟨a1, a2, a3, ha⟩ := getM (l := l) (k := i) (by have := HN.out; omega)
      obtain ⟨bk, off, rfl, hbk, c0, c1, c2⟩ := (HR.out.on hwp).get ha
      have h1s : a1.size ≤ 9223372036854775807 := (HR.out.size _ (List.mem_of_getElem? ha)).1
      have h2s : a2.size ≤ 9223372036854775807 := (HR.out.size _ (List.mem_of_getElem? ha)).2
      have HM := Lib.hid ha
      clear ha
      obtain ⟨bn, hbn⟩ : ∃ bn, nameB a1 = bn := ⟨_, rfl⟩
      have HBn := Lib.hid hbn
      clear hbn
      go_wp2_with fail
      refine (rname_of a1 h1s bn HBn.out wr).mono ?_
      rintro e w2 ⟨rfl, rfl⟩
      cases bn with
      | false =>
        have hf : Sl.mOk (a1, a2, a3) = false := by unfold Sl.mOk; rw [HBn.out]; rfl
        have : b = false := by
          rw [← HB.out]; unfold Sl.saneS
          rw [all_no Sl.mOk HM.out hf, Bool.and_false]
        subst this
        go_wp2_with fail
        go_ret
        exact ⟨rfl, hwp⟩
      | true =>
        by_cases h64 : 64 < a2.size
        · have h64z : (64 : Int) < (a2.size : Int) := by omega
          have hf : Sl.mOk (a1, a2, a3) = false := by unfold Sl.mOk; rw [HBn.out]; simp; omega
          have : b = false := by
            rw [← HB.out]; unfold Sl.saneS
            rw [all_no Sl.mOk HM.out hf, Bool.and_false]
          subst this
          go_wp2_with fail
          go_ret
          exact ⟨rfl, hwp⟩
        · have h64z : ¬ (64 : Int) < (a2.size : Int) := by omega
          have HA' : Hid ((l.take (i + 1)).all Sl.mOk = true) := Lib.hid (by
            rw [all_take Sl.mOk HM.out HA.out]; unfold Sl.mOk; rw [HBn.out]; simp; omega)
          go_wp2_with fail
          go_roundg g
          case measure => omega
          case rel => exact ⟨i + 1, by omega, by simp, HA', hwx⟩
end Go.Proofs.YtgahahichplpkaaDoor

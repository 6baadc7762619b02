/-
  The walk of label.Get, for the layers above.
-/
import Derived.Test.YtgahahichplpkaaDoorCdSane
import Derived.Test.YtgahahichplpkaaDoorGetB
namespace Go.Proofs.YtgahahichplpkaaDoor
open Go.RowKit Go.Proofs.YtgahahichplpkaaDoor.Lp

theorem orNone_of_in (B : Nat) (A : Option Addr) (c n : Nat) (l : List Pr) (hn : n = l.length) (w : World) (hB : B ≤ w.heap.size) (hr : Rd w B A l) :
    Calls Tryd.prog 70 #[.slice A n c] w fun e w' => ∃ A' c', e = .returned (.slice A' (asL l).length c') ∧ Hid (Rd w' B A' (asL l)) ∧ Below w.heap.size w w' := by
  cases h : saneB l with
  | true =>
    have HL : Hid (asL l = l) := Lib.hid (asL_sane h)
    have HN := Lib.hid hn
    clear hn
    go_enter Tryd.func70, Tryd.ntmps70
    go_wp2_with (go_at_call 22; refine (sane_of A c n l HN.out true h _ (hr.more hB)).mono ?_; rintro e w1 ⟨rfl, hw1⟩)
    go_ret
    refine ⟨A, c, ?_, ?_, hw1⟩
    · rw [HL.out, ← HN.out]; rfl
    · rw [HL.out]; exact Lib.hid (hr.below (hw1.mono hB))
  | false =>
    have HL : Hid (asL l = []) := Lib.hid (asL_no h)
    have HN := Lib.hid hn
    clear hn
    go_enter Tryd.func70, Tryd.ntmps70
    go_wp2_with (go_at_call 22; refine (sane_of A c n l HN.out false h _ (hr.more hB)).mono ?_; rintro e w1 ⟨rfl, hw1⟩)
    go_ret
    refine ⟨none, 0, ?_, ?_, hw1⟩
    · rw [HL.out]; rfl
    · rw [HL.out]; exact Lib.hid (Rd.none_ _ _ _)
theorem orNone_of (A : Option Addr) (c n : Nat) (l : List Pr) (hn : n = l.length) (w : World) (hr : Rd w w.heap.size A l) :
    Calls Tryd.prog 70 #[.slice A n c] w fun e w' => ∃ A' c', e = .returned (.slice A' (asL l).length c') ∧ Hid (Rd w' w'.heap.size A' (asL l)) ∧ Below w.heap.size w w' := by
  refine (orNone_of_in w.heap.size A c n l hn w (Nat.le_refl _) hr).mono ?_
  rintro e w' ⟨A', c', he, h, hb⟩
  exact ⟨A', c', he, Lib.hid (h.out.more hb.size), hb⟩
set_option maxHeartbeats 1600000 in
theorem get_of (A : Option Addr) (c n : Nat) (l : List Pr) (hn : n = l.length) (nm : ByteArray) (o : Option ByteArray) (ho : getS (asL l) nm = o) (w : World) (hr : Rd w w.heap.size A l) :
    Calls Tryd.prog 57 #[.slice A n c, .string nm] w fun e w' => e = .returned (gotV o) ∧ Below w.heap.size w w' := by
  have HO := Lib.hid ho
  have HN := Lib.hid hn
  clear ho hn
  go_enter Tryd.func57, Tryd.ntmps57
  go_wp2_with fail
  refine (orNone_of A c n l HN.out _ hr).mono ?_
  rintro e w1 ⟨A', c', rfl, hr1, hw1⟩
  have hr1' := hr1.out
  have hlen := hr1'.len
  generalize asL l = m at HO hr1 hr1' hlen
  obtain ⟨k, hk⟩ : ∃ k, m.length = k := ⟨_, rfl⟩
  have HK := Lib.hid hk
  rw [hk] at hlen ⊢
  clear hk hr
  go_wp2_with fail
  go_loopg [7, 11] k (fun g _ s11 wx => ∃ i : Nat, i + g = k ∧ s11 = .int .i64 i ∧ Hid (∀ j p, j < i → m[j]? = some p → p.1 ≠ nm) ∧ Below w1.heap.size w1 wx)
  case atStart => exact ⟨0, by omega, rfl, Lib.hid (fun j _ hj => by omega), Below.refl _ _⟩
  case round =>
    obtain ⟨i, hi, rfl, HA, hwx⟩ := hrel
    cases gk with
    | zero =>
      obtain rfl : i = k := by omega
      have ho : o = none := by
        rw [← HO.out]
        refine get_miss fun j p hp => HA.out j p ?_ hp
        have := (List.getElem?_eq_some_iff.1 hp).1
        have := HK.out
        omega
      subst ho
      go_wp2_with fail
      go_ret2
      exact ⟨rfl, below_on hw1 hwx⟩
    | succ g =>
      have hlt : i < k := by omega
      have hltz : (i : Int) < (k : Int) := by omega
      obtain ⟨bk, off, rfl, hbk, hc⟩ := (hr1'.below hwx).all (by have := HK.out; omega)
      obtain ⟨N, V, hp⟩ := ex_at (l := m) (k := i) (by have := HK.out; omega)
      obtain ⟨c0, c1⟩ := hc _ _ hp
      have HP := Lib.hid hp
      clear hc hp hr1'
      have hbk' : bk < wr.heap.size := by have := hwx.size; omega
      by_cases he : N = nm
      · have ho : o = some V := by rw [← HO.out]; exact get_hit HP.out he HA.out
        subst ho
        have het : N.toList = nm.toList := by rw [he]
        clear he
        go_wp2_with fail
        go_ret2
        exact ⟨rfl, below_on hw1 (hwx.alloc hwx.size _)⟩
      · have heb := beq_no he
        have HE := Lib.hid he
        clear he
        go_wp2_with fail
        go_roundg g
        case measure => omega
        case rel => exact ⟨i + 1, by omega, by simp, Lib.hid (fun j p hj hp => by
          by_cases e : j = i
          · subst e; rw [HP.out] at hp; cases hp; exact HE.out
          · exact HA.out j p (by omega) hp), hwx.alloc hwx.size _⟩
end Go.Proofs.YtgahahichplpkaaDoor

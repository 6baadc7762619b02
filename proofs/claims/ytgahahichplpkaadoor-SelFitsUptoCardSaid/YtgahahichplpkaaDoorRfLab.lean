/-
  The walks of the document's Letter, Name, Few, Sane, As and Get of layer label, for the layers above.
-/
import Derived.Test.YtgahahichplpkaaDoorCdSane
import Derived.Test.YtgahahichplpkaaDoorRfName
import Derived.Test.YtgahahichplpkaaDoorGetB
import Derived.Laws.StructEq
namespace Go.Proofs.YtgahahichplpkaaDoor
open Go.RowKit Go.Proofs.YtgahahichplpkaaDoor.Lp

/-! ### Few -/
set_option maxHeartbeats 1600000 in
theorem few_of (A : Option Addr) (c n : Nat) (l : List Pr) (hn : n = l.length) (w : World) (hr : Rd w w.heap.size A l) :
    Calls Tryd.prog 11 #[.slice A n c] w fun e w' => ∃ b : Bool, e = .returned (.bool b) ∧ (b = true → n ≤ 40) ∧ Below w.heap.size w w' := by
  have HN := Lib.hid hn
  have hlen : n ≤ 9223372036854775807 := by rw [hn]; exact hr.len
  clear hn
  go_enter Tryd.func11, Tryd.ntmps11
  go_wp2_with fail
  go_loopg [3, 4] n (fun g s3 s4 wx => ∃ (i : Nat) (z : Int), i + g = n ∧ s4 = .int .i64 i ∧ s3 = .int .i64 z ∧ Below w.heap.size w wx)
  case atStart => exact ⟨0, 0, by omega, rfl, rfl, Below.refl _ _⟩
  case round =>
    obtain ⟨i, z, hi, rfl, rfl, hwx⟩ := hrel
    cases gk with
    | zero =>
      obtain rfl : i = n := by omega
      by_cases h40 : i ≤ 40
      · have hz : decide ((i : Int) ≤ 40) = true := by simp; omega
        go_wp2_with fail
        go_ret
        exact ⟨_, rfl, fun _ => h40, hwx⟩
      · have hz : decide ((i : Int) ≤ 40) = false := by simp; omega
        go_wp2_with fail
        go_ret
        exact ⟨false, rfl, fun h => (by cases h), hwx⟩
    | succ g =>
      have hlt : i < n := by omega
      have hltz : (i : Int) < (n : Int) := by omega
      obtain ⟨bk, off, rfl, hbk, hc⟩ := (hr.below hwx).all (by have := HN.out; omega)
      obtain ⟨N, V, hp⟩ := ex_at (l := l) (k := i) (by have := HN.out; omega)
      obtain ⟨c0, c1⟩ := hc _ _ hp
      have hbk' : bk < wr.heap.size := by have := hwx.size; omega
      clear hc hp hr
      go_wp2_with fail
      go_quiet (fail)
      go_wp2_with fail
      go_roundg g
      case measure => omega
      case rel => exact ⟨i + 1, _, by omega, by simp, rfl, below_on hwx (below_drewN _ _)⟩

/-! ### Sane, As -/
theorem turn_of {P : Program} {f : FuncId} {args : Array Value} {w : World} {x : Ending} (h : Calls P f args w fun e w' => e = x ∧ w = w') : Calls P f args w fun e w' => e = x ∧ w' = w :=
  h.mono fun _ _ ⟨he, hw⟩ => ⟨he, hw.symm⟩
set_option maxHeartbeats 3200000 in
theorem rsane_of (A : Option Addr) (c n : Nat) (l : List Pr) (hn : n = l.length) (b : Bool) (hb : saneB l = b) (w : World) (hr : Rd w w.heap.size A l) :
    Calls Tryd.prog 41 #[.slice A n c] w fun e w' => e = .returned (.bool b) ∧ Below w.heap.size w w' := by
  have HN := Lib.hid hn
  have HB := Lib.hid hb
  have hlen : n ≤ 9223372036854775807 := by rw [hn]; exact hr.len
  clear hn hb
  go_enter Tryd.func41, Tryd.ntmps41
  go_wp2_with fail
  go_loopg [3] n (fun g s3 wx => ∃ i : Nat, i + g = n ∧ s3 = .int .i64 i ∧ Hid (∀ j p, j < i → l[j]? = some p → nameB p.1 = true ∧ p.2.size ≤ 64 ∧ ∀ q, 0 < j → l[j - 1]? = some q → blt q.1 p.1 = true) ∧ Below w.heap.size w wx)
  case atStart => exact ⟨0, by omega, rfl, Lib.hid (fun j _ hj => by omega), Below.refl _ _⟩
  case round =>
    obtain ⟨i, hi, rfl, HA, hwx⟩ := hrel
    cases gk with
    | zero =>
      obtain rfl : i = n := by omega
      have hs : Hid (saneB l = decide (i ≤ 16)) := Lib.hid (by
        have hA : ∀ (j : Nat) (p : Pr), l[j]? = some p → nameB p.1 = true ∧ p.2.size ≤ 64 ∧ ∀ q, 0 < j → l[j - 1]? = some q → blt q.1 p.1 = true := fun j p hp => by
          refine HA.out j p ?_ hp
          have := (List.getElem?_eq_some_iff.1 hp).1
          have := HN.out
          omega
        have h1 : l.any bigV = false := by
          rw [List.any_eq_false]
          intro p hp
          obtain ⟨j, hj, rfl⟩ := List.mem_iff_getElem.1 hp
          have := (hA j _ (List.getElem?_eq_getElem hj)).2.1
          simp [bigV]; omega
        have h2 : misn l = false := by
          unfold misn
          rw [List.any_eq_false]
          intro p hp
          obtain ⟨j, hj, rfl⟩ := List.mem_iff_getElem.1 hp
          have := (hA j _ (List.getElem?_eq_getElem hj)).1
          simp [badN, this]
        have h3 : rising l = true := by
          rw [rising_at]
          intro j p q hp hq
          exact (hA (j + 1) q hq).2.2 p (by omega) hp
        unfold saneB large
        rw [h1, h2, h3, ← HN.out]
        by_cases h : i ≤ 16
        · simp [h]; try omega
        · simp [h]; try omega)
      by_cases h16 : i ≤ 16
      · have hb : b = true := by rw [← HB.out, hs.out]; simpa using h16
        subst hb
        go_wp2_with fail
        go_ret
        exact ⟨ret_bool (by simp; omega), hwx⟩
      · have hb : b = false := by rw [← HB.out, hs.out]; simpa using h16
        subst hb
        go_wp2_with fail
        go_ret
        exact ⟨ret_bool (by simp; omega), hwx⟩
    | succ g =>
      have hlt : i < n := by omega
      have hltz : (i : Int) < (n : Int) := by omega
      obtain ⟨bk, off, rfl, hbk, hc⟩ := (hr.below hwx).all (by have := HN.out; omega)
      obtain ⟨N, V, hp⟩ := ex_at (l := l) (k := i) (by have := HN.out; omega)
      obtain ⟨c0, c1⟩ := hc _ _ hp
      have hbk' : bk < wr.heap.size := by have := hwx.size; omega
      have HP := Lib.hid hp
      have HCs := Lib.hid hc
      clear hc
      have HF : Hid (saneB l = true → nameB N = true ∧ V.size ≤ 64 ∧ ∀ q, 0 < i → l[i - 1]? = some q → blt q.1 N = true) := Lib.hid (by
        intro h
        obtain ⟨h1, h2, h3⟩ := (sane_iff l).1 h
        have hm := List.mem_of_getElem? hp
        refine ⟨?_, ?_, fun q h0 hq => ?_⟩
        · have := List.any_eq_false.1 h2 _ hm
          simpa [badN] using this
        · have := List.any_eq_false.1 ((large_iff l).1 h1).2 _ hm
          simp [bigV] at this; omega
        · have := (rising_at l).1 ((rising_iff l).2 h3) (i - 1) q (N, V) hq (by rw [show i - 1 + 1 = i by omega]; exact hp)
          exact this)
      have hsz := hr.size _ (List.mem_of_getElem? hp)
      clear hp hr
      have HSz := Lib.hid hsz
      clear hsz
      cases hnm : nameB N with
      | false =>
        have hb : b = false := by
          rw [← HB.out]
          cases h : saneB l with
          | false => rfl
          | true => have := (HF.out h).1; rw [hnm] at this; cases this
        subst hb
        go_wp2_with fail
        go_quiet ((go_at_call 34; exact Calls.quiet_of_same (turn_of (rname_of N HSz.out.1 false hnm _))))
        go_wp2_with fail
        go_ret
        exact ⟨rfl, below_on hwx (below_drewN _ _)⟩
      | true =>
        by_cases hv : 64 < V.size
        · have hvz : (64 : Int) < (V.size : Int) := by omega
          have hvb : decide ((64 : Int) < (V.size : Int)) = true := by simpa using hvz
          have hb : b = false := by
            rw [← HB.out]
            cases h : saneB l with
            | false => rfl
            | true => have := (HF.out h).2.1; omega
          subst hb
          go_wp2_with fail
          go_quiet ((go_at_call 34; exact Calls.quiet_of_same (turn_of (rname_of N HSz.out.1 true hnm _))))
          go_wp2_with fail
          go_ret
          exact ⟨rfl, below_on hwx (below_drewN _ _)⟩
        · have hvz : ¬ (64 : Int) < (V.size : Int) := by omega
          have hvb : decide ((64 : Int) < (V.size : Int)) = false := by simp; omega
          by_cases hi0 : i = 0
          · subst hi0
            have HA' : Hid (∀ j p, j < 0 + 1 → l[j]? = some p → nameB p.1 = true ∧ p.2.size ≤ 64 ∧ ∀ q, 0 < j → l[j - 1]? = some q → blt q.1 p.1 = true) := Lib.hid (by
              intro j p hj hp
              obtain rfl : j = 0 := by omega
              rw [HP.out] at hp
              cases hp
              exact ⟨hnm, by show V.size ≤ 64; omega, fun q h => by omega⟩)
            rw [Nat.zero_mul, Nat.add_zero] at c0 c1
            go_wp2_with fail
            go_quiet ((go_at_call 34; exact Calls.quiet_of_same (turn_of (rname_of N HSz.out.1 true hnm _))))
            go_wp2_with fail
            go_roundg g
            case measure => omega
            case rel => exact ⟨0 + 1, by omega, by simp, HA', below_on hwx (below_drewN _ _)⟩
          · obtain ⟨j, rfl⟩ : ∃ j, i = j + 1 := ⟨i - 1, by omega⟩
            obtain ⟨M, U, hp'⟩ := ex_at (l := l) (k := j) (by have := HN.out; omega)
            have d0 := (HCs.out _ _ hp').1
            have HP' := Lib.hid hp'
            clear hp'
            cases hlss : Op.bytesLess M.toList N.toList with
            | true =>
              have HA' : Hid (∀ k p, k < j + 1 + 1 → l[k]? = some p → nameB p.1 = true ∧ p.2.size ≤ 64 ∧ ∀ q, 0 < k → l[k - 1]? = some q → blt q.1 p.1 = true) := Lib.hid (by
                intro k p hk hp
                by_cases e : k = j + 1
                · subst e
                  rw [HP.out] at hp
                  cases hp
                  refine ⟨hnm, by show V.size ≤ 64; omega, fun q h hq => ?_⟩
                  rw [show j + 1 - 1 = j by omega, HP'.out] at hq
                  cases hq
                  exact hlss
                · exact HA.out k p (by omega) hp)
              go_wp2_with fail
              go_quiet ((go_at_call 34; exact Calls.quiet_of_same (turn_of (rname_of N HSz.out.1 true hnm _))))
              go_wp2_with fail
              go_roundg g
              case measure => omega
              case rel => exact ⟨j + 1 + 1, by omega, by simp, HA', below_on hwx (below_drewN _ _)⟩
            | false =>
              have hb : b = false := by
                rw [← HB.out]
                cases h : saneB l with
                | false => rfl
                | true =>
                  have := (HF.out h).2.2 (M, U) (by omega) (by rw [show j + 1 - 1 = j by omega]; exact HP'.out)
                  unfold blt at this
                  rw [hlss] at this; cases this
              subst hb
              go_wp2_with fail
              go_quiet ((go_at_call 34; exact Calls.quiet_of_same (turn_of (rname_of N HSz.out.1 true hnm _))))
              go_wp2_with fail
              go_ret
              exact ⟨rfl, below_on hwx (below_drewN _ _)⟩

theorem as_of_in (B : Nat) (A : Option Addr) (c n : Nat) (l : List Pr) (hn : n = l.length) (w : World) (hB : B ≤ w.heap.size) (hr : Rd w B A l) :
    Calls Tryd.prog 58 #[.slice A n c] w fun e w' => ∃ A' c', e = .returned (.slice A' (asL l).length c') ∧ Hid (Rd w' B A' (asL l)) ∧ Below w.heap.size w w' := by
  have HN := Lib.hid hn
  clear hn
  cases h : saneB l with
  | true =>
    have HL : Hid (asL l = l) := Lib.hid (asL_sane h)
    go_enter Tryd.func58, Tryd.ntmps58
    go_wp2_with (go_at_call 41; refine (rsane_of A c n l HN.out true h _ (hr.more hB)).mono ?_; rintro e w1 ⟨rfl, hw1⟩)
    go_ret
    refine ⟨A, c, ?_, ?_, hw1⟩
    · rw [HL.out, ← HN.out]; rfl
    · rw [HL.out]; exact Lib.hid (hr.below (hw1.mono hB))
  | false =>
    have HL : Hid (asL l = []) := Lib.hid (asL_no h)
    go_enter Tryd.func58, Tryd.ntmps58
    go_wp2_with (go_at_call 41; refine (rsane_of A c n l HN.out false h _ (hr.more hB)).mono ?_; rintro e w1 ⟨rfl, hw1⟩)
    go_ret
    refine ⟨none, 0, ?_, ?_, hw1⟩
    · rw [HL.out]; rfl
    · rw [HL.out]; exact Lib.hid (Rd.none_ _ _ _)
theorem as_of (A : Option Addr) (c n : Nat) (l : List Pr) (hn : n = l.length) (w : World) (hr : Rd w w.heap.size A l) :
    Calls Tryd.prog 58 #[.slice A n c] w fun e w' => ∃ A' c', e = .returned (.slice A' (asL l).length c') ∧ Hid (Rd w' w'.heap.size A' (asL l)) ∧ Below w.heap.size w w' := by
  refine (as_of_in w.heap.size A c n l hn w (Nat.le_refl _) hr).mono ?_
  rintro e w' ⟨A', c', he, h, hb⟩
  exact ⟨A', c', he, Lib.hid (h.out.more hb.size), hb⟩

set_option maxHeartbeats 1600000 in
theorem rget_of (A : Option Addr) (c n : Nat) (l : List Pr) (hn : n = l.length) (nm : ByteArray) (o : Option ByteArray) (ho : getS (asL l) nm = o) (w : World) (hr : Rd w w.heap.size A l) :
    Calls Tryd.prog 42 #[.slice A n c, .string nm] w fun e w' => e = .returned (gotV o) ∧ Below w.heap.size w w' := by
  have HO := Lib.hid ho
  have HN := Lib.hid hn
  clear ho hn
  go_enter Tryd.func42, Tryd.ntmps42
  go_wp2_with fail
  refine (as_of A c n l HN.out _ hr).mono ?_
  rintro e w1 ⟨A', c', rfl, hr1, hw1⟩
  have hr1' := hr1.out
  have hlen := hr1'.len
  generalize asL l = m at HO hr1 hr1' hlen
  obtain ⟨k, hk⟩ : ∃ k, m.length = k := ⟨_, rfl⟩
  have HK := Lib.hid hk
  rw [hk] at hlen ⊢
  clear hk hr
  go_wp2_with fail
  go_loopg [7] k (fun g s7 wx => ∃ i : Nat, i + g = k ∧ s7 = .int .i64 i ∧ Hid (∀ j p, j < i → m[j]? = some p → p.1 ≠ nm) ∧ Below w1.heap.size w1 wx)
  case atStart => exact ⟨0, by omega, rfl, Lib.hid (fun j _ hj => by omega), Below.refl _ _⟩
  case round =>
    obtain ⟨i, hi, rfl, HA, hwx⟩ := hrel
    cases gk with
    | zero =>
      obtain rfl : i = k := by omega
      have ho : o = none := by
        rw [← HO.out]
        refine get_miss fun j p hp => HA.out j p ?_ hp
        have := (List.getElem?_eq_some_iff.1 hp).1
        have := HK.out
        omega
      subst ho
      go_wp2_with fail
      go_ret2
      exact ⟨rfl, below_on hw1 hwx⟩
    | succ g =>
      have hlt : i < k := by omega
      have hltz : (i : Int) < (k : Int) := by omega
      obtain ⟨bk, off, rfl, hbk, hc⟩ := (hr1'.below hwx).all (by have := HK.out; omega)
      obtain ⟨N, V, hp⟩ := ex_at (l := m) (k := i) (by have := HK.out; omega)
      obtain ⟨c0, c1⟩ := hc _ _ hp
      have HP := Lib.hid hp
      clear hc hp hr1'
      have hbk' : bk < wr.heap.size := by have := hwx.size; omega
      by_cases he : N = nm
      · have ho : o = some V := by rw [← HO.out]; exact get_hit HP.out he HA.out
        subst ho
        have het : N.toList = nm.toList := by rw [he]
        clear he
        go_wp2_with fail
        go_ret2
        exact ⟨rfl, below_on hw1 hwx⟩
      · have heb := beq_no he
        have HE := Lib.hid he
        clear he
        go_wp2_with fail
        go_roundg g
        case measure => omega
        case rel => exact ⟨i + 1, by omega, by simp, Lib.hid (fun j p hj hp => by
          by_cases e : j = i
          · subst e; rw [HP.out] at hp; cases hp; exact HE.out
          · exact HA.out j p (by omega) hp), hwx⟩
end Go.Proofs.YtgahahichplpkaaDoor

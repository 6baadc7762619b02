/-
  The walks of label.isDigit, isLetter, Name, and of the document's Letter, Name.
-/
import Derived.Test.YtgahahichplpkaaDoorNameB
import Derived.Test.YtgahahichplpkaaDoorLabBase
namespace Go.Proofs.YtgahahichplpkaaDoor
open Go.RowKit Go.Proofs.YtgahahichplpkaaDoor.Lp


theorem isDigit_of (c : UInt8) (b : Bool) (h : digB c = b) (w : World) :
    Calls Tryd.prog 49 #[.int .u8 (c.toNat : Int)] w fun e w' => e = .returned (.bool b) ∧ w = w' := by
  have H := Lib.hid h
  clear h
  by_cases h1 : 48 ≤ c.toNat
  · by_cases h2 : c.toNat ≤ 57
    · obtain rfl : b = true := by rw [← H.out]; unfold digB; simp [h1, h2]
      go_enter Tryd.func49, Tryd.ntmps49
      go_wp2
      go_ret
      exact ⟨ret_bool (by simp; omega), rfl⟩
    · obtain rfl : b = false := by rw [← H.out]; unfold digB; simp [h2]
      go_enter Tryd.func49, Tryd.ntmps49
      go_wp2
      go_ret
      exact ⟨ret_bool (by simp; omega), rfl⟩
  · obtain rfl : b = false := by rw [← H.out]; unfold digB; simp [h1]
    go_enter Tryd.func49, Tryd.ntmps49
    go_wp2
    go_ret
    exact ⟨rfl, rfl⟩

theorem isLetter_of (c : UInt8) (b : Bool) (h : letB c = b) (w : World) :
    Calls Tryd.prog 50 #[.int .u8 (c.toNat : Int)] w fun e w' => e = .returned (.bool b) ∧ w = w' := by
  have H := Lib.hid h
  clear h
  have hcs : (97 ≤ c.toNat ∧ c.toNat ≤ 122 ∧ b = true) ∨ (122 < c.toNat ∧ b = false) ∨ (90 < c.toNat ∧ c.toNat < 97 ∧ b = false) ∨ (65 ≤ c.toNat ∧ c.toNat ≤ 90 ∧ b = true) ∨ (c.toNat < 65 ∧ b = false) := by
    rw [← H.out]; unfold letB
    simp
    omega
  clear H
  rcases hcs with ⟨h1, h2, rfl⟩ | ⟨h1, rfl⟩ | ⟨h1, h2, rfl⟩ | ⟨h1, h2, rfl⟩ | ⟨h1, rfl⟩
  all_goals
    go_enter Tryd.func50, Tryd.ntmps50
    go_wp2
    go_ret
    first | exact ⟨rfl, rfl⟩ | exact ⟨ret_bool (by simp; omega), rfl⟩

/-! ### names -/
theorem all_take_snoc (s : ByteArray) (k : Nat) (h : k < s.size) (f : UInt8 → Bool) : (s.data.toList.take (k + 1)).all f = ((s.data.toList.take k).all f && f (s[k]'h)) := by
  rw [List.take_succ_eq_append_getElem (by simpa using h), List.all_append]
  simp
  rfl
set_option maxHeartbeats 3200000 in
theorem name_of (s : ByteArray) (b : Bool) (hb : nameB s = b) (w : World) :
    Calls Tryd.prog 31 #[.string s] w fun e w' => e = .returned (.bool b) ∧ w = w' := by
  have HB := Lib.hid hb
  clear hb
  by_cases h0 : s.size = 0
  · have hb : b = false := by rw [← HB.out]; exact nameB_no (by omega)
    subst hb
    have he : s.toList = [] := by
      rw [tl]; exact List.length_eq_zero_iff.1 (by rw [← Lib.size_eq]; exact h0)
    have he' : s.toList.isEmpty = true := by rw [he]; rfl
    go_enter Tryd.func31, Tryd.ntmps31
    go_wp2
    go_ret
    exact ⟨rfl, rfl⟩
  · have hpos : 0 < s.size := by omega
    have he : ¬ s.toList = [] := by
      rw [tl]; intro h; have := Lib.size_eq s; rw [h, List.length_nil] at this; omega
    have he' : s.toList.isEmpty = false := by simpa using he
    by_cases h64 : s.size ≤ 64
    · obtain ⟨c0, hc0⟩ : ∃ c, s[0]'hpos = c := ⟨_, rfl⟩
      cases hd : digB c0 with
      | true =>
        have hb : b = false := by
          rw [← HB.out]; refine nameB_no ?_
          rintro ⟨_, _, h, _⟩
          have h' := h hpos
          rw [hc0, hd] at h'; cases h'
        subst hb
        go_enter Tryd.func31, Tryd.ntmps31
        go_wp2_with (go_at_call 49; refine (isDigit_of c0 true hd _).mono ?_; rintro e w' ⟨rfl, rfl⟩)
        go_ret
        exact ⟨rfl, rfl⟩
      | false =>
        have HN : Hid (nameB s = s.data.toList.all okc) := Lib.hid (by
          cases ha : s.data.toList.all okc with
          | true => exact (nameB_iff s).2 ⟨by omega, h64, fun h => by rw [hc0]; exact hd, ha⟩
          | false => refine nameB_no ?_; rintro ⟨_, _, _, h⟩; rw [ha] at h; cases h)
        go_enter Tryd.func31, Tryd.ntmps31
        go_wp2_with (go_at_call 49; refine (isDigit_of c0 false hd _).mono ?_; rintro e w' ⟨rfl, rfl⟩)
        go_loopg [3, 4, 19] s.size (fun g _ _ s19 wx => ∃ i : Nat, i + g = s.size ∧ s19 = .int .i64 i ∧ Hid ((s.data.toList.take i).all okc = true) ∧ wx = w)
        case atStart => exact ⟨0, by omega, rfl, Lib.hid (by simp), rfl⟩
        case round =>
          obtain ⟨i, hi, rfl, HA, rfl⟩ := hrel
          clear hd hc0 he he' h0 hpos
          cases gk with
          | zero =>
            obtain rfl : i = s.size := by omega
            have hb : b = true := by
              rw [← HB.out, HN.out]
              have := HA.out
              rw [Lib.size_eq, List.take_length] at this
              exact this
            subst hb
            go_wp2
            go_ret
            exact ⟨rfl, rfl⟩
          | succ g =>
            have hlt : i < s.size := by omega
            have hltz : (i : Int) < (s.size : Int) := by omega
            obtain ⟨c, hc⟩ : ∃ c, s[i]'hlt = c := ⟨_, rfl⟩
            have HS : Hid ((s.data.toList.take (i + 1)).all okc = okc c) := Lib.hid (by
              rw [all_take_snoc s i hlt, HA.out, hc]; rfl)
            have Hno : okc c = false → b = false := fun h => by
              rw [← HB.out, HN.out]
              cases ha : s.data.toList.all okc with
              | false => rfl
              | true =>
                have : okc c = true := List.all_eq_true.1 ha c (by rw [← hc]; exact Array.getElem_mem_toList _)
                rw [h] at this; cases this
            have HNo := Lib.hid Hno
            clear Hno
            cases hl : letB c with
            | true =>
              have HO : Hid (okc c = true) := Lib.hid (by unfold okc; rw [hl]; rfl)
              go_wp2_with (go_at_call 50; refine (isLetter_of c true hl _).mono ?_; rintro e w' ⟨rfl, rfl⟩)
              go_roundg g
              case measure => omega
              case rel => exact ⟨i + 1, by omega, by simp, Lib.hid (by rw [HS.out, HO.out]), rfl⟩
            | false =>
              cases hdg : digB c with
              | true =>
                have HO : Hid (okc c = true) := Lib.hid (by unfold okc; rw [hdg]; simp)
                go_wp2_with (first | (go_at_call 50; refine (isLetter_of c false hl _).mono ?_; rintro e w' ⟨rfl, rfl⟩) | (go_at_call 49; refine (isDigit_of c true hdg _).mono ?_; rintro e w' ⟨rfl, rfl⟩))
                go_roundg g
                case measure => omega
                case rel => exact ⟨i + 1, by omega, by simp, Lib.hid (by rw [HS.out, HO.out]), rfl⟩
              | false =>
                by_cases hu : c.toNat = 95
                · have HO : Hid (okc c = true) := Lib.hid (by unfold okc; simp [hu])
                  have hub : ((c.toNat : Int) == 95) = true := by simp; omega
                  clear hu
                  go_wp2_with (first | (go_at_call 50; refine (isLetter_of c false hl _).mono ?_; rintro e w' ⟨rfl, rfl⟩) | (go_at_call 49; refine (isDigit_of c false hdg _).mono ?_; rintro e w' ⟨rfl, rfl⟩))
                  go_roundg g
                  case measure => omega
                  case rel => exact ⟨i + 1, by omega, by simp, Lib.hid (by rw [HS.out, HO.out]), rfl⟩
                · have hb : b = false := HNo.out (by unfold okc; simp [hl, hdg, hu])
                  subst hb
                  have hub : ((c.toNat : Int) == 95) = false := by simp; omega
                  go_wp2_with (first | (go_at_call 50; refine (isLetter_of c false hl _).mono ?_; rintro e w' ⟨rfl, rfl⟩) | (go_at_call 49; refine (isDigit_of c false hdg _).mono ?_; rintro e w' ⟨rfl, rfl⟩))
                  go_ret
                  exact ⟨rfl, rfl⟩
    · have hb : b = false := by rw [← HB.out]; exact nameB_no (by omega)
      subst hb
      go_enter Tryd.func31, Tryd.ntmps31
      go_wp2
      go_ret
      exact ⟨rfl, rfl⟩

end Go.Proofs.YtgahahichplpkaaDoor

/-
  The walks of label.isDigit, isLetter, Name, and of the document's Letter, Name.
-/
import Derived.Test.YthknoanhljonoaaLabBase
namespace Go.Proofs.Ythknoanhljonoaa
open Go.RowKit Go.Proofs.Ythknoanhljonoaa.Lp

theorem ret_bool {a b : Bool} (h : a = b) : Ending.returned (.bool a) = .returned (.bool b) := by rw [h]

theorem isDigit_of (c : UInt8) (b : Bool) (h : digB c = b) (w : World) :
    Calls Try.prog 40 #[.int .u8 (c.toNat : Int)] w fun e w' => e = .returned (.bool b) ∧ w = w' := by
  have H := Lib.hid h
  clear h
  by_cases h1 : 48 ≤ c.toNat
  · by_cases h2 : c.toNat ≤ 57
    · obtain rfl : b = true := by rw [← H.out]; unfold digB; simp [h1, h2]
      go_enter Try.func40, Try.ntmps40
      go_wp2
      go_ret
      exact ⟨ret_bool (by simp; omega), rfl⟩
    · obtain rfl : b = false := by rw [← H.out]; unfold digB; simp [h2]
      go_enter Try.func40, Try.ntmps40
      go_wp2
      go_ret
      exact ⟨ret_bool (by simp; omega), rfl⟩
  · obtain rfl : b = false := by rw [← H.out]; unfold digB; simp [h1]
    go_enter Try.func40, Try.ntmps40
    go_wp2
    go_ret
    exact ⟨rfl, rfl⟩

theorem isLetter_of (c : UInt8) (b : Bool) (h : letB c = b) (w : World) :
    Calls Try.prog 41 #[.int .u8 (c.toNat : Int)] w fun e w' => e = .returned (.bool b) ∧ w = w' := by
  have H := Lib.hid h
  clear h
  have hcs : (97 ≤ c.toNat ∧ c.toNat ≤ 122 ∧ b = true) ∨ (122 < c.toNat ∧ b = false) ∨ (90 < c.toNat ∧ c.toNat < 97 ∧ b = false) ∨ (65 ≤ c.toNat ∧ c.toNat ≤ 90 ∧ b = true) ∨ (c.toNat < 65 ∧ b = false) := by
    rw [← H.out]; unfold letB
    simp
    omega
  clear H
  rcases hcs with ⟨h1, h2, rfl⟩ | ⟨h1, rfl⟩ | ⟨h1, h2, rfl⟩ | ⟨h1, h2, rfl⟩ | ⟨h1, rfl⟩
  all_goals
    go_enter Try.func41, Try.ntmps41
    go_wp2
    go_ret
    first | exact ⟨rfl, rfl⟩ | exact ⟨ret_bool (by simp; omega), rfl⟩

theorem Letter_of (c : UInt8) (b : Bool) (h : (letB c || decide (c.toNat = 95)) = b) (w : World) :
    Calls Try.prog 42 #[.int .u8 (c.toNat : Int)] w fun e w' => e = .returned (.bool b) ∧ w = w' := by
  have H := Lib.hid h
  clear h
  have hcs : (97 ≤ c.toNat ∧ c.toNat ≤ 122 ∧ b = true) ∨ (122 < c.toNat ∧ b = false) ∨ (95 < c.toNat ∧ c.toNat < 97 ∧ b = false) ∨ (c.toNat = 95 ∧ b = true) ∨ (90 < c.toNat ∧ c.toNat < 95 ∧ b = false) ∨ (65 ≤ c.toNat ∧ c.toNat ≤ 90 ∧ b = true) ∨ (c.toNat < 65 ∧ b = false) := by
    rw [← H.out]; unfold letB
    simp
    omega
  clear H
  rcases hcs with ⟨h1, h2, rfl⟩ | ⟨h1, rfl⟩ | ⟨h1, h2, rfl⟩ | ⟨h1, rfl⟩ | ⟨h1, h2, rfl⟩ | ⟨h1, h2, rfl⟩ | ⟨h1, rfl⟩
  case inr.inr.inr.inl =>
    rw [h1]
    go_enter Try.func42, Try.ntmps42
    go_wp2
    go_ret
    exact ⟨rfl, rfl⟩
  all_goals
    have hne : ((c.toNat : Int) == 95) = false := by simp; omega
    go_enter Try.func42, Try.ntmps42
    go_wp2
    go_ret
    first | exact ⟨rfl, rfl⟩ | exact ⟨ret_bool (by simp; omega), rfl⟩

/-! ### names -/
theorem all_take_snoc (s : ByteArray) (k : Nat) (h : k < s.size) (f : UInt8 → Bool) : (s.data.toList.take (k + 1)).all f = ((s.data.toList.take k).all f && f (s[k]'h)) := by
  rw [List.take_succ_eq_append_getElem (by simpa using h), List.all_append]
  simp
  rfl
theorem nameB_iff (s : ByteArray) : nameB s = true ↔ 1 ≤ s.size ∧ s.size ≤ 64 ∧ (∀ h : 0 < s.size, digB (s[0]'h) = false) ∧ s.data.toList.all okc = true := by
  unfold nameB nameL
  rw [tl, ← Lib.size_eq]
  simp only [Bool.and_eq_true, decide_eq_true_eq, Bool.not_eq_true', and_assoc]
  constructor
  · rintro ⟨h1, h2, h3, h4⟩
    refine ⟨h1, h2, fun h => ?_, h4⟩
    rw [← h3]
    congr 1
    cases hd : s.data.toList with
    | nil => have := Lib.size_eq s; rw [hd, List.length_nil] at this; omega
    | cons a r =>
      show s.data[0] = _
      rw [← Array.getElem_toList]
      simp [hd]
  · rintro ⟨h1, h2, h3, h4⟩
    refine ⟨h1, h2, ?_, h4⟩
    rw [← h3 h1]
    congr 1
    cases hd : s.data.toList with
    | nil => have := Lib.size_eq s; rw [hd, List.length_nil] at this; omega
    | cons a r =>
      show _ = s.data[0]
      rw [← Array.getElem_toList]
      simp [hd]
theorem nameB_no {s : ByteArray} (h : ¬ (1 ≤ s.size ∧ s.size ≤ 64 ∧ (∀ h : 0 < s.size, digB (s[0]'h) = false) ∧ s.data.toList.all okc = true)) : nameB s = false := by
  rw [← nameB_iff] at h; simpa using h

set_option maxHeartbeats 3200000 in
theorem name_of (s : ByteArray) (b : Bool) (hb : nameB s = b) (w : World) :
    Calls Try.prog 21 #[.string s] w fun e w' => e = .returned (.bool b) ∧ w = w' := by
  have HB := Lib.hid hb
  clear hb
  by_cases h0 : s.size = 0
  · have hb : b = false := by rw [← HB.out]; exact nameB_no (by omega)
    subst hb
    have he : s.toList = [] := by
      rw [tl]; exact List.length_eq_zero_iff.1 (by rw [← Lib.size_eq]; exact h0)
    have he' : s.toList.isEmpty = true := by rw [he]; rfl
    go_enter Try.func21, Try.ntmps21
    go_wp2
    go_ret
    exact ⟨rfl, rfl⟩
  · have hpos : 0 < s.size := by omega
    have he : ¬ s.toList = [] := by
      rw [tl]; intro h; have := Lib.size_eq s; rw [h, List.length_nil] at this; omega
    have he' : s.toList.isEmpty = false := by simpa using he
    by_cases h64 : s.size ≤ 64
    · obtain ⟨c0, hc0⟩ : ∃ c, s[0]'hpos = c := ⟨_, rfl⟩
      cases hd : digB c0 with
      | true =>
        have hb : b = false := by
          rw [← HB.out]; refine nameB_no ?_
          rintro ⟨_, _, h, _⟩
          have h' := h hpos
          rw [hc0, hd] at h'; cases h'
        subst hb
        go_enter Try.func21, Try.ntmps21
        go_wp2_with (go_at_call 40; refine (isDigit_of c0 true hd _).mono ?_; rintro e w' ⟨rfl, rfl⟩)
        go_ret
        exact ⟨rfl, rfl⟩
      | false =>
        have HN : Hid (nameB s = s.data.toList.all okc) := Lib.hid (by
          cases ha : s.data.toList.all okc with
          | true => exact (nameB_iff s).2 ⟨by omega, h64, fun h => by rw [hc0]; exact hd, ha⟩
          | false => refine nameB_no ?_; rintro ⟨_, _, _, h⟩; rw [ha] at h; cases h)
        go_enter Try.func21, Try.ntmps21
        go_wp2_with (go_at_call 40; refine (isDigit_of c0 false hd _).mono ?_; rintro e w' ⟨rfl, rfl⟩)
        go_loopg [3, 4, 19] s.size (fun g _ _ s19 wx => ∃ i : Nat, i + g = s.size ∧ s19 = .int .i64 i ∧ Hid ((s.data.toList.take i).all okc = true) ∧ wx = w)
        case atStart => exact ⟨0, by omega, rfl, Lib.hid (by simp), rfl⟩
        case round =>
          obtain ⟨i, hi, rfl, HA, rfl⟩ := hrel
          clear hd hc0 he he' h0 hpos
          cases gk with
          | zero =>
            obtain rfl : i = s.size := by omega
            have hb : b = true := by
              rw [← HB.out, HN.out]
              have := HA.out
              rw [Lib.size_eq, List.take_length] at this
              exact this
            subst hb
            go_wp2
            go_ret
            exact ⟨rfl, rfl⟩
          | succ g =>
            have hlt : i < s.size := by omega
            have hltz : (i : Int) < (s.size : Int) := by omega
            obtain ⟨c, hc⟩ : ∃ c, s[i]'hlt = c := ⟨_, rfl⟩
            have HS : Hid ((s.data.toList.take (i + 1)).all okc = okc c) := Lib.hid (by
              rw [all_take_snoc s i hlt, HA.out, hc]; rfl)
            have Hno : okc c = false → b = false := fun h => by
              rw [← HB.out, HN.out]
              cases ha : s.data.toList.all okc with
              | false => rfl
              | true =>
                have : okc c = true := List.all_eq_true.1 ha c (by rw [← hc]; exact Array.getElem_mem_toList _)
                rw [h] at this; cases this
            have HNo := Lib.hid Hno
            clear Hno
            cases hl : letB c with
            | true =>
              have HO : Hid (okc c = true) := Lib.hid (by unfold okc; rw [hl]; rfl)
              go_wp2_with (go_at_call 41; refine (isLetter_of c true hl _).mono ?_; rintro e w' ⟨rfl, rfl⟩)
              go_roundg g
              case measure => omega
              case rel => exact ⟨i + 1, by omega, by simp, Lib.hid (by rw [HS.out, HO.out]), rfl⟩
            | false =>
              cases hdg : digB c with
              | true =>
                have HO : Hid (okc c = true) := Lib.hid (by unfold okc; rw [hdg]; simp)
                go_wp2_with (first | (go_at_call 41; refine (isLetter_of c false hl _).mono ?_; rintro e w' ⟨rfl, rfl⟩) | (go_at_call 40; refine (isDigit_of c true hdg _).mono ?_; rintro e w' ⟨rfl, rfl⟩))
                go_roundg g
                case measure => omega
                case rel => exact ⟨i + 1, by omega, by simp, Lib.hid (by rw [HS.out, HO.out]), rfl⟩
              | false =>
                by_cases hu : c.toNat = 95
                · have HO : Hid (okc c = true) := Lib.hid (by unfold okc; simp [hu])
                  have hub : ((c.toNat : Int) == 95) = true := by simp; omega
                  clear hu
                  go_wp2_with (first | (go_at_call 41; refine (isLetter_of c false hl _).mono ?_; rintro e w' ⟨rfl, rfl⟩) | (go_at_call 40; refine (isDigit_of c false hdg _).mono ?_; rintro e w' ⟨rfl, rfl⟩))
                  go_roundg g
                  case measure => omega
                  case rel => exact ⟨i + 1, by omega, by simp, Lib.hid (by rw [HS.out, HO.out]), rfl⟩
                · have hb : b = false := HNo.out (by unfold okc; simp [hl, hdg, hu])
                  subst hb
                  have hub : ((c.toNat : Int) == 95) = false := by simp; omega
                  go_wp2_with (first | (go_at_call 41; refine (isLetter_of c false hl _).mono ?_; rintro e w' ⟨rfl, rfl⟩) | (go_at_call 40; refine (isDigit_of c false hdg _).mono ?_; rintro e w' ⟨rfl, rfl⟩))
                  go_ret
                  exact ⟨rfl, rfl⟩
    · have hb : b = false := by rw [← HB.out]; exact nameB_no (by omega)
      subst hb
      go_enter Try.func21, Try.ntmps21
      go_wp2
      go_ret
      exact ⟨rfl, rfl⟩

theorem okc_of {c : UInt8} (h : (letB c || decide (c.toNat = 95)) = true) : okc c = true := by
  unfold okc
  cases h1 : letB c <;> simp [h1] at h ⊢
  exact .inr h
theorem dig_not {c : UInt8} (h : (letB c || decide (c.toNat = 95)) = true) : digB c = false := by
  unfold letB at h
  unfold digB
  simp at h ⊢
  omega
theorem getElem_mem' (s : ByteArray) (i : Nat) (h : i < s.size) : s[i]'h ∈ s.data.toList := Array.getElem_mem_toList _

set_option maxHeartbeats 3200000 in
theorem rname_of (s : ByteArray) (hs : s.size ≤ 9223372036854775807) (b : Bool) (hb : nameB s = b) (w : World) :
    Calls Try.prog 22 #[.string s] w fun e w' => e = .returned (.bool b) ∧ w = w' := by
  have HB := Lib.hid hb
  clear hb
  go_enter Try.func22, Try.ntmps22
  go_wp2
  go_loopg [3] s.size (fun g s3 wx => ∃ i : Nat, i + g = s.size ∧ s3 = .int .i64 i ∧ Hid (∀ (j : Nat) (h : j < s.size), j < i → okc (s[j]'h) = true ∧ (j = 0 → digB (s[j]'h) = false)) ∧ wx = w)
  case atStart => exact ⟨0, by omega, rfl, Lib.hid (fun j h hj => by omega), rfl⟩
  case round =>
    obtain ⟨i, hi, rfl, HA, rfl⟩ := hrel
    cases gk with
    | zero =>
      obtain rfl : i = s.size := by omega
      by_cases h1 : 1 ≤ s.size
      · by_cases h2 : s.size ≤ 64
        · have hb : b = true := by
            rw [← HB.out, nameB_iff]
            refine ⟨h1, h2, fun h => (HA.out 0 h h).2 rfl, ?_⟩
            rw [List.all_eq_true]
            intro x hx
            obtain ⟨j, hj, rfl⟩ := List.mem_iff_getElem.1 hx
            have hj' : j < s.size := by rw [Lib.size_eq]; exact hj
            exact (HA.out j hj' hj').1
          subst hb
          go_wp2
          go_ret
          exact ⟨ret_bool (by simp; omega), rfl⟩
        · have hb : b = false := by rw [← HB.out]; exact nameB_no (by omega)
          subst hb
          go_wp2
          go_ret
          exact ⟨ret_bool (by simp; omega), rfl⟩
      · have hb : b = false := by rw [← HB.out]; exact nameB_no (by omega)
        subst hb
        go_wp2
        go_ret
        exact ⟨rfl, rfl⟩
    | succ g =>
      have hlt : i < s.size := by omega
      have hltz : (i : Int) < (s.size : Int) := by omega
      obtain ⟨c, hc⟩ : ∃ c, s[i]'hlt = c := ⟨_, rfl⟩
      have Hmem : Hid (c ∈ s.data.toList) := Lib.hid (by rw [← hc]; exact getElem_mem' s i hlt)
      have HN : Hid (okc c = true → (i = 0 → digB c = false) → ∀ (j : Nat) (h : j < s.size), j < i + 1 → okc (s[j]'h) = true ∧ (j = 0 → digB (s[j]'h) = false)) := Lib.hid (by
        intro ho hd j h hj
        by_cases e : j = i
        · subst e; rw [hc]; exact ⟨ho, hd⟩
        · exact HA.out j h (by omega))
      have HF : Hid (okc c = false ∨ (i = 0 ∧ digB c = true) → b = false) := Lib.hid (by
        intro h
        rw [← HB.out]
        refine nameB_no ?_
        rintro ⟨_, _, h3, h4⟩
        rcases h with h | ⟨rfl, h⟩
        · rw [List.all_eq_true.1 h4 c Hmem.out] at h; cases h
        · have h5 := h3 hlt
          rw [hc, h] at h5; cases h5)
      cases hL : (letB c || decide (c.toNat = 95)) with
      | true =>
        have HO := Lib.hid (HN.out (okc_of hL) (fun _ => dig_not hL))
        go_wp2_with (go_at_call 42; refine (Letter_of c true hL _).mono ?_; rintro e w' ⟨rfl, rfl⟩)
        go_roundg g
        case measure => omega
        case rel => exact ⟨i + 1, by omega, by simp, HO, rfl⟩
      | false =>
        have hl : letB c = false := by cases h : letB c <;> simp [h] at hL ⊢
        have hu : decide (c.toNat = 95) = false := by cases h : letB c <;> simp [h] at hL ⊢; exact hL
        have HOk : Hid (okc c = digB c) := Lib.hid (by unfold okc; rw [hl, hu]; simp)
        clear hl hu
        by_cases hi0 : i = 0
        · have hb : b = false := HF.out (by
            cases hd : digB c with
            | true => exact .inr ⟨hi0, rfl⟩
            | false => exact .inl (by rw [HOk.out, hd]))
          subst hb
          subst hi0
          go_wp2_with (go_at_call 42; refine (Letter_of c false hL _).mono ?_; rintro e w' ⟨rfl, rfl⟩)
          go_ret
          exact ⟨rfl, rfl⟩
        · have hi0z : ((i : Int) == 0) = false := by simp; omega
          have hdg : (c.toNat < 48 ∧ digB c = false) ∨ (57 < c.toNat ∧ digB c = false) ∨ (48 ≤ c.toNat ∧ c.toNat ≤ 57 ∧ digB c = true) := by
            unfold digB; simp; omega
          rcases hdg with ⟨h1, hd⟩ | ⟨h1, hd⟩ | ⟨h1, h2, hd⟩
          · have hb : b = false := HF.out (.inl (by rw [HOk.out, hd]))
            subst hb
            clear hd
            go_wp2_with (go_at_call 42; refine (Letter_of c false hL _).mono ?_; rintro e w' ⟨rfl, rfl⟩)
            go_ret
            exact ⟨rfl, rfl⟩
          · have hb : b = false := HF.out (.inl (by rw [HOk.out, hd]))
            subst hb
            clear hd
            go_wp2_with (go_at_call 42; refine (Letter_of c false hL _).mono ?_; rintro e w' ⟨rfl, rfl⟩)
            go_ret
            exact ⟨rfl, rfl⟩
          · have HO := Lib.hid (HN.out (by rw [HOk.out, hd]) (fun h => absurd h hi0))
            clear hd
            go_wp2_with (go_at_call 42; refine (Letter_of c false hL _).mono ?_; rintro e w' ⟨rfl, rfl⟩)
            go_roundg g
            case measure => omega
            case rel => exact ⟨i + 1, by omega, by simp, HO, rfl⟩
end Go.Proofs.Ythknoanhljonoaa

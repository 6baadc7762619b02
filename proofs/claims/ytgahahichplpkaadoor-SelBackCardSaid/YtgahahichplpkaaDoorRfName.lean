/-
  The document's Letter and Name of layer label, for upper layers.
-/
import Derived.Test.YtgahahichplpkaaDoorSelBase
import Derived.Test.YtgahahichplpkaaDoorNameB
namespace Go.Proofs.YtgahahichplpkaaDoor
open Go.RowKit Go.Proofs.YtgahahichplpkaaDoor.Lp

theorem Letter_of (c : UInt8) (b : Bool) (h : (letB c || decide (c.toNat = 95)) = b) (w : World) :
    Calls Tryd.prog 52 #[.int .u8 (c.toNat : Int)] w fun e w' => e = .returned (.bool b) ∧ w = w' := by
  have H := Lib.hid h
  clear h
  have hcs : (97 ≤ c.toNat ∧ c.toNat ≤ 122 ∧ b = true) ∨ (122 < c.toNat ∧ b = false) ∨ (95 < c.toNat ∧ c.toNat < 97 ∧ b = false) ∨ (c.toNat = 95 ∧ b = true) ∨ (90 < c.toNat ∧ c.toNat < 95 ∧ b = false) ∨ (65 ≤ c.toNat ∧ c.toNat ≤ 90 ∧ b = true) ∨ (c.toNat < 65 ∧ b = false) := by
    rw [← H.out]; unfold letB
    simp
    omega
  clear H
  rcases hcs with ⟨h1, h2, rfl⟩ | ⟨h1, rfl⟩ | ⟨h1, h2, rfl⟩ | ⟨h1, rfl⟩ | ⟨h1, h2, rfl⟩ | ⟨h1, h2, rfl⟩ | ⟨h1, rfl⟩
  case inr.inr.inr.inl =>
    rw [h1]
    go_enter Tryd.func52, Tryd.ntmps52
    go_wp2
    go_ret
    exact ⟨rfl, rfl⟩
  all_goals
    have hne : ((c.toNat : Int) == 95) = false := by simp; omega
    go_enter Tryd.func52, Tryd.ntmps52
    go_wp2
    go_ret
    first | exact ⟨rfl, rfl⟩ | exact ⟨ret_bool (by simp; omega), rfl⟩

theorem okc_of {c : UInt8} (h : (letB c || decide (c.toNat = 95)) = true) : okc c = true := by
  unfold okc
  cases h1 : letB c <;> simp [h1] at h ⊢
  exact .inr h
theorem dig_not {c : UInt8} (h : (letB c || decide (c.toNat = 95)) = true) : digB c = false := by
  unfold letB at h
  unfold digB
  simp at h ⊢
  omega
theorem getElem_mem' (s : ByteArray) (i : Nat) (h : i < s.size) : s[i]'h ∈ s.data.toList := Array.getElem_mem_toList _

set_option maxHeartbeats 3200000 in
theorem rname_of (s : ByteArray) (hs : s.size ≤ 9223372036854775807) (b : Bool) (hb : nameB s = b) (w : World) :
    Calls Tryd.prog 34 #[.string s] w fun e w' => e = .returned (.bool b) ∧ w = w' := by
  have HB := Lib.hid hb
  clear hb
  go_enter Tryd.func34, Tryd.ntmps34
  go_wp2
  go_loopg [3] s.size (fun g s3 wx => ∃ i : Nat, i + g = s.size ∧ s3 = .int .i64 i ∧ Hid (∀ (j : Nat) (h : j < s.size), j < i → okc (s[j]'h) = true ∧ (j = 0 → digB (s[j]'h) = false)) ∧ wx = w)
  case atStart => exact ⟨0, by omega, rfl, Lib.hid (fun j h hj => by omega), rfl⟩
  case round =>
    obtain ⟨i, hi, rfl, HA, rfl⟩ := hrel
    cases gk with
    | zero =>
      obtain rfl : i = s.size := by omega
      by_cases h1 : 1 ≤ s.size
      · by_cases h2 : s.size ≤ 64
        · have hb : b = true := by
            rw [← HB.out, nameB_iff]
            refine ⟨h1, h2, fun h => (HA.out 0 h h).2 rfl, ?_⟩
            rw [List.all_eq_true]
            intro x hx
            obtain ⟨j, hj, rfl⟩ := List.mem_iff_getElem.1 hx
            have hj' : j < s.size := by rw [Lib.size_eq]; exact hj
            exact (HA.out j hj' hj').1
          subst hb
          go_wp2
          go_ret
          exact ⟨ret_bool (by simp; omega), rfl⟩
        · have hb : b = false := by rw [← HB.out]; exact nameB_no (by omega)
          subst hb
          go_wp2
          go_ret
          exact ⟨ret_bool (by simp; omega), rfl⟩
      · have hb : b = false := by rw [← HB.out]; exact nameB_no (by omega)
        subst hb
        go_wp2
        go_ret
        exact ⟨rfl, rfl⟩
    | succ g =>
      have hlt : i < s.size := by omega
      have hltz : (i : Int) < (s.size : Int) := by omega
      obtain ⟨c, hc⟩ : ∃ c, s[i]'hlt = c := ⟨_, rfl⟩
      have Hmem : Hid (c ∈ s.data.toList) := Lib.hid (by rw [← hc]; exact getElem_mem' s i hlt)
      have HN : Hid (okc c = true → (i = 0 → digB c = false) → ∀ (j : Nat) (h : j < s.size), j < i + 1 → okc (s[j]'h) = true ∧ (j = 0 → digB (s[j]'h) = false)) := Lib.hid (by
        intro ho hd j h hj
        by_cases e : j = i
        · subst e; rw [hc]; exact ⟨ho, hd⟩
        · exact HA.out j h (by omega))
      have HF : Hid (okc c = false ∨ (i = 0 ∧ digB c = true) → b = false) := Lib.hid (by
        intro h
        rw [← HB.out]
        refine nameB_no ?_
        rintro ⟨_, _, h3, h4⟩
        rcases h with h | ⟨rfl, h⟩
        · rw [List.all_eq_true.1 h4 c Hmem.out] at h; cases h
        · have h5 := h3 hlt
          rw [hc, h] at h5; cases h5)
      cases hL : (letB c || decide (c.toNat = 95)) with
      | true =>
        have HO := Lib.hid (HN.out (okc_of hL) (fun _ => dig_not hL))
        go_wp2_with (go_at_call 52; refine (Letter_of c true hL _).mono ?_; rintro e w' ⟨rfl, rfl⟩)
        go_roundg g
        case measure => omega
        case rel => exact ⟨i + 1, by omega, by simp, HO, rfl⟩
      | false =>
        have hl : letB c = false := by cases h : letB c <;> simp [h] at hL ⊢
        have hu : decide (c.toNat = 95) = false := by cases h : letB c <;> simp [h] at hL ⊢; exact hL
        have HOk : Hid (okc c = digB c) := Lib.hid (by unfold okc; rw [hl, hu]; simp)
        clear hl hu
        by_cases hi0 : i = 0
        · have hb : b = false := HF.out (by
            cases hd : digB c with
            | true => exact .inr ⟨hi0, rfl⟩
            | false => exact .inl (by rw [HOk.out, hd]))
          subst hb
          subst hi0
          go_wp2_with (go_at_call 52; refine (Letter_of c false hL _).mono ?_; rintro e w' ⟨rfl, rfl⟩)
          go_ret
          exact ⟨rfl, rfl⟩
        · have hi0z : ((i : Int) == 0) = false := by simp; omega
          have hdg : (c.toNat < 48 ∧ digB c = false) ∨ (57 < c.toNat ∧ digB c = false) ∨ (48 ≤ c.toNat ∧ c.toNat ≤ 57 ∧ digB c = true) := by
            unfold digB; simp; omega
          rcases hdg with ⟨h1, hd⟩ | ⟨h1, hd⟩ | ⟨h1, h2, hd⟩
          · have hb : b = false := HF.out (.inl (by rw [HOk.out, hd]))
            subst hb
            clear hd
            go_wp2_with (go_at_call 52; refine (Letter_of c false hL _).mono ?_; rintro e w' ⟨rfl, rfl⟩)
            go_ret
            exact ⟨rfl, rfl⟩
          · have hb : b = false := HF.out (.inl (by rw [HOk.out, hd]))
            subst hb
            clear hd
            go_wp2_with (go_at_call 52; refine (Letter_of c false hL _).mono ?_; rintro e w' ⟨rfl, rfl⟩)
            go_ret
            exact ⟨rfl, rfl⟩
          · have HO := Lib.hid (HN.out (by rw [HOk.out, hd]) (fun h => absurd h hi0))
            clear hd
            go_wp2_with (go_at_call 52; refine (Letter_of c false hL _).mono ?_; rintro e w' ⟨rfl, rfl⟩)
            go_roundg g
            case measure => omega
            case rel => exact ⟨i + 1, by omega, by simp, HO, rfl⟩
end Go.Proofs.YtgahahichplpkaaDoor

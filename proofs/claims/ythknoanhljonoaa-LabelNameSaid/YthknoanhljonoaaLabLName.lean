/-
  The walk of layer label's law LabelName: it answers true.
-/
import Derived.Test.YthknoanhljonoaaLabAwake
namespace Go.Proofs.Ythknoanhljonoaa
open Go.RowKit Go.Proofs.Ythknoanhljonoaa.Lp

theorem ext_one (s : ByteArray) (i : Nat) (h : i < s.size) : (s.extract i (i + 1)).data.toList = [s[i]'h] := by
  have e := Lib.extract_toList s i (i + 1)
  rw [tl] at e
  rw [e, show i + 1 - i = 1 by omega, List.drop_eq_getElem_cons (by rw [← Lib.size_eq]; exact h)]
  rfl
theorem name_two (c : UInt8) (S : ByteArray) (h : S.data.toList = [97, c]) : nameB S = okc c := by
  unfold nameB nameL
  rw [tl, h]
  have h1 : digB 97 = false := by decide
  have h2 : okc 97 = true := by decide
  simp [h1, h2]
theorem name_one (c : UInt8) (S : ByteArray) (h : S.data.toList = [c]) : nameB S = (!digB c && okc c) := by
  unfold nameB nameL
  rw [tl, h]
  simp

set_option maxHeartbeats 3200000 in
theorem labelName_any (s : ByteArray) (w : World) (hs : s.size ≤ 9223372036854775807) :
    Calls Try.prog 9 #[.string s] w fun e w' => e = .returned (.bool true) ∧ Below w.heap.size w w' := by
  by_cases h200 : 200 < s.size
  · have hz : (200 : Int) < (s.size : Int) := by omega
    go_enter Try.func9, Try.ntmps9
    go_wp2_with fail
    refine (awake_any _).mono ?_
    rintro e w1 ⟨rfl, hw1⟩
    go_wp2_with fail
    go_ret
    exact ⟨rfl, hw1⟩
  · have hz : ¬ (200 : Int) < (s.size : Int) := by omega
    by_cases h0 : 1 ≤ s.size
    · have he : ¬ s.toList = [] := by
        rw [tl]; intro h; have := Lib.size_eq s; rw [h, List.length_nil] at this; omega
      have he' : s.toList.isEmpty = false := by simpa using he
      by_cases h64 : s.size ≤ 64
      · have hz64 : decide ((s.size : Int) ≤ 64) = true := by simp; omega
        obtain ⟨c0, hc0⟩ : ∃ c, s[0]'(by omega) = c := ⟨_, rfl⟩
        have HNm : Hid (nameB s = (!digB c0 && s.data.toList.all okc)) := Lib.hid (by
          cases ha : s.data.toList.all okc with
          | false => rw [nameB_no (by rintro ⟨_, _, _, h⟩; rw [ha] at h; cases h)]; simp
          | true =>
            cases hd : digB c0 with
            | true => rw [nameB_no (by rintro ⟨_, _, h, _⟩; have h' := h (by omega); rw [hc0, hd] at h'; cases h')]; rfl
            | false => rw [(nameB_iff s).2 ⟨h0, h64, fun h => by rw [hc0]; exact hd, ha⟩]; rfl)
        have HC0 := Lib.hid hc0
        clear hc0
        go_enter Try.func9, Try.ntmps9
        go_wp2_with fail
        refine (awake_any _).mono ?_
        rintro e w1 ⟨rfl, hw1⟩
        go_wp2_with fail
        go_loopg [4, 5] s.size (fun g s4 s5 wx => ∃ (i : Nat) (q : Bool), i + g = s.size ∧ s5 = .int .i64 i ∧ s4 = .bool q ∧ Hid (q = (s.data.toList.take i).all okc) ∧ wx = w1)
        case atStart => exact ⟨0, true, by omega, rfl, rfl, Lib.hid (by simp), rfl⟩
        case round =>
          obtain ⟨i, q, hi, rfl, rfl, HQ, rfl⟩ := hrel
          cases gk with
          | zero =>
            obtain rfl : i = s.size := by omega
            have HQ' : Hid (nameB s = (!digB c0 && q)) := Lib.hid (by
              have := HQ.out
              rw [List.take_of_length_le (by rw [← Lib.size_eq]; exact Nat.le_refl _)] at this
              rw [HNm.out, this])
            cases q with
            | false =>
              have HB : Hid (nameB s = false) := Lib.hid (by rw [HQ'.out]; simp)
              go_wp2_with fail
              refine (name_of s false HB.out _).mono ?_
              rintro e w2 ⟨rfl, rfl⟩
              go_wp2_with fail
              go_ret
              exact ⟨rfl, hw1⟩
            | true =>
              obtain ⟨d, hd⟩ : ∃ d, digB c0 = d := ⟨_, rfl⟩
              have HB : Hid (nameB s = (!d)) := Lib.hid (by rw [HQ'.out, hd]; simp)
              obtain ⟨E, hE⟩ : ∃ E, s.extract 0 1 = E := ⟨_, rfl⟩
              have HE : Hid (nameB E = (!d)) := Lib.hid (by
                have h1 := ext_one s 0 (by omega)
                rw [show 0 + 1 = 1 from rfl, hE] at h1
                rw [name_one _ E h1, HC0.out, hd]
                have : okc c0 = true := by
                  have h2 := HQ.out.symm
                  have hlen : s.data.toList.length = s.size := (Lib.size_eq s).symm
                  rw [List.take_of_length_le (by omega)] at h2
                  exact List.all_eq_true.1 h2 c0 (by rw [← HC0.out]; exact getElem_mem' s 0 (by omega))
                rw [this]; simp)
              have h1s : (1 : Int) ≤ (s.size : Int) := by omega
              have HC1 := Lib.hid hd
              clear hd
              go_wp2_with fail
              refine (name_of E (!d) HE.out _).mono ?_
              rintro e w2 ⟨rfl, rfl⟩
              go_wp2_with fail
              refine (name_of s (!d) HB.out _).mono ?_
              rintro e w3 ⟨rfl, rfl⟩
              go_wp2_with fail
              go_ret
              exact ⟨ret_bool (by cases d <;> rfl), hw1⟩
          | succ g =>
            have hlt : i < s.size := by omega
            have hltz : (i : Int) < (s.size : Int) := by omega
            cases q with
            | false =>
              have HQ' : Hid (false = (s.data.toList.take (i + 1)).all okc) := Lib.hid (by
                rw [all_take_snoc s i hlt, ← HQ.out]; rfl)
              go_wp2_with fail
              go_roundg g
              case measure => omega
              case rel => exact ⟨i + 1, false, by omega, by simp, rfl, HQ', rfl⟩
            | true =>
              obtain ⟨E, hE⟩ : ∃ E, s.extract i (i + 1) = E := ⟨_, rfl⟩
              obtain ⟨b, hb⟩ : ∃ b, okc (s[i]'hlt) = b := ⟨_, rfl⟩
              have hE1 := ext_one s i hlt
              rw [hE] at hE1
              have hEs : E.size = 1 := by rw [Lib.size_eq, hE1]; rfl
              have hEs' : E.size ≤ 1 := by omega
              have HN : Hid (nameB ((⟨#[97]⟩ : ByteArray) ++ E) = b) := Lib.hid (by
                rw [name_two (s[i]'hlt) _ (by rw [ByteArray.data_append, Array.toList_append, hE1]; rfl), hb])
              have HQ' : Hid (b = (s.data.toList.take (i + 1)).all okc) := Lib.hid (by
                rw [all_take_snoc s i hlt, ← HQ.out, hb]; simp)
              have HEq := Lib.hid hE
              clear hE hE1 hEs hb
              go_wp2_with fail
              rw [HEq.out]
              refine (name_of _ b HN.out _).mono ?_
              rintro e w2 ⟨rfl, rfl⟩
              go_wp2_with fail
              go_roundg g
              case measure => omega
              case rel => exact ⟨i + 1, b, by omega, by simp, rfl, HQ', rfl⟩
      · have hz64 : decide ((s.size : Int) ≤ 64) = false := by simp; omega
        have HB : Hid (nameB s = false) := Lib.hid (nameB_no (by omega))
        go_enter Try.func9, Try.ntmps9
        go_wp2_with fail
        refine (awake_any _).mono ?_
        rintro e w1 ⟨rfl, hw1⟩
        go_wp2_with fail
        go_loopg [4, 5] s.size (fun g s4 s5 wx => ∃ (i : Nat), i + g = s.size ∧ s5 = .int .i64 i ∧ s4 = .bool false ∧ wx = w1)
        case atStart => exact ⟨0, by omega, rfl, rfl, rfl⟩
        case round =>
          obtain ⟨i, hi, rfl, rfl, rfl⟩ := hrel
          cases gk with
          | zero =>
            obtain rfl : i = s.size := by omega
            go_wp2_with fail
            refine (name_of s false HB.out _).mono ?_
            rintro e w2 ⟨rfl, rfl⟩
            go_wp2_with fail
            go_ret
            exact ⟨rfl, hw1⟩
          | succ g =>
            have hltz : (i : Int) < (s.size : Int) := by omega
            go_wp2_with fail
            go_roundg g
            case measure => omega
            case rel => exact ⟨i + 1, by omega, by simp, rfl, rfl⟩
    · have he : s.toList = [] := by
        rw [tl]; exact List.length_eq_zero_iff.1 (by rw [← Lib.size_eq]; omega)
      have he' : s.toList.isEmpty = true := by rw [he]; rfl
      have HB : Hid (nameB s = false) := Lib.hid (nameB_no (by omega))
      have hs0 : ¬ (0 : Int) < (s.size : Int) := by omega
      go_enter Try.func9, Try.ntmps9
      go_wp2_with fail
      refine (awake_any _).mono ?_
      rintro e w1 ⟨rfl, hw1⟩
      go_wp2_with fail
      go_loopg [4, 5] 1 (fun g s4 s5 wx => s5 = .int .i64 0 ∧ s4 = .bool false ∧ wx = w1)
      case atStart => exact ⟨rfl, rfl, rfl⟩
      case round =>
        obtain ⟨rfl, rfl, rfl⟩ := hrel
        go_wp2_with fail
        refine (name_of s false HB.out _).mono ?_
        rintro e w2 ⟨rfl, rfl⟩
        go_wp2_with fail
        go_ret
        exact ⟨rfl, hw1⟩
end Go.Proofs.Ythknoanhljonoaa

/-
  The walks of the document's answer: Sane, Digit, Run and Digits.
-/
import Derived.Test.YtjndehdihjlcaaaDoorProg
import Derived.Test.YtjndehdihjlcaaaDoorNumBase
import Derived.Test.YtjndehdihjlcaaaDoorNumParse
import Derived.WalkKit
import Derived.WalkSpells
import Derived.WalkLawsBesides
import Derived.BigCall
import Derived.Lib.Strings
import Derived.Lib.ItoaWalk
import Derived.Lib.Hide
import Derived.Deep.RegionWith
import Derived.Laws.IdiomStrings
import Derived.IntWalk
namespace Go.Proofs.YtjndehdihjlcaaaDoor
open Go.RowKit

theorem refSane_any (v : Int) (w : World) :
    Calls Tryd.prog 13 #[.int .i64 v] w fun e w' => e = .returned (.bool (Np.saneB v)) ∧ w = w' := by
  by_cases h1 : -9007199254740992 ≤ v
  · by_cases h2 : v ≤ 9007199254740992
    · have H : Hid (Np.saneB v = true) := Lib.hid ((Np.sane_iff v).mpr ⟨h1, h2⟩)
      go_enter Tryd.func13, Tryd.ntmps13
      go_wp2
      go_ret
      exact ⟨by rw [H.out]; rfl, rfl⟩
    · have H : Hid (Np.saneB v = false) := Lib.hid (by unfold Np.saneB; simp; omega)
      go_enter Tryd.func13, Tryd.ntmps13
      go_wp2
      go_ret
      exact ⟨by rw [H.out]; rfl, rfl⟩
  · have H : Hid (Np.saneB v = false) := Lib.hid (by unfold Np.saneB; simp; omega)
    go_enter Tryd.func13, Tryd.ntmps13
    go_wp2
    go_ret
    exact ⟨by rw [H.out]; rfl, rfl⟩

theorem refSane_of (v : Int) (b : Bool) (h : Np.saneB v = b) (w : World) :
    Calls Tryd.prog 13 #[.int .i64 v] w fun e w' => e = .returned (.bool b) ∧ w = w' := by
  subst h; exact refSane_any v w
theorem refDigit_any (c : UInt8) (w : World) :
    Calls Tryd.prog 24 #[.int .u8 c.toNat] w fun e w' => e = .returned (.bool (Np.dig c)) ∧ w = w' := by
  by_cases h1 : 48 ≤ c.toNat
  · by_cases h2 : c.toNat ≤ 57
    · have H : Hid (Np.dig c = true) := Lib.hid (by unfold Np.dig; simp; omega)
      have hb : decide ((c.toNat : Int) ≤ 57) = true := by simp; omega
      go_enter Tryd.func24, Tryd.ntmps24
      go_wp2
      go_ret
      exact ⟨by rw [H.out]; rfl, rfl⟩
    · have H : Hid (Np.dig c = false) := Lib.hid (by unfold Np.dig; simp; omega)
      have hb : decide ((c.toNat : Int) ≤ 57) = false := by simp; omega
      go_enter Tryd.func24, Tryd.ntmps24
      go_wp2
      go_ret
      exact ⟨by rw [H.out]; rfl, rfl⟩
  · have H : Hid (Np.dig c = false) := Lib.hid (by unfold Np.dig; simp; omega)
    go_enter Tryd.func24, Tryd.ntmps24
    go_wp2
    go_ret
    exact ⟨by rw [H.out]; rfl, rfl⟩

/-- How many digits stand from a place on. -/
def Np.runN (l : List UInt8) (a : Nat) : Nat := ((l.drop a).takeWhile Np.dig).length
theorem Np.run_step (s : ByteArray) (a k : Nat) (hk : k ≤ Np.runN s.data.toList a) (h : a + k < s.size) (hd : Np.dig s[a + k] = true) : k + 1 ≤ Np.runN s.data.toList a := by
  have hl : (s.data.toList.drop a)[k]? = some s[a + k] := by
    rw [List.getElem?_drop, List.getElem?_eq_getElem (by simpa using h)]; rfl
  unfold Np.runN at *
  revert hk hl
  generalize s.data.toList.drop a = t
  generalize s[a + k] = c at *
  induction t generalizing k with
  | nil => intro _ hl; simp at hl
  | cons x t ih =>
    intro hk hl
    cases k with
    | zero =>
      obtain rfl : x = c := by simpa using hl
      rw [List.takeWhile_cons, if_pos hd]; simp
    | succ k =>
      rw [List.takeWhile_cons] at hk ⊢
      split at hk
      · rename_i hx
        rw [if_pos hx]
        have := ih k (by omega) (by simpa using hk) (by simpa using hl)
        simp; omega
      · simp at hk
theorem Np.run_stop (s : ByteArray) (a k : Nat) (hk : k ≤ Np.runN s.data.toList a) (h : ∀ (h : a + k < s.size), Np.dig s[a + k] = false) : k = Np.runN s.data.toList a := by
  rcases Nat.lt_or_ge k (Np.runN s.data.toList a) with h1 | h1
  · exfalso
    unfold Np.runN at h1
    have hlen : k < (s.data.toList.drop a).length := Nat.lt_of_lt_of_le h1 (List.takeWhile_sublist _).length_le
    have hs : a + k < s.size := by rw [List.length_drop, ← Lib.size_eq] at hlen; omega
    have e1 : ((s.data.toList.drop a).takeWhile Np.dig)[k] = (s.data.toList.drop a)[k] := (List.takeWhile_prefix _).getElem h1
    have e2 : (s.data.toList.drop a)[k] = s[a + k] := by rw [List.getElem_drop]; rfl
    have e3 : Np.dig ((s.data.toList.drop a).takeWhile Np.dig)[k] = true := List.all_eq_true.mp List.all_takeWhile _ (List.getElem_mem _)
    rw [e1, e2, h hs] at e3
    exact absurd e3 (by simp)
  · omega

set_option maxHeartbeats 800000 in
theorem refRun_any (s : ByteArray) (a : Nat) (w : World) (hs : s.size ≤ 1000000) (ha : a ≤ s.size) :
    Calls Tryd.prog 19 #[.string s, .int .i64 a] w fun e w' => e = .returned (.int .i64 (Np.runN s.data.toList a)) ∧ w = w' := by
  go_enter Tryd.func19, Tryd.ntmps19
  go_wp2
  go_loop [5] (fun n => ∃ k : Nat, k ≤ Np.runN s.data.toList a ∧ a + k ≤ s.size ∧ n = .int .i64 k) (fun n => s.size - (intOf n).toNat)
  case atStart => exact ⟨0, Nat.zero_le _, by omega, rfl⟩
  case round =>
    obtain ⟨k, hk, hka, rfl⟩ := hrel
    have Hk := Lib.hid hk
    clear hk
    by_cases hlt : a + k < s.size
    · generalize hc : s[a + k]'hlt = c
      cases hd : Np.dig c with
      | true =>
        have Hst := Lib.hid (Np.run_step s a k Hk.out hlt (by rw [hc]; exact hd))
        have Hc := Lib.hid hc
        clear Hc
        go_wp2_with (go_at_call 24; refine (refDigit_any _ _).mono ?_; rintro e w' ⟨rfl, rfl⟩)
        go_round
        case rel => exact ⟨k + 1, Hst.out, by omega, by go_num⟩
        case measure => simp [intOf]; omega
      | false =>
        have Hst := Lib.hid (Np.run_stop s a k Hk.out (fun _ => by rw [hc]; exact hd))
        go_wp2_with (go_at_call 24; refine (refDigit_any _ _).mono ?_; rintro e w' ⟨rfl, rfl⟩)
        go_ret
        exact ⟨by rw [← Hst.out]; rfl, rfl⟩
    · have Hst := Lib.hid (Np.run_stop s a k Hk.out (fun h => absurd h hlt))
      go_wp2_with fail
      go_ret
      exact ⟨by rw [← Hst.out]; rfl, rfl⟩

theorem Np.dec_small (n : Nat) (h : n < 10) : Lib.decDigits n = [UInt8.ofNat (48 + n)] := by rw [Lib.decDigits, dif_pos h]
theorem Np.dec_big (n : Nat) (h : ¬ n < 10) : Lib.decDigits n = Lib.decDigits (n / 10) ++ [UInt8.ofNat (48 + n % 10)] := by rw [Lib.decDigits, dif_neg h]

theorem conv_one (W : World) (b : Nat) (x : Int) (h0 : 0 ≤ x) (h1 : x < 256) (hc : W.cell? ⟨b, 0, none⟩ = some (.int .u8 x)) :
    (convert 40 9 (.slice (some ⟨b, 0, none⟩) 1 1)).run Tryd.prog W = .ok (.string ⟨[UInt8.ofNat x.toNat].toArray⟩) W := by
  refine run_convert_bytes_back (P := Tryd.prog) W 40 9 5 ⟨b, 0, none⟩ 1 [UInt8.ofNat x.toNat] Tryd.underlying40 Tryd.underlying5 Tryd.underlying9 ?_
  intro j hj
  obtain rfl : j = 0 := by simpa using hj
  have e : (⟨b, 0, none⟩ : Addr).add 0 = ⟨b, 0, none⟩ := rfl
  rw [e, hc]
  have : (UInt8.ofNat x.toNat).toNat = x.toNat := by rw [UInt8.toNat_ofNat']; omega
  simp only [List.getElem_cons_zero, this]
  rw [Int.toNat_of_nonneg h0]
theorem bcell {W w1 : World} (hb : Below W.heap.size W w1) : (∀ b o, b < W.heap.size → w1.cell? ⟨b, o, none⟩ = W.cell? ⟨b, o, none⟩) ∧ (∀ b o, b < W.heap.size → w1.frozen? ⟨b, o, none⟩ = W.frozen? ⟨b, o, none⟩) :=
  ⟨fun b o h => hb.cell (p := ⟨b, o, none⟩) h, fun b o h => hb.frozen (p := ⟨b, o, none⟩) h⟩

set_option maxHeartbeats 800000 in
theorem refDigits_any (b : Nat) : ∀ (n : Int) (w : World), 0 ≤ n → n < b → n ≤ 9007199254740992 →
    Calls Tryd.prog 21 #[.int .i64 n] w fun e w' => e = .returned (.string ⟨(Lib.decDigits n.toNat).toArray⟩) ∧ Below w.heap.size w w' := by
  induction b with
  | zero => intro n w h0 h1; omega
  | succ b ih =>
    intro n w h0 h1 h2
    by_cases hn : n < 10
    · have hcv := conv_one (w.alloc (.cells #[.int .u8 (48 + n)] 5)) w.heap.size (48 + n) (by omega) (by omega) (by rw [World.cell?_alloc_new]; rfl)
      have HE : Hid (Lib.decDigits n.toNat = [UInt8.ofNat (48 + n).toNat]) := Lib.hid (by
        rw [Np.dec_small _ (by omega), show 48 + n.toNat = (48 + n).toNat by omega])
      go_enter Tryd.func21, Tryd.ntmps21
      go_wp2_with fail
      go_ret
      exact ⟨by rw [HE.out]; rfl, (Below.refl _ _).alloc (Nat.le_refl _) _⟩
    · obtain ⟨q, hq⟩ : ∃ q, q = n / 10 := ⟨_, rfl⟩
      obtain ⟨r, hr⟩ : ∃ r, r = n % 10 := ⟨_, rfl⟩
      have HE : Hid (Lib.decDigits n.toNat = Lib.decDigits q.toNat ++ [UInt8.ofNat (48 + r).toNat]) := Lib.hid (by
        rw [Np.dec_big _ (by omega), show 48 + n.toNat % 10 = (48 + r).toNat by omega, show n.toNat / 10 = q.toNat by omega])
      have q0 : 0 ≤ q := by omega
      have q1 : q < b := by omega
      have q2 : q ≤ 9007199254740992 := by omega
      have r0 : 0 ≤ r := by omega
      have r1 : r < 10 := by omega
      have e1 : IntKind.i64.wrap (n.tdiv 10) = q := by rw [Int.tdiv_eq_ediv_of_nonneg (by omega), ← hq]; exact IntWalk.i64_in _ (by omega)
      have e2 : n.tmod 10 = r := by rw [Int.tmod_eq_emod_of_nonneg (by omega), ← hr]
      have e3 : IntKind.i64.wrap (48 + r) = 48 + r := IntWalk.i64_in _ (by omega)
      have e4 : IntKind.u8.wrap (48 + r) = 48 + r := by rw [IntKind.wrap_u8]; omega
      have hcv := fun (W : World) (b : Nat) => conv_one W b (48 + r) (by omega) (by omega)
      have Hih : Hid (∀ W : World, Calls Tryd.prog 21 #[.int .i64 q] W fun e w' => ∃ S : ByteArray, e = .returned (.string S) ∧ S.size ≤ 16 ∧ Hid (S.data.toList = Lib.decDigits q.toNat) ∧ Below W.heap.size W w') := Lib.hid (fun W => by
        refine (ih q W q0 q1 q2).mono ?_
        rintro e w' ⟨rfl, hb⟩
        refine ⟨_, rfl, ?_, Lib.hid (by simp), hb⟩
        have := nd_le 15 q.toNat (by omega)
        rw [Lib.size_eq]; simpa [Lib.decDigits_length] using this)
      clear hq hr ih
      go_enter Tryd.func21, Tryd.ntmps21
      go_wp2_with fail
      go_region_with (go_at_call 21; refine (Hih.out _).mono ?_; rintro e w' ⟨S, rfl, hS, HS, hb⟩; obtain ⟨hbc, _⟩ := bcell hb)
      all_goals
        go_wp2_with fail
        go_ret
        refine ⟨?_, ?_⟩
      any_goals exact congrArg (fun x => Ending.returned (Value.string x)) (str_eq _ _ (by rw [data_app, HS.out, HE.out]))
      · exact (below_on (Below.refl _ _).drew hb).alloc hb.size _
      all_goals exact below_on ((Below.refl _ _).alloc (Nat.le_refl _) _).drew hb
end Go.Proofs.YtjndehdihjlcaaaDoor

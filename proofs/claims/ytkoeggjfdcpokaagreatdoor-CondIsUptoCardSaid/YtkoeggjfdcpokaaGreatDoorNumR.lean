/-
  The walks of the document's answer: Sane, Digit, Run and Digits.
  The walk of the document's Print: what is answered is the text of Np.printS.
  The walk of the document's Parse: what is answered is Np.parseS of the text's octets, as the program's Parse answers.
  The walk of the document's Parse, case by case.
  The document's Parse at every text: Np.parseS of its octets, out of the cases.
-/
import Derived.Test.YtkoeggjfdcpokaaGreatDoorProg
import Derived.Test.YtkoeggjfdcpokaaGreatDoorNumA
import Derived.WalkKit
import Derived.WalkSpells
import Derived.WalkLawsBesides
import Derived.BigCall
import Derived.Lib.Strings
import Derived.Lib.ItoaWalk
import Derived.Lib.Hide
import Derived.Deep.RegionWith
import Derived.Laws.IdiomStrings
import Derived.IntWalk
namespace Go.Proofs.YtkoeggjfdcpokaaGreatDoor
open Go.RowKit

theorem refSane_any (v : Int) (w : World) :
    Calls Tryz.prog 30 #[.int .i64 v] w fun e w' => e = .returned (.bool (Np.saneB v)) ∧ w = w' := by
  by_cases h1 : -9007199254740992 ≤ v
  · by_cases h2 : v ≤ 9007199254740992
    · have H : Hid (Np.saneB v = true) := Lib.hid ((Np.sane_iff v).mpr ⟨h1, h2⟩)
      go_enter Tryz.func30, Tryz.ntmps30
      go_wp2
      go_ret
      exact ⟨by rw [H.out]; rfl, rfl⟩
    · have H : Hid (Np.saneB v = false) := Lib.hid (by unfold Np.saneB; simp; omega)
      go_enter Tryz.func30, Tryz.ntmps30
      go_wp2
      go_ret
      exact ⟨by rw [H.out]; rfl, rfl⟩
  · have H : Hid (Np.saneB v = false) := Lib.hid (by unfold Np.saneB; simp; omega)
    go_enter Tryz.func30, Tryz.ntmps30
    go_wp2
    go_ret
    exact ⟨by rw [H.out]; rfl, rfl⟩

theorem refSane_of (v : Int) (b : Bool) (h : Np.saneB v = b) (w : World) :
    Calls Tryz.prog 30 #[.int .i64 v] w fun e w' => e = .returned (.bool b) ∧ w = w' := by
  subst h; exact refSane_any v w
theorem refDigit_any (c : UInt8) (w : World) :
    Calls Tryz.prog 115 #[.int .u8 c.toNat] w fun e w' => e = .returned (.bool (Np.dig c)) ∧ w = w' := by
  by_cases h1 : 48 ≤ c.toNat
  · by_cases h2 : c.toNat ≤ 57
    · have H : Hid (Np.dig c = true) := Lib.hid (by unfold Np.dig; simp; omega)
      have hb : decide ((c.toNat : Int) ≤ 57) = true := by simp; omega
      go_enter Tryz.func115, Tryz.ntmps115
      go_wp2
      go_ret
      exact ⟨by rw [H.out]; rfl, rfl⟩
    · have H : Hid (Np.dig c = false) := Lib.hid (by unfold Np.dig; simp; omega)
      have hb : decide ((c.toNat : Int) ≤ 57) = false := by simp; omega
      go_enter Tryz.func115, Tryz.ntmps115
      go_wp2
      go_ret
      exact ⟨by rw [H.out]; rfl, rfl⟩
  · have H : Hid (Np.dig c = false) := Lib.hid (by unfold Np.dig; simp; omega)
    go_enter Tryz.func115, Tryz.ntmps115
    go_wp2
    go_ret
    exact ⟨by rw [H.out]; rfl, rfl⟩

/-- How many digits stand from a place on. -/
def Np.runN (l : List UInt8) (a : Nat) : Nat := ((l.drop a).takeWhile Np.dig).length
theorem Np.run_step (s : ByteArray) (a k : Nat) (hk : k ≤ Np.runN s.data.toList a) (h : a + k < s.size) (hd : Np.dig s[a + k] = true) : k + 1 ≤ Np.runN s.data.toList a := by
  have hl : (s.data.toList.drop a)[k]? = some s[a + k] := by
    rw [List.getElem?_drop, List.getElem?_eq_getElem (by simpa using h)]; rfl
  unfold Np.runN at *
  revert hk hl
  generalize s.data.toList.drop a = t
  generalize s[a + k] = c at *
  induction t generalizing k with
  | nil => intro _ hl; simp at hl
  | cons x t ih =>
    intro hk hl
    cases k with
    | zero =>
      obtain rfl : x = c := by simpa using hl
      rw [List.takeWhile_cons, if_pos hd]; simp
    | succ k =>
      rw [List.takeWhile_cons] at hk ⊢
      split at hk
      · rename_i hx
        rw [if_pos hx]
        have := ih k (by omega) (by simpa using hk) (by simpa using hl)
        simp; omega
      · simp at hk
theorem Np.run_stop (s : ByteArray) (a k : Nat) (hk : k ≤ Np.runN s.data.toList a) (h : ∀ (h : a + k < s.size), Np.dig s[a + k] = false) : k = Np.runN s.data.toList a := by
  rcases Nat.lt_or_ge k (Np.runN s.data.toList a) with h1 | h1
  · exfalso
    unfold Np.runN at h1
    have hlen : k < (s.data.toList.drop a).length := Nat.lt_of_lt_of_le h1 (List.takeWhile_sublist _).length_le
    have hs : a + k < s.size := by rw [List.length_drop, ← Lib.size_eq] at hlen; omega
    have e1 : ((s.data.toList.drop a).takeWhile Np.dig)[k] = (s.data.toList.drop a)[k] := (List.takeWhile_prefix _).getElem h1
    have e2 : (s.data.toList.drop a)[k] = s[a + k] := by rw [List.getElem_drop]; rfl
    have e3 : Np.dig ((s.data.toList.drop a).takeWhile Np.dig)[k] = true := List.all_eq_true.mp List.all_takeWhile _ (List.getElem_mem _)
    rw [e1, e2, h hs] at e3
    exact absurd e3 (by simp)
  · omega

set_option maxHeartbeats 800000 in
theorem refRun_any (s : ByteArray) (a : Nat) (w : World) (hs : s.size ≤ 2000000) (ha : a ≤ s.size) :
    Calls Tryz.prog 97 #[.string s, .int .i64 a] w fun e w' => e = .returned (.int .i64 (Np.runN s.data.toList a)) ∧ w = w' := by
  go_enter Tryz.func97, Tryz.ntmps97
  go_wp2
  go_loop [5] (fun n => ∃ k : Nat, k ≤ Np.runN s.data.toList a ∧ a + k ≤ s.size ∧ n = .int .i64 k) (fun n => s.size - (intOf n).toNat)
  case atStart => exact ⟨0, Nat.zero_le _, by omega, rfl⟩
  case round =>
    obtain ⟨k, hk, hka, rfl⟩ := hrel
    have Hk := Lib.hid hk
    clear hk
    by_cases hlt : a + k < s.size
    · generalize hc : s[a + k]'hlt = c
      cases hd : Np.dig c with
      | true =>
        have Hst := Lib.hid (Np.run_step s a k Hk.out hlt (by rw [hc]; exact hd))
        have Hc := Lib.hid hc
        clear Hc
        go_wp2_with (go_at_call 115; refine (refDigit_any _ _).mono ?_; rintro e w' ⟨rfl, rfl⟩)
        go_round
        case rel => exact ⟨k + 1, Hst.out, by omega, by go_num⟩
        case measure => simp [intOf]; omega
      | false =>
        have Hst := Lib.hid (Np.run_stop s a k Hk.out (fun _ => by rw [hc]; exact hd))
        go_wp2_with (go_at_call 115; refine (refDigit_any _ _).mono ?_; rintro e w' ⟨rfl, rfl⟩)
        go_ret
        exact ⟨by rw [← Hst.out]; rfl, rfl⟩
    · have Hst := Lib.hid (Np.run_stop s a k Hk.out (fun h => absurd h hlt))
      go_wp2_with fail
      go_ret
      exact ⟨by rw [← Hst.out]; rfl, rfl⟩

theorem Np.dec_small (n : Nat) (h : n < 10) : Lib.decDigits n = [UInt8.ofNat (48 + n)] := by rw [Lib.decDigits, dif_pos h]
theorem Np.dec_big (n : Nat) (h : ¬ n < 10) : Lib.decDigits n = Lib.decDigits (n / 10) ++ [UInt8.ofNat (48 + n % 10)] := by rw [Lib.decDigits, dif_neg h]

theorem conv_one (W : World) (b : Nat) (x : Int) (h0 : 0 ≤ x) (h1 : x < 256) (hc : W.cell? ⟨b, 0, none⟩ = some (.int .u8 x)) :
    (convert 92 9 (.slice (some ⟨b, 0, none⟩) 1 1)).run Tryz.prog W = .ok (.string ⟨[UInt8.ofNat x.toNat].toArray⟩) W := by
  refine run_convert_bytes_back (P := Tryz.prog) W 92 9 5 ⟨b, 0, none⟩ 1 [UInt8.ofNat x.toNat] Tryz.underlying92 Tryz.underlying5 Tryz.underlying9 ?_
  intro j hj
  obtain rfl : j = 0 := by simpa using hj
  have e : (⟨b, 0, none⟩ : Addr).add 0 = ⟨b, 0, none⟩ := rfl
  rw [e, hc]
  have : (UInt8.ofNat x.toNat).toNat = x.toNat := by rw [UInt8.toNat_ofNat']; omega
  simp only [List.getElem_cons_zero, this]
  rw [Int.toNat_of_nonneg h0]
theorem bcell {W w1 : World} (hb : Below W.heap.size W w1) : (∀ b o, b < W.heap.size → w1.cell? ⟨b, o, none⟩ = W.cell? ⟨b, o, none⟩) ∧ (∀ b o, b < W.heap.size → w1.frozen? ⟨b, o, none⟩ = W.frozen? ⟨b, o, none⟩) :=
  ⟨fun b o h => hb.cell (p := ⟨b, o, none⟩) h, fun b o h => hb.frozen (p := ⟨b, o, none⟩) h⟩

set_option maxHeartbeats 800000 in
theorem refDigits_any (b : Nat) : ∀ (n : Int) (w : World), 0 ≤ n → n < b → n ≤ 9007199254740992 →
    Calls Tryz.prog 56 #[.int .i64 n] w fun e w' => e = .returned (.string ⟨(Lib.decDigits n.toNat).toArray⟩) ∧ Below w.heap.size w w' := by
  induction b with
  | zero => intro n w h0 h1; omega
  | succ b ih =>
    intro n w h0 h1 h2
    by_cases hn : n < 10
    · have hcv := conv_one (w.alloc (.cells #[.int .u8 (48 + n)] 5)) w.heap.size (48 + n) (by omega) (by omega) (by rw [World.cell?_alloc_new]; rfl)
      have HE : Hid (Lib.decDigits n.toNat = [UInt8.ofNat (48 + n).toNat]) := Lib.hid (by
        rw [Np.dec_small _ (by omega), show 48 + n.toNat = (48 + n).toNat by omega])
      go_enter Tryz.func56, Tryz.ntmps56
      go_wp2_with fail
      go_ret
      exact ⟨by rw [HE.out]; rfl, (Below.refl _ _).alloc (Nat.le_refl _) _⟩
    · obtain ⟨q, hq⟩ : ∃ q, q = n / 10 := ⟨_, rfl⟩
      obtain ⟨r, hr⟩ : ∃ r, r = n % 10 := ⟨_, rfl⟩
      have HE : Hid (Lib.decDigits n.toNat = Lib.decDigits q.toNat ++ [UInt8.ofNat (48 + r).toNat]) := Lib.hid (by
        rw [Np.dec_big _ (by omega), show 48 + n.toNat % 10 = (48 + r).toNat by omega, show n.toNat / 10 = q.toNat by omega])
      have q0 : 0 ≤ q := by omega
      have q1 : q < b := by omega
      have q2 : q ≤ 9007199254740992 := by omega
      have r0 : 0 ≤ r := by omega
      have r1 : r < 10 := by omega
      have e1 : IntKind.i64.wrap (n.tdiv 10) = q := by rw [Int.tdiv_eq_ediv_of_nonneg (by omega), ← hq]; exact IntWalk.i64_in _ (by omega)
      have e2 : n.tmod 10 = r := by rw [Int.tmod_eq_emod_of_nonneg (by omega), ← hr]
      have e3 : IntKind.i64.wrap (48 + r) = 48 + r := IntWalk.i64_in _ (by omega)
      have e4 : IntKind.u8.wrap (48 + r) = 48 + r := by rw [IntKind.wrap_u8]; omega
      have hcv := fun (W : World) (b : Nat) => conv_one W b (48 + r) (by omega) (by omega)
      have Hih : Hid (∀ W : World, Calls Tryz.prog 56 #[.int .i64 q] W fun e w' => ∃ S : ByteArray, e = .returned (.string S) ∧ S.size ≤ 16 ∧ Hid (S.data.toList = Lib.decDigits q.toNat) ∧ Below W.heap.size W w') := Lib.hid (fun W => by
        refine (ih q W q0 q1 q2).mono ?_
        rintro e w' ⟨rfl, hb⟩
        refine ⟨_, rfl, ?_, Lib.hid (by simp), hb⟩
        have := nd_le 15 q.toNat (by omega)
        rw [Lib.size_eq]; simpa [Lib.decDigits_length] using this)
      clear hq hr ih
      go_enter Tryz.func56, Tryz.ntmps56
      go_wp2_with fail
      go_region_with (go_at_call 56; refine (Hih.out _).mono ?_; rintro e w' ⟨S, rfl, hS, HS, hb⟩; obtain ⟨hbc, _⟩ := bcell hb)
      all_goals
        go_wp2_with fail
        go_ret
        refine ⟨?_, ?_⟩
      any_goals exact congrArg (fun x => Ending.returned (Value.string x)) (str_eq _ _ (by rw [data_app, HS.out, HE.out]))
      · exact (below_on (Below.refl _ _).drew hb).alloc hb.size _
      all_goals exact below_on ((Below.refl _ _).alloc (Nat.le_refl _) _).drew hb
end Go.Proofs.YtkoeggjfdcpokaaGreatDoor
namespace Go.Proofs.YtkoeggjfdcpokaaGreatDoor
open Go.RowKit

theorem refDigits_str (n : Int) (h0 : 0 ≤ n) (h1 : n ≤ 9007199254740992) (w : World) :
    Calls Tryz.prog 56 #[.int .i64 n] w fun e w' => ∃ S : ByteArray, e = .returned (.string S) ∧ S.size ≤ 16 ∧ Hid (S.data.toList = Lib.decDigits n.toNat) ∧ Below w.heap.size w w' := by
  refine (refDigits_any (n.toNat + 1) n w h0 (by omega) h1).mono ?_
  rintro e w' ⟨rfl, hb⟩
  refine ⟨_, rfl, ?_, Lib.hid (by simp), hb⟩
  have := nd_le 15 n.toNat (by omega)
  rw [Lib.size_eq]; simpa [Lib.decDigits_length] using this

theorem Np.ref_0 (v : Int) (h0 : 0 ≤ v) (h : v % 1000 = 0) : Lib.decDigits (v / 1000).toNat = Np.printU v.toNat := by
  obtain ⟨u, rfl⟩ := Int.eq_ofNat_of_zero_le h0
  unfold Np.printU Np.tailU
  rw [if_pos (by omega), List.append_nil]; congr 1
theorem Np.ref_1 (v : Int) (h0 : 0 ≤ v) (h : ¬ v % 1000 = 0) (h1 : v % 1000 % 100 = 0) :
    Lib.decDigits (v / 1000).toNat ++ [46] ++ Lib.decDigits (v % 1000 / 100).toNat = Np.printU v.toNat := by
  obtain ⟨u, rfl⟩ := Int.eq_ofNat_of_zero_le h0
  rw [show ((u : Int) / 1000).toNat = u / 1000 by omega, show ((u : Int) % 1000 / 100).toNat = u % 1000 / 100 by omega, Np.dec_small (u % 1000 / 100) (by omega)]
  unfold Np.printU Np.tailU Np.frac Np.d8
  rw [Int.toNat_natCast, if_neg (by omega), if_pos (by omega)]; simp
theorem Np.ref_2 (v : Int) (h0 : 0 ≤ v) (h1 : ¬ v % 1000 % 100 = 0) (h2 : v % 1000 % 10 = 0) :
    Lib.decDigits (v / 1000).toNat ++ [46] ++ Lib.decDigits (v % 1000 / 100).toNat ++ Lib.decDigits (v % 1000 / 10 % 10).toNat = Np.printU v.toNat := by
  obtain ⟨u, rfl⟩ := Int.eq_ofNat_of_zero_le h0
  rw [show ((u : Int) / 1000).toNat = u / 1000 by omega, show ((u : Int) % 1000 / 100).toNat = u % 1000 / 100 by omega, show ((u : Int) % 1000 / 10 % 10).toNat = u % 1000 / 10 % 10 by omega, Np.dec_small (u % 1000 / 100) (by omega), Np.dec_small (u % 1000 / 10 % 10) (by omega)]
  unfold Np.printU Np.tailU Np.frac Np.d8
  rw [Int.toNat_natCast, if_neg (by omega), if_neg (by omega), if_pos (by omega)]; simp
theorem Np.ref_3 (v : Int) (h0 : 0 ≤ v) (h2 : ¬ v % 1000 % 10 = 0) :
    Lib.decDigits (v / 1000).toNat ++ [46] ++ Lib.decDigits (v % 1000 / 100).toNat ++ Lib.decDigits (v % 1000 / 10 % 10).toNat ++ Lib.decDigits (v % 1000 % 10).toNat = Np.printU v.toNat := by
  obtain ⟨u, rfl⟩ := Int.eq_ofNat_of_zero_le h0
  rw [show ((u : Int) / 1000).toNat = u / 1000 by omega, show ((u : Int) % 1000 / 100).toNat = u % 1000 / 100 by omega, show ((u : Int) % 1000 / 10 % 10).toNat = u % 1000 / 10 % 10 by omega, show ((u : Int) % 1000 % 10).toNat = u % 1000 % 10 by omega,
    Np.dec_small (u % 1000 / 100) (by omega), Np.dec_small (u % 1000 / 10 % 10) (by omega), Np.dec_small (u % 1000 % 10) (by omega)]
  unfold Np.printU Np.tailU Np.frac Np.d8
  rw [Int.toNat_natCast, if_neg (by omega), if_neg (by omega), if_neg (by omega)]; simp

set_option maxHeartbeats 1600000 in
theorem refPrint_pos (v : Int) (h0 : 0 ≤ v) (h1 : v ≤ 9007199254740992) (w : World) :
    Calls Tryz.prog 35 #[.int .i64 v] w fun e w' => ∃ S : ByteArray, e = .returned (.string S) ∧ S.size ≤ 80 ∧ Hid (S.data.toList = Np.printU v.toNat) ∧ Below w.heap.size w w' := by
  have Hs : Hid (Np.saneB v = true) := Lib.hid ((Np.sane_iff v).mpr ⟨by omega, h1⟩)
  have hneg : ¬ v < 0 := by omega
  by_cases c0 : v % 1000 = 0
  · have HE := Lib.hid (Np.ref_0 v h0 c0)
    have b0 : (v % 1000 == 0) = true := by simpa using c0
    clear c0
    go_enter Tryz.func35, Tryz.ntmps35
    go_wp2_with fail
    refine (refSane_of v true Hs.out _).mono ?_
    rintro e w1 ⟨rfl, rfl⟩
    go_wp2_with fail
    refine (refDigits_str _ (by omega) (by omega) _).mono ?_
    rintro e w1 ⟨S1, rfl, hS1, HS1, hw1⟩
    go_wp2_with fail
    go_ret
    exact ⟨S1, rfl, by omega, Lib.hid (by rw [HS1.out, HE.out]), hw1⟩
  · have b0 : (v % 1000 == 0) = false := by simpa using c0
    by_cases c1 : v % 1000 % 100 = 0
    · have HE := Lib.hid (Np.ref_1 v h0 c0 c1)
      have c2 : v % 1000 % 10 = 0 := by omega
      have b1 : (v % 1000 % 100 != 0) = false := by simpa using c1
      have b2 : (v % 1000 % 10 != 0) = false := by simpa using c2
      clear c0 c1 c2
      go_enter Tryz.func35, Tryz.ntmps35
      go_wp2_with fail
      refine (refSane_of v true Hs.out _).mono ?_
      rintro e w1 ⟨rfl, rfl⟩
      go_wp2_with fail
      refine (refDigits_str _ (by omega) (by omega) _).mono ?_
      rintro e w1 ⟨S1, rfl, hS1, HS1, hw1⟩
      go_wp2_with fail
      refine (refDigits_str _ (by omega) (by omega) _).mono ?_
      rintro e w2 ⟨S2, rfl, hS2, HS2, hw2⟩
      go_wp2_with fail
      go_ret
      refine ⟨_, rfl, ?_, Lib.hid ?_, below_on hw1 hw2⟩
      · simp only [ByteArray.size_append]; rw [show (⟨#[46]⟩ : ByteArray).size = 1 from rfl]; omega
      · rw [data_app, data_app, HS1.out, HS2.out, ← HE.out]
    · have b1 : (v % 1000 % 100 != 0) = true := by simpa using c1
      by_cases c2 : v % 1000 % 10 = 0
      · have HE := Lib.hid (Np.ref_2 v h0 c1 c2)
        have b2 : (v % 1000 % 10 != 0) = false := by simpa using c2
        clear c0 c1 c2
        go_enter Tryz.func35, Tryz.ntmps35
        go_wp2_with fail
        refine (refSane_of v true Hs.out _).mono ?_
        rintro e w1 ⟨rfl, rfl⟩
        go_wp2_with fail
        refine (refDigits_str _ (by omega) (by omega) _).mono ?_
        rintro e w1 ⟨S1, rfl, hS1, HS1, hw1⟩
        go_wp2_with fail
        refine (refDigits_str _ (by omega) (by omega) _).mono ?_
        rintro e w2 ⟨S2, rfl, hS2, HS2, hw2⟩
        go_wp2_with fail
        refine (refDigits_str _ (by omega) (by omega) _).mono ?_
        rintro e w3 ⟨S3, rfl, hS3, HS3, hw3⟩
        go_wp2_with fail
        go_ret
        refine ⟨_, rfl, ?_, Lib.hid ?_, below_on (below_on hw1 hw2) hw3⟩
        · simp only [ByteArray.size_append]; rw [show (⟨#[46]⟩ : ByteArray).size = 1 from rfl]; omega
        · rw [data_app, data_app, data_app, HS1.out, HS2.out, HS3.out, ← HE.out]
      · have HE := Lib.hid (Np.ref_3 v h0 c2)
        have b2 : (v % 1000 % 10 != 0) = true := by simpa using c2
        clear c0 c1 c2
        go_enter Tryz.func35, Tryz.ntmps35
        go_wp2_with fail
        refine (refSane_of v true Hs.out _).mono ?_
        rintro e w1 ⟨rfl, rfl⟩
        go_wp2_with fail
        refine (refDigits_str _ (by omega) (by omega) _).mono ?_
        rintro e w1 ⟨S1, rfl, hS1, HS1, hw1⟩
        go_wp2_with fail
        refine (refDigits_str _ (by omega) (by omega) _).mono ?_
        rintro e w2 ⟨S2, rfl, hS2, HS2, hw2⟩
        go_wp2_with fail
        refine (refDigits_str _ (by omega) (by omega) _).mono ?_
        rintro e w3 ⟨S3, rfl, hS3, HS3, hw3⟩
        go_wp2_with fail
        refine (refDigits_str _ (by omega) (by omega) _).mono ?_
        rintro e w4 ⟨S4, rfl, hS4, HS4, hw4⟩
        go_wp2_with fail
        go_ret
        refine ⟨_, rfl, ?_, Lib.hid ?_, below_on (below_on (below_on hw1 hw2) hw3) hw4⟩
        · simp only [ByteArray.size_append]; rw [show (⟨#[46]⟩ : ByteArray).size = 1 from rfl]; omega
        · rw [data_app, data_app, data_app, data_app, HS1.out, HS2.out, HS3.out, HS4.out, show v % 10 = v % 1000 % 10 by omega, ← HE.out]

theorem refPrint_any (v : Int) (w : World) :
    Calls Tryz.prog 35 #[.int .i64 v] w fun e w' => ∃ S : ByteArray, e = .returned (.string S) ∧ Hid (S.data.toList = Np.printS v) ∧ Below w.heap.size w w' := by
  cases hs : Np.saneB v with
  | false =>
    have Hs := Lib.hid hs
    have HE := Lib.hid (Np.print_no v hs)
    clear hs
    go_enter Tryz.func35, Tryz.ntmps35
    go_wp2_with fail
    refine (refSane_of v false Hs.out _).mono ?_
    rintro e w1 ⟨rfl, rfl⟩
    go_wp2_with fail
    go_ret
    exact ⟨_, rfl, Lib.hid (by rw [HE.out]), Below.refl _ _⟩
  | true =>
    obtain ⟨h1, h2⟩ := (Np.sane_iff v).mp hs
    by_cases hn : v < 0
    · have Hp : Hid (Np.printS v = 45 :: Np.printU (-v).toNat) := Lib.hid (by
        unfold Np.printS
        rw [hs, if_neg (by simp), if_pos hn, show v.natAbs = (-v).toNat by omega])
      have Hs := Lib.hid hs
      clear hs
      go_enter Tryz.func35, Tryz.ntmps35
      go_wp2_with fail
      refine (refSane_of v true Hs.out _).mono ?_
      rintro e w1 ⟨rfl, rfl⟩
      go_wp2_with fail
      refine (refPrint_pos (-v) (by omega) (by omega) _).mono ?_
      rintro e w1 ⟨S, rfl, hS, HS, hw1⟩
      go_wp2_with fail
      go_ret
      refine ⟨_, rfl, Lib.hid ?_, hw1⟩
      rw [data_app, HS.out, Hp.out]; rfl
    · have Hp : Hid (Np.printS v = Np.printU v.toNat) := Lib.hid (by
        unfold Np.printS
        rw [hs, if_neg (by simp), if_neg hn, show v.natAbs = v.toNat by omega])
      refine (refPrint_pos v (by omega) (by omega) _).mono ?_
      rintro e w1 ⟨S, rfl, hS, HS, hw1⟩
      exact ⟨S, rfl, Lib.hid (by rw [HS.out, Hp.out]), hw1⟩
end Go.Proofs.YtkoeggjfdcpokaaGreatDoor
namespace Go.Proofs.YtkoeggjfdcpokaaGreatDoor
open Go.RowKit

theorem refRun_at (s : ByteArray) (a : Int) (h0 : 0 ≤ a) (h1 : a ≤ s.size) (w : World) (hs : s.size ≤ 2000000) :
    Calls Tryz.prog 97 #[.string s, .int .i64 a] w fun e w' => e = .returned (.int .i64 (Np.runN s.data.toList a.toNat)) ∧ w = w' := by
  obtain ⟨k, rfl⟩ := Int.eq_ofNat_of_zero_le h0
  exact refRun_any s k w hs (by omega)

/-! plain -/
def Np.Sat4 (v n : Nat) : Prop := v ≤ 36028797018963968 ∧ (n ≤ Np.mx → v = n) ∧ (Np.mx < n → Np.mx < v)
theorem Np.sat4_zero : Np.Sat4 0 (Np.num []) := ⟨by omega, fun _ => rfl, fun h => by simp [Np.num, Np.mx] at h⟩
theorem Np.sat4_step {v n d v' : Nat} (h : Np.Sat4 v n) (hv : v' = min (10 * v + d) 36028797018963968) : Np.Sat4 v' (10 * n + d) := by
  unfold Np.Sat4 Np.mx at *
  obtain ⟨h1, h2, h3⟩ := h
  subst hv
  refine ⟨by omega, fun h => ?_, fun h => ?_⟩
  · have := h2 (by omega); omega
  · by_cases e : n ≤ 9007199254740992
    · have := h2 e; omega
    · have := h3 (by omega); omega

/-- The digits ahead, and what stands behind them. -/
def Np.pre (b : List UInt8) : List UInt8 := b.takeWhile Np.dig
def Np.suf (b : List UInt8) : List UInt8 := b.dropWhile Np.dig
theorem Np.pre_suf (b : List UInt8) : b = Np.pre b ++ Np.suf b := (List.takeWhile_append_dropWhile).symm
theorem Np.pre_digs (b : List UInt8) : Np.digs (Np.pre b) = true := List.all_takeWhile
theorem Np.suf_head (b : List UInt8) {c : UInt8} {t : List UInt8} (h : Np.suf b = c :: t) : Np.dig c = false := by
  have hh : Np.suf b ≠ [] := by rw [h]; simp
  have := List.head_dropWhile_not Np.dig hh
  have e : (Np.suf b).head hh = c := by simp [h]
  unfold Np.suf at e
  rw [e] at this; exact this
theorem Np.pre_all (b : List UInt8) (h : Np.suf b = []) : b = Np.pre b := by
  have := Np.pre_suf b
  rw [h, List.append_nil] at this; exact this
theorem Np.uns_A1 (b : List UInt8) (h : Np.suf b = []) (h0 : Np.pre b = []) : Np.unsig b = none := by
  have := Np.pre_all b h
  rw [h0] at this; subst this; rfl
theorem Np.uns_A2 (b : List UInt8) (h : Np.suf b = []) (h0 : Np.pre b ≠ []) : Np.unsig b = some (Np.pre b ++ [48, 48, 48]) := by
  have e := Np.pre_all b h
  have := Np.unsig_plain _ (Np.pre_digs b) h0
  rw [← e] at this ⊢
  exact this
theorem Np.takeWhile_ne (D : List UInt8) (c : UInt8) (t : List UInt8) (hD : Np.digs D = true) (hc : (c != 46) = true) : Np.whole (D ++ c :: t) = D ++ c :: Np.whole t := by
  unfold Np.whole
  induction D with
  | nil => rw [List.nil_append, List.nil_append, List.takeWhile_cons, if_pos hc]
  | cons x D ih =>
    have hx : Np.dig x = true ∧ Np.digs D = true := by simpa [Np.digs] using hD
    rw [List.cons_append, List.cons_append, List.takeWhile_cons, if_pos (by simpa using (Np.dig_ne hx.1).1), ih hx.2]
theorem Np.uns_B (b : List UInt8) {c : UInt8} {t : List UInt8} (h : Np.suf b = c :: t) (hc : ¬ c = 46) : Np.unsig b = none := by
  have hd := Np.suf_head b h
  have e : b = Np.pre b ++ c :: t := by rw [← h]; exact Np.pre_suf b
  have hw : Np.digs (Np.whole b) = false := by
    rw [e, Np.takeWhile_ne _ c t (Np.pre_digs b) (by simpa using hc), Np.digs_app, Np.digs_cons, hd]; simp
  unfold Np.unsig
  split
  · rw [if_neg (by simp [hw])]
  · split
    · rfl
    · rw [if_neg (by rw [Np.digs_app, hw]; simp)]
theorem Np.eq_C (b : List UInt8) {t : List UInt8} (h : Np.suf b = 46 :: t) : b = Np.pre b ++ 46 :: t := by rw [← h]; exact Np.pre_suf b
theorem Np.uns_C (b : List UInt8) {t : List UInt8} (h : Np.suf b = 46 :: t) (hn : (Np.pre t).length < 1 ∨ 3 < (Np.pre t).length ∨ Np.pre b = [] ∨ (Np.pre t).length ≠ t.length) : Np.unsig b = none := by
  have e := Np.eq_C b h
  have hr : Np.rest b = 46 :: t := by rw [e]; exact Np.rest_pt _ _ (Np.pre_digs b)
  have hw : Np.whole b = Np.pre b := by
    have := Np.whole_pt (Np.pre b) t (Np.pre_digs b)
    rw [← e] at this; exact this
  have hall : Np.digs t = true → (Np.pre t).length = t.length := by
    intro ht
    have : Np.pre t = t := by
      unfold Np.pre
      have hs : Np.suf t = [] := by
        cases e : Np.suf t with
        | nil => rfl
        | cons c r =>
          have h1 := Np.suf_head t e
          have h2 : c ∈ t := by rw [Np.pre_suf t, e]; simp
          rw [List.all_eq_true.mp ht c h2] at h1; exact absurd h1 (by simp)
      exact (Np.pre_all t hs).symm
    rw [this]
  have hpl : (Np.pre t).length ≤ t.length := (List.takeWhile_sublist _).length_le
  unfold Np.unsig
  rw [hr, hw]
  by_cases hp : t = [] ∨ 3 < t.length
  · simp [hp]
  · simp only [if_neg hp]
    rw [if_neg]
    rintro ⟨h0, h1⟩
    rw [Np.digs_app] at h1
    have hpad : Np.digs (Np.pad t) = true := by simpa using (Bool.and_eq_true _ _ |>.mp h1).2
    have hl : t.length ≤ 3 := by
      rcases Nat.lt_or_ge 3 t.length with h' | h'
      · exact absurd (Or.inr h') hp
      · exact h'
    have ht : Np.digs t = true := by
      have : t = (Np.pad t).take t.length := by unfold Np.pad; rw [List.take_take, Nat.min_eq_left hl]; simp
      rw [this]
      exact List.all_eq_true.mpr fun c hc' => List.all_eq_true.mp hpad c (List.mem_of_mem_take hc')
    have hlen := hall ht
    have hne : t ≠ [] := fun e => hp (Or.inl e)
    have hpos : 0 < t.length := List.length_pos_iff.mpr hne
    rcases hn with hn | hn | hn | hn
    · omega
    · omega
    · exact h0 hn
    · exact hn hlen
theorem Np.uns_C3 (b : List UInt8) {t : List UInt8} (h : Np.suf b = 46 :: t) (h1 : ¬ (Np.pre t).length < 1) (h3 : ¬ 3 < (Np.pre t).length) (h0 : Np.pre b ≠ []) (hl : (Np.pre t).length = t.length) : Np.unsig b = some (Np.pre b ++ Np.pad t) ∧ Np.digs t = true := by
  have e := Np.eq_C b h
  have ht : Np.pre t = t := by
    have := Np.pre_suf t
    have hs : Np.suf t = [] := by
      have := congrArg List.length this
      rw [List.length_append] at this
      exact List.length_eq_zero_iff.mp (by omega)
    rw [hs, List.append_nil] at this; exact this.symm
  have htd : Np.digs t = true := by rw [← ht]; exact Np.pre_digs t
  refine ⟨?_, htd⟩
  have hne : t ≠ [] := by rintro rfl; simp [Np.pre] at h1
  have := Np.unsig_pt (Np.pre b) t (Np.pre_digs b) h0 htd hne (by omega)
  rw [← e] at this; exact this

/-- The value's loops. -/
def Np.keep (l : List UInt8) : List UInt8 := l.filter (· != 46)
theorem Np.keep_digs (l : List UInt8) (h : Np.digs l = true) : Np.keep l = l := List.filter_eq_self.mpr (Np.digs_no l h)
theorem Np.keep_C (D t : List UInt8) (hD : Np.digs D = true) (ht : Np.digs t = true) : Np.keep (D ++ 46 :: t) = D ++ t := by
  unfold Np.keep
  rw [List.filter_append, List.filter_cons]
  have h1 := Np.keep_digs D hD
  have h2 := Np.keep_digs t ht
  unfold Np.keep at h1 h2
  rw [h1, if_neg (by simp), h2]
theorem Np.num_rep (l : List UInt8) (k : Nat) : Np.num (l ++ List.replicate (k + 1) 48) = 10 * Np.num (l ++ List.replicate k 48) := by
  rw [List.replicate_succ', ← List.append_assoc, Np.num_snoc]; simp
theorem Np.pad_rep (p : List UInt8) (h : p.length ≤ 3) : Np.pad p = p ++ List.replicate (3 - p.length) 48 := by
  match p, h with
  | [], _ => rfl
  | [a], _ => rfl
  | [a, b], _ => rfl
  | [a, b, c], _ => rfl
  | _ :: _ :: _ :: _ :: _, h => simp at h
end Go.Proofs.YtkoeggjfdcpokaaGreatDoor
namespace Go.Proofs.YtkoeggjfdcpokaaGreatDoor
open Go.RowKit

theorem Np.fin_large {v n : Nat} {f : Bool} (h : Np.Sat4 v n) (hv : ¬ v ≤ 9007199254740992) : Np.fin f n = (0, 2) := by
  unfold Np.fin
  rw [if_pos]
  rcases Nat.lt_or_ge Np.mx n with h' | h'
  · exact h'
  · have := h.2.1 h'; unfold Np.mx at h'; omega
theorem Np.fin_small {v n : Nat} {f : Bool} (h : Np.Sat4 v n) (hv : v ≤ 9007199254740992) : Np.fin f n = (if f then -(v : Int) else (v : Int), 0) := by
  have e : ¬ Np.mx < n := by
    intro h'; have := h.2.2 h'; unfold Np.mx at this; omega
  unfold Np.fin
  rw [if_neg e, h.2.1 (by omega)]
theorem Np.head_of (s : ByteArray) (h : 0 < s.size) : s.data.toList.head? = some (s[0]'h) := by
  have : s.data.toList[0]? = some (s[0]'h) := by
    rw [List.getElem?_eq_getElem (by rw [← Lib.size_eq]; exact h)]; rfl
  rw [← this, List.head?_eq_getElem?]
/-- What the value's loop comes by. -/
def Np.Fits (s : ByteArray) (a : Nat) : Prop := ∀ j (h : j < s.size), a ≤ j → Np.dig (s[j]'h) = true ∨ s[j]'h = 46
theorem Np.part_snoc (s : ByteArray) (a j : Nat) (ha : a ≤ j) (h : j < s.size) : (s.data.toList.take (j + 1)).drop a = (s.data.toList.take j).drop a ++ [s[j]'h] := by
  rw [Np.take_snoc s j h, List.drop_append_of_le_length (by rw [List.length_take, ← Lib.size_eq]; omega)]
theorem Np.keep_dig (s : ByteArray) (a j : Nat) (ha : a ≤ j) (h : j < s.size) (hd : Np.dig (s[j]'h) = true) :
    Np.num (Np.keep ((s.data.toList.take (j + 1)).drop a)) = 10 * Np.num (Np.keep ((s.data.toList.take j).drop a)) + ((s[j]'h).toNat - 48) := by
  rw [Np.part_snoc s a j ha h]
  unfold Np.keep
  rw [List.filter_append, List.filter_cons, if_pos (by simpa using (Np.dig_ne hd).1), List.filter_nil, Np.num_snoc]
theorem Np.keep_dot (s : ByteArray) (a j : Nat) (ha : a ≤ j) (h : j < s.size) (hd : s[j]'h = 46) :
    Np.num (Np.keep ((s.data.toList.take (j + 1)).drop a)) = Np.num (Np.keep ((s.data.toList.take j).drop a)) := by
  rw [Np.part_snoc s a j ha h]
  unfold Np.keep
  rw [List.filter_append, List.filter_cons, if_neg (by simp [hd]), List.filter_nil, List.append_nil]

set_option maxHeartbeats 1600000 in
theorem refParse0_A1 (s : ByteArray) (hs : s.size ≤ 2000000) (w : World) (n : Nat) (hneg : Np.neg s.data.toList = false) (hpos : 0 < s.size) (hrun : Np.runN s.data.toList 0 = n) (hsz : 0 + n = s.size) (hn : n = 0) (hE : Np.ans (Np.parseS s.data.toList) = .returned (.tuple #[.int .i64 0, .int .i64 1])) :
    Calls Tryz.prog 70 #[.string s] w fun e w' => e = Np.ans (Np.parseS s.data.toList) ∧ w = w' := by
  have HE := Lib.hid hE
  have hn0 : ((n : Int) == 0) = true := by rw [hn]; rfl
  have hlt : ¬ ((n : Int) < (s.size : Int)) := by omega
  have hend : ((n : Int) != (s.size : Int)) = false := by simp only [bne_eq_false_iff_eq]; omega
  have hnb : n ≤ 2000000 := by omega
  have Hsz := Lib.hid hsz
  clear hsz
  clear hE hn
  have Hrun := Lib.hid hrun
  have hpos' : (0 : Int) < (s.size : Int) := by omega
  obtain ⟨c0, hc0⟩ : ∃ c, s[0]'hpos = c := ⟨_, rfl⟩
  have h45 : ((c0.toNat : Int) == 45) = false := by
    have h := Np.head_of s hpos
    rw [hc0] at h
    unfold Np.neg at hneg
    rw [h] at hneg
    rw [beq_eq_false_iff_ne]; intro h2; simp only [beq_eq_false_iff_ne, ne_eq, Option.some.injEq] at hneg; exact hneg (UInt8.toNat_inj.mp (by rw [show (45 : UInt8).toNat = 45 from rfl]; omega))
  clear hrun hneg
  go_enter Tryz.func70, Tryz.ntmps70
  go_wp2_with fail
  refine (refRun_at s 0 (by omega) (by omega) _ hs).mono ?_
  rintro e w1 ⟨rfl, rfl⟩
  rw [show (0 : Int).toNat = 0 from rfl, Hrun.out]
  go_wp2_with fail
  go_ret2
  exact ⟨HE.out.symm, rfl⟩

set_option maxHeartbeats 1600000 in
theorem refParse0_A2 (s : ByteArray) (hs : s.size ≤ 2000000) (w : World) (n : Nat) (hneg : Np.neg s.data.toList = false) (hpos : 0 < s.size) (hrun : Np.runN s.data.toList 0 = n) (hsz : 0 + n = s.size) (hn : 1 ≤ n) (DL : List UInt8) (hun : Np.parseS s.data.toList = Np.fin false (Np.num DL)) (hDL : DL = Np.keep (s.data.toList.drop 0) ++ List.replicate (3 - 0) 48) (hF : Np.Fits s 0) :
    Calls Tryz.prog 70 #[.string s] w fun e w' => e = Np.ans (Np.parseS s.data.toList) ∧ w = w' := by
  have HF := Lib.hid hF
  have Hun := Lib.hid hun
  have HDL := Lib.hid hDL
  have hn0 : ((n : Int) == 0) = false := by rw [beq_eq_false_iff_ne]; omega
  have hlt : ¬ ((n : Int) < (s.size : Int)) := by omega
  have hend : ((n : Int) != (s.size : Int)) = false := by simp only [bne_eq_false_iff_eq]; omega
  have hnb : n ≤ 2000000 := by omega
  have Hsz := Lib.hid hsz
  clear hsz
  clear hF hun hDL
  have Hrun := Lib.hid hrun
  have hpos' : (0 : Int) < (s.size : Int) := by omega
  obtain ⟨c0, hc0⟩ : ∃ c, s[0]'hpos = c := ⟨_, rfl⟩
  have h45 : ((c0.toNat : Int) == 45) = false := by
    have h := Np.head_of s hpos
    rw [hc0] at h
    unfold Np.neg at hneg
    rw [h] at hneg
    rw [beq_eq_false_iff_ne]; intro h2; simp only [beq_eq_false_iff_ne, ne_eq, Option.some.injEq] at hneg; exact hneg (UInt8.toNat_inj.mp (by rw [show (45 : UInt8).toNat = 45 from rfl]; omega))
  clear hrun hneg
  go_enter Tryz.func70, Tryz.ntmps70
  go_wp2_with fail
  refine (refRun_at s 0 (by omega) (by omega) _ hs).mono ?_
  rintro e w1 ⟨rfl, rfl⟩
  rw [show (0 : Int).toNat = 0 from rfl, Hrun.out]
  go_wp2_with fail
  go_loop [8, 9] (fun v i => ∃ j vv : Nat, j ≤ s.size ∧ 0 ≤ j ∧ i = .int .i64 j ∧ v = .int .i64 vv ∧ Np.Sat4 vv (Np.num (Np.keep ((s.data.toList.take j).drop 0)))) (fun _ i => s.size - (intOf i).toNat)
  case atStart => exact ⟨0, 0, by omega, Nat.le_refl _, rfl, rfl, by
    have e : (s.data.toList.take 0).drop 0 = [] := by rw [List.drop_take]; simp
    rw [e]; exact Np.sat4_zero⟩
  case round =>
    obtain ⟨j, vv, hj, haj, rfl, rfl, hsat⟩ := hrel
    have hvv := hsat.1
    have Hsat := Lib.hid hsat
    clear hsat
    by_cases hlt : j < s.size
    · obtain ⟨c, hc⟩ : ∃ c, s[j]'hlt = c := ⟨_, rfl⟩
      rcases HF.out j hlt haj with hd | hd
      · have Hk := Lib.hid (Np.keep_dig s 0 j haj hlt hd)
        rw [hc] at hd
        have hbd := Np.dig_bd hd
        have hne : ((c.toNat : Int) != 46) = true := by
          rw [bne_iff_ne]; intro h
          have := (Np.dig_ne hd).1
          exact this (UInt8.toNat_inj.mp (by rw [show (46 : UInt8).toNat = 46 from rfl]; omega))
        have Hc := Lib.hid hc
        clear hd
        go_wp2_with fail
        all_goals
          go_round
          case rel =>
            refine ⟨j + 1, min (10 * vv + (c.toNat - 48)) 36028797018963968, by omega, by omega, by go_num, ?_, ?_⟩
            · congr 1; omega
            · rw [Hk.out, Hc.out]; exact Np.sat4_step Hsat.out rfl
          case measure => simp [intOf]; omega
      · have Hk := Lib.hid (Np.keep_dot s 0 j haj hlt hd)
        rw [hc] at hd
        have hne : ((c.toNat : Int) != 46) = false := by rw [hd]; rfl
        have Hd := Lib.hid hd
        clear hd
        go_wp2_with fail
        go_round
        case rel => exact ⟨j + 1, vv, by omega, by omega, by go_num, rfl, by rw [Hk.out]; exact Hsat.out⟩
        case measure => simp [intOf]; omega
    · have HS0 : Hid (Np.Sat4 vv (Np.num (Np.keep (s.data.toList.drop 0) ++ List.replicate 0 48))) := Lib.hid (by
        have := Hsat.out
        rw [List.take_of_length_le (by rw [← Lib.size_eq]; omega)] at this
        simpa using this)
      clear Hsat
      go_wp2_with fail
      go_loop [8, 10] (fun v i => ∃ k vf : Nat, 0 + k ≤ 3 ∧ i = .int .i64 ((0 + k : Nat) : Int) ∧ v = .int .i64 vf ∧ Np.Sat4 vf (Np.num (Np.keep (s.data.toList.drop 0) ++ List.replicate k 48))) (fun _ i => 3 - (intOf i).toNat)
      case atStart => exact ⟨0, vv, by omega, by first | rfl | go_num, rfl, HS0.out⟩
      case round =>
        obtain ⟨k, vf, hk, rfl, rfl, hsat⟩ := hrel
        have hvf := hsat.1
        have Hsat := Lib.hid hsat
        clear hsat
        by_cases hk3 : 0 + k < 3
        · have Hr := Lib.hid (Np.num_rep (Np.keep (s.data.toList.drop 0)) k)
          go_wp2_with fail
          all_goals
            go_round
            case rel =>
              refine ⟨k + 1, min (10 * vf + 0) 36028797018963968, by omega, by go_num, ?_, ?_⟩
              · congr 1; omega
              · rw [Hr.out]; exact Np.sat4_step Hsat.out rfl
            case measure => simp [intOf]; omega
        · have HS1 : Hid (Np.Sat4 vf (Np.num DL)) := Lib.hid (by
            have := Hsat.out
            rw [show k = 3 - 0 by omega, ← HDL.out] at this
            exact this)
          clear Hsat
          by_cases hvm : vf ≤ 9007199254740992
          · have HE : Hid (Np.ans (Np.parseS s.data.toList) = .returned (.tuple #[.int .i64 (vf : Int), .int .i64 0])) := Lib.hid (by
              rw [Hun.out, Np.fin_small HS1.out hvm]; rfl)
            go_wp2_with fail
            go_ret2
            exact ⟨HE.out.symm, rfl⟩
          · have HE : Hid (Np.ans (Np.parseS s.data.toList) = .returned (.tuple #[.int .i64 0, .int .i64 2])) := Lib.hid (by
              rw [Hun.out, Np.fin_large HS1.out hvm]; rfl)
            go_wp2_with fail
            go_ret2
            exact ⟨HE.out.symm, rfl⟩

set_option maxHeartbeats 1600000 in
theorem refParse0_B0 (s : ByteArray) (hs : s.size ≤ 2000000) (w : World) (n : Nat) (hneg : Np.neg s.data.toList = false) (hpos : 0 < s.size) (hrun : Np.runN s.data.toList 0 = n) (c : UInt8) (hlt : n < s.size) (hc : s[n]'hlt = c) (h46' : ¬ c = 46) (hn : n = 0) (hE : Np.ans (Np.parseS s.data.toList) = .returned (.tuple #[.int .i64 0, .int .i64 1])) :
    Calls Tryz.prog 70 #[.string s] w fun e w' => e = Np.ans (Np.parseS s.data.toList) ∧ w = w' := by
  have HE := Lib.hid hE
  have hltz : (n : Int) < (s.size : Int) := by omega
  have hend : ((n : Int) != (s.size : Int)) = true := by rw [bne_iff_ne]; omega
  have hnb : n ≤ 2000000 := by omega
  have h46 : ((c.toNat : Int) == 46) = false := by
    rw [beq_eq_false_iff_ne]; intro h2
    exact h46' (UInt8.toNat_inj.mp (by rw [show (46 : UInt8).toNat = 46 from rfl]; omega))
  have hn0 : ((n : Int) == 0) = true := by rw [hn]; rfl
  clear hn
  clear hE h46'
  have Hrun := Lib.hid hrun
  have hpos' : (0 : Int) < (s.size : Int) := by omega
  obtain ⟨c0, hc0⟩ : ∃ c, s[0]'hpos = c := ⟨_, rfl⟩
  have h45 : ((c0.toNat : Int) == 45) = false := by
    have h := Np.head_of s hpos
    rw [hc0] at h
    unfold Np.neg at hneg
    rw [h] at hneg
    rw [beq_eq_false_iff_ne]; intro h2; simp only [beq_eq_false_iff_ne, ne_eq, Option.some.injEq] at hneg; exact hneg (UInt8.toNat_inj.mp (by rw [show (45 : UInt8).toNat = 45 from rfl]; omega))
  clear hrun hneg
  go_enter Tryz.func70, Tryz.ntmps70
  go_wp2_with fail
  refine (refRun_at s 0 (by omega) (by omega) _ hs).mono ?_
  rintro e w1 ⟨rfl, rfl⟩
  rw [show (0 : Int).toNat = 0 from rfl, Hrun.out]
  go_wp2_with fail
  go_ret2
  exact ⟨HE.out.symm, rfl⟩

set_option maxHeartbeats 1600000 in
theorem refParse0_B1 (s : ByteArray) (hs : s.size ≤ 2000000) (w : World) (n : Nat) (hneg : Np.neg s.data.toList = false) (hpos : 0 < s.size) (hrun : Np.runN s.data.toList 0 = n) (c : UInt8) (hlt : n < s.size) (hc : s[n]'hlt = c) (h46' : ¬ c = 46) (hn : 1 ≤ n) (hE : Np.ans (Np.parseS s.data.toList) = .returned (.tuple #[.int .i64 0, .int .i64 1])) :
    Calls Tryz.prog 70 #[.string s] w fun e w' => e = Np.ans (Np.parseS s.data.toList) ∧ w = w' := by
  have HE := Lib.hid hE
  have hltz : (n : Int) < (s.size : Int) := by omega
  have hend : ((n : Int) != (s.size : Int)) = true := by rw [bne_iff_ne]; omega
  have hnb : n ≤ 2000000 := by omega
  have h46 : ((c.toNat : Int) == 46) = false := by
    rw [beq_eq_false_iff_ne]; intro h2
    exact h46' (UInt8.toNat_inj.mp (by rw [show (46 : UInt8).toNat = 46 from rfl]; omega))
  have hn0 : ((n : Int) == 0) = false := by rw [beq_eq_false_iff_ne]; omega
  clear hE h46'
  have Hrun := Lib.hid hrun
  have hpos' : (0 : Int) < (s.size : Int) := by omega
  obtain ⟨c0, hc0⟩ : ∃ c, s[0]'hpos = c := ⟨_, rfl⟩
  have h45 : ((c0.toNat : Int) == 45) = false := by
    have h := Np.head_of s hpos
    rw [hc0] at h
    unfold Np.neg at hneg
    rw [h] at hneg
    rw [beq_eq_false_iff_ne]; intro h2; simp only [beq_eq_false_iff_ne, ne_eq, Option.some.injEq] at hneg; exact hneg (UInt8.toNat_inj.mp (by rw [show (45 : UInt8).toNat = 45 from rfl]; omega))
  clear hrun hneg
  go_enter Tryz.func70, Tryz.ntmps70
  go_wp2_with fail
  refine (refRun_at s 0 (by omega) (by omega) _ hs).mono ?_
  rintro e w1 ⟨rfl, rfl⟩
  rw [show (0 : Int).toNat = 0 from rfl, Hrun.out]
  go_wp2_with fail
  go_ret2
  exact ⟨HE.out.symm, rfl⟩

set_option maxHeartbeats 1600000 in
theorem refParse0_C1 (s : ByteArray) (hs : s.size ≤ 2000000) (w : World) (n : Nat) (hneg : Np.neg s.data.toList = false) (hpos : 0 < s.size) (hrun : Np.runN s.data.toList 0 = n) (c : UInt8) (hlt : n < s.size) (hc : s[n]'hlt = c) (h46' : c = 46) (m : Nat) (hm : m ≤ 2000000) (hrun2 : Np.runN s.data.toList (n + 1) = m) (h1 : m < 1) (hE : Np.ans (Np.parseS s.data.toList) = .returned (.tuple #[.int .i64 0, .int .i64 1])) :
    Calls Tryz.prog 70 #[.string s] w fun e w' => e = Np.ans (Np.parseS s.data.toList) ∧ w = w' := by
  have HE := Lib.hid hE
  have hltz : (n : Int) < (s.size : Int) := by omega
  have hnb : n ≤ 2000000 := by omega
  have Hrun2 := Lib.hid hrun2
  have h46 : ((c.toNat : Int) == 46) = true := by rw [h46']; rfl
  have h1z : (m : Int) < 1 := by omega
  clear hE h46' hrun2
  have Hrun := Lib.hid hrun
  have hpos' : (0 : Int) < (s.size : Int) := by omega
  obtain ⟨c0, hc0⟩ : ∃ c, s[0]'hpos = c := ⟨_, rfl⟩
  have h45 : ((c0.toNat : Int) == 45) = false := by
    have h := Np.head_of s hpos
    rw [hc0] at h
    unfold Np.neg at hneg
    rw [h] at hneg
    rw [beq_eq_false_iff_ne]; intro h2; simp only [beq_eq_false_iff_ne, ne_eq, Option.some.injEq] at hneg; exact hneg (UInt8.toNat_inj.mp (by rw [show (45 : UInt8).toNat = 45 from rfl]; omega))
  clear hrun hneg
  go_enter Tryz.func70, Tryz.ntmps70
  go_wp2_with fail
  refine (refRun_at s 0 (by omega) (by omega) _ hs).mono ?_
  rintro e w1 ⟨rfl, rfl⟩
  rw [show (0 : Int).toNat = 0 from rfl, Hrun.out]
  go_wp2_with fail
  refine (refRun_at s _ (by omega) (by omega) _ hs).mono ?_
  rintro e w1 ⟨rfl, rfl⟩
  rw [show ((n : Int) + 1).toNat = n + 1 by omega, Hrun2.out]
  go_wp2_with fail
  go_ret2
  exact ⟨HE.out.symm, rfl⟩

set_option maxHeartbeats 1600000 in
theorem refParse0_C2 (s : ByteArray) (hs : s.size ≤ 2000000) (w : World) (n : Nat) (hneg : Np.neg s.data.toList = false) (hpos : 0 < s.size) (hrun : Np.runN s.data.toList 0 = n) (c : UInt8) (hlt : n < s.size) (hc : s[n]'hlt = c) (h46' : c = 46) (m : Nat) (hm : m ≤ 2000000) (hrun2 : Np.runN s.data.toList (n + 1) = m) (h1 : ¬ m < 1) (h3 : 3 < m) (hE : Np.ans (Np.parseS s.data.toList) = .returned (.tuple #[.int .i64 0, .int .i64 1])) :
    Calls Tryz.prog 70 #[.string s] w fun e w' => e = Np.ans (Np.parseS s.data.toList) ∧ w = w' := by
  have HE := Lib.hid hE
  have hltz : (n : Int) < (s.size : Int) := by omega
  have hnb : n ≤ 2000000 := by omega
  have Hrun2 := Lib.hid hrun2
  have h46 : ((c.toNat : Int) == 46) = true := by rw [h46']; rfl
  have h1z : ¬ (m : Int) < 1 := by omega
  have h3z : 3 < (m : Int) := by omega
  clear hE h46' hrun2
  have Hrun := Lib.hid hrun
  have hpos' : (0 : Int) < (s.size : Int) := by omega
  obtain ⟨c0, hc0⟩ : ∃ c, s[0]'hpos = c := ⟨_, rfl⟩
  have h45 : ((c0.toNat : Int) == 45) = false := by
    have h := Np.head_of s hpos
    rw [hc0] at h
    unfold Np.neg at hneg
    rw [h] at hneg
    rw [beq_eq_false_iff_ne]; intro h2; simp only [beq_eq_false_iff_ne, ne_eq, Option.some.injEq] at hneg; exact hneg (UInt8.toNat_inj.mp (by rw [show (45 : UInt8).toNat = 45 from rfl]; omega))
  clear hrun hneg
  go_enter Tryz.func70, Tryz.ntmps70
  go_wp2_with fail
  refine (refRun_at s 0 (by omega) (by omega) _ hs).mono ?_
  rintro e w1 ⟨rfl, rfl⟩
  rw [show (0 : Int).toNat = 0 from rfl, Hrun.out]
  go_wp2_with fail
  refine (refRun_at s _ (by omega) (by omega) _ hs).mono ?_
  rintro e w1 ⟨rfl, rfl⟩
  rw [show ((n : Int) + 1).toNat = n + 1 by omega, Hrun2.out]
  go_wp2_with fail
  go_ret2
  exact ⟨HE.out.symm, rfl⟩

set_option maxHeartbeats 1600000 in
theorem refParse0_C3a (s : ByteArray) (hs : s.size ≤ 2000000) (w : World) (n : Nat) (hneg : Np.neg s.data.toList = false) (hpos : 0 < s.size) (hrun : Np.runN s.data.toList 0 = n) (c : UInt8) (hlt : n < s.size) (hc : s[n]'hlt = c) (h46' : c = 46) (m : Nat) (hm : m ≤ 2000000) (hrun2 : Np.runN s.data.toList (n + 1) = m) (h1 : ¬ m < 1) (h3 : ¬ 3 < m) (hn : n = 0) (hE : Np.ans (Np.parseS s.data.toList) = .returned (.tuple #[.int .i64 0, .int .i64 1])) :
    Calls Tryz.prog 70 #[.string s] w fun e w' => e = Np.ans (Np.parseS s.data.toList) ∧ w = w' := by
  have HE := Lib.hid hE
  have hltz : (n : Int) < (s.size : Int) := by omega
  have hnb : n ≤ 2000000 := by omega
  have Hrun2 := Lib.hid hrun2
  have h46 : ((c.toNat : Int) == 46) = true := by rw [h46']; rfl
  have h1z : ¬ (m : Int) < 1 := by omega
  have h3z : ¬ 3 < (m : Int) := by omega
  have hn0 : ((n : Int) == 0) = true := by rw [hn]; rfl
  clear hE h46' hrun2 hn
  have Hrun := Lib.hid hrun
  have hpos' : (0 : Int) < (s.size : Int) := by omega
  obtain ⟨c0, hc0⟩ : ∃ c, s[0]'hpos = c := ⟨_, rfl⟩
  have h45 : ((c0.toNat : Int) == 45) = false := by
    have h := Np.head_of s hpos
    rw [hc0] at h
    unfold Np.neg at hneg
    rw [h] at hneg
    rw [beq_eq_false_iff_ne]; intro h2; simp only [beq_eq_false_iff_ne, ne_eq, Option.some.injEq] at hneg; exact hneg (UInt8.toNat_inj.mp (by rw [show (45 : UInt8).toNat = 45 from rfl]; omega))
  clear hrun hneg
  go_enter Tryz.func70, Tryz.ntmps70
  go_wp2_with fail
  refine (refRun_at s 0 (by omega) (by omega) _ hs).mono ?_
  rintro e w1 ⟨rfl, rfl⟩
  rw [show (0 : Int).toNat = 0 from rfl, Hrun.out]
  go_wp2_with fail
  refine (refRun_at s _ (by omega) (by omega) _ hs).mono ?_
  rintro e w1 ⟨rfl, rfl⟩
  rw [show ((n : Int) + 1).toNat = n + 1 by omega, Hrun2.out]
  go_wp2_with fail
  go_ret2
  exact ⟨HE.out.symm, rfl⟩

set_option maxHeartbeats 1600000 in
theorem refParse0_C3b (s : ByteArray) (hs : s.size ≤ 2000000) (w : World) (n : Nat) (hneg : Np.neg s.data.toList = false) (hpos : 0 < s.size) (hrun : Np.runN s.data.toList 0 = n) (c : UInt8) (hlt : n < s.size) (hc : s[n]'hlt = c) (h46' : c = 46) (m : Nat) (hm : m ≤ 2000000) (hrun2 : Np.runN s.data.toList (n + 1) = m) (h1 : ¬ m < 1) (h3 : ¬ 3 < m) (hn : 1 ≤ n) (hne : n + 1 + m ≠ s.size) (hE : Np.ans (Np.parseS s.data.toList) = .returned (.tuple #[.int .i64 0, .int .i64 1])) :
    Calls Tryz.prog 70 #[.string s] w fun e w' => e = Np.ans (Np.parseS s.data.toList) ∧ w = w' := by
  have HE := Lib.hid hE
  have hltz : (n : Int) < (s.size : Int) := by omega
  have hnb : n ≤ 2000000 := by omega
  have Hrun2 := Lib.hid hrun2
  have h46 : ((c.toNat : Int) == 46) = true := by rw [h46']; rfl
  have h1z : ¬ (m : Int) < 1 := by omega
  have h3z : ¬ 3 < (m : Int) := by omega
  have hn0 : ((n : Int) == 0) = false := by rw [beq_eq_false_iff_ne]; omega
  have hend : ((n : Int) + 1 + (m : Int) != (s.size : Int)) = true := by rw [bne_iff_ne]; omega
  clear hE h46' hrun2
  have Hrun := Lib.hid hrun
  have hpos' : (0 : Int) < (s.size : Int) := by omega
  obtain ⟨c0, hc0⟩ : ∃ c, s[0]'hpos = c := ⟨_, rfl⟩
  have h45 : ((c0.toNat : Int) == 45) = false := by
    have h := Np.head_of s hpos
    rw [hc0] at h
    unfold Np.neg at hneg
    rw [h] at hneg
    rw [beq_eq_false_iff_ne]; intro h2; simp only [beq_eq_false_iff_ne, ne_eq, Option.some.injEq] at hneg; exact hneg (UInt8.toNat_inj.mp (by rw [show (45 : UInt8).toNat = 45 from rfl]; omega))
  clear hrun hneg
  go_enter Tryz.func70, Tryz.ntmps70
  go_wp2_with fail
  refine (refRun_at s 0 (by omega) (by omega) _ hs).mono ?_
  rintro e w1 ⟨rfl, rfl⟩
  rw [show (0 : Int).toNat = 0 from rfl, Hrun.out]
  go_wp2_with fail
  refine (refRun_at s _ (by omega) (by omega) _ hs).mono ?_
  rintro e w1 ⟨rfl, rfl⟩
  rw [show ((n : Int) + 1).toNat = n + 1 by omega, Hrun2.out]
  go_wp2_with fail
  go_ret2
  exact ⟨HE.out.symm, rfl⟩

set_option maxHeartbeats 1600000 in
theorem refParse0_C3c (s : ByteArray) (hs : s.size ≤ 2000000) (w : World) (n : Nat) (hneg : Np.neg s.data.toList = false) (hpos : 0 < s.size) (hrun : Np.runN s.data.toList 0 = n) (c : UInt8) (hlt : n < s.size) (hc : s[n]'hlt = c) (h46' : c = 46) (m : Nat) (hm : m ≤ 2000000) (hrun2 : Np.runN s.data.toList (n + 1) = m) (h1 : ¬ m < 1) (h3 : ¬ 3 < m) (hn : 1 ≤ n) (hee : n + 1 + m = s.size) (DL : List UInt8) (hun : Np.parseS s.data.toList = Np.fin false (Np.num DL)) (hDL : DL = Np.keep (s.data.toList.drop 0) ++ List.replicate (3 - m) 48) (hF : Np.Fits s 0) :
    Calls Tryz.prog 70 #[.string s] w fun e w' => e = Np.ans (Np.parseS s.data.toList) ∧ w = w' := by
  have HF := Lib.hid hF
  have Hun := Lib.hid hun
  have HDL := Lib.hid hDL
  have hltz : (n : Int) < (s.size : Int) := by omega
  have hnb : n ≤ 2000000 := by omega
  have Hrun2 := Lib.hid hrun2
  have h46 : ((c.toNat : Int) == 46) = true := by rw [h46']; rfl
  have h1z : ¬ (m : Int) < 1 := by omega
  have h3z : ¬ 3 < (m : Int) := by omega
  have hn0 : ((n : Int) == 0) = false := by rw [beq_eq_false_iff_ne]; omega
  have hend : ((n : Int) + 1 + (m : Int) != (s.size : Int)) = false := by simp only [bne_eq_false_iff_eq]; omega
  have Hee := Lib.hid hee
  clear h46' hrun2 hee hF hun hDL
  have Hrun := Lib.hid hrun
  have hpos' : (0 : Int) < (s.size : Int) := by omega
  obtain ⟨c0, hc0⟩ : ∃ c, s[0]'hpos = c := ⟨_, rfl⟩
  have h45 : ((c0.toNat : Int) == 45) = false := by
    have h := Np.head_of s hpos
    rw [hc0] at h
    unfold Np.neg at hneg
    rw [h] at hneg
    rw [beq_eq_false_iff_ne]; intro h2; simp only [beq_eq_false_iff_ne, ne_eq, Option.some.injEq] at hneg; exact hneg (UInt8.toNat_inj.mp (by rw [show (45 : UInt8).toNat = 45 from rfl]; omega))
  clear hrun hneg
  go_enter Tryz.func70, Tryz.ntmps70
  go_wp2_with fail
  refine (refRun_at s 0 (by omega) (by omega) _ hs).mono ?_
  rintro e w1 ⟨rfl, rfl⟩
  rw [show (0 : Int).toNat = 0 from rfl, Hrun.out]
  go_wp2_with fail
  refine (refRun_at s _ (by omega) (by omega) _ hs).mono ?_
  rintro e w1 ⟨rfl, rfl⟩
  rw [show ((n : Int) + 1).toNat = n + 1 by omega, Hrun2.out]
  go_wp2_with fail
  go_loop [8, 9] (fun v i => ∃ j vv : Nat, j ≤ s.size ∧ 0 ≤ j ∧ i = .int .i64 j ∧ v = .int .i64 vv ∧ Np.Sat4 vv (Np.num (Np.keep ((s.data.toList.take j).drop 0)))) (fun _ i => s.size - (intOf i).toNat)
  case atStart => exact ⟨0, 0, by omega, Nat.le_refl _, rfl, rfl, by
    have e : (s.data.toList.take 0).drop 0 = [] := by rw [List.drop_take]; simp
    rw [e]; exact Np.sat4_zero⟩
  case round =>
    obtain ⟨j, vv, hj, haj, rfl, rfl, hsat⟩ := hrel
    have hvv := hsat.1
    have Hsat := Lib.hid hsat
    clear hsat
    by_cases hlt : j < s.size
    · obtain ⟨c, hc⟩ : ∃ c, s[j]'hlt = c := ⟨_, rfl⟩
      rcases HF.out j hlt haj with hd | hd
      · have Hk := Lib.hid (Np.keep_dig s 0 j haj hlt hd)
        rw [hc] at hd
        have hbd := Np.dig_bd hd
        have hne : ((c.toNat : Int) != 46) = true := by
          rw [bne_iff_ne]; intro h
          have := (Np.dig_ne hd).1
          exact this (UInt8.toNat_inj.mp (by rw [show (46 : UInt8).toNat = 46 from rfl]; omega))
        have Hc := Lib.hid hc
        clear hd
        go_wp2_with fail
        all_goals
          go_round
          case rel =>
            refine ⟨j + 1, min (10 * vv + (c.toNat - 48)) 36028797018963968, by omega, by omega, by go_num, ?_, ?_⟩
            · congr 1; omega
            · rw [Hk.out, Hc.out]; exact Np.sat4_step Hsat.out rfl
          case measure => simp [intOf]; omega
      · have Hk := Lib.hid (Np.keep_dot s 0 j haj hlt hd)
        rw [hc] at hd
        have hne : ((c.toNat : Int) != 46) = false := by rw [hd]; rfl
        have Hd := Lib.hid hd
        clear hd
        go_wp2_with fail
        go_round
        case rel => exact ⟨j + 1, vv, by omega, by omega, by go_num, rfl, by rw [Hk.out]; exact Hsat.out⟩
        case measure => simp [intOf]; omega
    · have HS0 : Hid (Np.Sat4 vv (Np.num (Np.keep (s.data.toList.drop 0) ++ List.replicate 0 48))) := Lib.hid (by
        have := Hsat.out
        rw [List.take_of_length_le (by rw [← Lib.size_eq]; omega)] at this
        simpa using this)
      clear Hsat
      go_wp2_with fail
      go_loop [8, 10] (fun v i => ∃ k vf : Nat, m + k ≤ 3 ∧ i = .int .i64 ((m + k : Nat) : Int) ∧ v = .int .i64 vf ∧ Np.Sat4 vf (Np.num (Np.keep (s.data.toList.drop 0) ++ List.replicate k 48))) (fun _ i => 3 - (intOf i).toNat)
      case atStart => exact ⟨0, vv, by omega, by first | rfl | go_num, rfl, HS0.out⟩
      case round =>
        obtain ⟨k, vf, hk, rfl, rfl, hsat⟩ := hrel
        have hvf := hsat.1
        have Hsat := Lib.hid hsat
        clear hsat
        by_cases hk3 : m + k < 3
        · have Hr := Lib.hid (Np.num_rep (Np.keep (s.data.toList.drop 0)) k)
          go_wp2_with fail
          all_goals
            go_round
            case rel =>
              refine ⟨k + 1, min (10 * vf + 0) 36028797018963968, by omega, by go_num, ?_, ?_⟩
              · congr 1; omega
              · rw [Hr.out]; exact Np.sat4_step Hsat.out rfl
            case measure => simp [intOf]; omega
        · have HS1 : Hid (Np.Sat4 vf (Np.num DL)) := Lib.hid (by
            have := Hsat.out
            rw [show k = 3 - m by omega, ← HDL.out] at this
            exact this)
          clear Hsat
          by_cases hvm : vf ≤ 9007199254740992
          · have HE : Hid (Np.ans (Np.parseS s.data.toList) = .returned (.tuple #[.int .i64 (vf : Int), .int .i64 0])) := Lib.hid (by
              rw [Hun.out, Np.fin_small HS1.out hvm]; rfl)
            go_wp2_with fail
            go_ret2
            exact ⟨HE.out.symm, rfl⟩
          · have HE : Hid (Np.ans (Np.parseS s.data.toList) = .returned (.tuple #[.int .i64 0, .int .i64 2])) := Lib.hid (by
              rw [Hun.out, Np.fin_large HS1.out hvm]; rfl)
            go_wp2_with fail
            go_ret2
            exact ⟨HE.out.symm, rfl⟩

set_option maxHeartbeats 1600000 in
theorem refParse1_A1 (s : ByteArray) (hs : s.size ≤ 2000000) (w : World) (n : Nat) (hneg : Np.neg s.data.toList = true) (hpos : 0 < s.size) (hrun : Np.runN s.data.toList 1 = n) (hsz : 1 + n = s.size) (hn : n = 0) (hE : Np.ans (Np.parseS s.data.toList) = .returned (.tuple #[.int .i64 0, .int .i64 1])) :
    Calls Tryz.prog 70 #[.string s] w fun e w' => e = Np.ans (Np.parseS s.data.toList) ∧ w = w' := by
  have HE := Lib.hid hE
  have hn0 : ((n : Int) == 0) = true := by rw [hn]; rfl
  have hlt : ¬ (1 + (n : Int) < (s.size : Int)) := by omega
  have hend : (1 + (n : Int) != (s.size : Int)) = false := by simp only [bne_eq_false_iff_eq]; omega
  have hnb : n ≤ 2000000 := by omega
  have Hsz := Lib.hid hsz
  clear hsz
  clear hE hn
  have Hrun := Lib.hid hrun
  have hpos' : (0 : Int) < (s.size : Int) := by omega
  obtain ⟨c0, hc0⟩ : ∃ c, s[0]'hpos = c := ⟨_, rfl⟩
  have h45 : ((c0.toNat : Int) == 45) = true := by
    have h := Np.head_of s hpos
    rw [hc0] at h
    unfold Np.neg at hneg
    rw [h] at hneg
    simp only [beq_iff_eq, Option.some.injEq] at hneg; rw [hneg]; rfl
  clear hrun hneg
  go_enter Tryz.func70, Tryz.ntmps70
  go_wp2_with fail
  refine (refRun_at s 1 (by omega) (by omega) _ hs).mono ?_
  rintro e w1 ⟨rfl, rfl⟩
  rw [show (1 : Int).toNat = 1 from rfl, Hrun.out]
  go_wp2_with fail
  go_ret2
  exact ⟨HE.out.symm, rfl⟩

set_option maxHeartbeats 1600000 in
theorem refParse1_A2 (s : ByteArray) (hs : s.size ≤ 2000000) (w : World) (n : Nat) (hneg : Np.neg s.data.toList = true) (hpos : 0 < s.size) (hrun : Np.runN s.data.toList 1 = n) (hsz : 1 + n = s.size) (hn : 1 ≤ n) (DL : List UInt8) (hun : Np.parseS s.data.toList = Np.fin true (Np.num DL)) (hDL : DL = Np.keep (s.data.toList.drop 1) ++ List.replicate (3 - 0) 48) (hF : Np.Fits s 1) :
    Calls Tryz.prog 70 #[.string s] w fun e w' => e = Np.ans (Np.parseS s.data.toList) ∧ w = w' := by
  have HF := Lib.hid hF
  have Hun := Lib.hid hun
  have HDL := Lib.hid hDL
  have hn0 : ((n : Int) == 0) = false := by rw [beq_eq_false_iff_ne]; omega
  have hlt : ¬ (1 + (n : Int) < (s.size : Int)) := by omega
  have hend : (1 + (n : Int) != (s.size : Int)) = false := by simp only [bne_eq_false_iff_eq]; omega
  have hnb : n ≤ 2000000 := by omega
  have Hsz := Lib.hid hsz
  clear hsz
  clear hF hun hDL
  have Hrun := Lib.hid hrun
  have hpos' : (0 : Int) < (s.size : Int) := by omega
  obtain ⟨c0, hc0⟩ : ∃ c, s[0]'hpos = c := ⟨_, rfl⟩
  have h45 : ((c0.toNat : Int) == 45) = true := by
    have h := Np.head_of s hpos
    rw [hc0] at h
    unfold Np.neg at hneg
    rw [h] at hneg
    simp only [beq_iff_eq, Option.some.injEq] at hneg; rw [hneg]; rfl
  clear hrun hneg
  go_enter Tryz.func70, Tryz.ntmps70
  go_wp2_with fail
  refine (refRun_at s 1 (by omega) (by omega) _ hs).mono ?_
  rintro e w1 ⟨rfl, rfl⟩
  rw [show (1 : Int).toNat = 1 from rfl, Hrun.out]
  go_wp2_with fail
  go_loop [8, 9] (fun v i => ∃ j vv : Nat, j ≤ s.size ∧ 1 ≤ j ∧ i = .int .i64 j ∧ v = .int .i64 vv ∧ Np.Sat4 vv (Np.num (Np.keep ((s.data.toList.take j).drop 1)))) (fun _ i => s.size - (intOf i).toNat)
  case atStart => exact ⟨1, 0, by omega, Nat.le_refl _, rfl, rfl, by
    have e : (s.data.toList.take 1).drop 1 = [] := by rw [List.drop_take]; simp
    rw [e]; exact Np.sat4_zero⟩
  case round =>
    obtain ⟨j, vv, hj, haj, rfl, rfl, hsat⟩ := hrel
    have hvv := hsat.1
    have Hsat := Lib.hid hsat
    clear hsat
    by_cases hlt : j < s.size
    · obtain ⟨c, hc⟩ : ∃ c, s[j]'hlt = c := ⟨_, rfl⟩
      rcases HF.out j hlt haj with hd | hd
      · have Hk := Lib.hid (Np.keep_dig s 1 j haj hlt hd)
        rw [hc] at hd
        have hbd := Np.dig_bd hd
        have hne : ((c.toNat : Int) != 46) = true := by
          rw [bne_iff_ne]; intro h
          have := (Np.dig_ne hd).1
          exact this (UInt8.toNat_inj.mp (by rw [show (46 : UInt8).toNat = 46 from rfl]; omega))
        have Hc := Lib.hid hc
        clear hd
        go_wp2_with fail
        all_goals
          go_round
          case rel =>
            refine ⟨j + 1, min (10 * vv + (c.toNat - 48)) 36028797018963968, by omega, by omega, by go_num, ?_, ?_⟩
            · congr 1; omega
            · rw [Hk.out, Hc.out]; exact Np.sat4_step Hsat.out rfl
          case measure => simp [intOf]; omega
      · have Hk := Lib.hid (Np.keep_dot s 1 j haj hlt hd)
        rw [hc] at hd
        have hne : ((c.toNat : Int) != 46) = false := by rw [hd]; rfl
        have Hd := Lib.hid hd
        clear hd
        go_wp2_with fail
        go_round
        case rel => exact ⟨j + 1, vv, by omega, by omega, by go_num, rfl, by rw [Hk.out]; exact Hsat.out⟩
        case measure => simp [intOf]; omega
    · have HS0 : Hid (Np.Sat4 vv (Np.num (Np.keep (s.data.toList.drop 1) ++ List.replicate 0 48))) := Lib.hid (by
        have := Hsat.out
        rw [List.take_of_length_le (by rw [← Lib.size_eq]; omega)] at this
        simpa using this)
      clear Hsat
      go_wp2_with fail
      go_loop [8, 10] (fun v i => ∃ k vf : Nat, 0 + k ≤ 3 ∧ i = .int .i64 ((0 + k : Nat) : Int) ∧ v = .int .i64 vf ∧ Np.Sat4 vf (Np.num (Np.keep (s.data.toList.drop 1) ++ List.replicate k 48))) (fun _ i => 3 - (intOf i).toNat)
      case atStart => exact ⟨0, vv, by omega, by first | rfl | go_num, rfl, HS0.out⟩
      case round =>
        obtain ⟨k, vf, hk, rfl, rfl, hsat⟩ := hrel
        have hvf := hsat.1
        have Hsat := Lib.hid hsat
        clear hsat
        by_cases hk3 : 0 + k < 3
        · have Hr := Lib.hid (Np.num_rep (Np.keep (s.data.toList.drop 1)) k)
          go_wp2_with fail
          all_goals
            go_round
            case rel =>
              refine ⟨k + 1, min (10 * vf + 0) 36028797018963968, by omega, by go_num, ?_, ?_⟩
              · congr 1; omega
              · rw [Hr.out]; exact Np.sat4_step Hsat.out rfl
            case measure => simp [intOf]; omega
        · have HS1 : Hid (Np.Sat4 vf (Np.num DL)) := Lib.hid (by
            have := Hsat.out
            rw [show k = 3 - 0 by omega, ← HDL.out] at this
            exact this)
          clear Hsat
          by_cases hvm : vf ≤ 9007199254740992
          · have HE : Hid (Np.ans (Np.parseS s.data.toList) = .returned (.tuple #[.int .i64 (-(vf : Int)), .int .i64 0])) := Lib.hid (by
              rw [Hun.out, Np.fin_small HS1.out hvm]; rfl)
            go_wp2_with fail
            go_ret2
            exact ⟨HE.out.symm, rfl⟩
          · have HE : Hid (Np.ans (Np.parseS s.data.toList) = .returned (.tuple #[.int .i64 0, .int .i64 2])) := Lib.hid (by
              rw [Hun.out, Np.fin_large HS1.out hvm]; rfl)
            go_wp2_with fail
            go_ret2
            exact ⟨HE.out.symm, rfl⟩

set_option maxHeartbeats 1600000 in
theorem refParse1_B0 (s : ByteArray) (hs : s.size ≤ 2000000) (w : World) (n : Nat) (hneg : Np.neg s.data.toList = true) (hpos : 0 < s.size) (hrun : Np.runN s.data.toList 1 = n) (c : UInt8) (hlt : 1 + n < s.size) (hc : s[1 + n]'hlt = c) (h46' : ¬ c = 46) (hn : n = 0) (hE : Np.ans (Np.parseS s.data.toList) = .returned (.tuple #[.int .i64 0, .int .i64 1])) :
    Calls Tryz.prog 70 #[.string s] w fun e w' => e = Np.ans (Np.parseS s.data.toList) ∧ w = w' := by
  have HE := Lib.hid hE
  have hltz : 1 + (n : Int) < (s.size : Int) := by omega
  have hend : (1 + (n : Int) != (s.size : Int)) = true := by rw [bne_iff_ne]; omega
  have hnb : n ≤ 2000000 := by omega
  have h46 : ((c.toNat : Int) == 46) = false := by
    rw [beq_eq_false_iff_ne]; intro h2
    exact h46' (UInt8.toNat_inj.mp (by rw [show (46 : UInt8).toNat = 46 from rfl]; omega))
  have hn0 : ((n : Int) == 0) = true := by rw [hn]; rfl
  clear hn
  clear hE h46'
  have Hrun := Lib.hid hrun
  have hpos' : (0 : Int) < (s.size : Int) := by omega
  obtain ⟨c0, hc0⟩ : ∃ c, s[0]'hpos = c := ⟨_, rfl⟩
  have h45 : ((c0.toNat : Int) == 45) = true := by
    have h := Np.head_of s hpos
    rw [hc0] at h
    unfold Np.neg at hneg
    rw [h] at hneg
    simp only [beq_iff_eq, Option.some.injEq] at hneg; rw [hneg]; rfl
  clear hrun hneg
  go_enter Tryz.func70, Tryz.ntmps70
  go_wp2_with fail
  refine (refRun_at s 1 (by omega) (by omega) _ hs).mono ?_
  rintro e w1 ⟨rfl, rfl⟩
  rw [show (1 : Int).toNat = 1 from rfl, Hrun.out]
  go_wp2_with fail
  go_ret2
  exact ⟨HE.out.symm, rfl⟩

set_option maxHeartbeats 1600000 in
theorem refParse1_B1 (s : ByteArray) (hs : s.size ≤ 2000000) (w : World) (n : Nat) (hneg : Np.neg s.data.toList = true) (hpos : 0 < s.size) (hrun : Np.runN s.data.toList 1 = n) (c : UInt8) (hlt : 1 + n < s.size) (hc : s[1 + n]'hlt = c) (h46' : ¬ c = 46) (hn : 1 ≤ n) (hE : Np.ans (Np.parseS s.data.toList) = .returned (.tuple #[.int .i64 0, .int .i64 1])) :
    Calls Tryz.prog 70 #[.string s] w fun e w' => e = Np.ans (Np.parseS s.data.toList) ∧ w = w' := by
  have HE := Lib.hid hE
  have hltz : 1 + (n : Int) < (s.size : Int) := by omega
  have hend : (1 + (n : Int) != (s.size : Int)) = true := by rw [bne_iff_ne]; omega
  have hnb : n ≤ 2000000 := by omega
  have h46 : ((c.toNat : Int) == 46) = false := by
    rw [beq_eq_false_iff_ne]; intro h2
    exact h46' (UInt8.toNat_inj.mp (by rw [show (46 : UInt8).toNat = 46 from rfl]; omega))
  have hn0 : ((n : Int) == 0) = false := by rw [beq_eq_false_iff_ne]; omega
  clear hE h46'
  have Hrun := Lib.hid hrun
  have hpos' : (0 : Int) < (s.size : Int) := by omega
  obtain ⟨c0, hc0⟩ : ∃ c, s[0]'hpos = c := ⟨_, rfl⟩
  have h45 : ((c0.toNat : Int) == 45) = true := by
    have h := Np.head_of s hpos
    rw [hc0] at h
    unfold Np.neg at hneg
    rw [h] at hneg
    simp only [beq_iff_eq, Option.some.injEq] at hneg; rw [hneg]; rfl
  clear hrun hneg
  go_enter Tryz.func70, Tryz.ntmps70
  go_wp2_with fail
  refine (refRun_at s 1 (by omega) (by omega) _ hs).mono ?_
  rintro e w1 ⟨rfl, rfl⟩
  rw [show (1 : Int).toNat = 1 from rfl, Hrun.out]
  go_wp2_with fail
  go_ret2
  exact ⟨HE.out.symm, rfl⟩

set_option maxHeartbeats 1600000 in
theorem refParse1_C1 (s : ByteArray) (hs : s.size ≤ 2000000) (w : World) (n : Nat) (hneg : Np.neg s.data.toList = true) (hpos : 0 < s.size) (hrun : Np.runN s.data.toList 1 = n) (c : UInt8) (hlt : 1 + n < s.size) (hc : s[1 + n]'hlt = c) (h46' : c = 46) (m : Nat) (hm : m ≤ 2000000) (hrun2 : Np.runN s.data.toList (1 + n + 1) = m) (h1 : m < 1) (hE : Np.ans (Np.parseS s.data.toList) = .returned (.tuple #[.int .i64 0, .int .i64 1])) :
    Calls Tryz.prog 70 #[.string s] w fun e w' => e = Np.ans (Np.parseS s.data.toList) ∧ w = w' := by
  have HE := Lib.hid hE
  have hltz : 1 + (n : Int) < (s.size : Int) := by omega
  have hnb : n ≤ 2000000 := by omega
  have Hrun2 := Lib.hid hrun2
  have h46 : ((c.toNat : Int) == 46) = true := by rw [h46']; rfl
  have h1z : (m : Int) < 1 := by omega
  clear hE h46' hrun2
  have Hrun := Lib.hid hrun
  have hpos' : (0 : Int) < (s.size : Int) := by omega
  obtain ⟨c0, hc0⟩ : ∃ c, s[0]'hpos = c := ⟨_, rfl⟩
  have h45 : ((c0.toNat : Int) == 45) = true := by
    have h := Np.head_of s hpos
    rw [hc0] at h
    unfold Np.neg at hneg
    rw [h] at hneg
    simp only [beq_iff_eq, Option.some.injEq] at hneg; rw [hneg]; rfl
  clear hrun hneg
  go_enter Tryz.func70, Tryz.ntmps70
  go_wp2_with fail
  refine (refRun_at s 1 (by omega) (by omega) _ hs).mono ?_
  rintro e w1 ⟨rfl, rfl⟩
  rw [show (1 : Int).toNat = 1 from rfl, Hrun.out]
  go_wp2_with fail
  refine (refRun_at s _ (by omega) (by omega) _ hs).mono ?_
  rintro e w1 ⟨rfl, rfl⟩
  rw [show (1 + (n : Int) + 1).toNat = 1 + n + 1 by omega, Hrun2.out]
  go_wp2_with fail
  go_ret2
  exact ⟨HE.out.symm, rfl⟩

set_option maxHeartbeats 1600000 in
theorem refParse1_C2 (s : ByteArray) (hs : s.size ≤ 2000000) (w : World) (n : Nat) (hneg : Np.neg s.data.toList = true) (hpos : 0 < s.size) (hrun : Np.runN s.data.toList 1 = n) (c : UInt8) (hlt : 1 + n < s.size) (hc : s[1 + n]'hlt = c) (h46' : c = 46) (m : Nat) (hm : m ≤ 2000000) (hrun2 : Np.runN s.data.toList (1 + n + 1) = m) (h1 : ¬ m < 1) (h3 : 3 < m) (hE : Np.ans (Np.parseS s.data.toList) = .returned (.tuple #[.int .i64 0, .int .i64 1])) :
    Calls Tryz.prog 70 #[.string s] w fun e w' => e = Np.ans (Np.parseS s.data.toList) ∧ w = w' := by
  have HE := Lib.hid hE
  have hltz : 1 + (n : Int) < (s.size : Int) := by omega
  have hnb : n ≤ 2000000 := by omega
  have Hrun2 := Lib.hid hrun2
  have h46 : ((c.toNat : Int) == 46) = true := by rw [h46']; rfl
  have h1z : ¬ (m : Int) < 1 := by omega
  have h3z : 3 < (m : Int) := by omega
  clear hE h46' hrun2
  have Hrun := Lib.hid hrun
  have hpos' : (0 : Int) < (s.size : Int) := by omega
  obtain ⟨c0, hc0⟩ : ∃ c, s[0]'hpos = c := ⟨_, rfl⟩
  have h45 : ((c0.toNat : Int) == 45) = true := by
    have h := Np.head_of s hpos
    rw [hc0] at h
    unfold Np.neg at hneg
    rw [h] at hneg
    simp only [beq_iff_eq, Option.some.injEq] at hneg; rw [hneg]; rfl
  clear hrun hneg
  go_enter Tryz.func70, Tryz.ntmps70
  go_wp2_with fail
  refine (refRun_at s 1 (by omega) (by omega) _ hs).mono ?_
  rintro e w1 ⟨rfl, rfl⟩
  rw [show (1 : Int).toNat = 1 from rfl, Hrun.out]
  go_wp2_with fail
  refine (refRun_at s _ (by omega) (by omega) _ hs).mono ?_
  rintro e w1 ⟨rfl, rfl⟩
  rw [show (1 + (n : Int) + 1).toNat = 1 + n + 1 by omega, Hrun2.out]
  go_wp2_with fail
  go_ret2
  exact ⟨HE.out.symm, rfl⟩

set_option maxHeartbeats 1600000 in
theorem refParse1_C3a (s : ByteArray) (hs : s.size ≤ 2000000) (w : World) (n : Nat) (hneg : Np.neg s.data.toList = true) (hpos : 0 < s.size) (hrun : Np.runN s.data.toList 1 = n) (c : UInt8) (hlt : 1 + n < s.size) (hc : s[1 + n]'hlt = c) (h46' : c = 46) (m : Nat) (hm : m ≤ 2000000) (hrun2 : Np.runN s.data.toList (1 + n + 1) = m) (h1 : ¬ m < 1) (h3 : ¬ 3 < m) (hn : n = 0) (hE : Np.ans (Np.parseS s.data.toList) = .returned (.tuple #[.int .i64 0, .int .i64 1])) :
    Calls Tryz.prog 70 #[.string s] w fun e w' => e = Np.ans (Np.parseS s.data.toList) ∧ w = w' := by
  have HE := Lib.hid hE
  have hltz : 1 + (n : Int) < (s.size : Int) := by omega
  have hnb : n ≤ 2000000 := by omega
  have Hrun2 := Lib.hid hrun2
  have h46 : ((c.toNat : Int) == 46) = true := by rw [h46']; rfl
  have h1z : ¬ (m : Int) < 1 := by omega
  have h3z : ¬ 3 < (m : Int) := by omega
  have hn0 : ((n : Int) == 0) = true := by rw [hn]; rfl
  clear hE h46' hrun2 hn
  have Hrun := Lib.hid hrun
  have hpos' : (0 : Int) < (s.size : Int) := by omega
  obtain ⟨c0, hc0⟩ : ∃ c, s[0]'hpos = c := ⟨_, rfl⟩
  have h45 : ((c0.toNat : Int) == 45) = true := by
    have h := Np.head_of s hpos
    rw [hc0] at h
    unfold Np.neg at hneg
    rw [h] at hneg
    simp only [beq_iff_eq, Option.some.injEq] at hneg; rw [hneg]; rfl
  clear hrun hneg
  go_enter Tryz.func70, Tryz.ntmps70
  go_wp2_with fail
  refine (refRun_at s 1 (by omega) (by omega) _ hs).mono ?_
  rintro e w1 ⟨rfl, rfl⟩
  rw [show (1 : Int).toNat = 1 from rfl, Hrun.out]
  go_wp2_with fail
  refine (refRun_at s _ (by omega) (by omega) _ hs).mono ?_
  rintro e w1 ⟨rfl, rfl⟩
  rw [show (1 + (n : Int) + 1).toNat = 1 + n + 1 by omega, Hrun2.out]
  go_wp2_with fail
  go_ret2
  exact ⟨HE.out.symm, rfl⟩

set_option maxHeartbeats 1600000 in
theorem refParse1_C3b (s : ByteArray) (hs : s.size ≤ 2000000) (w : World) (n : Nat) (hneg : Np.neg s.data.toList = true) (hpos : 0 < s.size) (hrun : Np.runN s.data.toList 1 = n) (c : UInt8) (hlt : 1 + n < s.size) (hc : s[1 + n]'hlt = c) (h46' : c = 46) (m : Nat) (hm : m ≤ 2000000) (hrun2 : Np.runN s.data.toList (1 + n + 1) = m) (h1 : ¬ m < 1) (h3 : ¬ 3 < m) (hn : 1 ≤ n) (hne : 1 + n + 1 + m ≠ s.size) (hE : Np.ans (Np.parseS s.data.toList) = .returned (.tuple #[.int .i64 0, .int .i64 1])) :
    Calls Tryz.prog 70 #[.string s] w fun e w' => e = Np.ans (Np.parseS s.data.toList) ∧ w = w' := by
  have HE := Lib.hid hE
  have hltz : 1 + (n : Int) < (s.size : Int) := by omega
  have hnb : n ≤ 2000000 := by omega
  have Hrun2 := Lib.hid hrun2
  have h46 : ((c.toNat : Int) == 46) = true := by rw [h46']; rfl
  have h1z : ¬ (m : Int) < 1 := by omega
  have h3z : ¬ 3 < (m : Int) := by omega
  have hn0 : ((n : Int) == 0) = false := by rw [beq_eq_false_iff_ne]; omega
  have hend : (1 + (n : Int) + 1 + (m : Int) != (s.size : Int)) = true := by rw [bne_iff_ne]; omega
  clear hE h46' hrun2
  have Hrun := Lib.hid hrun
  have hpos' : (0 : Int) < (s.size : Int) := by omega
  obtain ⟨c0, hc0⟩ : ∃ c, s[0]'hpos = c := ⟨_, rfl⟩
  have h45 : ((c0.toNat : Int) == 45) = true := by
    have h := Np.head_of s hpos
    rw [hc0] at h
    unfold Np.neg at hneg
    rw [h] at hneg
    simp only [beq_iff_eq, Option.some.injEq] at hneg; rw [hneg]; rfl
  clear hrun hneg
  go_enter Tryz.func70, Tryz.ntmps70
  go_wp2_with fail
  refine (refRun_at s 1 (by omega) (by omega) _ hs).mono ?_
  rintro e w1 ⟨rfl, rfl⟩
  rw [show (1 : Int).toNat = 1 from rfl, Hrun.out]
  go_wp2_with fail
  refine (refRun_at s _ (by omega) (by omega) _ hs).mono ?_
  rintro e w1 ⟨rfl, rfl⟩
  rw [show (1 + (n : Int) + 1).toNat = 1 + n + 1 by omega, Hrun2.out]
  go_wp2_with fail
  go_ret2
  exact ⟨HE.out.symm, rfl⟩

set_option maxHeartbeats 1600000 in
theorem refParse1_C3c (s : ByteArray) (hs : s.size ≤ 2000000) (w : World) (n : Nat) (hneg : Np.neg s.data.toList = true) (hpos : 0 < s.size) (hrun : Np.runN s.data.toList 1 = n) (c : UInt8) (hlt : 1 + n < s.size) (hc : s[1 + n]'hlt = c) (h46' : c = 46) (m : Nat) (hm : m ≤ 2000000) (hrun2 : Np.runN s.data.toList (1 + n + 1) = m) (h1 : ¬ m < 1) (h3 : ¬ 3 < m) (hn : 1 ≤ n) (hee : 1 + n + 1 + m = s.size) (DL : List UInt8) (hun : Np.parseS s.data.toList = Np.fin true (Np.num DL)) (hDL : DL = Np.keep (s.data.toList.drop 1) ++ List.replicate (3 - m) 48) (hF : Np.Fits s 1) :
    Calls Tryz.prog 70 #[.string s] w fun e w' => e = Np.ans (Np.parseS s.data.toList) ∧ w = w' := by
  have HF := Lib.hid hF
  have Hun := Lib.hid hun
  have HDL := Lib.hid hDL
  have hltz : 1 + (n : Int) < (s.size : Int) := by omega
  have hnb : n ≤ 2000000 := by omega
  have Hrun2 := Lib.hid hrun2
  have h46 : ((c.toNat : Int) == 46) = true := by rw [h46']; rfl
  have h1z : ¬ (m : Int) < 1 := by omega
  have h3z : ¬ 3 < (m : Int) := by omega
  have hn0 : ((n : Int) == 0) = false := by rw [beq_eq_false_iff_ne]; omega
  have hend : (1 + (n : Int) + 1 + (m : Int) != (s.size : Int)) = false := by simp only [bne_eq_false_iff_eq]; omega
  have Hee := Lib.hid hee
  clear h46' hrun2 hee hF hun hDL
  have Hrun := Lib.hid hrun
  have hpos' : (0 : Int) < (s.size : Int) := by omega
  obtain ⟨c0, hc0⟩ : ∃ c, s[0]'hpos = c := ⟨_, rfl⟩
  have h45 : ((c0.toNat : Int) == 45) = true := by
    have h := Np.head_of s hpos
    rw [hc0] at h
    unfold Np.neg at hneg
    rw [h] at hneg
    simp only [beq_iff_eq, Option.some.injEq] at hneg; rw [hneg]; rfl
  clear hrun hneg
  go_enter Tryz.func70, Tryz.ntmps70
  go_wp2_with fail
  refine (refRun_at s 1 (by omega) (by omega) _ hs).mono ?_
  rintro e w1 ⟨rfl, rfl⟩
  rw [show (1 : Int).toNat = 1 from rfl, Hrun.out]
  go_wp2_with fail
  refine (refRun_at s _ (by omega) (by omega) _ hs).mono ?_
  rintro e w1 ⟨rfl, rfl⟩
  rw [show (1 + (n : Int) + 1).toNat = 1 + n + 1 by omega, Hrun2.out]
  go_wp2_with fail
  go_loop [8, 9] (fun v i => ∃ j vv : Nat, j ≤ s.size ∧ 1 ≤ j ∧ i = .int .i64 j ∧ v = .int .i64 vv ∧ Np.Sat4 vv (Np.num (Np.keep ((s.data.toList.take j).drop 1)))) (fun _ i => s.size - (intOf i).toNat)
  case atStart => exact ⟨1, 0, by omega, Nat.le_refl _, rfl, rfl, by
    have e : (s.data.toList.take 1).drop 1 = [] := by rw [List.drop_take]; simp
    rw [e]; exact Np.sat4_zero⟩
  case round =>
    obtain ⟨j, vv, hj, haj, rfl, rfl, hsat⟩ := hrel
    have hvv := hsat.1
    have Hsat := Lib.hid hsat
    clear hsat
    by_cases hlt : j < s.size
    · obtain ⟨c, hc⟩ : ∃ c, s[j]'hlt = c := ⟨_, rfl⟩
      rcases HF.out j hlt haj with hd | hd
      · have Hk := Lib.hid (Np.keep_dig s 1 j haj hlt hd)
        rw [hc] at hd
        have hbd := Np.dig_bd hd
        have hne : ((c.toNat : Int) != 46) = true := by
          rw [bne_iff_ne]; intro h
          have := (Np.dig_ne hd).1
          exact this (UInt8.toNat_inj.mp (by rw [show (46 : UInt8).toNat = 46 from rfl]; omega))
        have Hc := Lib.hid hc
        clear hd
        go_wp2_with fail
        all_goals
          go_round
          case rel =>
            refine ⟨j + 1, min (10 * vv + (c.toNat - 48)) 36028797018963968, by omega, by omega, by go_num, ?_, ?_⟩
            · congr 1; omega
            · rw [Hk.out, Hc.out]; exact Np.sat4_step Hsat.out rfl
          case measure => simp [intOf]; omega
      · have Hk := Lib.hid (Np.keep_dot s 1 j haj hlt hd)
        rw [hc] at hd
        have hne : ((c.toNat : Int) != 46) = false := by rw [hd]; rfl
        have Hd := Lib.hid hd
        clear hd
        go_wp2_with fail
        go_round
        case rel => exact ⟨j + 1, vv, by omega, by omega, by go_num, rfl, by rw [Hk.out]; exact Hsat.out⟩
        case measure => simp [intOf]; omega
    · have HS0 : Hid (Np.Sat4 vv (Np.num (Np.keep (s.data.toList.drop 1) ++ List.replicate 0 48))) := Lib.hid (by
        have := Hsat.out
        rw [List.take_of_length_le (by rw [← Lib.size_eq]; omega)] at this
        simpa using this)
      clear Hsat
      go_wp2_with fail
      go_loop [8, 10] (fun v i => ∃ k vf : Nat, m + k ≤ 3 ∧ i = .int .i64 ((m + k : Nat) : Int) ∧ v = .int .i64 vf ∧ Np.Sat4 vf (Np.num (Np.keep (s.data.toList.drop 1) ++ List.replicate k 48))) (fun _ i => 3 - (intOf i).toNat)
      case atStart => exact ⟨0, vv, by omega, by first | rfl | go_num, rfl, HS0.out⟩
      case round =>
        obtain ⟨k, vf, hk, rfl, rfl, hsat⟩ := hrel
        have hvf := hsat.1
        have Hsat := Lib.hid hsat
        clear hsat
        by_cases hk3 : m + k < 3
        · have Hr := Lib.hid (Np.num_rep (Np.keep (s.data.toList.drop 1)) k)
          go_wp2_with fail
          all_goals
            go_round
            case rel =>
              refine ⟨k + 1, min (10 * vf + 0) 36028797018963968, by omega, by go_num, ?_, ?_⟩
              · congr 1; omega
              · rw [Hr.out]; exact Np.sat4_step Hsat.out rfl
            case measure => simp [intOf]; omega
        · have HS1 : Hid (Np.Sat4 vf (Np.num DL)) := Lib.hid (by
            have := Hsat.out
            rw [show k = 3 - m by omega, ← HDL.out] at this
            exact this)
          clear Hsat
          by_cases hvm : vf ≤ 9007199254740992
          · have HE : Hid (Np.ans (Np.parseS s.data.toList) = .returned (.tuple #[.int .i64 (-(vf : Int)), .int .i64 0])) := Lib.hid (by
              rw [Hun.out, Np.fin_small HS1.out hvm]; rfl)
            go_wp2_with fail
            go_ret2
            exact ⟨HE.out.symm, rfl⟩
          · have HE : Hid (Np.ans (Np.parseS s.data.toList) = .returned (.tuple #[.int .i64 0, .int .i64 2])) := Lib.hid (by
              rw [Hun.out, Np.fin_large HS1.out hvm]; rfl)
            go_wp2_with fail
            go_ret2
            exact ⟨HE.out.symm, rfl⟩

end Go.Proofs.YtkoeggjfdcpokaaGreatDoor
namespace Go.Proofs.YtkoeggjfdcpokaaGreatDoor
open Go.RowKit

theorem refParse_empty (s : ByteArray) (w : World) (h : s.size = 0) :
    Calls Tryz.prog 70 #[.string s] w fun e w' => e = Np.ans (Np.parseS s.data.toList) ∧ w = w' := by
  have hl : s.data.toList = [] := List.length_eq_zero_iff.mp (by rw [← Lib.size_eq]; exact h)
  have HE : Hid (Np.ans (Np.parseS s.data.toList) = .returned (.tuple #[.int .i64 0, .int .i64 1])) := Lib.hid (by rw [hl]; rfl)
  have Hrun : Hid (Np.runN s.data.toList 0 = 0) := Lib.hid (by rw [hl]; rfl)
  have hz : ¬ (0 : Int) < (s.size : Int) := by omega
  have hs : s.size ≤ 2000000 := by omega
  clear h hl
  go_enter Tryz.func70, Tryz.ntmps70
  go_wp2_with fail
  refine (refRun_at s 0 (by omega) (by omega) _ hs).mono ?_
  rintro e w1 ⟨rfl, rfl⟩
  rw [show (0 : Int).toNat = 0 from rfl, Hrun.out]
  go_wp2_with fail
  go_ret2
  exact ⟨HE.out.symm, rfl⟩

theorem Np.at_of {l : List UInt8} {a n : Nat} {D t : List UInt8} {c : UInt8} (h : l.drop a = D ++ c :: t) (hn : D.length = n) : l[a + n]? = some c ∧ l.drop (a + n + 1) = t := by
  have e1 : (l.drop a)[n]? = some c := by rw [h, ← hn]; simp
  have e2 : l.drop (a + n + 1) = (l.drop a).drop (n + 1) := by rw [List.drop_drop]; congr 1
  refine ⟨by rw [List.getElem?_drop] at e1; exact e1, ?_⟩
  rw [e2, h, ← hn]; simp
theorem Np.byte_of (s : ByteArray) (j : Nat) (c : UInt8) (h : s.data.toList[j]? = some c) : ∃ hj : j < s.size, s[j]'hj = c := by
  obtain ⟨hj, e⟩ := List.getElem?_eq_some_iff.mp h
  exact ⟨by rw [Lib.size_eq]; exact hj, e⟩
theorem Np.fits_of (s : ByteArray) (a : Nat) (b : List UInt8) (hb : s.data.toList.drop a = b) (h : ∀ c ∈ b, Np.dig c = true ∨ c = 46) : Np.Fits s a := by
  intro j hj ha
  refine h _ ?_
  rw [← hb]
  have e : (s.data.toList.drop a)[j - a]? = some (s[j]'hj) := by
    rw [List.getElem?_drop, show a + (j - a) = j by omega, List.getElem?_eq_getElem (by rw [← Lib.size_eq]; exact hj)]; rfl
  exact List.mem_of_getElem? e
theorem Np.body_drop (l : List UInt8) : Np.body l = l.drop (if Np.neg l then 1 else 0) := by
  unfold Np.body
  cases Np.neg l <;> simp
theorem Np.fin_of (l b d : List UInt8) (f : Bool) (hb : Np.body l = b) (hf : Np.neg l = f) (h : Np.unsig b = some d) : Np.parseS l = Np.fin f (Np.num d) := by
  unfold Np.parseS; rw [hb, hf, h]
theorem Np.ne_dec {p : List UInt8} (h : p ≠ []) : 1 ≤ p.length := List.length_pos_iff.mpr h


theorem refParse_0 (s : ByteArray) (hs : s.size ≤ 2000000) (w : World) (hpos : 0 < s.size) (hneg : Np.neg s.data.toList = false) :
    Calls Tryz.prog 70 #[.string s] w fun e w' => e = Np.ans (Np.parseS s.data.toList) ∧ w = w' := by
  have hbody : Np.body s.data.toList = s.data.toList.drop 0 := by rw [Np.body_drop, hneg]; rfl
  obtain ⟨b, hb⟩ : ∃ b, s.data.toList.drop 0 = b := ⟨_, rfl⟩
  rw [hb] at hbody
  have hlen : s.size = 0 + b.length := by rw [← hb, List.length_drop, ← Lib.size_eq]; omega
  have hps := Np.pre_suf b
  have hpl := congrArg List.length hps
  rw [List.length_append] at hpl
  obtain ⟨n, hn⟩ : ∃ n, (Np.pre b).length = n := ⟨_, rfl⟩
  have hrun : Np.runN s.data.toList 0 = n := by unfold Np.runN; rw [hb]; exact hn
  have hn1 : Np.pre b ≠ [] → 1 ≤ n := fun h => by rw [← hn]; exact Np.ne_dec h
  have hn0 : Np.pre b = [] → n = 0 := fun h => by rw [← hn, h]; rfl
  cases hS : Np.suf b with
  | nil =>
    rw [hS] at hpl
    simp only [List.length_nil, Nat.add_zero] at hpl
    by_cases h0 : Np.pre b = []
    · exact refParse0_A1 s hs w n hneg hpos hrun (by omega) (hn0 h0) (Np.ans_none hbody (Np.uns_A1 b hS h0))
    · have hall := Np.pre_all b hS
      have hkb : Np.keep b = b := Np.keep_digs b (by rw [hall]; exact Np.pre_digs b)
      refine refParse0_A2 s hs w n hneg hpos hrun (by omega) (hn1 h0) _ (Np.fin_of _ b _ _ hbody hneg (Np.uns_A2 b hS h0)) ?_ (Np.fits_of s 0 b hb fun c hc => Or.inl ?_)
      · rw [hb, hkb, ← hall]; rfl
      · rw [hall] at hc; exact List.all_eq_true.mp (Np.pre_digs b) c hc
  | cons c t =>
    rw [hS] at hps hpl
    simp only [List.length_cons] at hpl
    obtain ⟨hat, hdr⟩ := Np.at_of (l := s.data.toList) (a := 0) (n := n) (by rw [hb]; exact hps) hn
    rw [Nat.zero_add] at hat hdr
    obtain ⟨hlt, hc⟩ := Np.byte_of s _ c hat
    by_cases h46 : c = 46
    · subst h46
      obtain ⟨m, hm⟩ : ∃ m, (Np.pre t).length = m := ⟨_, rfl⟩
      have hmt : m ≤ t.length := by rw [← hm]; exact (List.takeWhile_sublist _).length_le
      have hrun2 : Np.runN s.data.toList (n + 1) = m := by unfold Np.runN; rw [hdr]; exact hm
      have HN := fun (h : m < 1 ∨ 3 < m ∨ Np.pre b = [] ∨ m ≠ t.length) => Np.ans_none hbody (Np.uns_C b hS (by rw [hm]; exact h))
      by_cases h1 : m < 1
      · exact refParse0_C1 s hs w n hneg hpos hrun 46 hlt hc rfl m (by omega) hrun2 h1 (HN (Or.inl h1))
      · by_cases h3 : 3 < m
        · exact refParse0_C2 s hs w n hneg hpos hrun 46 hlt hc rfl m (by omega) hrun2 h1 h3 (HN (Or.inr (Or.inl h3)))
        · by_cases h0 : Np.pre b = []
          · exact refParse0_C3a s hs w n hneg hpos hrun 46 hlt hc rfl m (by omega) hrun2 h1 h3 (hn0 h0) (HN (Or.inr (Or.inr (Or.inl h0))))
          · by_cases he : m = t.length
            · obtain ⟨hu, htd⟩ := Np.uns_C3 b hS (by rw [hm]; exact h1) (by rw [hm]; exact h3) h0 (by rw [hm]; exact he)
              have hbC := Np.eq_C b hS
              refine refParse0_C3c s hs w n hneg hpos hrun 46 hlt hc rfl m (by omega) hrun2 h1 h3 (hn1 h0) (by omega) _ (Np.fin_of _ b _ _ hbody hneg hu) ?_ (Np.fits_of s 0 b hb fun x hx => ?_)
              · have hk : Np.keep b = Np.pre b ++ t := by
                  have := Np.keep_C (Np.pre b) t (Np.pre_digs b) htd
                  rw [← hbC] at this; exact this
                rw [hb, hk, Np.pad_rep t (by omega), he, List.append_assoc]
              · rw [hbC, List.mem_append, List.mem_cons] at hx
                rcases hx with hx | hx | hx
                · exact Or.inl (List.all_eq_true.mp (Np.pre_digs b) x hx)
                · exact Or.inr hx
                · exact Or.inl (List.all_eq_true.mp htd x hx)
            · exact refParse0_C3b s hs w n hneg hpos hrun 46 hlt hc rfl m (by omega) hrun2 h1 h3 (hn1 h0) (by omega) (HN (Or.inr (Or.inr (Or.inr he))))
    · have HE := Np.ans_none hbody (Np.uns_B b hS h46)
      by_cases h0 : Np.pre b = []
      · exact refParse0_B0 s hs w n hneg hpos hrun c hlt hc h46 (hn0 h0) HE
      · exact refParse0_B1 s hs w n hneg hpos hrun c hlt hc h46 (hn1 h0) HE

theorem refParse_1 (s : ByteArray) (hs : s.size ≤ 2000000) (w : World) (hpos : 0 < s.size) (hneg : Np.neg s.data.toList = true) :
    Calls Tryz.prog 70 #[.string s] w fun e w' => e = Np.ans (Np.parseS s.data.toList) ∧ w = w' := by
  have hbody : Np.body s.data.toList = s.data.toList.drop 1 := by rw [Np.body_drop, hneg]; rfl
  obtain ⟨b, hb⟩ : ∃ b, s.data.toList.drop 1 = b := ⟨_, rfl⟩
  rw [hb] at hbody
  have hlen : s.size = 1 + b.length := by rw [← hb, List.length_drop, ← Lib.size_eq]; omega
  have hps := Np.pre_suf b
  have hpl := congrArg List.length hps
  rw [List.length_append] at hpl
  obtain ⟨n, hn⟩ : ∃ n, (Np.pre b).length = n := ⟨_, rfl⟩
  have hrun : Np.runN s.data.toList 1 = n := by unfold Np.runN; rw [hb]; exact hn
  have hn1 : Np.pre b ≠ [] → 1 ≤ n := fun h => by rw [← hn]; exact Np.ne_dec h
  have hn0 : Np.pre b = [] → n = 0 := fun h => by rw [← hn, h]; rfl
  cases hS : Np.suf b with
  | nil =>
    rw [hS] at hpl
    simp only [List.length_nil, Nat.add_zero] at hpl
    by_cases h0 : Np.pre b = []
    · exact refParse1_A1 s hs w n hneg hpos hrun (by omega) (hn0 h0) (Np.ans_none hbody (Np.uns_A1 b hS h0))
    · have hall := Np.pre_all b hS
      have hkb : Np.keep b = b := Np.keep_digs b (by rw [hall]; exact Np.pre_digs b)
      refine refParse1_A2 s hs w n hneg hpos hrun (by omega) (hn1 h0) _ (Np.fin_of _ b _ _ hbody hneg (Np.uns_A2 b hS h0)) ?_ (Np.fits_of s 1 b hb fun c hc => Or.inl ?_)
      · rw [hb, hkb, ← hall]; rfl
      · rw [hall] at hc; exact List.all_eq_true.mp (Np.pre_digs b) c hc
  | cons c t =>
    rw [hS] at hps hpl
    simp only [List.length_cons] at hpl
    obtain ⟨hat, hdr⟩ := Np.at_of (l := s.data.toList) (a := 1) (n := n) (by rw [hb]; exact hps) hn
    
    obtain ⟨hlt, hc⟩ := Np.byte_of s _ c hat
    by_cases h46 : c = 46
    · subst h46
      obtain ⟨m, hm⟩ : ∃ m, (Np.pre t).length = m := ⟨_, rfl⟩
      have hmt : m ≤ t.length := by rw [← hm]; exact (List.takeWhile_sublist _).length_le
      have hrun2 : Np.runN s.data.toList (1 + n + 1) = m := by unfold Np.runN; rw [hdr]; exact hm
      have HN := fun (h : m < 1 ∨ 3 < m ∨ Np.pre b = [] ∨ m ≠ t.length) => Np.ans_none hbody (Np.uns_C b hS (by rw [hm]; exact h))
      by_cases h1 : m < 1
      · exact refParse1_C1 s hs w n hneg hpos hrun 46 hlt hc rfl m (by omega) hrun2 h1 (HN (Or.inl h1))
      · by_cases h3 : 3 < m
        · exact refParse1_C2 s hs w n hneg hpos hrun 46 hlt hc rfl m (by omega) hrun2 h1 h3 (HN (Or.inr (Or.inl h3)))
        · by_cases h0 : Np.pre b = []
          · exact refParse1_C3a s hs w n hneg hpos hrun 46 hlt hc rfl m (by omega) hrun2 h1 h3 (hn0 h0) (HN (Or.inr (Or.inr (Or.inl h0))))
          · by_cases he : m = t.length
            · obtain ⟨hu, htd⟩ := Np.uns_C3 b hS (by rw [hm]; exact h1) (by rw [hm]; exact h3) h0 (by rw [hm]; exact he)
              have hbC := Np.eq_C b hS
              refine refParse1_C3c s hs w n hneg hpos hrun 46 hlt hc rfl m (by omega) hrun2 h1 h3 (hn1 h0) (by omega) _ (Np.fin_of _ b _ _ hbody hneg hu) ?_ (Np.fits_of s 1 b hb fun x hx => ?_)
              · have hk : Np.keep b = Np.pre b ++ t := by
                  have := Np.keep_C (Np.pre b) t (Np.pre_digs b) htd
                  rw [← hbC] at this; exact this
                rw [hb, hk, Np.pad_rep t (by omega), he, List.append_assoc]
              · rw [hbC, List.mem_append, List.mem_cons] at hx
                rcases hx with hx | hx | hx
                · exact Or.inl (List.all_eq_true.mp (Np.pre_digs b) x hx)
                · exact Or.inr hx
                · exact Or.inl (List.all_eq_true.mp htd x hx)
            · exact refParse1_C3b s hs w n hneg hpos hrun 46 hlt hc rfl m (by omega) hrun2 h1 h3 (hn1 h0) (by omega) (HN (Or.inr (Or.inr (Or.inr he))))
    · have HE := Np.ans_none hbody (Np.uns_B b hS h46)
      by_cases h0 : Np.pre b = []
      · exact refParse1_B0 s hs w n hneg hpos hrun c hlt hc h46 (hn0 h0) HE
      · exact refParse1_B1 s hs w n hneg hpos hrun c hlt hc h46 (hn1 h0) HE

theorem refParse_any (s : ByteArray) (hs : s.size ≤ 2000000) (w : World) :
    Calls Tryz.prog 70 #[.string s] w fun e w' => e = Np.ans (Np.parseS s.data.toList) ∧ w = w' := by
  by_cases h : s.size = 0
  · exact refParse_empty s w h
  · cases hn : Np.neg s.data.toList with
    | false => exact refParse_0 s hs w (by omega) hn
    | true => exact refParse_1 s hs w (by omega) hn
end Go.Proofs.YtkoeggjfdcpokaaGreatDoor

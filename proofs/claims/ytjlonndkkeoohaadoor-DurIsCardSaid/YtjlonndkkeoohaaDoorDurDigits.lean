/-
  The walks of the laws' own function of digits, and of the document's.
-/
import Derived.Test.YtjlonndkkeoohaaDoorWorld
import Derived.Deep.RegionWith
import Derived.Laws.IdiomStrings
import Derived.IntWalk
namespace Go.Proofs.YtjlonndkkeoohaaDoor
open Go.RowKit

theorem Np.dec_small (n : Nat) (h : n < 10) : Lib.decDigits n = [UInt8.ofNat (48 + n)] := by rw [Lib.decDigits, dif_pos h]
theorem Np.dec_big (n : Nat) (h : ¬ n < 10) : Lib.decDigits n = Lib.decDigits (n / 10) ++ [UInt8.ofNat (48 + n % 10)] := by rw [Lib.decDigits, dif_neg h]

theorem conv_one (W : World) (b : Nat) (x : Int) (h0 : 0 ≤ x) (h1 : x < 256) (hc : W.cell? ⟨b, 0, none⟩ = some (.int .u8 x)) :
    (convert 41 9 (.slice (some ⟨b, 0, none⟩) 1 1)).run Tryd.prog W = .ok (.string ⟨[UInt8.ofNat x.toNat].toArray⟩) W := by
  refine run_convert_bytes_back (P := Tryd.prog) W 41 9 5 ⟨b, 0, none⟩ 1 [UInt8.ofNat x.toNat] Tryd.underlying41 Tryd.underlying5 Tryd.underlying9 ?_
  intro j hj
  obtain rfl : j = 0 := by simpa using hj
  have e : (⟨b, 0, none⟩ : Addr).add 0 = ⟨b, 0, none⟩ := rfl
  rw [e, hc]
  have : (UInt8.ofNat x.toNat).toNat = x.toNat := by rw [UInt8.toNat_ofNat']; omega
  simp only [List.getElem_cons_zero, this]
  rw [Int.toNat_of_nonneg h0]
set_option maxHeartbeats 800000 in
theorem lawDigits_any (b : Nat) : ∀ (n : Int) (w : World), 0 ≤ n → n < b → n ≤ 9007199254740992 →
    Calls Tryd.prog 16 #[.int .i64 n] w fun e w' => e = .returned (.string ⟨(Lib.decDigits n.toNat).toArray⟩) ∧ Below w.heap.size w w' := by
  induction b with
  | zero => intro n w h0 h1; omega
  | succ b ih =>
    intro n w h0 h1 h2
    by_cases hn : n < 10
    · have hcv := conv_one (w.alloc (.cells #[.int .u8 (48 + n)] 5)) w.heap.size (48 + n) (by omega) (by omega) (by rw [World.cell?_alloc_new]; rfl)
      have HE : Hid (Lib.decDigits n.toNat = [UInt8.ofNat (48 + n).toNat]) := Lib.hid (by
        rw [Np.dec_small _ (by omega), show 48 + n.toNat = (48 + n).toNat by omega])
      go_enter Tryd.func16, Tryd.ntmps16
      go_wp2_with fail
      go_ret
      exact ⟨by rw [HE.out]; rfl, (Below.refl _ _).alloc (Nat.le_refl _) _⟩
    · obtain ⟨q, hq⟩ : ∃ q, q = n / 10 := ⟨_, rfl⟩
      obtain ⟨r, hr⟩ : ∃ r, r = n % 10 := ⟨_, rfl⟩
      have HE : Hid (Lib.decDigits n.toNat = Lib.decDigits q.toNat ++ [UInt8.ofNat (48 + r).toNat]) := Lib.hid (by
        rw [Np.dec_big _ (by omega), show 48 + n.toNat % 10 = (48 + r).toNat by omega, show n.toNat / 10 = q.toNat by omega])
      have q0 : 0 ≤ q := by omega
      have q1 : q < b := by omega
      have q2 : q ≤ 9007199254740992 := by omega
      have r0 : 0 ≤ r := by omega
      have r1 : r < 10 := by omega
      have e1 : IntKind.i64.wrap (n.tdiv 10) = q := by rw [Int.tdiv_eq_ediv_of_nonneg (by omega), ← hq]; exact IntWalk.i64_in _ (by omega)
      have e2 : n.tmod 10 = r := by rw [Int.tmod_eq_emod_of_nonneg (by omega), ← hr]
      have e3 : IntKind.i64.wrap (48 + r) = 48 + r := IntWalk.i64_in _ (by omega)
      have e4 : IntKind.u8.wrap (48 + r) = 48 + r := by rw [IntKind.wrap_u8]; omega
      have hcv := fun (W : World) (b : Nat) => conv_one W b (48 + r) (by omega) (by omega)
      have Hih : Hid (∀ W : World, Calls Tryd.prog 16 #[.int .i64 q] W fun e w' => ∃ S : ByteArray, e = .returned (.string S) ∧ S.size ≤ 16 ∧ Hid (S.data.toList = Lib.decDigits q.toNat) ∧ Below W.heap.size W w') := Lib.hid (fun W => by
        refine (ih q W q0 q1 q2).mono ?_
        rintro e w' ⟨rfl, hb⟩
        refine ⟨_, rfl, ?_, Lib.hid (by simp), hb⟩
        have := nd_le 15 q.toNat (by omega)
        rw [Lib.size_eq]; simpa [Lib.decDigits_length] using this)
      clear hq hr ih
      go_enter Tryd.func16, Tryd.ntmps16
      go_wp2_with fail
      go_region_with (go_at_call 16; refine (Hih.out _).mono ?_; rintro e w' ⟨S, rfl, hS, HS, hb⟩; obtain ⟨hbc, _⟩ := bcell hb)
      all_goals
        go_wp2_with fail
        go_ret
        refine ⟨?_, ?_⟩
      any_goals exact congrArg (fun x => Ending.returned (Value.string x)) (str_eq _ _ (by rw [data_app, HS.out, HE.out]))
      · exact (below_on (Below.refl _ _).drew hb).alloc hb.size _
      all_goals exact below_on ((Below.refl _ _).alloc (Nat.le_refl _) _).drew hb
/-- The same, the text under a name. -/
theorem lawDigits_str (n : Int) (w : World) (h0 : 0 ≤ n) (h1 : n ≤ 9007199254740992) :
    Calls Tryd.prog 16 #[.int .i64 n] w fun e w' => ∃ S : ByteArray, e = .returned (.string S) ∧ (1 ≤ S.size ∧ S.size ≤ 16) ∧ Hid (S.data.toList = Lib.decDigits n.toNat) ∧ Below w.heap.size w w' := by
  refine (lawDigits_any (n.toNat + 1) n w h0 (by omega) h1).mono ?_
  rintro e w' ⟨rfl, hb⟩
  refine ⟨_, rfl, ?_, Lib.hid (by simp), hb⟩
  have h1 := Lib.nDigits_pos n.toNat
  have h2 := nd_le 15 n.toNat (by omega)
  rw [str_size, Lib.decDigits_length]
  exact ⟨h1, h2⟩
set_option maxHeartbeats 800000 in
theorem refDigits_any (b : Nat) : ∀ (n : Int) (w : World), 0 ≤ n → n < b → n ≤ 9007199254740992 →
    Calls Tryd.prog 23 #[.int .i64 n] w fun e w' => e = .returned (.string ⟨(Lib.decDigits n.toNat).toArray⟩) ∧ Below w.heap.size w w' := by
  induction b with
  | zero => intro n w h0 h1; omega
  | succ b ih =>
    intro n w h0 h1 h2
    by_cases hn : n < 10
    · have hcv := conv_one (w.alloc (.cells #[.int .u8 (48 + n)] 5)) w.heap.size (48 + n) (by omega) (by omega) (by rw [World.cell?_alloc_new]; rfl)
      have HE : Hid (Lib.decDigits n.toNat = [UInt8.ofNat (48 + n).toNat]) := Lib.hid (by
        rw [Np.dec_small _ (by omega), show 48 + n.toNat = (48 + n).toNat by omega])
      go_enter Tryd.func23, Tryd.ntmps23
      go_wp2_with fail
      go_ret
      exact ⟨by rw [HE.out]; rfl, (Below.refl _ _).alloc (Nat.le_refl _) _⟩
    · obtain ⟨q, hq⟩ : ∃ q, q = n / 10 := ⟨_, rfl⟩
      obtain ⟨r, hr⟩ : ∃ r, r = n % 10 := ⟨_, rfl⟩
      have HE : Hid (Lib.decDigits n.toNat = Lib.decDigits q.toNat ++ [UInt8.ofNat (48 + r).toNat]) := Lib.hid (by
        rw [Np.dec_big _ (by omega), show 48 + n.toNat % 10 = (48 + r).toNat by omega, show n.toNat / 10 = q.toNat by omega])
      have q0 : 0 ≤ q := by omega
      have q1 : q < b := by omega
      have q2 : q ≤ 9007199254740992 := by omega
      have r0 : 0 ≤ r := by omega
      have r1 : r < 10 := by omega
      have e1 : IntKind.i64.wrap (n.tdiv 10) = q := by rw [Int.tdiv_eq_ediv_of_nonneg (by omega), ← hq]; exact IntWalk.i64_in _ (by omega)
      have e2 : n.tmod 10 = r := by rw [Int.tmod_eq_emod_of_nonneg (by omega), ← hr]
      have e3 : IntKind.i64.wrap (48 + r) = 48 + r := IntWalk.i64_in _ (by omega)
      have e4 : IntKind.u8.wrap (48 + r) = 48 + r := by rw [IntKind.wrap_u8]; omega
      have hcv := fun (W : World) (b : Nat) => conv_one W b (48 + r) (by omega) (by omega)
      have Hih : Hid (∀ W : World, Calls Tryd.prog 23 #[.int .i64 q] W fun e w' => ∃ S : ByteArray, e = .returned (.string S) ∧ S.size ≤ 16 ∧ Hid (S.data.toList = Lib.decDigits q.toNat) ∧ Below W.heap.size W w') := Lib.hid (fun W => by
        refine (ih q W q0 q1 q2).mono ?_
        rintro e w' ⟨rfl, hb⟩
        refine ⟨_, rfl, ?_, Lib.hid (by simp), hb⟩
        have := nd_le 15 q.toNat (by omega)
        rw [Lib.size_eq]; simpa [Lib.decDigits_length] using this)
      clear hq hr ih
      go_enter Tryd.func23, Tryd.ntmps23
      go_wp2_with fail
      go_region_with (go_at_call 23; refine (Hih.out _).mono ?_; rintro e w' ⟨S, rfl, hS, HS, hb⟩; obtain ⟨hbc, _⟩ := bcell hb)
      all_goals
        go_wp2_with fail
        go_ret
        refine ⟨?_, ?_⟩
      any_goals exact congrArg (fun x => Ending.returned (Value.string x)) (str_eq _ _ (by rw [data_app, HS.out, HE.out]))
      · exact (below_on (Below.refl _ _).drew hb).alloc hb.size _
      all_goals exact below_on ((Below.refl _ _).alloc (Nat.le_refl _) _).drew hb
/-- The same, the text under a name. -/
theorem refDigits_str (n : Int) (w : World) (h0 : 0 ≤ n) (h1 : n ≤ 9007199254740992) :
    Calls Tryd.prog 23 #[.int .i64 n] w fun e w' => ∃ S : ByteArray, e = .returned (.string S) ∧ (1 ≤ S.size ∧ S.size ≤ 16) ∧ Hid (S.data.toList = Lib.decDigits n.toNat) ∧ Below w.heap.size w w' := by
  refine (refDigits_any (n.toNat + 1) n w h0 (by omega) h1).mono ?_
  rintro e w' ⟨rfl, hb⟩
  refine ⟨_, rfl, ?_, Lib.hid (by simp), hb⟩
  have h1 := Lib.nDigits_pos n.toNat
  have h2 := nd_le 15 n.toNat (by omega)
  rw [str_size, Lib.decDigits_length]
  exact ⟨h1, h2⟩
end Go.Proofs.YtjlonndkkeoohaaDoor

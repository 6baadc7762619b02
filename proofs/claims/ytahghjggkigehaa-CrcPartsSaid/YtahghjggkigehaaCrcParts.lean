/-
  The walk of layer crc's law CrcParts.
-/
import Derived.Test.YtahghjggkigehaaCrcLaw
import Derived.IntWalk
import Derived.Deep.DeepCutAuto
import Derived.Deep.RegionWith
import Derived.Deep.RegionHeld
namespace Go.Proofs.Ytahghjggkigehaa
open Go.RowKit Go.Proofs.Ytahghjggkigehaa.Kp

theorem mask_bd (k : Int) : 0 ≤ bits .and .i64 k 65535 ∧ bits .and .i64 k 65535 ≤ 65535 := by
  have h1 : (BitVec.ofInt 64 65535).toNat = 65535 := by decide
  have h2 : (BitVec.ofInt 64 k &&& BitVec.ofInt 64 65535).toNat ≤ 65535 := by
    rw [BitVec.toNat_and, h1]
    exact Nat.and_le_right
  have e : bits .and .i64 k 65535 = (((BitVec.ofInt 64 k &&& BitVec.ofInt 64 65535).toNat : Nat) : Int) := by
    show IntKind.i64.wrap ((BitVec.ofInt 64 k &&& BitVec.ofInt 64 65535).toNat : Int) = _
    exact IntWalk.i64_in _ (by omega)
  rw [e]
  omega
theorem cut_at (k : Int) (n : Nat) : ∃ a : Nat, (bits .and .i64 k 65535).tmod ((n : Int) + 1) = (a : Int) ∧ a ≤ n := by
  obtain ⟨h1, _⟩ := mask_bd k
  generalize bits .and .i64 k 65535 = b at h1
  have h2 := Int.tmod_nonneg ((n : Int) + 1) h1
  have h3 := Int.tmod_lt_of_pos b (show (0 : Int) < (n : Int) + 1 by omega)
  exact ⟨(b.tmod ((n : Int) + 1)).toNat, by omega, by omega⟩
theorem all32 : (if IntKind.u32.signed = true then (-1 : Int) else IntKind.u32.max) = ((4294967295 : Nat) : Int) := by decide
theorem x32g {u : Nat} (hu : u < 4294967296) : bits .xor .u32 ((4294967295 : Nat) : Int) (u : Int) = ((4294967295 ^^^ u : Nat) : Int) := x32 (by omega) hu
theorem not_sum {l : List Nat} {u s : Nat} (h1 : upd 4294967295 l = u) (h2 : Kp.sum l = s) : s = u ^^^ 4294967295 := by rw [← h1, ← h2]; rfl
set_option maxHeartbeats 6400000 in
set_option maxRecDepth 100000 in
theorem crcParts_any (HStep : StepC) (HUpd : UpdC) (HSum : SumC) (c : Nat) (hc : c < 4294967296) (A : Option Addr) (n k : Nat) (l : List Nat) (i : Int) (w : World) (hn : n = l.length) (hr : Rb w w.heap.size A l) (hnk : n ≤ k ∧ k ≤ 9223372036854775807) :
    Calls Try.prog 4 #[.int .u32 (c : Int), .slice A n k, .int .i64 i] w fun e w' => e = .returned (.bool true) ∧ Below w.heap.size w w' := by
  have HN := Lib.hid hn
  have HR := Lib.hid hr
  obtain ⟨hnc, hcm⟩ := hnk
  clear hn hr
  go_enter Try.func4, Try.ntmps4
  go_wp2_with fail
  refine (awake_any HStep HSum _).mono ?_
  rintro e w1 ⟨rfl, hb1⟩
  by_cases hbig : (1000 : Int) < (n : Int)
  · go_wp2_with fail
    go_ret
    exact ⟨rfl, hb1⟩
  obtain ⟨a, ha, han⟩ := cut_at i n
  have haz : (a : Int) ≤ (n : Int) := by omega
  have haz0 : (0 : Int) ≤ (a : Int) := by omega
  have hacz : (a : Int) ≤ (k : Int) := by omega
  have HL1 : Hid (a = (l.take a).length) := Lib.hid (by rw [List.length_take]; have := HN.out; omega)
  have HL2 : Hid (n - a = (l.drop a).length) := Lib.hid (by rw [List.length_drop]; have := HN.out; omega)
  obtain ⟨X, hX⟩ : ∃ X, (if k = a then A else A.map fun x => x.add a) = X := ⟨_, rfl⟩
  have HRt : Hid (∀ W, Below w.heap.size w W → Rb W W.heap.size A (l.take a)) := Lib.hid (fun W h => (HR.out.on h).take a)
  have HRd : Hid (∀ W, Below w.heap.size w W → Rb W W.heap.size X (l.drop a)) := Lib.hid (fun W h => hX ▸ (HR.out.on h).cut (by have := HN.out; omega) (by have := HN.out; omega))
  obtain ⟨u1, hu1⟩ : ∃ u, upd c (l.take a) = u := ⟨_, rfl⟩
  obtain ⟨u2, hu2⟩ : ∃ u, upd c l = u := ⟨_, rfl⟩
  obtain ⟨u5, hu5⟩ : ∃ u, upd 4294967295 l = u := ⟨_, rfl⟩
  obtain ⟨s, hs⟩ : ∃ s, Kp.sum l = s := ⟨_, rfl⟩
  have h1l : u1 < 4294967296 := by rw [← hu1]; exact upd_lt _ hc (fun x hx => HR.out.small x (List.mem_of_mem_take hx))
  have h5l : u5 < 4294967296 := by rw [← hu5]; exact upd_lt _ (by omega) HR.out.small
  have hsu : s = u5 ^^^ 4294967295 := not_sum hu5 hs
  have e5 : bits .xor .u32 (if IntKind.u32.signed = true then -1 else IntKind.u32.max) (u5 : Int) = (s : Int) := by rw [all32, x32g h5l, hsu, Nat.xor_comm]
  have HU1 := Lib.hid hu1
  have HU2 := Lib.hid hu2
  have HU5 := Lib.hid hu5
  have HS := Lib.hid hs
  have HU12 : Hid (upd u1 (l.drop a) = u2) := Lib.hid (by rw [← hu1, ← hu2, ← upd_append, List.take_append_drop])
  clear hu1 hu2 hu5 hs hsu
  go_upto_region 5 with fail
  clear ha
  have tok1 : True := trivial
  have tok2 : True := trivial
  have tok3 : True := trivial
  have tok4 : True := trivial
  have tok5 : True := trivial
  go_region_held (fun _ => True) (trivial) (first
    | (go_at_call 14; refine (HSum A n k l s HN.out HS.out _ (HR.out.on hb5)).mono ?_; rintro e w6 ⟨rfl, hw6⟩; have hb6 := below_on hb5 hw6)
    | (go_at_call 12; clear tok1; refine (HUpd c c A a k (l.take a) u1 rfl hc HL1.out HU1.out _ (HRt.out _ hb1.drew)).mono ?_; rintro e w2 ⟨rfl, hw2⟩; have hb2 := below_on hb1.drew hw2)
    | (go_at_call 12; clear tok2; refine (HUpd u1 u1 X (n - a) (k - a) (l.drop a) u2 rfl h1l HL2.out HU12.out _ (HRd.out _ hb2)).mono ?_; rintro e w3 ⟨rfl, hw3⟩; have hb3 := below_on hb2 hw3)
    | (go_at_call 12; clear tok3; refine (HUpd c c A n k l u2 rfl hc HN.out HU2.out _ (HR.out.on hb3)).mono ?_; rintro e w4 ⟨rfl, hw4⟩; have hb4 := below_on hb3 hw4)
    | (go_at_call 12; clear tok4; refine (HUpd c c none 0 0 [] c rfl hc rfl rfl _ (Rb.none_ _ _ _)).mono ?_; rintro e w5 ⟨rfl, hw5⟩; have hb5 := below_on hb4 hw5)
    | (go_at_call 12; clear tok5; refine (HUpd 4294967295 4294967295 A n k l u5 ones (by omega) HN.out HU5.out _ (HR.out.on hb6)).mono ?_; rintro e w7 ⟨rfl, hw7⟩; have hb7 := below_on hb6 hw7))
  all_goals
    go_wp2_with fail
    go_ret
    exact ⟨rfl, hb7⟩
end Go.Proofs.Ytahghjggkigehaa

/-
  The walks of the document's Step, Update and Sum of layer crc.
-/
import Derived.Test.YtahghjggkigehaaCrcBase
namespace Go.Proofs.Ytahghjggkigehaa
open Go.RowKit Go.Proofs.Ytahghjggkigehaa.Kp

set_option maxHeartbeats 1600000 in
theorem rstep_of (c x : Nat) (hc : c < 4294967296) (hx : x < 256) (z : Nat) (hz : Kp.step c x = z) (w : World) :
    Calls Try.prog 11 #[.int .u32 (c : Int), .int .u8 (x : Int)] w fun e w' => e = .returned (.int .u32 (z : Int)) ∧ Below w.heap.size w w' := by
  have HZ := Lib.hid hz
  obtain ⟨y, hy⟩ : ∃ y, c ^^^ x = y := ⟨_, rfl⟩
  have hyl : y < 4294967296 := by rw [← hy]; exact xor_lt hc (by omega)
  have HY := Lib.hid hy
  have ex : bits .xor .u32 (c : Int) (x : Int) = (y : Int) := by rw [← hy]; exact x32 hc (by omega)
  have hxz : (x : Int) < 256 := by omega
  have hx0 : (0 : Int) ≤ (x : Int) := by omega
  have hxw : IntKind.u32.wrap (x : Int) = (x : Int) := by rw [IntKind.wrap_u32']; omega
  clear hy hz
  go_enter Try.func11, Try.ntmps11
  go_wp2_with fail
  go_loopg [5, 6, 7] 8 (fun g s5 s6 s7 wx => ∃ (i v : Nat), i + g = 8 ∧ s6 = .int .i64 i ∧ s5 = .int .u32 v ∧ v < 4294967296 ∧ Hid (it g v = it 8 y) ∧ wx = w)
  case atStart => exact ⟨0, y, by omega, rfl, rfl, hyl, Lib.hid rfl, rfl⟩
  case round =>
    obtain ⟨i, v, hi, rfl, rfl, hv, HI, rfl⟩ := hrel
    cases gk with
    | zero =>
      obtain rfl : i = 8 := by omega
      obtain rfl : v = z := by rw [← HZ.out]; unfold Kp.step; rw [HY.out, ← HI.out]; rfl
      go_wp2_with fail
      go_ret
      exact ⟨rfl, Below.refl _ _⟩
    | succ g =>
      have hlt : (i : Int) < 8 := by omega
      obtain ⟨h, hh⟩ : ∃ h, v / 2 = h := ⟨_, rfl⟩
      have e2 : (v : Int) / 2 = (h : Int) := by omega
      have hhl : h < 2147483648 := by omega
      by_cases hodd : v % 2 = 1
      · have e1 : bits .and .u32 (v : Int) 1 = 1 := by rw [low1 hv, hodd]; rfl
        obtain ⟨u, hu⟩ : ∃ u, h ^^^ 3988292384 = u := ⟨_, rfl⟩
        have hul : u < 4294967296 := by rw [← hu]; exact xor_lt (by omega) (by omega)
        have e3 : bits .xor .u32 (h : Int) 3988292384 = (u : Int) := by rw [← hu]; exact x32 (b := 3988292384) (by omega) (by omega)
        have HO : Hid (one v = u) := Lib.hid (by unfold one; rw [if_pos hodd, hh, hu])
        clear hu hh hodd
        go_wp2_with fail
        go_roundg g
        case measure => omega
        case rel => exact ⟨i + 1, u, by omega, by simp, rfl, hul, Lib.hid (by rw [← HI.out]; show it g u = it g (one v); rw [HO.out]), rfl⟩
      · have e1 : bits .and .u32 (v : Int) 1 = 0 := by rw [low1 hv, show v % 2 = 0 by omega]; rfl
        have HO : Hid (one v = h) := Lib.hid (by unfold one; rw [if_neg hodd, hh])
        clear hh hodd
        go_wp2_with fail
        go_roundg g
        case measure => omega
        case rel => exact ⟨i + 1, h, by omega, by simp, rfl, by omega, Lib.hid (by rw [← HI.out]; show it g h = it g (one v); rw [HO.out]), rfl⟩

set_option maxHeartbeats 1600000 in
theorem rupd_of (c : Nat) (hc : c < 4294967296) (A : Option Addr) (n k : Nat) (l : List Nat) (hn : n = l.length) (z : Nat) (hz : upd c l = z) (w : World) (hr : Rb w w.heap.size A l) :
    Calls Try.prog 13 #[.int .u32 (c : Int), .slice A n k] w fun e w' => e = .returned (.int .u32 (z : Int)) ∧ Below w.heap.size w w' := by
  have HZ := Lib.hid hz
  have HN := Lib.hid hn
  have HS := Lib.hid hr.small
  have hlen : n ≤ 9223372036854775807 := by rw [hn]; exact hr.len
  clear hz hn
  go_enter Try.func13, Try.ntmps13
  go_wp2_with fail
  go_loopg [5, 6] n (fun g s5 s6 wx => ∃ (i v : Nat), i + g = n ∧ s6 = .int .i64 i ∧ s5 = .int .u32 v ∧ v < 4294967296 ∧ Hid (upd v (l.drop i) = z) ∧ Below w.heap.size w wx)
  case atStart => exact ⟨0, c, by omega, rfl, rfl, hc, HZ, Below.refl _ _⟩
  case round =>
    obtain ⟨i, v, hi, rfl, rfl, hv, HI, hwx⟩ := hrel
    cases gk with
    | zero =>
      obtain rfl : i = n := by omega
      obtain rfl : v = z := by rw [← HI.out, HN.out, List.drop_length]; rfl
      go_wp2_with fail
      go_ret
      exact ⟨rfl, hwx⟩
    | succ g =>
      have hlt : i < n := by omega
      have hltz : (i : Int) < (n : Int) := by omega
      have hil : i < l.length := by have := HN.out; omega
      obtain ⟨bk, off, rfl, hbk, hc0⟩ := (hr.below hwx).at_ hil
      obtain ⟨x, hx⟩ : ∃ x, l[i] = x := ⟨_, rfl⟩
      have hxl : x < 256 := by rw [← hx]; exact HS.out _ (List.getElem_mem hil)
      obtain ⟨u, hu⟩ : ∃ u, Kp.step v x = u := ⟨_, rfl⟩
      have hul : u < 4294967296 := by rw [← hu]; exact step_lt hv hxl
      have HU : Hid (upd u (l.drop (i + 1)) = z) := Lib.hid (by rw [← HI.out, List.drop_eq_getElem_cons hil, upd_cons, hx, hu])
      unfold oct at hc0
      rw [hx] at hc0
      clear hx hr
      go_wp2_with fail
      refine (rstep_of v x hv hxl u hu _).mono ?_
      rintro e w2 ⟨rfl, hw2⟩
      clear hu
      go_wp2_with fail
      go_roundg g
      case measure => omega
      case rel => exact ⟨i + 1, u, by omega, by simp, rfl, hul, HU, below_on hwx hw2⟩

/-- The same, the sum ahead as a whole number. -/
theorem rupd_as (cz : Int) (c : Nat) (hcz : cz = (c : Int)) (hc : c < 4294967296) (A : Option Addr) (n k : Nat) (l : List Nat) (hn : n = l.length) (z : Nat) (hz : upd c l = z) (w : World) (hr : Rb w w.heap.size A l) :
    Calls Try.prog 13 #[.int .u32 cz, .slice A n k] w fun e w' => e = .returned (.int .u32 (z : Int)) ∧ Below w.heap.size w w' := by
  subst hcz; exact rupd_of c hc A n k l hn z hz w hr

theorem ones : (4294967295 : Int) = ((4294967295 : Nat) : Int) := by omega
theorem x32f {u : Nat} (hu : u < 4294967296) : bits .xor .u32 (u : Int) 4294967295 = ((u ^^^ 4294967295 : Nat) : Int) := x32z ones hu (by omega)
set_option maxHeartbeats 1600000 in
theorem rsum_of (A : Option Addr) (n k : Nat) (l : List Nat) (hn : n = l.length) (z : Nat) (hz : Kp.sum l = z) (w : World) (hr : Rb w w.heap.size A l) :
    Calls Try.prog 15 #[.slice A n k] w fun e w' => e = .returned (.int .u32 (z : Int)) ∧ Below w.heap.size w w' := by
  obtain ⟨u, hu⟩ : ∃ u, upd 4294967295 l = u := ⟨_, rfl⟩
  have hul : u < 4294967296 := by rw [← hu]; exact upd_lt l (by omega) hr.small
  have hz' : u ^^^ 4294967295 = z := by rw [← hz]; unfold Kp.sum; rw [hu]
  have e1 : bits .xor .u32 (u : Int) 4294967295 = (z : Int) := by rw [x32f hul, hz']
  have hc := fun W => rupd_as 4294967295 4294967295 ones (by omega) A n k l hn u hu W
  clear hu hz hz' hn
  go_enter Try.func15, Try.ntmps15
  go_wp2_with fail
  refine (hc _ hr).mono ?_
  rintro e w2 ⟨rfl, hw2⟩
  clear hc
  go_wp2_with fail
  go_ret
  exact ⟨rfl, hw2⟩
end Go.Proofs.Ytahghjggkigehaa

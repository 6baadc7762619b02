/-
  The walk of layer dur's law DurOrder: it answers true.
-/
import Derived.Test.YtjlonndkkeoohaaDoorDurUnits
import Derived.Laws.BitsLemmas
import Derived.Deep.DeepCutAuto
import Derived.Deep.RegionHeld
namespace Go.Proofs.YtjlonndkkeoohaaDoor
open Go.RowKit

theorem i64_and65535 (n : Int) : bits .and .i64 n 65535 = n % 65536 := by
  have h127 : (BitVec.ofInt 64 65535).toNat = 2 ^ 16 - 1 := by decide
  have key : (BitVec.ofInt 64 n &&& BitVec.ofInt 64 65535).toNat = (n % ((2 ^ 64 : Nat) : Int)).toNat % 2 ^ 16 := by
    rw [BitVec.toNat_and, BitVec.toNat_ofInt, h127, Nat.and_two_pow_sub_one_eq_mod]
  show IntKind.i64.wrap ((BitVec.ofInt 64 n &&& BitVec.ofInt 64 65535).toNat : Nat) = n % 65536
  rw [key, IntKind.wrap_i64]
  omega
theorem fifth (n : Int) : ∃ x : Nat, x < 5 ∧ (bits .and .i64 n 65535).tmod 5 = (x : Int) := by
  rw [i64_and65535, Int.tmod_eq_emod_of_nonneg (by omega)]
  exact ⟨(n % 65536 % 5).toNat, by omega, by omega⟩
theorem unit_str (x : Nat) : ∃ N : ByteArray, N = ⟨(Dp.nm x).toArray⟩ ∧ N.size ≤ 2 ∧ Hid (N.data.toList = Dp.nm x) := by
  refine ⟨_, rfl, ?_, Lib.hid (str_data _)⟩
  rw [str_size]; unfold Dp.nm; split <;> simp
/-- A text of no great length, parsed. -/
theorem text_of (S : ByteArray) (hS : S.size ≤ 1000) (l : List UInt8) (HS : S.data.toList = l) (D E : Int) (h : Dp.parseS l = (D, E)) (w : World) (hok : Ok w) :
    Calls Tryd.prog 10 #[.string S] w fun e w' => e = .returned (.tuple #[.int .i64 D, .int .i64 E]) ∧ Below w.heap.size w w' :=
  dparse_of S (by omega) D E (by rw [HS]; exact h) w hok
theorem fivenames (x : Nat) (h : x < 5) : (#[Value.string ⟨#[100]⟩, Value.string ⟨#[104]⟩, Value.string ⟨#[109]⟩, Value.string ⟨#[115]⟩, Value.string ⟨#[109, 115]⟩] : Array Value)[x]? = some (.string ⟨(Dp.nm x).toArray⟩) := by
  rcases (show x = 0 ∨ x = 1 ∨ x = 2 ∨ x = 3 ∨ x = 4 by omega) with rfl | rfl | rfl | rfl | rfl <;> rfl
theorem Dp.nm_len (i : Nat) : (Dp.nm i).length ≤ 2 := by
  unfold Dp.nm; split <;> simp
theorem Dp.one_at (a : Int) (h0 : 0 ≤ a) (h1 : a ≤ 100000) (x : Nat) (hx : x < 5) : Dp.parseS (Lib.decDigits a.toNat ++ Dp.nm x) = (((a.toNat * Dp.sz x : Nat) : Int), 0) := by
  refine Dp.parse_one _ x hx ?_
  have := Nat.mul_le_mul (show a.toNat ≤ 100000 by omega) (Dp.sz_le x)
  unfold Np.mx; omega

set_option maxRecDepth 100000 in
set_option maxHeartbeats 8000000 in
theorem durOrder_any (a i b k : Int) (w : World) (hok : Ok w) :
    Calls Tryd.prog 8 #[.int .i64 a, .int .i64 i, .int .i64 b, .int .i64 k] w fun e w' => e = .returned (.bool true) ∧ Below w.heap.size w w' := by
  have Hok := Lib.hid hok
  clear hok
  obtain ⟨x, hx5, hx⟩ := fifth i
  obtain ⟨y, hy5, hy⟩ := fifth k
  obtain ⟨NX, eNX, hNX, HNX⟩ := unit_str x
  obtain ⟨NY, eNY, hNY, HNY⟩ := unit_str y
  by_cases h0 : 0 ≤ a ∧ 0 ≤ b ∧ a ≤ 100000 ∧ b ≤ 100000
  · obtain ⟨ha0, hb0, ha1, hb1⟩ := h0
    have HX := Lib.hid (Dp.one_at a ha0 ha1 x hx5)
    have HY := Lib.hid (Dp.one_at b hb0 hb1 y hy5)
    go_enter Tryd.func8, Tryd.ntmps8
    go_wp2_with fail
    refine (awake2_any _ Hok.out).mono ?_
    rintro e w1 ⟨rfl, hw1⟩
    have Hok1 := Lib.hid (Hok.out.on hw1)
    have hal : Below w1.heap.size w1 (w1.alloc (Obj.cells #[Value.string ⟨#[100]⟩, Value.string ⟨#[104]⟩, Value.string ⟨#[109]⟩, Value.string ⟨#[115]⟩, Value.string ⟨#[109, 115]⟩] 9)) := (Below.refl _ _).alloc (Nat.le_refl _) _
    have hcx : (w1.alloc (Obj.cells #[Value.string ⟨#[100]⟩, Value.string ⟨#[104]⟩, Value.string ⟨#[109]⟩, Value.string ⟨#[115]⟩, Value.string ⟨#[109, 115]⟩] 9)).cell? ⟨w1.heap.size, x, none⟩ = some (.string NX) := by
      rw [World.cell?_alloc_new, eNX]; exact fivenames x hx5
    have hcy : (w1.alloc (Obj.cells #[Value.string ⟨#[100]⟩, Value.string ⟨#[104]⟩, Value.string ⟨#[109]⟩, Value.string ⟨#[115]⟩, Value.string ⟨#[109, 115]⟩] 9)).cell? ⟨w1.heap.size, y, none⟩ = some (.string NY) := by
      rw [World.cell?_alloc_new, eNY]; exact fivenames y hy5
    have hsz : w1.heap.size < (w1.alloc (Obj.cells #[Value.string ⟨#[100]⟩, Value.string ⟨#[104]⟩, Value.string ⟨#[109]⟩, Value.string ⟨#[115]⟩, Value.string ⟨#[109, 115]⟩] 9)).heap.size := by simp
    go_upto_region 7 with fail
    clear eNX eNY
    have hwW := below_on hw1 hal
    generalize w1.alloc (Obj.cells #[Value.string ⟨#[100]⟩, Value.string ⟨#[104]⟩, Value.string ⟨#[109]⟩, Value.string ⟨#[115]⟩, Value.string ⟨#[109, 115]⟩] 9) = W at hal hwW hcx hcy hsz ⊢
    generalize w1.heap.size = B at hcx hcy hsz ⊢
    have HokW := Lib.hid (Hok.out.on hwW)
    have hpb : a.toNat * Dp.sz x ≤ 8640000000000 := Nat.le_trans (Nat.mul_le_mul (show a.toNat ≤ 100000 by omega) (Dp.sz_le x)) (by omega)
    have hqb : b.toNat * Dp.sz y ≤ 8640000000000 := Nat.le_trans (Nat.mul_le_mul (show b.toNat ≤ 100000 by omega) (Dp.sz_le y)) (by omega)
    obtain ⟨D, E, hDE, HZ⟩ : ∃ D E : Int, ((y ≤ x ∧ D = 0 ∧ E = 1) ∨ (x < y ∧ D = ((a.toNat * Dp.sz x : Nat) : Int) + ((b.toNat * Dp.sz y : Nat) : Int) ∧ E = 0)) ∧ Hid (Dp.parseS (Lib.decDigits a.toNat ++ Dp.nm x ++ Lib.decDigits b.toNat ++ Dp.nm y) = (D, E)) := by
      by_cases hxy : y ≤ x
      · exact ⟨0, 1, Or.inl ⟨hxy, rfl, rfl⟩, Lib.hid (Dp.parse_wrong _ x _ y hx5 hy5 hxy)⟩
      · refine ⟨_, 0, Or.inr ⟨by omega, rfl, rfl⟩, Lib.hid ?_⟩
        rw [Dp.parse_two _ x _ y hx5 hy5 (by unfold Np.mx; omega) (by omega)]
        congr 1
    generalize a.toNat * Dp.sz x = p at HX hpb hDE
    generalize b.toNat * Dp.sz y = q at HY hqb hDE
    have HDE := Lib.hid hDE
    clear hDE
    go_cut [13, 14] (fun s13 s14 wx => s13 = .int .i64 (p : Nat) ∧ s14 = .int .i64 0 ∧ Below W.heap.size W wx)
    case first =>
      go_region_with (first
        | (go_at_call 16; refine (lawDigits_str a _ (by omega) (by omega)).mono ?_; rintro e w2 ⟨S1, rfl, ⟨hS0, hS1⟩, HS1, hw2⟩; have hc2 : w2.cell? ⟨B, x, none⟩ = some (.string NX) := (hw2.cell (p := ⟨B, x, none⟩) hsz).trans hcx)
        | (go_at_call 10; refine (text_of (S1 ++ NX) (by rw [ByteArray.size_append]; omega) _ (by rw [data_app, HS1.out, HNX.out]) _ _ HX.out _ (HokW.out.on (below_on (Below.refl _ _).drew hw2))).mono ?_; rintro e w3 ⟨rfl, hw3⟩))
      all_goals
        go_wp2_with fail
        go_meet
        exact ⟨rfl, rfl, below_on (below_on (Below.refl _ _).drew hw2) hw3⟩
    case rest =>
      generalize wc = V at hcut ⊢
      obtain ⟨rfl, rfl, hcb⟩ := hcut
      have hV := below_on hwW hcb
      have hcx1 : V.cell? ⟨B, x, none⟩ = some (.string NX) := (hcb.cell (p := ⟨B, x, none⟩) hsz).trans hcx
      have hcy1 : V.cell? ⟨B, y, none⟩ = some (.string NY) := (hcb.cell (p := ⟨B, y, none⟩) hsz).trans hcy
      have hsz1 : B < V.heap.size := Nat.lt_of_lt_of_le hsz hcb.size
      have HokV := Lib.hid (Hok.out.on hV)
      clear hcx hcy hsz hwW hal hcb
      go_upto_region 8 with fail
      go_cut [15, 16] (fun s15 s16 wx => s15 = .int .i64 (q : Nat) ∧ s16 = .int .i64 0 ∧ Below V.heap.size V wx)
      case first =>
        go_region_with (first
          | (go_at_call 16; refine (lawDigits_str b _ (by omega) (by omega)).mono ?_; rintro e w2 ⟨S1, rfl, ⟨hS0, hS1⟩, HS1, hw2⟩; have hc2 : w2.cell? ⟨B, y, none⟩ = some (.string NY) := (hw2.cell (p := ⟨B, y, none⟩) hsz1).trans hcy1)
          | (go_at_call 10; refine (text_of (S1 ++ NY) (by rw [ByteArray.size_append]; omega) _ (by rw [data_app, HS1.out, HNY.out]) _ _ HY.out _ (HokV.out.on (below_on (Below.refl _ _).drew hw2))).mono ?_; rintro e w3 ⟨rfl, hw3⟩))
        all_goals
          go_wp2_with fail
          go_meet
          exact ⟨rfl, rfl, below_on (below_on (Below.refl _ _).drew hw2) hw3⟩
      case rest =>
        generalize wc = U at hcut ⊢
        obtain ⟨rfl, rfl, hcb⟩ := hcut
        have hU := below_on hV hcb
        have hcx : U.cell? ⟨B, x, none⟩ = some (.string NX) := (hcb.cell (p := ⟨B, x, none⟩) hsz1).trans hcx1
        have hcy : U.cell? ⟨B, y, none⟩ = some (.string NY) := (hcb.cell (p := ⟨B, y, none⟩) hsz1).trans hcy1
        have hsz : B < U.heap.size := Nat.lt_of_lt_of_le hsz1 hcb.size
        have HokU := Lib.hid (Hok.out.on hU)
        clear hcx1 hcy1 hsz1 hV hcb
        go_upto_region 9 with fail
        go_cut [17, 18] (fun s17 s18 wx => s17 = .int .i64 D ∧ s18 = .int .i64 E ∧ Below U.heap.size U wx)
        case first =>
          have HDa := Lib.hid (fun W => lawDigits_str a W ha0 (by omega))
          have HDb := Lib.hid (fun W => lawDigits_str b W hb0 (by omega))
          have hxz : (x : Int) < 5 := by omega
          have hyz : (y : Int) < 5 := by omega
          have hcxD : U.drew.cell? ⟨B, x, none⟩ = some (.string NX) := hcx
          have hcyD : U.drew.cell? ⟨B, y, none⟩ = some (.string NY) := hcy
          go_region_held (fun w' => w'.cell? ⟨B, x, none⟩ = some (.string NX) ∧ w'.cell? ⟨B, y, none⟩ = some (.string NY)) (first
            | with_reducible exact ⟨hcxD, hcyD⟩
            | with_reducible exact ⟨hc2, hd2⟩
            | with_reducible exact ⟨hc3, hd3⟩
            | with_reducible exact ⟨hc4, hd4⟩) (first
            | (have hsz2' := hsz2; go_at_call 16; refine (HDb.out _).mono ?_; rintro e w3 ⟨S2, rfl, ⟨hS20, hS2⟩, HS2, hw3⟩; have hc3 : w3.cell? ⟨B, x, none⟩ = some (.string NX) := (hw3.cell (p := ⟨B, x, none⟩) hsz2).trans hc2; have hd3 : w3.cell? ⟨B, y, none⟩ = some (.string NY) := (hw3.cell (p := ⟨B, y, none⟩) hsz2).trans hd2; have hsz3 : B < w3.heap.size := Nat.lt_of_lt_of_le hsz2 hw3.size)
            | (go_at_call 16; refine (HDa.out _).mono ?_; rintro e w2 ⟨S1, rfl, ⟨hS0, hS1⟩, HS1, hw2⟩; have hc2 : w2.cell? ⟨B, x, none⟩ = some (.string NX) := (hw2.cell (p := ⟨B, x, none⟩) hsz).trans hcx; have hd2 : w2.cell? ⟨B, y, none⟩ = some (.string NY) := (hw2.cell (p := ⟨B, y, none⟩) hsz).trans hcy; have hsz2 : B < w2.heap.size := Nat.lt_of_lt_of_le hsz hw2.size)
            | (go_at_call 10; refine (text_of (S1 ++ NX ++ S2 ++ NY) (by simp only [ByteArray.size_append]; omega) _ (by simp only [data_app, HS1.out, HNX.out, HS2.out, HNY.out]) _ _ HZ.out _ (HokU.out.on (below_on (below_on (Below.refl _ _).drew hw2) hw3))).mono ?_; rintro e w4 ⟨rfl, hw4⟩; have hc4 : w4.cell? ⟨B, x, none⟩ = some (.string NX) := (hw4.cell (p := ⟨B, x, none⟩) hsz3).trans hc3; have hd4 : w4.cell? ⟨B, y, none⟩ = some (.string NY) := (hw4.cell (p := ⟨B, y, none⟩) hsz3).trans hd3))
          all_goals
            go_wp2_with fail
            go_meet
            exact ⟨rfl, rfl, below_on (below_on (below_on (Below.refl _ _).drew hw2) hw3) hw4⟩
        case rest =>
          obtain ⟨rfl, rfl, hcb⟩ := hcut
          have hZ := below_on hU hcb
          clear hcx hcy hsz hU hcb
          rcases HDE.out with ⟨hxy, rfl, rfl⟩ | ⟨hxy, rfl, rfl⟩
          · go_wp2_with fail
            go_ret
            exact ⟨rfl, hZ⟩
          · go_wp2_with fail
            go_ret
            exact ⟨rfl, hZ⟩
  · by_cases ha0 : 0 ≤ a
    · by_cases hb0 : 0 ≤ b
      · by_cases ha1 : a ≤ 100000
        · have hb1 : ¬ b ≤ 100000 := fun h => h0 ⟨ha0, hb0, ha1, h⟩
          clear h0
          go_enter Tryd.func8, Tryd.ntmps8
          go_wp2_with fail
          refine (awake2_any _ Hok.out).mono ?_
          rintro e w1 ⟨rfl, hw1⟩
          go_wp2_with fail
          go_ret
          exact ⟨rfl, hw1.alloc hw1.size _⟩
        · clear h0
          go_enter Tryd.func8, Tryd.ntmps8
          go_wp2_with fail
          refine (awake2_any _ Hok.out).mono ?_
          rintro e w1 ⟨rfl, hw1⟩
          go_wp2_with fail
          go_ret
          exact ⟨rfl, hw1.alloc hw1.size _⟩
      · clear h0
        go_enter Tryd.func8, Tryd.ntmps8
        go_wp2_with fail
        refine (awake2_any _ Hok.out).mono ?_
        rintro e w1 ⟨rfl, hw1⟩
        go_wp2_with fail
        go_ret
        exact ⟨rfl, hw1.alloc hw1.size _⟩
    · clear h0
      go_enter Tryd.func8, Tryd.ntmps8
      go_wp2_with fail
      refine (awake2_any _ Hok.out).mono ?_
      rintro e w1 ⟨rfl, hw1⟩
      go_wp2_with fail
      go_ret
      exact ⟨rfl, hw1.alloc hw1.size _⟩
end Go.Proofs.YtjlonndkkeoohaaDoor

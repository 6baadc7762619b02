/-
  The walks of cmp.Or at two numbers, of label.Compare's comparison, of slices.CompareFunc over it, and of label.Compare.
-/
import Derived.Test.YthknoanhljonoaaLabWith
import Derived.Test.YthknoanhljonoaaLabSame
import Derived.StillTailTactics
namespace Go.Proofs.Ythknoanhljonoaa
open Go.RowKit Go.Maps Go.Proofs.Ythknoanhljonoaa.Lp

set_option maxHeartbeats 1600000 in
theorem or_of (b : Nat) (z0 z1 z : Int) (hz : z = if z0 = 0 then z1 else z0) (w : World) (h0 : w.cell? ⟨b, 0, none⟩ = some (.int .i64 z0)) (h1 : w.cell? ⟨b, 1, none⟩ = some (.int .i64 z1)) (hb : b < w.heap.size) :
    Calls Try.prog 46 #[.slice (some ⟨b, 0, none⟩) 2 2] w fun e w' => e = .returned (.int .i64 z) ∧ w' = w := by
  have HZ := Lib.hid hz
  clear hz
  go_enter Try.func46, Try.ntmps46
  go_wp2_with fail
  go_loopg [5, 8] 2 (fun g _ s8 wx => ∃ i : Nat, i + g = 2 ∧ s8 = .int .i64 i ∧ Hid ((0 < i → z0 = 0) ∧ (1 < i → z1 = 0)) ∧ wx = w)
  case atStart => exact ⟨0, by omega, rfl, Lib.hid ⟨fun h => by omega, fun h => by omega⟩, rfl⟩
  case round =>
    obtain ⟨i, hi, rfl, HA, rfl⟩ := hrel
    rcases (show i = 0 ∨ i = 1 ∨ i = 2 by omega) with rfl | rfl | rfl
    · by_cases e : z0 = 0
      · have hne : (z0 == 0) = true := by simpa using e
        have hne' : (z0 != 0) = false := by simpa using e
        have E := Lib.hid e
        clear e
        go_wp2_with fail
        go_roundg 1
        case measure => omega
        case rel => exact ⟨1, by omega, by simp, Lib.hid ⟨fun _ => E.out, fun h => by omega⟩, rfl⟩
      · have hz : z = z0 := by rw [HZ.out, if_neg e]
        have hne : (z0 == 0) = false := by simpa using e
        have hne' : (z0 != 0) = true := by simpa using e
        subst hz
        clear e
        go_wp2_with fail
        go_ret
        exact ⟨rfl, rfl⟩
    · have e0 := HA.out.1 (by omega)
      by_cases e : z1 = 0
      · have hne : (z1 == 0) = true := by simpa using e
        have hne' : (z1 != 0) = false := by simpa using e
        have E := Lib.hid e
        have E0 := Lib.hid e0
        clear e e0
        go_wp2_with fail
        go_roundg 0
        case measure => omega
        case rel => exact ⟨2, by omega, by simp, Lib.hid ⟨fun _ => E0.out, fun h => E.out⟩, rfl⟩
      · have hz : z = z1 := by rw [HZ.out, if_pos e0]
        have hne : (z1 == 0) = false := by simpa using e
        have hne' : (z1 != 0) = true := by simpa using e
        subst hz
        clear e e0
        go_wp2_with fail
        go_ret
        exact ⟨rfl, rfl⟩
    · have hz : z = 0 := by
        rw [HZ.out]
        have := HA.out
        rw [if_pos (this.1 (by omega))]
        exact this.2 (by omega)
      subst hz
      go_wp2_with fail
      go_ret
      exact ⟨rfl, rfl⟩

theorem boxed (W : World) (N V M U : ByteArray) : ∃ W2, (W.alloc (.cells #[.string N, .string V] 38)).alloc (.cells #[.string M, .string U] 38) = W2 ∧ Below W.heap.size W W2 ∧ W2.heap.size = W.heap.size + 2 ∧
    W2.cell? ⟨W.heap.size, 0, none⟩ = some (.string N) ∧ W2.cell? ⟨W.heap.size, 1, none⟩ = some (.string V) ∧ W2.cell? ⟨W.heap.size + 1, 0, none⟩ = some (.string M) ∧ W2.cell? ⟨W.heap.size + 1, 1, none⟩ = some (.string U) := by
  refine ⟨_, rfl, (below_alloc _ _).alloc (by simp) _, by simp, ?_, ?_, ?_, ?_⟩
  all_goals go_simp
set_option maxHeartbeats 1600000 in
theorem bypair_of (N V M U : ByteArray) (z : Int) (hz : cmpP (N, V) (M, U) = z) (W : World) :
    Calls Try.prog 45 #[.agg #[.string N, .string V], .agg #[.string M, .string U]] W fun e w' => e = .returned (.int .i64 z) ∧ Below W.heap.size W w' := by
  obtain ⟨z0, hz0⟩ : ∃ z, cmpT N M = z := ⟨_, rfl⟩
  obtain ⟨z1, hz1⟩ : ∃ z, cmpT V U = z := ⟨_, rfl⟩
  have HZ : Hid (z = if z0 = 0 then z1 else z0) := Lib.hid (by
    rw [← hz, ← hz0, ← hz1]; rfl)
  have HZ0 := Lib.hid hz0
  have HZ1 := Lib.hid hz1
  clear hz hz0 hz1
  go_enter Try.func45, Try.ntmps45
  go_wp2_with fail
  obtain ⟨W2, hW2, hb2, hs2, c0, c1, d0, d1⟩ := boxed W N V M U
  rw [hW2]
  clear hW2
  refine wp_region_still_tail 10 (by kernel_rfl) (by kernel_rfl) ?_
  change wpStill _ _ W2.drew (fun a' => wpList _ _ _ _ a' W2.drew) _ _
  have hb3 : Below W.heap.size W W2.drew := hb2.drew
  have c0' : W2.drew.cell? ⟨W.heap.size, 0, none⟩ = some (.string N) := c0
  have c1' : W2.drew.cell? ⟨W.heap.size, 1, none⟩ = some (.string V) := c1
  have d0' : W2.drew.cell? ⟨W.heap.size + 1, 0, none⟩ = some (.string M) := d0
  have d1' : W2.drew.cell? ⟨W.heap.size + 1, 1, none⟩ = some (.string U) := d1
  have hlt : W.heap.size + 1 < W2.drew.heap.size := by show _ < W2.heap.size; omega
  generalize W2.drew = W3 at hb3 c0' c1' d0' d1' hlt ⊢
  clear hb2 hs2 c0 c1 d0 d1
  simp only [List.take_succ_cons, List.take_zero, List.drop_succ_cons, List.drop_zero]
  iterate 4 still_step
  still_call (scmp_of N M z0 HZ0.out _)
  iterate 4 still_step
  still_call (scmp_of V U z1 HZ1.out _)
  refine wpStill_nil ?_
  go_wp2_with fail
  refine (or_of W3.heap.size z0 z1 z HZ.out _ (by go_simp) (by go_simp) (by simp)).mono ?_
  rintro e w' ⟨rfl, rfl⟩
  go_wp2_with fail
  go_ret
  exact ⟨rfl, hb3.alloc hb3.size _⟩

set_option maxHeartbeats 3200000 in
theorem cmpf_of (A B : Option Addr) (c d n k : Nat) (x y : List Pr) (hn : n = x.length) (hk : k = y.length) (z : Int) (hz : cmpL x y = z) (w : World) (hr : Rd w w.heap.size A x) (hs : Rd w w.heap.size B y) :
    Calls Try.prog 44 #[.slice A n c, .slice B k d, .func (.func 45) #[] #[]] w fun e w' => e = .returned (.int .i64 z) ∧ Below w.heap.size w w' := by
  have HN := Lib.hid hn
  have HK := Lib.hid hk
  have HZ := Lib.hid hz
  have hlen : n ≤ 9223372036854775807 := by rw [hn]; exact hr.len
  have hlen' : k ≤ 9223372036854775807 := by rw [hk]; exact hs.len
  clear hn hk hz
  go_enter Try.func44, Try.ntmps44
  go_wp2_with fail
  go_loopg [7, 8, 9, 10, 13] (n + 1) (fun g _ _ _ _ s13 wx => ∃ i : Nat, i + g = n + 1 ∧ i ≤ n ∧ i ≤ k ∧ s13 = .int .i64 i ∧ Hid (cmpL (x.drop i) (y.drop i) = z) ∧ Below w.heap.size w wx)
  case atStart => exact ⟨0, by omega, by omega, by omega, rfl, Lib.hid (by simpa using HZ.out), Below.refl _ _⟩
  case round =>
    obtain ⟨i, hi, hin, hik, rfl, HA, hwx⟩ := hrel
    by_cases hlt : i < n
    · have hltz : (i : Int) < (n : Int) := by omega
      obtain ⟨bk, off, rfl, hbk, hc⟩ := (hr.below hwx).all (by have := HN.out; omega)
      obtain ⟨N, V, hp⟩ := ex_at (l := x) (k := i) (by have := HN.out; omega)
      obtain ⟨c0, c1⟩ := hc _ _ hp
      have hbk' : bk < wr.heap.size := by have := hwx.size; omega
      by_cases hlt2 : i < k
      · have hltz2 : (i : Int) < (k : Int) := by omega
        obtain ⟨bk2, off2, rfl, hbk2, hd⟩ := (hs.below hwx).all (by have := HK.out; omega)
        obtain ⟨M, U, hq⟩ := ex_at (l := y) (k := i) (by have := HK.out; omega)
        obtain ⟨d0, d1⟩ := hd _ _ hq
        have HS := Lib.hid (cmp_step hp hq)
        clear hc hd hp hq hr hs
        have hbk2' : bk2 < wr.heap.size := by have := hwx.size; omega
        obtain ⟨g, rfl⟩ : ∃ g, gk = g + 1 := ⟨gk - 1, by omega⟩
        by_cases h0 : cmpP (N, V) (M, U) = 0
        · have HA' : Hid (cmpL (x.drop (i + 1)) (y.drop (i + 1)) = z) := Lib.hid (by
            rw [← HA.out, HS.out, if_pos h0])
          have H0 := Lib.hid h0
          clear h0
          go_wp2_with fail
          refine (bypair_of N V M U 0 H0.out _).mono ?_
          rintro e w2 ⟨rfl, hw2⟩
          go_wp2_with fail
          go_roundg g
          case measure => omega
          case rel => exact ⟨i + 1, by omega, by omega, by omega, by simp, HA', ((hwx.alloc hwx.size _).alloc (by have := hwx.size; simp; omega) _).trans (hw2.mono (by have := hwx.size; simp; omega))⟩
        · have hz : z = cmpP (N, V) (M, U) := by rw [← HA.out, HS.out, if_neg h0]
          have hne : (z == 0) = false := by rw [hz]; simpa using h0
          have hne' : (z != 0) = true := by simp only [bne, hne]; rfl
          have H0 := Lib.hid hz.symm
          clear h0 hz
          go_wp2_with fail
          refine (bypair_of N V M U z H0.out _).mono ?_
          rintro e w2 ⟨rfl, hw2⟩
          go_wp2_with fail
          go_ret
          exact ⟨rfl, ((hwx.alloc hwx.size _).alloc (by have := hwx.size; simp; omega) _).trans (hw2.mono (by have := hwx.size; simp; omega))⟩
      · have hlt2z : (k : Int) ≤ (i : Int) := by omega
        have hz : z = 1 := by
          rw [← HA.out, cmp_end (by have := HK.out; omega) (by have := HN.out; omega) (by have := HK.out; omega), ← HN.out, ← HK.out, if_neg (by omega), if_pos (by omega)]
        subst hz
        clear hc hp hr hs
        go_wp2_with fail
        go_ret
        exact ⟨rfl, hwx.alloc hwx.size _⟩
    · obtain rfl : i = n := by omega
      by_cases hk : i < k
      · have hz : z = -1 := by
          rw [← HA.out, cmp_end (by have := HN.out; omega) (by have := HN.out; omega) (by have := HK.out; omega), ← HN.out, ← HK.out, if_pos hk]
        subst hz
        have hkn : (i : Int) < (k : Int) := by omega
        go_wp2_with fail
        go_ret
        exact ⟨rfl, hwx⟩
      · have hz : z = 0 := by
          rw [← HA.out, cmp_end (by have := HN.out; omega) (by have := HN.out; omega) (by have := HK.out; omega), ← HN.out, ← HK.out, if_neg (by omega), if_neg (by omega)]
        subst hz
        have hkn : ¬ (i : Int) < (k : Int) := by omega
        go_wp2_with fail
        go_ret
        exact ⟨rfl, hwx⟩

theorem compare_of (A B : Option Addr) (c d n k : Nat) (l m : List Pr) (hn : n = l.length) (hk : k = m.length) (z : Int) (hz : cmpL (asL l) (asL m) = z) (w : World) (hr : Rd w w.heap.size A l) (hs : Rd w w.heap.size B m) :
    Calls Try.prog 27 #[.slice A n c, .slice B k d] w fun e w' => e = .returned (.int .i64 z) ∧ Below w.heap.size w w' := by
  have HN := Lib.hid hn
  have HK := Lib.hid hk
  have HZ := Lib.hid hz
  clear hn hk hz
  go_enter Try.func27, Try.ntmps27
  go_wp2_with fail
  refine (orNone_of A c n l HN.out _ hr).mono ?_
  rintro e w1 ⟨A', c', rfl, HR1, hw1⟩
  go_wp2_with fail
  refine (orNone_of B d k m HK.out _ (hs.on hw1)).mono ?_
  rintro e w2 ⟨B', d', rfl, HS2, hw2⟩
  generalize asL l = x at HZ HR1
  generalize asL m = y at HZ HS2
  obtain ⟨i, hi⟩ : ∃ i, x.length = i := ⟨_, rfl⟩
  obtain ⟨j, hj⟩ : ∃ j, y.length = j := ⟨_, rfl⟩
  rw [hi, hj]
  have HI := Lib.hid hi
  have HJ := Lib.hid hj
  clear hi hj hr hs
  go_wp2_with fail
  refine (cmpf_of A' B' c' d' i j x y HI.out.symm HJ.out.symm z HZ.out _ (HR1.out.on hw2) HS2.out).mono ?_
  rintro e w3 ⟨rfl, hw3⟩
  go_wp2_with fail
  go_ret
  exact ⟨rfl, below_on (below_on hw1 hw2) hw3⟩
end Go.Proofs.Ythknoanhljonoaa

/-
  The walk of layer crc's law CrcOne.
-/
import Derived.Test.YtahghjggkigehaaCrcApp
namespace Go.Proofs.Ytahghjggkigehaa
open Go.RowKit Go.Proofs.Ytahghjggkigehaa.Kp

set_option maxHeartbeats 6400000 in
set_option maxRecDepth 100000 in
theorem crcOne_any (HStep : StepC) (HUpd : UpdC) (HSum : SumC) (c : Nat) (hc : c < 4294967296) (A : Option Addr) (n k : Nat) (l : List Nat) (w : World) (hn : n = l.length) (hr : Rb w w.heap.size A l) :
    Calls Try.prog 8 #[.int .u32 (c : Int), .slice A n k] w fun e w' => e = .returned (.bool true) ∧ Below w.heap.size w w' := by
  have HN := Lib.hid hn
  have HR := Lib.hid hr
  have HS := Lib.hid hr.small
  obtain ⟨z, hz⟩ : ∃ z, upd c l = z := ⟨_, rfl⟩
  have HZ := Lib.hid hz
  clear hn hr hz
  go_enter Try.func8, Try.ntmps8
  go_wp2_with fail
  refine (awake_any HStep HSum _).mono ?_
  rintro e w1 ⟨rfl, hb1⟩
  by_cases hbig : (1000 : Int) < (n : Int)
  · go_wp2_with fail
    go_ret
    exact ⟨rfl, hb1⟩
  go_wp2_with fail
  go_loopg [6, 7] n (fun g s6 s7 wx => ∃ (i v : Nat), i + g = n ∧ s7 = .int .i64 i ∧ s6 = .int .u32 v ∧ v < 4294967296 ∧ Hid (upd v (l.drop i) = z) ∧ Below w.heap.size w wx)
  case atStart => exact ⟨0, c, by omega, rfl, rfl, hc, HZ, hb1⟩
  case round =>
    obtain ⟨i, v, hi, rfl, rfl, hv, HI, hwx⟩ := hrel
    cases gk with
    | zero =>
      obtain rfl : i = n := by omega
      obtain rfl : v = z := by rw [← HI.out, HN.out, List.drop_length]; rfl
      obtain ⟨s, hs⟩ : ∃ s, Kp.sum l = s := ⟨_, rfl⟩
      have hsl : s < 4294967296 := by rw [← hs]; exact sum_lt HS.out
      obtain ⟨q1, hq1⟩ : ∃ q, s / 256 = q := ⟨_, rfl⟩
      obtain ⟨q2, hq2⟩ : ∃ q, s / 65536 = q := ⟨_, rfl⟩
      obtain ⟨o0, ho0⟩ : ∃ q, s % 256 = q := ⟨_, rfl⟩
      obtain ⟨o1, ho1⟩ : ∃ q, q1 % 256 = q := ⟨_, rfl⟩
      obtain ⟨o2, ho2⟩ : ∃ q, q2 % 256 = q := ⟨_, rfl⟩
      obtain ⟨o3, ho3⟩ : ∃ q, s / 16777216 = q := ⟨_, rfl⟩
      have b0 : o0 < 256 := by omega
      have b1 : o1 < 256 := by omega
      have b2 : o2 < 256 := by omega
      have b3 : o3 < 256 := by omega
      have e1 : (s : Int) / 256 = (q1 : Int) := by omega
      have e2 : (s : Int) / 65536 = (q2 : Int) := by omega
      have e3 : (s : Int) / 16777216 = (o3 : Int) := by omega
      have f0 : bits .and .u32 (s : Int) 255 = (o0 : Int) := by rw [low8 hsl, ho0]
      have f1 : bits .and .u32 (q1 : Int) 255 = (o1 : Int) := by rw [low8 (by omega), ho1]
      have f2 : bits .and .u32 (q2 : Int) 255 = (o2 : Int) := by rw [low8 (by omega), ho2]
      have g0 : IntKind.u8.wrap (o0 : Int) = (o0 : Int) := by rw [IntKind.wrap_u8']; omega
      have g1 : IntKind.u8.wrap (o1 : Int) = (o1 : Int) := by rw [IntKind.wrap_u8']; omega
      have g2 : IntKind.u8.wrap (o2 : Int) = (o2 : Int) := by rw [IntKind.wrap_u8']; omega
      have g3 : IntKind.u8.wrap (o3 : Int) = (o3 : Int) := by rw [IntKind.wrap_u8']; omega
      have HO : Hid (Kp.sum (([] ++ l) ++ [o0, o1, o2, o3]) = 558161692) := Lib.hid (by
        have := own_sum l s hs
        rw [ho0, hq1, ho1, hq2, ho2, ho3] at this
        exact this)
      have hl1 : ([] : List Nat).length + l.length ≤ 1000000 := by have := HN.out; simp; omega
      have hl2 : ([] ++ l).length + [o0, o1, o2, o3].length ≤ 1000000 := by have := HN.out; simp; omega
      have HBt : Hid (∀ x ∈ [o0, o1, o2, o3], x < 256) := Lib.hid (by intro x hx; simp at hx; omega)
      have HBa : Hid (∀ x ∈ ([] ++ l) ++ [o0, o1, o2, o3], x < 256) := Lib.hid (by
        intro x hx
        rcases List.mem_append.1 hx with h | h
        · exact HS.out x h
        · exact HBt.out x h)
      have HSm := Lib.hid hs
      clear hs hq1 hq2 ho0 ho1 ho2 ho3
      go_wp2_with fail
      refine (HSum A i k l s HN.out HSm.out _ (HR.out.on hwx)).mono ?_
      rintro e w2 ⟨rfl, hw⟩
      have hb2 := below_on hwx hw
      clear hw
      have tok1 : True := trivial
      have tok2 : True := trivial
      go_wp2_with (first
        | (at_builtin; have _t := tok1; refine wp_app _ rfl _ _ rfl w2.heap.size _ [] l rfl (own_made w2) A i k HN.out rfl ((HR.out.on hb2).on (below_alloc _ _)) hl1 (by simp) ?_; intro v3 w3 hown3 hb3; clear tok1)
        | (at_builtin; have _t := tok2; refine wp_app _ rfl _ _ rfl w2.heap.size v3 ([] ++ l) [o0, o1, o2, o3] rfl (Own.alloc hown3 _) _ 4 4 rfl rfl (rb_new w3 _ _ (0, 0) [o0, o1, o2, o3] rfl (by simp) HBt.out) hl2 (by have := hb3.size; simp at this ⊢; omega) ?_; intro v4 w4 hown4 hb4; clear tok2))
      have hb24 := (((below_alloc w2 _).trans hb3).alloc ((below_alloc w2 _).trans hb3).size _).trans hb4
      have hbw4 := below_on hb2 hb24
      obtain ⟨A4, c4, hv⟩ := Own.slice hown4
      have HR4 : Hid (Rb w4 w4.heap.size A4 (([] ++ l) ++ [o0, o1, o2, o3])) := Lib.hid (Own.rb (c := c4) (hv ▸ hown4) (by have := HN.out; simp; omega) HBa.out)
      obtain ⟨m, hm⟩ : ∃ m, (([] ++ l) ++ [o0, o1, o2, o3]).length = m := ⟨_, rfl⟩
      rw [hm] at hv
      subst hv
      have HM := Lib.hid hm.symm
      clear hm hown4 hown3 hb3 hb4 hb24 hb2
      refine (HUpd c c A i k l v rfl hc HN.out HZ.out _ (HR.out.on hbw4)).mono ?_
      rintro e w5 ⟨rfl, hw⟩
      have HR5 := Lib.hid (HR4.out.on hw)
      have hb5 := below_on hbw4 hw
      clear hw HR4 hbw4
      go_wp2_with fail
      refine (HSum A4 m c4 _ 558161692 HM.out HO.out _ HR5.out).mono ?_
      rintro e w6 ⟨rfl, hw⟩
      have hb6 := below_on hb5 hw
      go_wp2_with fail
      go_ret
      exact ⟨rfl, hb6⟩
    | succ g =>
      have hlt : i < n := by omega
      have hltz : (i : Int) < (n : Int) := by omega
      have hil : i < l.length := by have := HN.out; omega
      obtain ⟨bk, off, rfl, hbk, hc0⟩ := (HR.out.below hwx).at_ hil
      obtain ⟨x, hx⟩ : ∃ x, l[i] = x := ⟨_, rfl⟩
      have hxl : x < 256 := by rw [← hx]; exact HS.out _ (List.getElem_mem hil)
      obtain ⟨u, hu⟩ : ∃ u, Kp.step v x = u := ⟨_, rfl⟩
      have hul : u < 4294967296 := by rw [← hu]; exact step_lt hv hxl
      have HU : Hid (upd u (l.drop (i + 1)) = z) := Lib.hid (by rw [← HI.out, List.drop_eq_getElem_cons hil, upd_cons, hx, hu])
      unfold oct at hc0
      rw [hx] at hc0
      clear hx
      go_wp2_with fail
      refine (HStep v x v x u rfl rfl hv hxl hu _).mono ?_
      rintro e w2 ⟨rfl, hw2⟩
      clear hu
      go_wp2_with fail
      go_roundg g
      case measure => omega
      case rel => exact ⟨i + 1, u, by omega, by simp, rfl, hul, HU, below_on hwx hw2⟩
end Go.Proofs.Ytahghjggkigehaa

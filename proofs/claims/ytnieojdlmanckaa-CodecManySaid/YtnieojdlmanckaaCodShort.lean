/-
  The walk of layer codec's law CodecShort: it answers true.
-/
import Derived.Test.YtnieojdlmanckaaCodLaw
namespace Go.Proofs.Ytnieojdlmanckaa
open Go.RowKit Go.Proofs.Ytnieojdlmanckaa.Lp

theorem mask_bd (k : Int) : 0 ≤ bits .and .i64 k 65535 ∧ bits .and .i64 k 65535 ≤ 65535 := by
  have h1 : (BitVec.ofInt 64 65535).toNat = 65535 := by decide
  have h2 : (BitVec.ofInt 64 k &&& BitVec.ofInt 64 65535).toNat ≤ 65535 := by
    rw [BitVec.toNat_and, h1]
    exact Nat.and_le_right
  have e : bits .and .i64 k 65535 = (((BitVec.ofInt 64 k &&& BitVec.ofInt 64 65535).toNat : Nat) : Int) := by
    show IntKind.i64.wrap ((BitVec.ofInt 64 k &&& BitVec.ofInt 64 65535).toNat : Int) = _
    exact IntWalk.i64_in _ (by omega)
  rw [e]
  omega
theorem short_at (k : Int) (n : Nat) (hn : 0 < n) : ∃ a : Nat, (bits .and .i64 k 65535).tmod (n : Int) = (a : Int) ∧ a < n := by
  obtain ⟨h1, _⟩ := mask_bd k
  generalize bits .and .i64 k 65535 = b at h1
  have h2 := Int.tmod_nonneg (n : Int) h1
  have h3 := Int.tmod_lt_of_pos b (show (0 : Int) < (n : Int) by omega)
  exact ⟨(b.tmod (n : Int)).toNat, by omega, by omega⟩
set_option maxHeartbeats 3200000 in
theorem codecShort_any (H : Cod) (n : Int) (s : ByteArray) (B : Option Addr) (d q : Nat) (ps : List Pr) (cut : Int) (w : World) (hs : s.size ≤ 9223372036854775807) (hq : q = ps.length) (hr : Rd w w.heap.size B ps) (hqd : Cap q d) :
    Calls Try.prog 5 #[.int .i64 n, .string s, .slice B q d, .int .i64 cut] w fun e w' => e = .returned (.bool true) ∧ Below w.heap.size w w' := by
  have HR := Lib.hid hr
  have HQ := Lib.hid hq
  have HQD := Lib.hid hqd
  clear hr hq hqd
  go_enter Try.func5, Try.ntmps5
  go_wp2_with fail
  refine (awake_any H _).mono ?_
  rintro e w1 ⟨rfl, hb1⟩
  by_cases h0 : (1000 : Int) < (s.size : Int)
  · go_wp2_with fail
    go_ret
    exact ⟨rfl, hb1⟩
  go_wp2_with fail
  refine (few_of B d q ps HQ.out _ (HR.out.on hb1)).mono ?_
  rintro e w2 ⟨b, rfl, _, hw2⟩
  have hb2 := below_on hb1 hw2
  clear hw2 hb1
  cases b with
  | false =>
    go_wp2_with fail
    go_ret
    exact ⟨rfl, hb2⟩
  | true =>
  by_cases h1 : n < 0
  · go_wp2_with fail
    go_ret
    exact ⟨rfl, hb2⟩
  by_cases h2 : 1152921504606846976 < n
  · go_wp2_with fail
    go_ret
    exact ⟨rfl, hb2⟩
  obtain ⟨x, rfl⟩ : ∃ x : Nat, n = (x : Int) := ⟨n.toNat, by omega⟩
  have hx : x ≤ 1152921504606846976 := by omega
  have hs16 : (Kc.bs s).length ≤ 65536 := by rw [Kc.bs_len]; omega
  have HSan := Lib.hid (asL_is ps)
  obtain ⟨L, hL⟩ : ∃ L, asL ps = L := ⟨_, rfl⟩
  rw [hL] at HSan
  obtain ⟨k1, hk1⟩ : ∃ k, (Kc.enc x).length = k := ⟨_, rfl⟩
  obtain ⟨k2, hk2⟩ : ∃ k, (Kc.encT (Kc.bs s)).length = k := ⟨_, rfl⟩
  obtain ⟨k3, hk3⟩ : ∃ k, (Kc.encL L).length = k := ⟨_, rfl⟩
  have hp1 : 0 < k1 := by rw [← hk1]; exact Kc.enc_pos x
  have hm1 : k1 ≤ 9 := by rw [← hk1]; exact Kc.enc_len9 hx
  have hp2 : 0 < k2 := by rw [← hk2]; unfold Kc.encT; rw [List.length_append]; have := Kc.enc_pos (Kc.bs s).length; omega
  have hm2 : k2 ≤ 70000 := by rw [← hk2]; have := Kc.encT_len hs16; omega
  have hp3 : 0 < k3 := by rw [← hk3]; exact (Kc.encL_len HSan.out).1
  have hm3 : k3 ≤ 2400 := by rw [← hk3]; exact (Kc.encL_len HSan.out).2
  obtain ⟨t1, ht1, hl1⟩ := short_at cut k1 hp1
  obtain ⟨t2, ht2, hl2⟩ := short_at cut k2 hp2
  obtain ⟨t3, ht3, hl3⟩ := short_at cut k3 hp3
  have HK1 := Lib.hid hk1.symm
  have HK2 := Lib.hid hk2.symm
  have HK3 := Lib.hid hk3.symm
  have HPL : Hid (Kc.putL [] ps = Kc.encL L) := Lib.hid (by unfold Kc.putL; rw [hL, List.nil_append])
  have HT1 : Hid (t1 = ((Kc.enc x).take t1).length) := Lib.hid (by rw [List.length_take]; omega)
  have HT2 : Hid (t2 = ((Kc.encT (Kc.bs s)).take t2).length) := Lib.hid (by rw [List.length_take]; omega)
  have HT3 : Hid (t3 = ((Kc.encL L).take t3).length) := Lib.hid (by rw [List.length_take]; omega)
  have HG1 : Hid (Kc.getU ((Kc.enc x).take t1) = (0, [], 3)) := Lib.hid (Kc.getU_short hx (by omega))
  have HG2 : Hid (Kc.getT ((Kc.encT (Kc.bs s)).take t2) = ([], [], 3)) := Lib.hid (Kc.getT_short hs16 (by omega))
  have HG3 : Hid (Kc.getL ((Kc.encL L).take t3) = ([], [], 3)) := Lib.hid (Kc.getL_short HSan.out (by omega))
  have n1 : ((k1 : Int) == 0) = false := by simp; omega
  have n2 : ((k2 : Int) == 0) = false := by simp; omega
  have n3 : ((k3 : Int) == 0) = false := by simp; omega
  clear hk1 hk2 hk3 hL
  go_wp2_with fail
  refine (H.putU _ none 0 0 [] (Kc.enc x) k1 (by omega) (by omega) rfl (by decide) cap0 (Kc.putU_ok hx []) HK1.out _ (Rb.none_ _ _ _)).mono ?_
  rintro e w3 ⟨A3, c3, rfl, HR3, HC3, hw3⟩
  have hb3 := below_on hb2 hw3
  clear hw3 hb2
  go_wp2_with fail
  refine (H.putT s none 0 0 [] (Kc.encT (Kc.bs s)) k2 hs rfl (by decide) cap0 (Kc.putT_ok hs16 []) HK2.out _ (Rb.none_ _ _ _)).mono ?_
  rintro e w4 ⟨A4, c4, rfl, HR4, HC4, hw4⟩
  have hb4 := below_on hb3 hw4
  have HR3' := Lib.hid (HR3.out.on hw4)
  clear hw4 hb3 HR3
  go_wp2_with fail
  refine (H.putL none B 0 0 q d [] (Kc.encL L) ps k3 rfl (by decide) cap0 HQ.out HQD.out HPL.out HK3.out _ (Rb.none_ _ _ _) (HR.out.on hb4)).mono ?_
  rintro e w5 ⟨A5, c5, rfl, HR5, HC5, hw5⟩
  have hb5 := below_on hb4 hw5
  have HR3 := Lib.hid ((HR3'.out.on hw5).take t1)
  have HR4' := Lib.hid ((HR4.out.on hw5).take t2)
  have HR5' := Lib.hid (HR5.out.take t3)
  obtain ⟨ca1, cb1⟩ := HC3.out
  obtain ⟨ca2, cb2⟩ := HC4.out
  obtain ⟨ca3, cb3⟩ := HC5.out
  have HD3 : Hid (Cap t1 c3) := Lib.hid ⟨by omega, by omega⟩
  have HD4 : Hid (Cap t2 c4) := Lib.hid ⟨by omega, by omega⟩
  have HD5 : Hid (Cap t3 c5) := Lib.hid ⟨by omega, by omega⟩
  have cz1 : (t1 : Int) ≤ (c3 : Int) := by omega
  have cz2 : (t2 : Int) ≤ (c4 : Int) := by omega
  have cz3 : (t3 : Int) ≤ (c5 : Int) := by omega
  clear hw5 hb4 HR5 HR4 HC3 HC4 HC5 HR3'
  go_wp2_with fail
  refine (H.getU A3 t1 c3 _ [] 0 0 3 HT1.out HD3.out HG1.out rfl _ HR3.out).mono ?_
  rintro e w6 ⟨A6, c6, rfl, _, _, hw6⟩
  have hb6 := below_on hb5 hw6
  have HR4 := Lib.hid (HR4'.out.on hw6)
  have HR5 := Lib.hid (HR5'.out.on hw6)
  clear hw6 hb5 HR3 HR4' HR5'
  go_wp2_with fail
  refine (H.getT A4 t2 c4 _ [] [] _ 0 3 HT2.out HD4.out HG2.out rfl rfl _ HR4.out).mono ?_
  rintro e w7 ⟨A7, c7, rfl, _, _, hw7⟩
  have hb7 := below_on hb6 hw7
  have HR5' := Lib.hid (HR5.out.on hw7)
  clear hw7 hb6 HR4 HR5
  go_wp2_with fail
  refine (H.getL A5 t3 c5 _ [] [] 0 0 3 HT3.out HD5.out HG3.out rfl rfl _ HR5'.out).mono ?_
  rintro e w8 ⟨B8, d8, A8, c8, rfl, _, _, _, _, hw8⟩
  have hb8 := below_on hb7 hw8
  clear hw8 hb7 HR5'
  go_wp2_with fail
  go_ret
  exact ⟨rfl, hb8⟩
end Go.Proofs.Ytnieojdlmanckaa

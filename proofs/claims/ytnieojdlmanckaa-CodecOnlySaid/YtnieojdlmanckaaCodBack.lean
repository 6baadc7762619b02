/-
  The walk of layer codec's law CodecBack: it answers true.
-/
import Derived.Test.YtnieojdlmanckaaCodLaw
import Derived.Lib.SmallJoins
namespace Go.Proofs.Ytnieojdlmanckaa
open Go.RowKit Go.Proofs.Ytnieojdlmanckaa.Lp

set_option maxHeartbeats 6400000 in
set_option maxRecDepth 100000 in
theorem codecBack_any (H : Cod) (n i : Int) (s : ByteArray) (B : Option Addr) (d q : Nat) (ps : List Pr) (A : Option Addr) (c k : Nat) (tl : List Nat) (w : World) (hs : s.size ≤ 9223372036854775807)
    (hq : q = ps.length) (hr : Rd w w.heap.size B ps) (hqd : Cap q d) (hk : k = tl.length) (ht : Rb w w.heap.size A tl) (hkc : Cap k c) :
    Calls Try.prog 3 #[.int .i64 n, .int .i64 i, .string s, .slice B q d, .slice A k c] w fun e w' => e = .returned (.bool true) ∧ Below w.heap.size w w' := by
  have HR := Lib.hid hr
  have HQ := Lib.hid hq
  have HQD := Lib.hid hqd
  have HK := Lib.hid hk
  have HT := Lib.hid ht
  have HKC := Lib.hid hkc
  clear hr hq hqd hk ht hkc
  go_enter Try.func3, Try.ntmps3
  go_wp2_with fail
  refine (awake_any H _).mono ?_
  rintro e w1 ⟨rfl, hb1⟩
  by_cases h0 : (1000 : Int) < (s.size : Int)
  · go_wp2_with fail
    go_ret
    exact ⟨rfl, hb1⟩
  by_cases h00 : (1000 : Int) < (k : Int)
  · go_wp2_with fail
    go_ret
    exact ⟨rfl, hb1⟩
  go_wp2_with fail
  refine (few_of B d q ps HQ.out _ (HR.out.on hb1)).mono ?_
  rintro e w2 ⟨b, rfl, _, hw2⟩
  have hb2 := below_on hb1 hw2
  clear hw2 hb1
  cases b with
  | false =>
    go_wp2_with fail
    go_ret
    exact ⟨rfl, hb2⟩
  | true =>
  obtain ⟨sb, hsb⟩ : ∃ sb, saneB ps = sb := ⟨_, rfl⟩
  have HSB := Lib.hid hsb
  clear hsb
  go_wp2_with fail
  refine (sane_of B d q ps HQ.out sb HSB.out _ (HR.out.on hb2)).mono ?_
  rintro e w3 ⟨rfl, hw3⟩
  have hb3 := below_on hb2 hw3
  clear hw3 hb2
  cases sb with
  | false =>
    go_wp2_with fail
    go_ret
    exact ⟨rfl, hb3⟩
  | true =>
  by_cases h1 : n < 0
  · go_wp2_with fail
    go_ret
    exact ⟨rfl, hb3⟩
  by_cases h2 : 1152921504606846976 < n
  · go_wp2_with fail
    go_ret
    exact ⟨rfl, hb3⟩
  by_cases h3 : i < -576460752303423488
  · go_wp2_with fail
    go_ret
    exact ⟨rfl, hb3⟩
  by_cases h4 : 576460752303423488 < i
  · go_wp2_with fail
    go_ret
    exact ⟨rfl, hb3⟩
  obtain ⟨x, rfl⟩ : ∃ x : Nat, n = (x : Int) := ⟨n.toNat, by omega⟩
  have hx : x ≤ 1152921504606846976 := by omega
  have hi : -576460752303423488 ≤ i ∧ i ≤ 576460752303423488 := by omega
  have hs16 : (Kc.bs s).length ≤ 65536 := by rw [Kc.bs_len]; omega
  have hxz : ((x : Int) == (x : Int)) = true := by simp
  have hiz : (i == i) = true := by simp
  have hsz : (s.toList == s.toList) = true := by simp
  obtain ⟨e1, he1⟩ : ∃ e, Kc.enc x = e := ⟨_, rfl⟩
  obtain ⟨e2, he2⟩ : ∃ e, Kc.enc (Kc.zig i) = e := ⟨_, rfl⟩
  obtain ⟨e3, he3⟩ : ∃ e, Kc.encT (Kc.bs s) = e := ⟨_, rfl⟩
  obtain ⟨e4, he4⟩ : ∃ e, Kc.encL ps = e := ⟨_, rfl⟩
  have l1 : e1.length ≤ 9 := by rw [← he1]; exact Kc.enc_len9 hx
  have l2 : e2.length ≤ 9 := by rw [← he2]; exact Kc.enc_len9 (Kc.zig_le hi)
  have l3 : e3.length ≤ 70000 := by rw [← he3]; have := Kc.encT_len hs16; omega
  have l4 : e4.length ≤ 2400 := by rw [← he4]; exact (Kc.encL_len HSB.out).2
  have q1 : Hid (Kc.putU [] (x : Int) = e1) := Lib.hid (by rw [Kc.putU_ok hx, he1, List.nil_append])
  have q2 : Hid (Kc.putI e1 i = e1 ++ e2) := Lib.hid (by rw [Kc.putI_ok hi, he2])
  have q3 : Hid (Kc.putT (e1 ++ e2) (Kc.bs s) = e1 ++ e2 ++ e3) := Lib.hid (by rw [Kc.putT_ok hs16, he3])
  have q4 : Hid (Kc.putL (e1 ++ e2 ++ e3) ps = e1 ++ e2 ++ e3 ++ e4) := Lib.hid (by unfold Kc.putL; rw [asL_sane HSB.out, he4])
  have g1 : Hid (Kc.getU (e1 ++ (e2 ++ (e3 ++ (e4 ++ tl)))) = (x, e2 ++ (e3 ++ (e4 ++ tl)), 0)) := Lib.hid (by rw [← he1]; exact Kc.getU_enc hx _)
  have g2 : Hid (Kc.getI (e2 ++ (e3 ++ (e4 ++ tl))) = (i, e3 ++ (e4 ++ tl), 0)) := Lib.hid (by rw [← he2]; exact Kc.getI_enc hi _)
  have g3 : Hid (Kc.getT (e3 ++ (e4 ++ tl)) = (Kc.bs s, e4 ++ tl, 0)) := Lib.hid (by rw [← he3]; exact Kc.getT_enc hs16 _)
  have g4 : Hid (Kc.getL (e4 ++ tl) = (ps, tl, 0)) := Lib.hid (by rw [← he4]; exact Kc.getL_enc HSB.out _)
  obtain ⟨k1, hk1⟩ : ∃ k, e1.length = k := ⟨_, rfl⟩
  obtain ⟨k2, hk2⟩ : ∃ k, (e1 ++ e2).length = k := ⟨_, rfl⟩
  obtain ⟨k3, hk3⟩ : ∃ k, (e1 ++ e2 ++ e3).length = k := ⟨_, rfl⟩
  obtain ⟨k4, hk4⟩ : ∃ k, (e1 ++ e2 ++ e3 ++ e4).length = k := ⟨_, rfl⟩
  have HK1 := Lib.hid hk1.symm
  have HK2 := Lib.hid hk2.symm
  have HK3 := Lib.hid hk3.symm
  have HK4 := Lib.hid hk4.symm
  have b1 : Hid (e1.length ≤ 4000000) := Lib.hid (by omega)
  have b2 : Hid ((e1 ++ e2).length ≤ 2000000) := Lib.hid (by rw [List.length_append]; omega)
  have b3 : Hid ((e1 ++ e2 ++ e3).length ≤ 1000000) := Lib.hid (by rw [List.length_append, List.length_append]; omega)
  have b4 : Hid ((e1 ++ e2 ++ e3 ++ e4).length ≤ 100000) := Lib.hid (by rw [List.length_append, List.length_append, List.length_append]; omega)
  have hlow : -9223372036854775808 ≤ i ∧ i ≤ 9223372036854775807 := by omega
  have HLOW := Lib.hid hlow
  have hxl : (-9223372036854775808 : Int) ≤ (x : Int) ∧ (x : Int) ≤ 9223372036854775807 := by omega
  have HXL := Lib.hid hxl
  have HSm : Hid (∀ x ∈ e1 ++ (e2 ++ (e3 ++ (e4 ++ tl))), x < 256) := Lib.hid (by
    intro y hy
    rcases List.mem_append.1 hy with hy | hy
    · rw [← he1] at hy; exact Kc.enc_small _ y hy
    rcases List.mem_append.1 hy with hy | hy
    · rw [← he2] at hy; exact Kc.enc_small _ y hy
    rcases List.mem_append.1 hy with hy | hy
    · rw [← he3] at hy; exact Kc.encT_small (Kc.bs_small _) y hy
    rcases List.mem_append.1 hy with hy | hy
    · rw [← he4] at hy; exact Kc.encL_small _ y hy
    exact HT.out.small y hy)
  clear hk1 hk2 hk3 hk4 he1 he2 he3 he4 l1 l2 l3 l4 hlow hxl
  go_wp2_with fail
  have hown0 := ownB_made w3
  have hba := below_alloc w3 (.cells #[] 5)
  have HOWN : Hid (∀ W, Below (w3.alloc (.cells #[] 5)).heap.size (w3.alloc (.cells #[] 5)) W → OwnB W w3.heap.size (.slice (some ⟨w3.heap.size, 0, none⟩) 0 0) []) := Lib.hid (fun W h => hown0.below h)
  have hb3' := below_on hb3 hba
  clear hown0 hba
  refine (H.putU _ none 0 0 [] e1 k1 HXL.out.1 HXL.out.2 rfl (by decide) cap0 q1.out HK1.out _ (Rb.none_ _ _ _)).mono ?_
  rintro e w4 ⟨A4, c4, rfl, HR4, HC4, hw4⟩
  go_wp2_with fail
  refine (H.putI i A4 k1 c4 e1 _ k2 HLOW.out.1 HLOW.out.2 HK1.out b1.out HC4.out q2.out HK2.out _ HR4.out).mono ?_
  rintro e w5 ⟨A5, c5, rfl, HR5, HC5, hw5⟩
  have hb5 := below_on hw4 hw5
  clear hw4 hw5 HR4 HC4
  go_wp2_with fail
  refine (H.putT s A5 k2 c5 _ _ k3 hs HK2.out b2.out HC5.out q3.out HK3.out _ HR5.out).mono ?_
  rintro e w6 ⟨A6, c6, rfl, HR6, HC6, hw6⟩
  have hb6 := below_on hb5 hw6
  clear hb5 hw6 HR5 HC5
  go_wp2_with fail
  refine (H.putL A6 B k3 c6 q d _ _ ps k4 HK3.out b3.out HC6.out HQ.out HQD.out q4.out HK4.out _ HR6.out (HR.out.on (below_on hb3' hb6))).mono ?_
  rintro e w7 ⟨A7, c7, rfl, HR7, HC7, hw7⟩
  have hb7 := below_on hb6 hw7
  clear hb6 hw7 HR6 HC6
  have hown := HOWN.out w7 hb7
  have hb7' := below_on hb3' hb7
  have hbs : w3.heap.size ≤ w7.heap.size := by
    have := hb7.size
    have h2 : (w3.alloc (.cells #[] 5)).heap.size = w3.heap.size + 1 := by show (w3.heap.push _).size = _; simp
    omega
  have hl1 : ([] : List Nat).length + (e1 ++ e2 ++ e3 ++ e4).length ≤ 8000000 := by have := b4.out; rw [List.length_nil]; omega
  have hl2 : ([] ++ (e1 ++ e2 ++ e3 ++ e4)).length + tl.length ≤ 8000000 := by have := b4.out; have := HK.out; rw [List.nil_append]; omega
  have hbA : Below w3.heap.size w3 w7 := below_on (below_alloc w3 _) hb7
  have HTon : Hid (∀ W, Below w3.heap.size w7 W → Rb W W.heap.size A tl) := Lib.hid (fun W h => HT.out.on (below_on hb3 (hbA.trans h)))
  have tok1 : True := trivial
  have tok2 : True := trivial
  go_wp2_with (first
    | (at_builtin; have _t := tok1; refine wp_app _ rfl _ _ rfl w3.heap.size _ [] _ rfl hown A7 k4 c7 HK4.out rfl HR7.out hl1 hbs ?_; intro v8 w8 hown8 hb8; clear tok1)
    | (at_builtin; have _t := tok2; refine wp_app _ rfl _ _ rfl w3.heap.size v8 _ tl rfl hown8 A k c HK.out rfl (HTon.out _ hb8) hl2 (Nat.le_trans hbs hb8.size) ?_; intro v9 w9 hown9 hb9; clear tok2))
  rw [List.nil_append] at hown9
  have HE : Hid (e1 ++ e2 ++ e3 ++ e4 ++ tl = e1 ++ (e2 ++ (e3 ++ (e4 ++ tl)))) := Lib.hid (by simp [List.append_assoc])
  rw [HE.out] at hown9
  obtain ⟨A9, c9, hv9⟩ := OwnB.slice hown9
  obtain ⟨t1, ht1⟩ : ∃ t, e1 ++ (e2 ++ (e3 ++ (e4 ++ tl))) = t := ⟨_, rfl⟩
  obtain ⟨t2, ht2⟩ : ∃ t, e2 ++ (e3 ++ (e4 ++ tl)) = t := ⟨_, rfl⟩
  obtain ⟨t3, ht3⟩ : ∃ t, e3 ++ (e4 ++ tl) = t := ⟨_, rfl⟩
  obtain ⟨t4, ht4⟩ : ∃ t, e4 ++ tl = t := ⟨_, rfl⟩
  rw [ht1, ht2] at g1
  rw [ht2, ht3] at g2
  rw [ht3, ht4] at g3
  rw [ht4] at g4
  rw [ht1] at hown9 hv9
  have HSm' := HSm.out
  rw [ht1] at HSm'
  have hl9 : t1.length ≤ 9223372036854775807 := by rw [← ht1, ← HE.out, List.length_append]; have := b4.out; have := HK.out; omega
  subst hv9
  have HC9 := Lib.hid (OwnB.cap hown9)
  have HR9 := Lib.hid (OwnB.rb hown9 hl9 HSm')
  obtain ⟨j1, hj1⟩ : ∃ j, t1.length = j := ⟨_, rfl⟩
  obtain ⟨j2, hj2⟩ : ∃ j, t2.length = j := ⟨_, rfl⟩
  obtain ⟨j3, hj3⟩ : ∃ j, t3.length = j := ⟨_, rfl⟩
  obtain ⟨j4, hj4⟩ : ∃ j, t4.length = j := ⟨_, rfl⟩
  have HJ1 := Lib.hid hj1.symm
  have HJ2 := Lib.hid hj2.symm
  have HJ3 := Lib.hid hj3.symm
  have HJ4 := Lib.hid hj4.symm
  rw [hj1] at HC9 ⊢
  have hb9' := below_on hb3 (hbA.trans (hb8.trans hb9))
  clear hl1 hl2 hbA HTon hown9 hown8 hown HOWN HR7 HC7 hb7 hb7' hb3 hb3' hb8 hb9 hbs ht1 ht2 ht3 ht4 hj1 hj2 hj3 hj4 HSm HSm' hl9 HE q1 q2 q3 q4 b1 b2 b3 b4 HK1 HK2 HK3 HK4
  refine (H.getU A9 j1 c9 t1 t2 x j2 0 HJ1.out HC9.out g1.out HJ2.out _ HR9.out).mono ?_
  rintro e w10 ⟨A10, c10, rfl, HR10, HC10, hw10⟩
  have hb10 := below_on hb9' hw10
  clear hw10 hb9' HR9 HC9
  go_wp2_with fail
  refine (H.getI A10 j2 c10 t2 t3 i j3 0 HJ2.out HC10.out g2.out HJ3.out _ HR10.out).mono ?_
  rintro e w11 ⟨A11, c11, rfl, HR11, HC11, hw11⟩
  have hb11 := below_on hb10 hw11
  clear hw11 hb10 HR10 HC10
  go_wp2_with fail
  refine (H.getT A11 j3 c11 t3 _ t4 s j4 0 HJ3.out HC11.out g3.out (Kc.tx_bs s) HJ4.out _ HR11.out).mono ?_
  rintro e w12 ⟨A12, c12, rfl, HR12, HC12, hw12⟩
  have hb12 := below_on hb11 hw12
  clear hw12 hb11 HR11 HC11
  go_wp2_with fail
  refine (H.getL A12 j4 c12 t4 tl ps q k 0 HJ4.out HC12.out g4.out HQ.out HK.out _ HR12.out).mono ?_
  rintro e w13 ⟨B13, d13, A13, c13, rfl, HD13, HQ13, HR13, HC13, hw13⟩
  have hb13 := below_on hb12 hw13
  clear hw13 hb12 HR12 HC12
  go_wp2_with fail
  refine (same_of B13 B d13 d q q ps ps HQ.out HQ.out true (by simp) _ HD13.out (HR.out.on hb13)).mono ?_
  rintro e w14 ⟨rfl, hw14⟩
  have hb14 := below_on hb13 hw14
  obtain ⟨S, hS⟩ : ∃ S, Kc.tx tl = S := ⟨_, rfl⟩
  have hcv1 := conv_rb (c := c13) HK.out (HR13.out.on hw14) hS
  have hcv2 := conv_rb (c := c) HK.out (HT.out.on hb14) hS
  have hSS : (S.toList == S.toList) = true := by simp
  clear hw14 hb13 HR13 HD13 hS
  go_wp2_with fail
  go_ret
  exact ⟨rfl, hb14⟩
end Go.Proofs.Ytnieojdlmanckaa

/-
  Layer frame: the octets of a sum, and Put.
-/
import Derived.Test.YtmcmlfmfhljphaaFrLaw
import Derived.Test.YtmcmlfmfhljphaaFrPutU
import Derived.Test.YtmcmlfmfhljphaaFrSum
namespace Go.Proofs.Ytmcmlfmfhljphaa
open Go.RowKit

theorem wrap8' (v : Nat) : IntKind.u8.wrap (v : Int) = ((v % 256 : Nat) : Int) := by rw [IntKind.wrap_u8']; omega
set_option maxHeartbeats 1600000 in
theorem sumOf_of (A : Option Addr) (n c : Nat) (p t : List Nat) (hn : n = p.length) (ht : Kf.tail4 p = t) (w : World) (hr : Rb w w.heap.size A p) :
    Calls Try.prog 17 #[.slice A n c] w fun e w' => ∃ A' c', e = .returned (.slice A' 4 c') ∧ Hid (Rb w' w'.heap.size A' t) ∧ Hid (Cap 4 c') ∧ Below w.heap.size w w' := by
  obtain ⟨z, hz⟩ : ∃ z, Kp.sum p = z := ⟨_, rfl⟩
  have hzl : z < 4294967296 := by rw [← hz]; exact Kp.sum_lt hr.small
  have HT : Hid (Kf.quad z = t) := Lib.hid (by rw [← hz]; exact ht)
  have hs := sumC A n c p z hn hz w hr
  obtain ⟨z1, h1⟩ : ∃ k, z / 256 = k := ⟨_, rfl⟩
  obtain ⟨z2, h2⟩ : ∃ k, z / 65536 = k := ⟨_, rfl⟩
  obtain ⟨z3, h3⟩ : ∃ k, z / 16777216 = k := ⟨_, rfl⟩
  have e1 : (z : Int) / 256 = (z1 : Int) := by omega
  have e2 : (z : Int) / 65536 = (z2 : Int) := by omega
  have e3 : (z : Int) / 16777216 = (z3 : Int) := by omega
  have q0 := wrap8' z
  have q1 := wrap8' z1
  have q2 := wrap8' z2
  have q3 := wrap8' z3
  have HQ : Hid (Kf.quad z = [z % 256, z1 % 256, z2 % 256, z3 % 256]) := Lib.hid (by unfold Kf.quad; rw [h1, h2, h3, Nat.mod_eq_of_lt (a := z3) (by omega)])
  clear hn ht hz h1 h2 h3 hr
  go_enter Try.func17, Try.ntmps17
  go_wp2_with fail
  refine hs.mono ?_
  rintro e w1 ⟨rfl, hw1⟩
  clear hs
  go_wp2_with fail
  go_ret
  refine ⟨_, _, rfl, Lib.hid (rb_new _ _ _ _ t ?_ ?_ ?_), Lib.hid (by decide), hw1.alloc hw1.size _⟩
  · rw [← HT.out, HQ.out]; simp [vals, oct]
  · rw [← HT.out]; show 4 ≤ _; decide
  · rw [← HT.out]; exact Kf.quad_small hzl

set_option maxHeartbeats 3200000 in
theorem putR_of : PutRC := by
  intro A B n c q d l p m k hn hl hc hq hd hm hk w hr hp
  have HN := Lib.hid hn
  have HM := Lib.hid hm
  have HK := Lib.hid hk
  have HQ := Lib.hid hq
  have HS := Lib.hid hr.small
  have HC := Lib.hid hc
  have HR := Lib.hid hr
  have HP := Lib.hid hp
  have HPs := Lib.hid hp.small
  have HL := Lib.hid hl
  clear hn hm hk hc hr hp hd hl
  go_enter Try.func12, Try.ntmps12
  by_cases h : 65536 < q
  · have hz : (65536 : Int) < (q : Int) := by omega
    clear hq
    go_wp2_with fail
    refine (clone_of A n c l HN.out (by have := HL.out; omega) w HR.out).mono ?_
    rintro e w1 ⟨v, rfl, HO, hb⟩
    go_wp2_with fail
    go_ret
    have e : l = m := by rw [← HM.out]; unfold Kf.put; rw [if_neg (by have := HQ.out; omega)]
    exact put_end HK.out (e ▸ HO.out) (by rw [← e]; have := HL.out; omega) (by rw [← e]; exact HS.out) hb
  · have hz : ¬ (65536 : Int) < (q : Int) := by omega
    clear hq
    obtain ⟨u, hu⟩ : ∃ u, Kc.putU l (q : Int) = u := ⟨_, rfl⟩
    have HU : Hid (u = l ++ Kc.enc q) := Lib.hid (by rw [← hu, Kc.putU_ok (by omega)])
    have HU2 := Lib.hid hu
    have HUl : Hid (u.length ≤ 1000009) := Lib.hid (by rw [HU.out, List.length_append]; have := Kc.enc_len9 (n := q) (by omega); have := HL.out; omega)
    clear hu
    have hpu := putU_own (q : Int) A n c l u (by omega) (by omega) HN.out (by have := HL.out; omega) HU2.out w HR.out
    have hl1 : u.length + p.length ≤ 8000000 := by have := HUl.out; have := HQ.out; omega
    have hl2 : (u ++ p).length + (Kf.tail4 p).length ≤ 8000000 := by rw [List.length_append, Kf.tail4_len]; have := HUl.out; have := HQ.out; omega
    have HHl1 := Lib.hid hl1
    have HHl2 := Lib.hid hl2
    clear hl1 hl2
    go_wp2_with fail
    refine hpu.mono ?_
    rintro e w1 ⟨v1, rfl, HO1, hb1⟩
    clear hpu
    go_wp2_with (at_builtin; refine wp_app _ rfl _ _ rfl w.heap.size _ u p rfl HO1.out B q d HQ.out rfl (HP.out.on hb1) HHl1.out hb1.size ?_; intro v2 w2 hown2 hb2)
    have hb12 := hb1.trans hb2
    have HO2 := Lib.hid hown2
    clear hown2 hb1 hb2 HO1
    refine (sumOf_of B q d p _ HQ.out rfl w2 (HP.out.on hb12)).mono ?_
    rintro e w3 ⟨T, ct, rfl, HT, HCt, hw3⟩
    have hb3 := hb12.trans (hw3.mono hb12.size)
    have HO3 := Lib.hid (OwnB.below HO2.out hw3)
    clear hw3 HO2 hb12
    go_wp2_with (at_builtin; refine wp_app _ rfl _ _ rfl w.heap.size _ (u ++ p) (Kf.tail4 p) rfl HO3.out T 4 ct rfl rfl HT.out HHl2.out hb3.size ?_; intro v4 w4 hown4 hb4)
    have HO4 := Lib.hid hown4
    have hb := hb3.trans hb4
    clear hown4 hb3 hb4
    go_ret
    have e : u ++ p ++ Kf.tail4 p = m := by rw [← HM.out, Kf.put_ok (by have := HQ.out; omega), HU.out]; unfold Kf.rcd; rw [← HQ.out]; simp [List.append_assoc]
    refine put_end HK.out (e ▸ HO4.out) ?_ ?_ hb
    · rw [← e, List.length_append]; have := HHl2.out; omega
    · rw [← HM.out, Kf.put_ok (by have := HQ.out; omega)]
      intro x hx
      rcases List.mem_append.1 hx with hx | hx
      · exact HS.out x hx
      · exact Kf.rcd_small HPs.out x hx
end Go.Proofs.Ytmcmlfmfhljphaa

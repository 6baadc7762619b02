/-
  The walk of layer frame's law FrameMany: it answers true.
-/
import Derived.Test.YtmcmlfmfhljphaaFrLaw
namespace Go.Proofs.Ytmcmlfmfhljphaa
open Go.RowKit

theorem mask_bd (k : Int) : 0 ≤ bits .and .i64 k 65535 ∧ bits .and .i64 k 65535 ≤ 65535 := by
  have h1 : (BitVec.ofInt 64 65535).toNat = 65535 := by decide
  have h2 : (BitVec.ofInt 64 k &&& BitVec.ofInt 64 65535).toNat ≤ 65535 := by
    rw [BitVec.toNat_and, h1]
    exact Nat.and_le_right
  have e : bits .and .i64 k 65535 = (((BitVec.ofInt 64 k &&& BitVec.ofInt 64 65535).toNat : Nat) : Int) := by
    show IntKind.i64.wrap ((BitVec.ofInt 64 k &&& BitVec.ofInt 64 65535).toNat : Int) = _
    exact IntWalk.i64_in _ (by omega)
  rw [e]
  omega
theorem cut_at (k : Int) (n : Nat) : ∃ a : Nat, (bits .and .i64 k 65535).tmod ((n : Int) + 1) = (a : Int) ∧ a ≤ n := by
  obtain ⟨h1, _⟩ := mask_bd k
  generalize bits .and .i64 k 65535 = b at h1
  have h2 := Int.tmod_nonneg ((n : Int) + 1) h1
  have h3 := Int.tmod_lt_of_pos b (show (0 : Int) < (n : Int) + 1 by omega)
  exact ⟨(b.tmod ((n : Int) + 1)).toNat, by omega, by omega⟩
theorem recs_bd {L : List (List Nat)} (h : ∀ p ∈ L, p.length ≤ 200) (hl : L.length ≤ 20) : (Kf.recs L).length ≤ 5000 := by
  have := Kf.recs_len h (by decide)
  omega
theorem all_of {L : List (List Nat)} (h : ∀ p ∈ L, p.length ≤ 200) : Kf.all (Kf.recs L) = (L, (Kf.recs L).length, 0) := Kf.all_recs fun p hp => by have := h p hp; omega
set_option maxHeartbeats 6400000 in
set_option maxRecDepth 100000 in
theorem frameMany_any (H : Frm) (A : Option Addr) (c n : Nat) (L : List (List Nat)) (k : Int) (w : World) (hn : n = L.length) (hr : Rl w w.heap.size A L) (hnc : Cap n c) :
    Calls Try.prog 6 #[.slice A n c, .int .i64 k] w fun e w' => e = .returned (.bool true) ∧ Below w.heap.size w w' := by
  have HN := Lib.hid hn
  have HR := Lib.hid hr
  obtain ⟨hnc1, hnc2⟩ := hnc
  clear hn hr
  go_enter Try.func6, Try.ntmps6
  go_wp2_with fail
  refine (awake_any H _).mono ?_
  rintro e w1 ⟨rfl, hb1⟩
  go_wp2_with fail
  refine (small_of A c n L HN.out _ (HR.out.on hb1)).mono ?_
  rintro e w2 ⟨b, rfl, hsm, hw2⟩
  have hb2 := below_on hb1 hw2
  clear hw2 hb1
  cases b with
  | false =>
    go_wp2_with fail
    go_ret
    exact ⟨rfl, hb2⟩
  | true =>
  obtain ⟨hn20, h200⟩ := hsm rfl
  have h65 : ∀ p ∈ L, p.length ≤ 65536 := fun p hp => by have := h200 p hp; omega
  have HL20 : Hid (L.length ≤ 20) := Lib.hid (by have := HN.out; omega)
  obtain ⟨a, ha, han⟩ := cut_at k n
  have haz : (a : Int) ≤ (n : Int) := by omega
  have haz0 : (0 : Int) ≤ (a : Int) := by omega
  have hacz : (a : Int) ≤ (c : Int) := by omega
  have HA1 : Hid (a = (L.take a).length) := Lib.hid (by rw [List.length_take]; have := HN.out; omega)
  have HA2 : Hid (n - a = (L.drop a).length) := Lib.hid (by rw [List.length_drop]; have := HN.out; omega)
  have t200 : ∀ p ∈ L.take a, p.length ≤ 200 := fun p hp => h200 p (List.mem_of_mem_take hp)
  have d200 : ∀ p ∈ L.drop a, p.length ≤ 200 := fun p hp => h200 p (List.mem_of_mem_drop hp)
  have G0 := Lib.hid (all_of h200)
  have G1 := Lib.hid (all_of t200)
  have G2 := Lib.hid (all_of d200)
  have B0 : Hid ((Kf.recs L).length ≤ 5000) := Lib.hid (recs_bd h200 HL20.out)
  have B1 : Hid ((Kf.recs (L.take a)).length ≤ 5000) := Lib.hid (recs_bd t200 (by have := HL20.out; rw [List.length_take]; omega))
  have B2 : Hid ((Kf.recs (L.drop a)).length ≤ 5000) := Lib.hid (recs_bd d200 (by have := HL20.out; rw [List.length_drop]; omega))
  have H65 := Lib.hid h65
  obtain ⟨k0, hk0⟩ : ∃ k, (Kf.recs L).length = k := ⟨_, rfl⟩
  obtain ⟨k1, hk1⟩ : ∃ k, (Kf.recs (L.take a)).length = k := ⟨_, rfl⟩
  obtain ⟨k2, hk2⟩ : ∃ k, (Kf.recs (L.drop a)).length = k := ⟨_, rfl⟩
  rw [hk0] at G0
  rw [hk1] at G1
  rw [hk2] at G2
  have K0 := Lib.hid hk0.symm
  have K1 := Lib.hid hk1.symm
  have K2 := Lib.hid hk2.symm
  obtain ⟨X, hX⟩ : ∃ X, (if c = a then A else A.map fun x => x.add a) = X := ⟨_, rfl⟩
  have HRt : Hid (∀ W, Below w.heap.size w W → Rl W W.heap.size A (L.take a)) := Lib.hid (fun W h => (HR.out.on h).take a)
  have HRd : Hid (∀ W, Below w.heap.size w W → Rl W W.heap.size X (L.drop a)) := Lib.hid (fun W h => hX ▸ (HR.out.on h).cut (by have := HN.out; omega) (by have := HN.out; omega))
  have HKo := Lib.hid ha
  have HEQ : Hid (L.take a ++ L.drop a = L) := Lib.hid (List.take_append_drop a L)
  have hkk : ((k0 : Int) == (k0 : Int)) = true := by simp
  clear hk0 hk1 hk2 h200 h65 t200 d200 hsm
  go_wp2_with fail
  refine (records_of H A c n L _ k0 HN.out H65.out (Nat.le_trans B0.out (by decide)) rfl K0.out _ (HR.out.on hb2)).mono ?_
  rintro e w3 ⟨A3, c3, rfl, HR3, HC3, hw3⟩
  have hb3 := below_on hb2 hw3
  clear hw3 hb2
  go_wp2_with fail
  refine (H.all A3 k0 c3 _ L n k0 0 K0.out (Nat.le_trans B0.out (by decide)) HC3.out G0.out HN.out _ HR3.out).mono ?_
  rintro e w4 ⟨A4, c4, rfl, HR4, HC4, hw4⟩
  have hb4 := below_on hb3 hw4
  clear hw4 hb3 HR3 HC3
  go_wp2_with fail
  refine (records_of H A c a (L.take a) _ k1 HA1.out (fun p hp => H65.out p (List.mem_of_mem_take hp)) (Nat.le_trans B1.out (by decide)) rfl K1.out _ (HRt.out _ hb4)).mono ?_
  rintro e w5 ⟨A5, c5, rfl, HR5, HC5, hw5⟩
  have hb5 := below_on hb4 hw5
  have HR4' := Lib.hid (HR4.out.on hw5)
  clear hw5 hb4 HR4
  go_wp2_with fail
  refine (H.all A5 k1 c5 _ (L.take a) a k1 0 K1.out (Nat.le_trans B1.out (by decide)) HC5.out G1.out HA1.out _ HR5.out).mono ?_
  rintro e w6 ⟨A6, c6, rfl, HR6, HC6, hw6⟩
  have hb6 := below_on hb5 hw6
  have HR4 := Lib.hid (HR4'.out.on hw6)
  clear hw6 hb5 HR5 HC5 HR4'
  go_wp2_with fail
  refine (records_of H X (c - a) (n - a) (L.drop a) _ k2 HA2.out (fun p hp => H65.out p (List.mem_of_mem_drop hp)) (Nat.le_trans B2.out (by decide)) rfl K2.out _ (HRd.out _ hb6)).mono ?_
  rintro e w7 ⟨A7, c7, rfl, HR7, HC7, hw7⟩
  have hb7 := below_on hb6 hw7
  have HR4' := Lib.hid (HR4.out.on hw7)
  have HR6' := Lib.hid (HR6.out.on hw7)
  clear hw7 hb6 HR4 HR6
  go_wp2_with fail
  refine (H.all A7 k2 c7 _ (L.drop a) (n - a) k2 0 K2.out (Nat.le_trans B2.out (by decide)) HC7.out G2.out HA2.out _ HR7.out).mono ?_
  rintro e w8 ⟨A8, c8, rfl, HR8, HC8, hw8⟩
  have hb8 := below_on hb7 hw8
  have HR4 := Lib.hid (HR4'.out.on hw8)
  have HR6 := Lib.hid (HR6'.out.on hw8)
  clear hw8 hb7 HR7 HC7 HR4' HR6'
  obtain ⟨vs, hvs, hvm⟩ := HR6.out.values
  obtain ⟨us, hus, hum⟩ := HR8.out.values
  have hvl : a = vs.length := by rw [hvs.1]; exact HA1.out
  have hul : n - a = us.length := by rw [hus.1]; exact HA2.out
  have tok1 : True := trivial
  have tok2 : True := trivial
  have hl1 : ([] : List Value).length + vs.length ≤ 1000000 := by rw [List.length_nil]; omega
  have hl2 : ([] ++ vs).length + us.length ≤ 1000000 := by rw [List.nil_append]; omega
  have HV := Lib.hid hvl
  have HU := Lib.hid hul
  have HVS := Lib.hid hvs
  have HUS := Lib.hid hus
  have hba := below_alloc w8 (.cells #[] 25)
  have HVM : Hid (∀ W, Below w8.heap.size w8 W → vs ≠ [] → ∃ b off, A6 = some ⟨b, off, none⟩ ∧ b < W.heap.size ∧ ∀ j u, vs[j]? = some u → W.cell? ⟨b, off + j, none⟩ = some u) := Lib.hid (fun W h hne => by
    obtain ⟨b, off, e, hb, hc⟩ := hvm (fun e => hne (List.length_eq_zero_iff.1 (by rw [HVS.out.1, e]; rfl)))
    exact ⟨b, off, e, by have := h.size; omega, fun j u hu => (h.cell hb).trans (hc j u hu)⟩)
  have HUM : Hid (∀ W, Below w8.heap.size w8 W → us ≠ [] → ∃ b off, A8 = some ⟨b, off, none⟩ ∧ b < W.heap.size ∧ ∀ j u, us[j]? = some u → W.cell? ⟨b, off + j, none⟩ = some u) := Lib.hid (fun W h hne => by
    obtain ⟨b, off, e, hb, hc⟩ := hum (fun e => hne (List.length_eq_zero_iff.1 (by rw [HUS.out.1, e]; rfl)))
    exact ⟨b, off, e, by have := h.size; omega, fun j u hu => (h.cell hb).trans (hc j u hu)⟩)
  clear hvl hul hvs hus hvm hum
  go_wp2_with (first
    | (at_builtin; have _t := tok1; refine wp_appv _ rfl _ _ rfl w8.heap.size _ [] vs rfl (ownV_made w8) A6 a c6 HV.out rfl (HVM.out _ (below_alloc w8 _)) HVS.out.one hl1 (by simp) ?_; intro v9 w9 hown9 hb9; clear tok1)
    | (at_builtin; have _t := tok2; refine wp_appv _ rfl _ _ rfl w8.heap.size v9 _ us rfl hown9 A8 (n - a) c8 HU.out rfl (HUM.out _ ((below_alloc w8 _).trans hb9)) HUS.out.one hl2 (by have := hb9.size; simp at this ⊢; omega) ?_; intro v10 w10 hown10 hb10; clear tok2))
  rw [List.nil_append] at hown10
  have hbA := ((below_alloc w8 (.cells #[] 25)).trans hb9).trans hb10
  have hb10' := below_on hb8 hbA
  have hER := (HVS.out.app HUS.out).on hbA
  rw [HEQ.out] at hER
  obtain ⟨A10, c10, hv10, _⟩ := OwnV.slice hown10
  have hlen10 : (vs ++ us).length = n := by rw [List.length_append]; have := HV.out; have := HU.out; omega
  rw [hlen10] at hv10
  subst hv10
  have HR10 := Lib.hid (OwnV.rl hown10 hER (by have := HN.out; omega))
  have HR4' := Lib.hid (HR4.out.on hbA)
  clear hown9 hown10 hb9 hb10 hbA hER HVM HUM hl1 hl2 hb8 HR4 HR6 HR8 hba
  refine (same_of A4 A c4 c n L HN.out _ HR4'.out (HR.out.on hb10')).mono ?_
  rintro e w11 ⟨rfl, hw11⟩
  have hb11 := below_on hb10' hw11
  have HR11 := Lib.hid (HR10.out.on hw11)
  clear hw11 hb10' HR10
  go_wp2_with fail
  refine (same_of A10 A c10 c n L HN.out _ HR11.out (HR.out.on hb11)).mono ?_
  rintro e w12 ⟨rfl, hw12⟩
  go_wp2_with fail
  go_ret
  exact ⟨rfl, below_on hb11 hw12⟩
end Go.Proofs.Ytmcmlfmfhljphaa

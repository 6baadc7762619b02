/-
  What the walks of layer frame's laws lean on: the three calls' contracts, as words (proved of what landed in another text); the example; records, small, Same.
-/
import Derived.Test.YtmcmlfmfhljphaaFrMem
import Derived.Deep.RegionHeld
namespace Go.Proofs.Ytmcmlfmfhljphaa
open Go.RowKit

def PutRC : Prop := ∀ (A B : Option Addr) (n c q d : Nat) (l p m : List Nat) (k : Nat), n = l.length → l.length ≤ 1000000 → Cap n c → q = p.length → Cap q d → Kf.put l p = m → k = m.length → ∀ w : World, Rb w w.heap.size A l → Rb w w.heap.size B p →
  Calls Try.prog 12 #[.slice A n c, .slice B q d] w fun e w' => ∃ A' c', e = .returned (.slice A' k c') ∧ Hid (Rb w' w'.heap.size A' m) ∧ Hid (Cap k c') ∧ Below w.heap.size w w'
def GetRC : Prop := ∀ (A : Option Addr) (n c : Nat) (l p r : List Nat) (q k : Nat) (z : Int), n = l.length → Cap n c → Kf.get l = (p, r, z) → q = p.length → k = r.length → ∀ w : World, Rb w w.heap.size A l →
  Calls Try.prog 13 #[.slice A n c] w fun e w' => ∃ B d A' c', e = .returned (.tuple #[.slice B q d, .slice A' k c', .int .i64 z]) ∧ Hid (Rb w' w'.heap.size B p) ∧ Hid (Cap q d) ∧ Hid (Rb w' w'.heap.size A' r) ∧ Hid (Cap k c') ∧ Below w.heap.size w w'
def AllRC : Prop := ∀ (A : Option Addr) (n c : Nat) (l : List Nat) (L : List (List Nat)) (q x : Nat) (z : Int), n = l.length → l.length ≤ 1000000 → Cap n c → Kf.all l = (L, x, z) → q = L.length → ∀ w : World, Rb w w.heap.size A l →
  Calls Try.prog 10 #[.slice A n c] w fun e w' => ∃ B d, e = .returned (.tuple #[.slice B q d, .int .i64 (x : Int), .int .i64 z]) ∧ Hid (Rl w' w'.heap.size B L) ∧ Hid (Cap q d) ∧ Below w.heap.size w w'
/-- All three. -/
structure Frm : Prop where
  put : PutRC
  get : GetRC
  all : AllRC

/-! ### the document's example -/
theorem ex_tail : Kf.tail4 [97, 98] = Kf.quad (Kp.sum [97, 98]) := rfl
theorem ex_r : Kf.rcd [97, 98] = 2 :: 97 :: 98 :: Kf.tail4 [97, 98] := by unfold Kf.rcd; rw [Kc.enc_lo (by decide)]; rfl
theorem ex_n : Kf.rcd [] = [0, 0, 0, 0, 0] := by unfold Kf.rcd; rw [Kc.enc_lo (by decide)]; decide +kernel
theorem ex_pn : Kf.put [] [] = [0, 0, 0, 0, 0] := by rw [Kf.put_ok (by decide), List.nil_append]; exact ex_n
theorem ex_pr : Kf.put [] [97, 98] = Kf.rcd [97, 98] := by rw [Kf.put_ok (by decide), List.nil_append]
theorem ex_g : Kf.get (Kf.rcd [97, 98] ++ [9]) = ([97, 98], [9], 0) := Kf.get_rcd (by decide) [9]
theorem ex_f : Kf.get [0, 1, 0, 0, 0] = ([], [], 5) := by decide +kernel
set_option maxHeartbeats 3200000 in
theorem awake_any (H : Frm) (w : World) :
    Calls Try.prog 7 #[] w fun e w' => e = .returned (.bool true) ∧ Below w.heap.size w w' := by
  have hcv := Lib.run_convert_bytes_const (P := Try.prog) w 25 5 #[.int .u8 97, .int .u8 98] 2 2 Try.underlying25 Try.underlying5
  have HR := Lib.hid (rb_new w #[.int .u8 97, .int .u8 98] 5 (2, 3) [97, 98] rfl (by decide) (by decide))
  have HB := Lib.hid (below_alloc w (.cells #[.int .u8 97, .int .u8 98] 5 (2, 3)))
  obtain ⟨E, hE⟩ : ∃ E, Kf.rcd [97, 98] = E := ⟨_, rfl⟩
  have hEl : E.length = 7 := by rw [← hE, ex_r]; rfl
  have hEs : ∀ x ∈ E, x < 256 := by rw [← hE]; exact Kf.rcd_small (by decide)
  have HE := Lib.hid hE
  have HG : Hid (Kf.get (E ++ [9]) = ([97, 98], [9], 0)) := Lib.hid (by rw [← hE]; exact ex_g)
  have HEl := Lib.hid hEl
  have HEs := Lib.hid hEs
  clear hE hEl hEs
  go_enter Try.func7, Try.ntmps7
  go_wp2_with fail
  refine (H.put none _ 0 0 2 2 [] [97, 98] E 7 rfl (by decide) cap0 rfl (by decide) (by rw [← HE.out]; exact ex_pr) HEl.out.symm _ (Rb.none_ _ _ _) HR.out).mono ?_
  rintro e w1 ⟨A1, c1, rfl, HR1, HC1, hw1⟩
  have hb1 := below_on HB.out hw1
  clear hw1 hcv HR HB
  have tok1 : True := trivial
  have tok2 : True := trivial
  have hl1 : ([] : List Nat).length + E.length ≤ 8000000 := by have := HEl.out; rw [List.length_nil]; omega
  have hl2 : ([] ++ E).length + [9].length ≤ 8000000 := by have := HEl.out; rw [List.nil_append, this]; decide
  go_wp2_with (first
    | (at_builtin; have _t := tok1; refine wp_app _ rfl _ _ rfl w1.heap.size _ [] E rfl (ownB_made w1) A1 7 c1 HEl.out.symm rfl (HR1.out.on (below_alloc _ _)) hl1 (by simp) ?_; intro v3 w3 hown3 hb3; clear tok1)
    | (at_builtin; have _t := tok2; refine wp_app _ rfl _ _ rfl w1.heap.size v3 ([] ++ E) [9] rfl (OwnB.alloc hown3 _) _ 1 1 rfl rfl (rb_new w3 _ _ (0, 0) [9] rfl (by decide) (by decide)) hl2 (by have := hb3.size; simp at this ⊢; omega) ?_; intro v4 w4 hown4 hb4; clear tok2))
  have hb24 := (((below_alloc w1 _).trans hb3).alloc ((below_alloc w1 _).trans hb3).size _).trans hb4
  have hbw4 := below_on hb1 hb24
  rw [List.nil_append] at hown4
  obtain ⟨A4, c4, hv⟩ := OwnB.slice hown4
  have hl8 : (E ++ [9]).length = 8 := by rw [List.length_append, HEl.out]; rfl
  subst hv
  have HC4 := Lib.hid (OwnB.cap hown4)
  have HR4 := Lib.hid (OwnB.rb hown4 (by rw [hl8]; decide) (by
    intro x hx
    rcases List.mem_append.1 hx with hx | hx
    · exact HEs.out x hx
    · simp at hx; omega))
  rw [hl8] at HC4 ⊢
  clear hown4 hown3 hb3 hb4 hb1
  have HR1' := Lib.hid (HR1.out.on hb24)
  clear HR1 hb24
  refine (H.get A4 8 c4 _ [97, 98] [9] 2 1 0 hl8.symm HC4.out HG.out rfl rfl _ HR4.out).mono ?_
  rintro e w5 ⟨B5, d5, A5, c5, rfl, HP5, HD5, HR5, HC5, hw5⟩
  have hb5 := below_on hbw4 hw5
  clear hw5 hbw4 HR4 HC4 HR1' hl1 hl2 hl8
  go_wp2_with fail
  refine (H.get _ 5 5 [0, 1, 0, 0, 0] [] [] 0 0 5 rfl (by decide) ex_f rfl rfl _ (rb_new _ _ _ _ [0, 1, 0, 0, 0] rfl (by decide) (by decide))).mono ?_
  rintro e w6 ⟨B6, d6, A6, c6, rfl, _, _, _, _, hw6⟩
  have hb6 := below_on hb5 (below_on (below_alloc w5 _) hw6)
  have HP6 := Lib.hid (HP5.out.on (below_on (below_alloc w5 _) hw6))
  clear hw6 hb5 HP5
  go_wp2_with fail
  refine (H.put none none 0 0 0 0 [] [] [0, 0, 0, 0, 0] 5 rfl (by decide) cap0 rfl cap0 ex_pn rfl _ (Rb.none_ _ _ _) (Rb.none_ _ _ _)).mono ?_
  rintro e w7 ⟨A7, c7, rfl, HR7, HC7, hw7⟩
  have hcv1 := conv_rb (n := 5) (c := c7) rfl HR7.out (S := ⟨#[0, 0, 0, 0, 0]⟩) rfl
  have hcv2 := conv_rb (n := 2) (c := d5) rfl (HP6.out.on hw7) (S := ⟨#[97, 98]⟩) rfl
  have hb7 := below_on hb6 hw7
  clear hw7 hb6 HR7 HC7 HP6
  go_wp2_with fail
  go_ret
  exact ⟨rfl, hb7⟩

/-! ### records, small, Same -/
set_option maxHeartbeats 1600000 in
theorem records_of (H : Frm) (A : Option Addr) (c n : Nat) (L : List (List Nat)) (m : List Nat) (k : Nat) (hn : n = L.length) (h6 : ∀ p ∈ L, p.length ≤ 65536) (hl : (Kf.recs L).length ≤ 1000000) (hm : Kf.recs L = m) (hk : k = m.length) (w : World) (hr : Rl w w.heap.size A L) :
    Calls Try.prog 9 #[.slice A n c] w fun e w' => ∃ A' c', e = .returned (.slice A' k c') ∧ Hid (Rb w' w'.heap.size A' m) ∧ Hid (Cap k c') ∧ Below w.heap.size w w' := by
  subst hm
  have HN := Lib.hid hn
  have HR := Lib.hid hr
  have HK := Lib.hid hk
  have H6 := Lib.hid h6
  have HL := Lib.hid hl
  have hlen : n ≤ 9223372036854775807 := by rw [hn]; exact hr.len
  clear hn hr hk h6 hl
  go_enter Try.func9, Try.ntmps9
  go_wp2_with fail
  go_loopg [3, 4] n (fun g s3 s4 wx => ∃ (i j c' : Nat) (X : Option Addr), i + g = n ∧ s4 = .int .i64 i ∧ s3 = .slice X j c' ∧ Hid (j = (Kf.recs (L.take i)).length) ∧ Hid (Cap j c') ∧ Hid (Rb wx wx.heap.size X (Kf.recs (L.take i))) ∧ Below w.heap.size w wx)
  case atStart => exact ⟨0, 0, 0, none, by omega, rfl, rfl, Lib.hid (by simp [Kf.recs]), Lib.hid cap0, Lib.hid (by rw [List.take_zero]; exact Rb.none_ _ _ _), Below.refl _ _⟩
  case round =>
    obtain ⟨i, j, c', X, hi, rfl, rfl, HJ, HC, HX, hwx⟩ := hrel
    cases gk with
    | zero =>
      obtain rfl : i = n := by omega
      have ht : L.take i = L := List.take_of_length_le (by have := HN.out; omega)
      rw [ht] at HJ HX
      obtain rfl : j = k := by rw [HJ.out, HK.out]
      go_wp2_with fail
      go_ret
      exact ⟨X, c', rfl, HX, HC, hwx⟩
    | succ g =>
      have hlt : i < n := by omega
      have hltz : (i : Int) < (n : Int) := by omega
      have hil : i < L.length := by have := HN.out; omega
      obtain ⟨bk, off, Y, cy, rfl, hbk, hc0, hcap, hry⟩ := (HR.out.on hwx).at_ hil
      obtain ⟨p, hp⟩ : ∃ p, L[i] = p := ⟨_, rfl⟩
      rw [hp] at hc0 hcap hry
      have h65 := H6.out p (by rw [← hp]; exact List.getElem_mem hil)
      have HT : Hid (L.take (i + 1) = L.take i ++ [p]) := Lib.hid (by rw [List.take_succ_eq_append_getElem hil, hp])
      have HLi : Hid ((Kf.recs (L.take i)).length ≤ 1000000) := Lib.hid (by
        have h1 : Kf.recs L = Kf.recs (L.take i) ++ Kf.recs (L.drop i) := by rw [← Kf.recs_app, List.take_append_drop]
        have h2 := congrArg List.length h1
        rw [List.length_append] at h2
        have := HL.out
        omega)
      have HP : Hid (Kf.put (Kf.recs (L.take i)) p = Kf.recs (L.take (i + 1))) := Lib.hid (by rw [Kf.put_ok h65, HT.out, Kf.recs_snoc])
      obtain ⟨k2, hk2⟩ : ∃ k2, (Kf.recs (L.take (i + 1))).length = k2 := ⟨_, rfl⟩
      have HK2 := Lib.hid hk2.symm
      obtain ⟨q, hq⟩ : ∃ q, p.length = q := ⟨_, rfl⟩
      rw [hq] at hc0 hcap
      have HQ := Lib.hid hq.symm
      have HCq := Lib.hid hcap
      have HRy := Lib.hid hry
      clear hp hk2 hq hcap hry h65
      go_wp2_with fail
      refine (H.put X Y j c' q cy _ p _ k2 HJ.out HLi.out HC.out HQ.out HCq.out HP.out HK2.out _ HX.out HRy.out).mono ?_
      rintro e w2 ⟨A2, c2, rfl, HR2, HC2, hw2⟩
      have hb2 := below_on hwx hw2
      clear hw2
      go_wp2_with fail
      go_roundg g
      case measure => omega
      case rel => exact ⟨i + 1, k2, c2, A2, by omega, by simp, rfl, HK2, HC2, HR2, hb2⟩
set_option maxHeartbeats 1600000 in
theorem small_of (A : Option Addr) (c n : Nat) (L : List (List Nat)) (hn : n = L.length) (w : World) (hr : Rl w w.heap.size A L) :
    Calls Try.prog 8 #[.slice A n c] w fun e w' => ∃ b : Bool, e = .returned (.bool b) ∧ (b = true → n ≤ 20 ∧ ∀ p ∈ L, p.length ≤ 200) ∧ Below w.heap.size w w' := by
  have HN := Lib.hid hn
  have HR := Lib.hid hr
  have hlen : n ≤ 9223372036854775807 := by rw [hn]; exact hr.len
  clear hn hr
  go_enter Try.func8, Try.ntmps8
  go_wp2_with fail
  go_loopg [3] n (fun g s3 wx => ∃ i : Nat, i + g = n ∧ s3 = .int .i64 i ∧ Hid (∀ p ∈ L.take i, p.length ≤ 200) ∧ wx = w)
  case atStart => exact ⟨0, by omega, rfl, Lib.hid (by simp), rfl⟩
  case round =>
    obtain ⟨i, hi, rfl, HA, rfl⟩ := hrel
    cases gk with
    | zero =>
      obtain rfl : i = n := by omega
      rw [List.take_of_length_le (by have := HN.out; omega)] at HA
      by_cases h20 : (i : Int) ≤ 20
      · have hd : decide ((i : Int) ≤ 20) = true := by simpa using h20
        go_wp2_with fail
        go_ret
        exact ⟨_, rfl, fun _ => ⟨by omega, HA.out⟩, Below.refl _ _⟩
      · have hd : decide ((i : Int) ≤ 20) = false := by simpa using h20
        go_wp2_with fail
        go_ret
        exact .inl ⟨rfl, Below.refl _ _⟩
    | succ g =>
      have hlt : i < n := by omega
      have hltz : (i : Int) < (n : Int) := by omega
      have hil : i < L.length := by have := HN.out; omega
      obtain ⟨bk, off, Y, cy, rfl, hbk, hc0, hcap, hry⟩ := HR.out.at_ hil
      obtain ⟨q, hq⟩ : ∃ q, L[i].length = q := ⟨_, rfl⟩
      rw [hq] at hc0
      have HQ := Lib.hid hq
      clear hq hcap hry
      by_cases h2 : (200 : Int) < (q : Int)
      · go_wp2_with fail
        go_ret
        exact ⟨false, rfl, fun h => (by cases h), Below.refl _ _⟩
      · have HA' : Hid (∀ p ∈ L.take (i + 1), p.length ≤ 200) := Lib.hid (by
          rw [List.take_succ_eq_append_getElem hil]
          intro p hp
          rcases List.mem_append.1 hp with hp | hp
          · exact HA.out p hp
          · simp only [List.mem_singleton] at hp
            subst hp
            have := HQ.out
            omega)
        go_wp2_with fail
        go_roundg g
        case measure => omega
        case rel => exact ⟨i + 1, by omega, by simp, HA', rfl⟩
set_option maxHeartbeats 1600000 in
theorem same_of (A B : Option Addr) (c d n : Nat) (L : List (List Nat)) (hn : n = L.length) (w : World) (hr : Rl w w.heap.size A L) (hs : Rl w w.heap.size B L) :
    Calls Try.prog 11 #[.slice A n c, .slice B n d] w fun e w' => e = .returned (.bool true) ∧ Below w.heap.size w w' := by
  have HN := Lib.hid hn
  have HR := Lib.hid hr
  have HS := Lib.hid hs
  have hlen : n ≤ 9223372036854775807 := by rw [hn]; exact hr.len
  have hnn : ((n : Int) != (n : Int)) = false := by simp
  clear hn hr hs
  go_enter Try.func11, Try.ntmps11
  go_wp2_with fail
  clear hnn
  go_loopg [5] n (fun g s5 wx => ∃ i : Nat, i + g = n ∧ s5 = .int .i64 i ∧ Below w.heap.size w wx)
  case atStart => exact ⟨0, by omega, rfl, Below.refl _ _⟩
  case round =>
    obtain ⟨i, hi, rfl, hwx⟩ := hrel
    cases gk with
    | zero =>
      obtain rfl : i = n := by omega
      go_wp2_with fail
      go_ret
      exact ⟨rfl, hwx⟩
    | succ g =>
      have hlt : i < n := by omega
      have hltz : (i : Int) < (n : Int) := by omega
      have hil : i < L.length := by have := HN.out; omega
      obtain ⟨bk, off, Y, cy, rfl, hbk, hc0, hcap, hry⟩ := (HR.out.on hwx).at_ hil
      obtain ⟨bk2, off2, Z, cz, rfl, hbk2, hd0, hcap2, hrz⟩ := (HS.out.on hwx).at_ hil
      obtain ⟨p, hp⟩ : ∃ p, L[i] = p := ⟨_, rfl⟩
      rw [hp] at hc0 hd0 hry hrz
      obtain ⟨q, hq⟩ : ∃ q, p.length = q := ⟨_, rfl⟩
      rw [hq] at hc0 hd0
      obtain ⟨S, hS⟩ : ∃ S, Kc.tx p = S := ⟨_, rfl⟩
      have hcv1 : Hid (Txt wr Y q cy S) := Lib.hid (txt_of hq.symm hry hS)
      have hcv2 : Hid (Txt wr Z q cz S) := Lib.hid (txt_of hq.symm hrz hS)
      have hSS : (S.toList == S.toList) = true := by simp
      clear hp hq hS hcap hcap2 hry hrz
      go_wp2_with fail
      first | (go_region_held (fun W => W.cell? ⟨bk, off + i, none⟩ = some (.slice Y q cy) ∧ W.cell? ⟨bk2, off2 + i, none⟩ = some (.slice Z q cz) ∧ (convert 25 9 (.slice Y q cy)).run Try.prog W = .ok (.string S) W ∧ (convert 25 9 (.slice Z q cz)).run Try.prog W = .ok (.string S) W)
        (exact ⟨hc0, hd0, hcv1.out _ (Below.refl _ _).drew, hcv2.out _ (Below.refl _ _).drew⟩) (fail)) | fail
      go_wp2_with fail
      go_roundg g
      case measure => omega
      case rel => exact ⟨i + 1, by omega, by simp, below_on hwx (Below.refl _ _).drew⟩
end Go.Proofs.Ytmcmlfmfhljphaa

/-
  What the walks of layer codec's laws lean on: the eight calls' contracts, as words (proved of what landed in another text); the examples.
-/
import Derived.Test.YtnieojdlmanckaaOct
import Derived.Test.YtnieojdlmanckaaCdSame
import Derived.Test.YtnieojdlmanckaaLabBase
namespace Go.Proofs.Ytnieojdlmanckaa
open Go.RowKit Go.Proofs.Ytnieojdlmanckaa.Lp

abbrev Cap (k c : Nat) : Prop := k ≤ c ∧ c ≤ 9223372036854775807
def PutUC : Prop := ∀ (nz : Int) (A : Option Addr) (n c : Nat) (l m : List Nat) (k : Nat), -9223372036854775808 ≤ nz → nz ≤ 9223372036854775807 → n = l.length → l.length ≤ 4000000 → Cap n c → Kc.putU l nz = m → k = m.length → ∀ w : World, Rb w w.heap.size A l →
  Calls Try.prog 14 #[.slice A n c, .int .i64 nz] w fun e w' => ∃ A' c', e = .returned (.slice A' k c') ∧ Hid (Rb w' w'.heap.size A' m) ∧ Hid (Cap k c') ∧ Below w.heap.size w w'
def PutIC : Prop := ∀ (nz : Int) (A : Option Addr) (n c : Nat) (l m : List Nat) (k : Nat), -9223372036854775808 ≤ nz → nz ≤ 9223372036854775807 → n = l.length → l.length ≤ 4000000 → Cap n c → Kc.putI l nz = m → k = m.length → ∀ w : World, Rb w w.heap.size A l →
  Calls Try.prog 13 #[.slice A n c, .int .i64 nz] w fun e w' => ∃ A' c', e = .returned (.slice A' k c') ∧ Hid (Rb w' w'.heap.size A' m) ∧ Hid (Cap k c') ∧ Below w.heap.size w w'
def PutTC : Prop := ∀ (s : ByteArray) (A : Option Addr) (n c : Nat) (l m : List Nat) (k : Nat), s.size ≤ 9223372036854775807 → n = l.length → l.length ≤ 2000000 → Cap n c → Kc.putT l (Kc.bs s) = m → k = m.length → ∀ w : World, Rb w w.heap.size A l →
  Calls Try.prog 12 #[.slice A n c, .string s] w fun e w' => ∃ A' c', e = .returned (.slice A' k c') ∧ Hid (Rb w' w'.heap.size A' m) ∧ Hid (Cap k c') ∧ Below w.heap.size w w'
def PutLC : Prop := ∀ (A B : Option Addr) (n c q d : Nat) (l m : List Nat) (ps : List Pr) (k : Nat), n = l.length → l.length ≤ 1000000 → Cap n c → q = ps.length → Cap q d → Kc.putL l ps = m → k = m.length → ∀ w : World, Rb w w.heap.size A l → Rd w w.heap.size B ps →
  Calls Try.prog 11 #[.slice A n c, .slice B q d] w fun e w' => ∃ A' c', e = .returned (.slice A' k c') ∧ Hid (Rb w' w'.heap.size A' m) ∧ Hid (Cap k c') ∧ Below w.heap.size w w'
def GetUC : Prop := ∀ (A : Option Addr) (n c : Nat) (l r : List Nat) (x k : Nat) (z : Int), n = l.length → Cap n c → Kc.getU l = (x, r, z) → k = r.length → ∀ w : World, Rb w w.heap.size A l →
  Calls Try.prog 15 #[.slice A n c] w fun e w' => ∃ A' c', e = .returned (.tuple #[.int .i64 (x : Int), .slice A' k c', .int .i64 z]) ∧ Hid (Rb w' w'.heap.size A' r) ∧ Hid (Cap k c') ∧ Below w.heap.size w w'
def GetIC : Prop := ∀ (A : Option Addr) (n c : Nat) (l r : List Nat) (x : Int) (k : Nat) (z : Int), n = l.length → Cap n c → Kc.getI l = (x, r, z) → k = r.length → ∀ w : World, Rb w w.heap.size A l →
  Calls Try.prog 16 #[.slice A n c] w fun e w' => ∃ A' c', e = .returned (.tuple #[.int .i64 x, .slice A' k c', .int .i64 z]) ∧ Hid (Rb w' w'.heap.size A' r) ∧ Hid (Cap k c') ∧ Below w.heap.size w w'
def GetTC : Prop := ∀ (A : Option Addr) (n c : Nat) (l a r : List Nat) (S : ByteArray) (k : Nat) (z : Int), n = l.length → Cap n c → Kc.getT l = (a, r, z) → Kc.tx a = S → k = r.length → ∀ w : World, Rb w w.heap.size A l →
  Calls Try.prog 17 #[.slice A n c] w fun e w' => ∃ A' c', e = .returned (.tuple #[.string S, .slice A' k c', .int .i64 z]) ∧ Hid (Rb w' w'.heap.size A' r) ∧ Hid (Cap k c') ∧ Below w.heap.size w w'
def GetLC : Prop := ∀ (A : Option Addr) (n c : Nat) (l r : List Nat) (ps : List Pr) (q k : Nat) (z : Int), n = l.length → Cap n c → Kc.getL l = (ps, r, z) → q = ps.length → k = r.length → ∀ w : World, Rb w w.heap.size A l →
  Calls Try.prog 18 #[.slice A n c] w fun e w' => ∃ B d A' c', e = .returned (.tuple #[.slice B q d, .slice A' k c', .int .i64 z]) ∧ Hid (Rd w' w'.heap.size B ps) ∧ Hid (Cap q d) ∧ Hid (Rb w' w'.heap.size A' r) ∧ Hid (Cap k c') ∧ Below w.heap.size w w'
/-- All eight. -/
structure Cod : Prop where
  putU : PutUC
  putI : PutIC
  putT : PutTC
  putL : PutLC
  getU : GetUC
  getI : GetIC
  getT : GetTC
  getL : GetLC

/-! ### the document's examples -/
theorem rd_new1 (W : World) (a b : ByteArray) (ha : a.size ≤ 64) (hb : b.size ≤ 64) :
    Rd (W.alloc (.cells #[.string a, .string b] 44)) (W.alloc (.cells #[.string a, .string b] 44)).heap.size (some ⟨W.heap.size, 0, none⟩) [(a, b)] := by
  refine ⟨by simp, ?_, fun _ => ⟨W.heap.size, 0, rfl, by simp, ?_⟩⟩
  · intro p hp
    simp only [List.mem_cons, List.not_mem_nil, or_false] at hp
    subst hp
    exact ⟨by show a.size ≤ _; omega, by show b.size ≤ _; omega⟩
  · intro j u hu
    match j, hu with
    | 0, hu => cases hu; go_simp
    | 1, hu => cases hu; go_simp
def tA : ByteArray := ⟨#[97]⟩
def t1 : ByteArray := ⟨#[49]⟩
theorem ex_sane : saneB [(tA, t1)] = true := by
  rw [sane_iff]
  refine ⟨?_, ?_, ?_⟩
  · unfold large bigV tA t1; rfl
  · have : nameB tA = true := by unfold nameB; rw [tl]; decide
    simp [misn, badN, this]
  · simp [Ris]
theorem ex_u : Kc.getU [172, 2, 7] = (300, [7], 0) := by decide +kernel
theorem ex_e1 : Kc.enc 1 = [1] := Kc.enc_lo (by decide)
theorem ex_e300 : Kc.enc 300 = [172, 2] := by rw [Kc.enc_hi (by decide), Kc.enc_lo (by decide)]
theorem ex_pi : Kc.putI [] (-1) = [1] := by rw [Kc.putI_ok (by decide)]; exact ex_e1
theorem ex_pu : Kc.putU [] 300 = [172, 2] := by rw [show (300 : Int) = ((300 : Nat) : Int) from rfl, Kc.putU_ok (by decide)]; exact ex_e300
theorem ex_pt : Kc.putT [] (Kc.bs ⟨#[97, 98]⟩) = [2, 97, 98] := by
  rw [Kc.putT_ok (by decide)]
  show [] ++ (Kc.enc 2 ++ [97, 98]) = _
  rw [Kc.enc_lo (by decide)]; rfl
theorem ex_i : Kc.getI [1] = (-1, [], 0) := by decide +kernel
theorem ex_t : Kc.getT [2, 97, 98] = ([97, 98], [], 0) := by decide +kernel
theorem ex_f : Kc.getU [128, 0] = (0, [], 1) := by decide +kernel
theorem ex_pl : Kc.putL [] [(tA, t1)] = Kc.encL [(tA, t1)] := by unfold Kc.putL; rw [asL_sane ex_sane, List.nil_append]
theorem ex_l : Kc.getL (Kc.encL [(tA, t1)]) = ([(tA, t1)], [], 0) := by
  have := Kc.getL_enc ex_sane []
  rwa [List.append_nil] at this
theorem cap0 : Cap 0 0 := by decide
set_option maxHeartbeats 3200000 in
theorem awake_any (H : Cod) (w : World) :
    Calls Try.prog 8 #[] w fun e w' => e = .returned (.bool true) ∧ Below w.heap.size w w' := by
  go_enter Try.func8, Try.ntmps8
  go_wp2_with fail
  refine (H.getU _ 3 3 [172, 2, 7] [7] 300 1 0 rfl (by decide) ex_u rfl _ (rb_new _ _ _ _ [172, 2, 7] rfl (by decide) (by decide))).mono ?_
  rintro e w1 ⟨A1, c1, rfl, HR1, HC1, hw1⟩
  have hb1 := below_on (below_alloc w _) hw1
  clear hw1 HR1 HC1
  go_wp2_with fail
  refine (H.putI (-1) none 0 0 [] [1] 1 (by decide) (by decide) rfl (by decide) cap0 ex_pi rfl _ (Rb.none_ _ _ _)).mono ?_
  rintro e w2 ⟨A2, c2, rfl, HR2, HC2, hw2⟩
  have hb2 := below_on hb1 hw2
  clear hw2 hb1
  go_wp2_with fail
  refine (H.getI A2 1 c2 [1] [] (-1) 0 0 rfl HC2.out ex_i rfl _ HR2.out).mono ?_
  rintro e w3 ⟨A3, c3, rfl, HR3, HC3, hw3⟩
  have hb3 := below_on hb2 hw3
  clear hw3 hb2 HR2 HC2 HR3 HC3
  go_wp2_with fail
  refine (H.getT _ 3 3 [2, 97, 98] [97, 98] [] ⟨#[97, 98]⟩ 0 0 rfl (by decide) ex_t rfl rfl _ (rb_new _ _ _ _ [2, 97, 98] rfl (by decide) (by decide))).mono ?_
  rintro e w4 ⟨A4, c4, rfl, HR4, HC4, hw4⟩
  have hb4 := below_on hb3 (below_on (below_alloc w3 _) hw4)
  clear hw4 hb3 HR4 HC4
  go_wp2_with fail
  refine (H.getU _ 2 2 [128, 0] [] 0 0 1 rfl (by decide) ex_f rfl _ (rb_new _ _ _ _ [128, 0] rfl (by decide) (by decide))).mono ?_
  rintro e w5 ⟨A5, c5, rfl, HR5, HC5, hw5⟩
  have hb5 := below_on hb4 (below_on (below_alloc w4 _) hw5)
  clear hw5 hb4 HR5 HC5
  obtain ⟨E, hE⟩ : ∃ E, Kc.encL [(tA, t1)] = E := ⟨_, rfl⟩
  have HE := Lib.hid hE
  clear hE
  go_wp2_with fail
  refine (H.putL none _ 0 0 1 1 [] E [(tA, t1)] E.length rfl (by decide) cap0 rfl (by decide) (by rw [← HE.out]; exact ex_pl) rfl _ (Rb.none_ _ _ _) (rd_new1 _ tA t1 (by decide) (by decide))).mono ?_
  rintro e w6 ⟨A6, c6, rfl, HR6, HC6, hw6⟩
  have HP := Lib.hid ((rd_new1 w5 tA t1 (by decide) (by decide)).on hw6)
  have hb6 := below_on hb5 (below_on (below_alloc w5 _) hw6)
  clear hw6 hb5
  go_wp2_with fail
  refine (H.getL A6 _ c6 E [] [(tA, t1)] 1 0 0 rfl HC6.out (by rw [← HE.out]; exact ex_l) rfl rfl _ HR6.out).mono ?_
  rintro e w7 ⟨B7, d7, A7, c7, rfl, HD7, HQ7, HR7, HC7, hw7⟩
  have hb7 := below_on hb6 hw7
  have HP7 := Lib.hid (HP.out.on hw7)
  clear hw7 hb6 HR7 HC7 HR6 HC6 HP HQ7
  go_wp2_with fail
  refine (H.putU 300 none 0 0 [] [172, 2] 2 (by decide) (by decide) rfl (by decide) cap0 ex_pu rfl _ (Rb.none_ _ _ _)).mono ?_
  rintro e w8 ⟨A8, c8, rfl, HR8, HC8, hw8⟩
  have hcv := conv_rb (n := 2) (c := c8) rfl HR8.out (S := ⟨#[172, 2]⟩) rfl
  have hb8 := below_on hb7 hw8
  have HP8 := Lib.hid (HP7.out.on hw8)
  have HD8 := Lib.hid (HD7.out.on hw8)
  clear hw8 hb7 HR8 HC8 HP7 HD7
  go_wp2_with fail
  clear hcv
  refine (H.putI (-1) none 0 0 [] [1] 1 (by decide) (by decide) rfl (by decide) cap0 ex_pi rfl _ (Rb.none_ _ _ _)).mono ?_
  rintro e w9 ⟨A9, c9, rfl, HR9, HC9, hw9⟩
  have hcv := conv_rb (n := 1) (c := c9) rfl HR9.out (S := ⟨#[1]⟩) rfl
  have hb9 := below_on hb8 hw9
  have HP9 := Lib.hid (HP8.out.on hw9)
  have HD9 := Lib.hid (HD8.out.on hw9)
  clear hw9 hb8 HR9 HC9 HP8 HD8
  go_wp2_with fail
  clear hcv
  refine (H.putT ⟨#[97, 98]⟩ none 0 0 [] [2, 97, 98] 3 (by decide) rfl (by decide) cap0 ex_pt rfl _ (Rb.none_ _ _ _)).mono ?_
  rintro e w10 ⟨A10, c10, rfl, HR10, HC10, hw10⟩
  have hcv := conv_rb (n := 3) (c := c10) rfl HR10.out (S := ⟨#[2, 97, 98]⟩) rfl
  have hb10 := below_on hb9 hw10
  have HP10 := Lib.hid (HP9.out.on hw10)
  have HD10 := Lib.hid (HD9.out.on hw10)
  clear hw10 hb9 HR10 HC10 HP9 HD9
  go_wp2_with fail
  clear hcv
  refine (same_of _ _ 1 d7 1 1 [(tA, t1)] [(tA, t1)] rfl rfl true (by simp) _ HP10.out HD10.out).mono ?_
  rintro e w11 ⟨rfl, hw11⟩
  go_wp2_with fail
  go_ret
  exact ⟨rfl, below_on hb10 hw11⟩
end Go.Proofs.Ytnieojdlmanckaa

/-
  What the walks of layer sel's laws lean on: the four calls' contracts, as words (proved of what landed in another text); the example.
-/
import Derived.Test.YtgahahichplpkaaDoorLexZ
import Derived.Test.YtgahahichplpkaaDoorLabBase
namespace Go.Proofs.YtgahahichplpkaaDoor
open Go.RowKit Go.Proofs.YtgahahichplpkaaDoor.Lp
open Go.Proofs.YtgahahichplpkaaDoor.Sl (Mt Sel Tf)

def SaneC : Prop := ∀ (N : ByteArray) (A : Option Addr) (n c : Nat) (l : List Mt) (b : Bool), N.size ≤ 9223372036854775807 → n = l.length → Cap n c → Sl.saneS (N, l) = b → ∀ w : World, Rq w w.heap.size A l →
  Calls Tryd.prog 14 #[sv N A n c] w fun e w' => e = .returned (.bool b) ∧ Below w.heap.size w w'
def PrintC : Prop := ∀ (N : ByteArray) (A : Option Addr) (n c : Nat) (l : List Mt) (S : ByteArray), N.size ≤ 9223372036854775807 → n = l.length → Cap n c → S.data.toList = Sl.prS (N, l) → ∀ w : World, Rq w w.heap.size A l →
  Calls Tryd.prog 16 #[sv N A n c] w fun e w' => e = .returned (.string S) ∧ Below w.heap.size w w'
def ParseC : Prop := ∀ (B : Option Addr) (d q : Nat) (ts : List Tz) (i : Int) (M : ByteArray) (m : List Mt) (k x : Nat) (z : Int), q = ts.length → Cap q d → -9223372036854775808 ≤ i → i ≤ 9223372036854775807 → Sl.parse (ts.map flatK) i = ((M, m), x, z) → k = m.length → ∀ w : World, Rz w w.heap.size B ts →
  Calls Tryd.prog 12 #[.slice B q d, .int .i64 i] w fun e w' => ∃ A c, e = .returned (.tuple #[sv M A k c, .int .i64 (x : Int), .int .i64 z]) ∧ Hid (Rq w' w'.heap.size A m) ∧ Hid (Cap k c) ∧ Below w.heap.size w w'
def FitsC : Prop := ∀ (N : ByteArray) (A : Option Addr) (n c : Nat) (l : List Mt) (B : Option Addr) (q d : Nat) (ps : List Pr) (b : Bool), N.size ≤ 9223372036854775807 → n = l.length → Cap n c → q = ps.length → Cap q d → Sl.fits (N, l) ps = b → ∀ w : World, Rq w w.heap.size A l → Rd w w.heap.size B ps →
  Calls Tryd.prog 19 #[sv N A n c, .slice B q d] w fun e w' => e = .returned (.bool b) ∧ Below w.heap.size w w'
/-- All four, and lex.All. -/
structure SelC : Prop where
  sane : SaneC
  print : PrintC
  parse : ParseC
  fits : FitsC
  all : AllZC

/-! ### the document's example -/
def tUp : ByteArray := ⟨#[117, 112]⟩
def tJob : ByteArray := ⟨#[106, 111, 98]⟩
def tA : ByteArray := ⟨#[97]⟩
def tX : ByteArray := ⟨#[120]⟩
def tB : ByteArray := ⟨#[98]⟩
def exS : List Mt := [(tJob, tA, false), (tX, tB, true)]
theorem nmB_of {s : ByteArray} {l : List UInt8} (h : s.data.toList = l) (hl : nameL l = true) : nameB s = true := by
  unfold nameB; rw [tl, h]; exact hl
theorem ex_sane : Sl.saneS (tUp, exS) = true := by
  unfold Sl.saneS
  have h1 : nameB tUp = true := nmB_of (l := [117, 112]) rfl (by decide)
  have h2 : nameB tJob = true := nmB_of (l := [106, 111, 98]) rfl (by decide)
  have h3 : nameB tX = true := nmB_of (l := [120]) rfl (by decide)
  simp only [h1, exS, List.all_cons, List.all_nil, Sl.mOk, h2, h3]
  decide
def exT : Lx.T := [117, 112, 123, 106, 111, 98, 61, 34, 97, 34, 44, 120, 33, 61, 34, 98, 34, 125]
theorem ex_text : Sl.prS (tUp, exS) = exT := by
  unfold Sl.prS
  rw [if_pos ex_sane]
  rfl
theorem ex_toks : ((Lx.lex 65536 (exT ++ [32, 62, 32, 49])).1.map Lx.flat) = Sl.tS (tUp, exS) ++ [(4, [62]), (2, [49])] ∧ (Lx.lex 65536 (exT ++ [32, 62, 32, 49])).2.1 = [] ∧ (Lx.lex 65536 (exT ++ [32, 62, 32, 49])).2.2 = 0 := by
  have h0 : Lx.Chain [([32], (4, [62])), ([32], (2, [49]))] [] := by
    refine ⟨Lx.wh_32, Sl.good_sign (by decide), Lx.stop_sign (by decide), Lx.wh_32, .inr (.inl ⟨rfl, 49, [], rfl, by decide, by decide, by decide⟩), ⟨fun h => by simp at h, fun _ c r h => by simp [Lx.asm] at h, fun h => by simp at h⟩, rfl⟩
  have hc := Sl.chain_prS ex_sane _ [] h0 (by decide) (fun h => by simp [exS] at h)
  have := Lx.lex_chain _ [] 65536 (by decide) hc
  rw [Sl.asm_app, Sl.asm_prS ex_sane, ex_text] at this
  have e : exT ++ [32, 62, 32, 49] = exT ++ Lx.asm [([32], (4, [62])), ([32], (2, [49]))] [] := rfl
  rw [e]
  refine ⟨?_, this.2⟩
  rw [this.1]
  rfl
theorem ex_parse (ts : List Tz) (h : ts.map flatK = (Sl.tS (tUp, exS) ++ [(4, [62]), (2, [49])]).map Sl.tf) : Sl.parse (ts.map flatK) 0 = ((tUp, exS), 10, 0) := by
  have := Sl.parse_print ex_sane [] ([(4, [62]), (2, [49])].map Sl.tf) (fun h => by simp [exS] at h)
  unfold Sl.parse
  rw [if_neg (by decide), h, List.map_append]
  exact this
def exL : List Pr := [(Sl.nameL, tUp), (tJob, tA)]
theorem exL_sane : saneB exL = true := by
  rw [sane_iff]
  refine ⟨?_, ?_, ?_⟩
  · unfold large exL bigV; rfl
  · have h1 : nameB Sl.nameL = true := nmB_of (l := [95, 95, 110, 97, 109, 101, 95, 95]) rfl (by decide)
    have h2 : nameB tJob = true := nmB_of (l := [106, 111, 98]) rfl (by decide)
    simp [misn, badN, exL, h1, h2]
  · simp [Ris, exL, blt]
    rw [tl, tl]
    decide
theorem ba_ne {a b : ByteArray} (h : a.data.toList ≠ b.data.toList) : ¬ a = b := fun e => h (by rw [e])
theorem ex_fits : Sl.fits (tUp, exS) exL = true := by
  have n1 : ¬ Sl.nameL = tJob := ba_ne (by decide)
  have n2 : ¬ Sl.nameL = tX := ba_ne (by decide)
  have n3 : ¬ tJob = tX := ba_ne (by decide)
  have n4 : ¬ (⟨#[]⟩ : ByteArray) = tB := ba_ne (by decide)
  unfold Sl.fits
  rw [ex_sane, exL_sane]
  simp [exL, exS, getS, Sl.mFits, n1, n2, n3, n4]
def exL1 : List Pr := [(Sl.nameL, tUp)]
theorem ex_fits1 : Sl.fits (tUp, exS) exL1 = false := by
  have n1 : ¬ Sl.nameL = tJob := ba_ne (by decide)
  have n4 : ¬ (⟨#[]⟩ : ByteArray) = tA := ba_ne (by decide)
  unfold Sl.fits
  simp [exL1, exS, getS, Sl.mFits, n1, n4]
theorem rd_two (W : World) (a b c d : ByteArray) (h : a.size ≤ 1000 ∧ b.size ≤ 1000 ∧ c.size ≤ 1000 ∧ d.size ≤ 1000) :
    Rd (W.alloc (.cells #[.string a, .string b, .string c, .string d] 48)) (W.alloc (.cells #[.string a, .string b, .string c, .string d] 48)).heap.size (some ⟨W.heap.size, 0, none⟩) [(a, b), (c, d)] := by
  refine ⟨by simp, ?_, fun _ => ⟨W.heap.size, 0, rfl, by simp, ?_⟩⟩
  · intro p hp
    simp only [List.mem_cons, List.not_mem_nil, or_false] at hp
    rcases hp with rfl | rfl
    · exact ⟨by show a.size ≤ _; omega, by show b.size ≤ _; omega⟩
    · exact ⟨by show c.size ≤ _; omega, by show d.size ≤ _; omega⟩
  · intro j u hu
    match j, hu with
    | 0, hu => cases hu; go_simp
    | 1, hu => cases hu; go_simp
    | 2, hu => cases hu; go_simp
    | 3, hu => cases hu; go_simp
theorem rd_new1 (W : World) (a b : ByteArray) (ha : a.size ≤ 1000) (hb : b.size ≤ 1000) :
    Rd (W.alloc (.cells #[.string a, .string b] 48)) (W.alloc (.cells #[.string a, .string b] 48)).heap.size (some ⟨W.heap.size, 0, none⟩) [(a, b)] := by
  refine ⟨by simp, ?_, fun _ => ⟨W.heap.size, 0, rfl, by simp, ?_⟩⟩
  · intro p hp
    simp only [List.mem_cons, List.not_mem_nil, or_false] at hp
    subst hp
    exact ⟨by show a.size ≤ _; omega, by show b.size ≤ _; omega⟩
  · intro j u hu
    match j, hu with
    | 0, hu => cases hu; go_simp
    | 1, hu => cases hu; go_simp
set_option maxHeartbeats 3200000 in
theorem awake_any (H : SelC) (w : World) :
    Calls Tryd.prog 8 #[] w fun e w' => e = .returned (.bool true) ∧ Below w.heap.size w w' := by
  go_enter Tryd.func8, Tryd.ntmps8
  rcases ha : allZ (exT ++ [32, 62, 32, 49]) with ⟨ts, x, z⟩
  obtain ⟨t1, t2, t3⟩ := ex_toks
  have hts : ts.map flatK = (Sl.tS (tUp, exS) ++ [(4, [62]), (2, [49])]).map Sl.tf := by
    unfold allZ allT at ha
    simp only [Prod.mk.injEq] at ha
    rw [← ha.1, flatK_place, t1]
  have hp := Lib.hid (ex_parse ts hts)
  have HA := Lib.hid ha
  obtain ⟨q, hq⟩ : ∃ q, q = ts.length := ⟨_, rfl⟩
  have HQ := Lib.hid hq
  clear t1 t2 t3 hts ha hq
  go_wp2_with fail
  refine (H.all _ (exT ++ [32, 62, 32, 49]) ts q x z (by decide) rfl HA.out HQ.out _).mono ?_
  rintro e w1 ⟨B, d, rfl, HR1, HC1, hw1⟩
  go_wp2_with fail
  refine (H.parse B d q ts 0 tUp exS 2 10 0 HQ.out HC1.out (by decide) (by decide) hp.out rfl _ HR1.out).mono ?_
  rintro e w2 ⟨A, c, rfl, HR2, HC2, hw2⟩
  have hb2 := below_on hw1 hw2
  obtain ⟨W, P, hW, hP, hb0, d0, d1, hPW⟩ := box_sel w2 tUp A 2 c
  have hbW : Below w.heap.size w W := hb2.trans (hb0.mono (by have := hb2.size; omega))
  have HRW := Lib.hid (HR2.out.on (hP ▸ hb0))
  clear hw1 hw2 HR2 hb2 hb0
  go_wp2_with fail
  refine (H.sane tUp A 2 c exS true (by decide) rfl HC2.out ex_sane W HRW.out).mono ?_
  rintro e w3 ⟨rfl, hw3⟩
  have e0 := (hw3.cell (p := ⟨P, 0, none⟩) hPW).trans d0
  have e1 := (hw3.cell (p := ⟨P, 1, none⟩) hPW).trans d1
  have hP3 : P < w3.heap.size := Nat.lt_of_lt_of_le hPW hw3.size
  have hb3 := below_on hbW hw3
  have HR3 := Lib.hid (HRW.out.on hw3)
  clear d0 d1 hbW hw3 HRW hPW
  go_wp2_with fail
  refine (H.print tUp A 2 c exS ⟨exT.toArray⟩ (by decide) rfl HC2.out (by rw [ex_text]) w3 HR3.out).mono ?_
  rintro e w4 ⟨rfl, hw4⟩
  have d0 := (hw4.cell (p := ⟨P, 0, none⟩) hP3).trans e0
  have d1 := (hw4.cell (p := ⟨P, 1, none⟩) hP3).trans e1
  have hP4 : P < w4.heap.size := Nat.lt_of_lt_of_le hP3 hw4.size
  have hb4 := below_on hb3 hw4
  have HR4 := Lib.hid (HR3.out.on hw4)
  clear e0 e1 hb3 hw4 HR3 hP3
  go_wp2_with fail
  refine (H.fits tUp A 2 c exS _ 2 2 exL true (by decide) rfl HC2.out rfl (by decide) ex_fits _ (HR4.out.on (below_alloc w4 _)) (rd_two w4 Sl.nameL tUp tJob tA (by decide))).mono ?_
  rintro e w5 ⟨rfl, hw5⟩
  have hb5' := below_on (below_alloc w4 _) hw5
  have e0 := (hb5'.cell (p := ⟨P, 0, none⟩) hP4).trans d0
  have e1 := (hb5'.cell (p := ⟨P, 1, none⟩) hP4).trans d1
  have hb5 := below_on hb4 hb5'
  have HR5 := Lib.hid (HR4.out.on hb5')
  clear d0 d1 hb4 hw5 hb5' HR4 hP4
  go_wp2_with fail
  refine (H.fits tUp A 2 c exS _ 1 1 exL1 false (by decide) rfl HC2.out rfl (by decide) ex_fits1 _ (HR5.out.on (below_alloc w5 _)) (rd_new1 w5 Sl.nameL tUp (by decide) (by decide))).mono ?_
  rintro e w6 ⟨rfl, hw6⟩
  have hb6 := below_on hb5 (below_on (below_alloc w5 _) hw6)
  go_wp2_with fail
  go_ret
  exact ⟨rfl, hb6⟩
end Go.Proofs.YtgahahichplpkaaDoor

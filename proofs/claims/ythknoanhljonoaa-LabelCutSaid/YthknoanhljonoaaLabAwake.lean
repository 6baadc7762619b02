/-
  The walk of layer label's awake: it answers true.
-/
import Derived.Test.YthknoanhljonoaaLabCmp
namespace Go.Proofs.Ythknoanhljonoaa
open Go.RowKit Go.Maps Go.Proofs.Ythknoanhljonoaa.Lp

def tA : ByteArray := ⟨#[97]⟩
def tB : ByteArray := ⟨#[98]⟩
def t1 : ByteArray := ⟨#[49]⟩
def t2 : ByteArray := ⟨#[50]⟩
def t3 : ByteArray := ⟨#[51]⟩
theorem nm_a : nameB tA = true := by unfold nameB; rw [tl]; decide
theorem nm_b : nameB tB = true := by unfold nameB; rw [tl]; decide
theorem nm_1 : nameB t1 = false := by unfold nameB; rw [tl]; decide
theorem nm_x : nameB ⟨#[95, 97, 49]⟩ = true := by unfold nameB; rw [tl]; decide
theorem lt_ab : blt tA tB = true := by unfold blt; rw [tl, tl]; decide
theorem lt_23 : blt t2 t3 = true := by unfold blt; rw [tl, tl]; decide
theorem ne_ab : tA ≠ tB := blt_ne lt_ab
theorem sane2 (u v : ByteArray) (hu : u.size ≤ 64) (hv : v.size ≤ 64) : saneB [(tA, u), (tB, v)] = true := by
  refine (sane_iff _).2 ⟨?_, ?_, ?_⟩
  · rw [large_iff]
    refine ⟨by simp, ?_⟩
    simp [bigV]
    omega
  · simp [misn, badN, nm_a, nm_b]
  · unfold Ris
    simp [lt_ab]
def M1 : List Pr := [(tA, t2), (tB, t1)]
def M2 : List Pr := [(tA, t3), (tB, t1)]
theorem m1_sane : saneB M1 = true := sane2 _ _ (by decide) (by decide)
theorem m2_sane : saneB M2 = true := sane2 _ _ (by decide) (by decide)
theorem l1_perm : [(tB, t1), (tA, t2)].Perm M1 := List.Perm.swap _ _ _
theorem l1_wrong : wrong [(tB, t1), (tA, t2)] = 0 := by rw [wrong_perm l1_perm]; exact sane_wrong m1_sane
theorem l1_make : makeS [(tB, t1), (tA, t2)] = M1 := by rw [make_like (sane_wrong m1_sane) l1_perm]; exact sane_make m1_sane
theorem one_wrong : wrong [(t1, ⟨#[]⟩)] = 7 := by
  unfold wrong large misn
  simp [bigV, badN, nm_1]
  decide
theorem m1_get : getS (asL M1) tB = some t1 := by
  rw [asL_sane m1_sane]
  unfold getS M1
  simp [ne_ab]
theorem a3_sane : saneB [(tA, t3)] = true := sane_sub m2_sane (by unfold M2; simp)
theorem m_perm : (merge M1 [(tA, t3)]).Perm M2 := by
  rw [merge_is m1_sane a3_sane]
  have : repl M1 [(tA, t3)] = [(tB, t1), (tA, t3)] := by
    unfold repl drop M1 Lp.has
    simp [ne_ab]
  rw [this]
  exact List.Perm.swap _ _ _
theorem m_wrong : wrong (merge M1 [(tA, t3)]) = 0 := by rw [wrong_perm m_perm]; exact sane_wrong m2_sane
theorem m_make : makeS (merge M1 [(tA, t3)]) = M2 := by rw [make_like (sane_wrong m2_sane) m_perm]; exact sane_make m2_sane
theorem m_cmp : cmpL (asL M1) (asL M2) = -1 := by
  rw [asL_sane m1_sane, asL_sane m2_sane]
  have h : cmpP (tA, t2) (tA, t3) = -1 := by
    unfold cmpP cmpT
    simp [blt_irrefl, lt_23]
  unfold M1 M2 cmpL
  rw [h]
  rfl
/-- Two pairs in a block of their own. -/
theorem rd_new2 (W : World) (a b c d : ByteArray) (h : (a.size ≤ 64 ∧ b.size ≤ 64) ∧ c.size ≤ 64 ∧ d.size ≤ 64) :
    Rd (W.alloc (.cells #[.string a, .string b, .string c, .string d] 38)) (W.alloc (.cells #[.string a, .string b, .string c, .string d] 38)).heap.size (some ⟨W.heap.size, 0, none⟩) [(a, b), (c, d)] := by
  refine ⟨by simp, ?_, fun _ => ⟨W.heap.size, 0, rfl, by simp, ?_⟩⟩
  · intro p hp
    simp only [List.mem_cons, List.not_mem_nil, or_false] at hp
    rcases hp with rfl | rfl
    · exact ⟨by show a.size ≤ _; omega, by show b.size ≤ _; omega⟩
    · exact ⟨by show c.size ≤ _; omega, by show d.size ≤ _; omega⟩
  · intro j u hu
    match j, hu with
    | 0, hu => cases hu; go_simp
    | 1, hu => cases hu; go_simp
    | 2, hu => cases hu; go_simp
    | 3, hu => cases hu; go_simp

set_option maxHeartbeats 3200000 in
theorem awake_any (w : World) :
    Calls Try.prog 10 #[] w fun e w' => e = .returned (.bool true) ∧ Below w.heap.size w w' := by
  go_enter Try.func10, Try.ntmps10
  go_wp2_with fail
  refine (make_of _ 2 2 [(tB, t1), (tA, t2)] rfl 0 l1_wrong _ (rd_new2 _ tB t1 tA t2 (by decide))).mono ?_
  rintro e w1 ⟨A1, c1, rfl, HR1, hw1⟩
  rw [l1_make] at HR1 ⊢
  rw [show M1.length = 2 from rfl]
  have hb1 := below_on (below_alloc w _) hw1
  clear hw1
  go_wp2_with fail
  refine (make_of _ 1 1 [(t1, ⟨#[]⟩)] rfl 7 one_wrong _ (rd_new _ t1 ⟨#[]⟩ (by decide) (by decide) rfl)).mono ?_
  rintro e w2 ⟨A2, c2, rfl, HR2, hw2⟩
  rw [make_no (by rw [one_wrong]; decide)]
  rw [show ([] : List Pr).length = 0 from rfl]
  have hb12 := below_on (below_alloc w1 _) hw2
  clear hw2 HR2
  go_wp2_with fail
  refine (get_of A1 c1 2 M1 rfl tB (some t1) m1_get _ (HR1.out.on hb12)).mono ?_
  rintro e w3 ⟨he, hw3⟩
  subst he
  have hb13 := below_on hb12 hw3
  clear hw3
  unfold gotV t1
  go_wp2_with fail
  refine (merge_of A1 _ c1 1 2 1 M1 [(tA, t3)] rfl rfl 0 m_wrong _ ((HR1.out.on hb13).on (below_alloc _ _)) (rd_new _ tA t3 (by decide) (by decide) rfl)).mono ?_
  rintro e w4 ⟨A4, c4, rfl, HR4, hw4⟩
  rw [m_make] at HR4 ⊢
  rw [show M2.length = 2 from rfl]
  have hb14 := below_on hb13 (below_on (below_alloc w3 _) hw4)
  clear hw4
  have hr14 := HR1.out.on hb14
  have hr4 := HR4.out
  have HR14 := Lib.hid hr14
  obtain ⟨b1, o1, rfl, hl1, hc1⟩ := hr14.all (by decide)
  obtain ⟨b4, o4, rfl, hl4, hc4⟩ := hr4.all (by decide)
  have c0 := (hc1 0 (tA, t2) rfl).1
  have d0 := (hc4 0 (tA, t3) rfl).2
  rw [Nat.zero_mul, Nat.add_zero] at c0 d0
  have e0 : w4.cell? ⟨b1, o1, none⟩ = some (.string ⟨#[97]⟩) := c0
  have e1 : w4.cell? ⟨b4, o4 + 1, none⟩ = some (.string ⟨#[51]⟩) := d0
  clear hc1 hc4 c0 d0 hr14 hr4
  go_wp2_with fail
  refine (sane_of _ c1 2 M1 rfl true m1_sane _ HR14.out).mono ?_
  rintro e w5 ⟨rfl, hw5⟩
  go_wp2_with fail
  refine (compare_of _ _ c1 c4 2 2 M1 M2 rfl rfl (-1) m_cmp _ (HR14.out.on hw5) (HR4.out.on hw5)).mono ?_
  rintro e w6 ⟨rfl, hw6⟩
  go_wp2_with fail
  refine (name_of ⟨#[95, 97, 49]⟩ true nm_x _).mono ?_
  rintro e w7 ⟨rfl, rfl⟩
  go_wp2_with fail
  go_ret
  exact ⟨rfl, below_on (below_on hb1 hb14) (below_on hw5 hw6)⟩
end Go.Proofs.Ythknoanhljonoaa

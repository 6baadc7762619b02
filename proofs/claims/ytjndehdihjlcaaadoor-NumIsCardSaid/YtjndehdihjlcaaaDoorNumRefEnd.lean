/-
  The document's Parse at every text: Np.parseS of its octets, out of the cases.
-/
import Derived.Test.YtjndehdihjlcaaaDoorNumRefWalk
import Derived.Test.YtjndehdihjlcaaaDoorNumRefPrint
namespace Go.Proofs.YtjndehdihjlcaaaDoor
open Go.RowKit

theorem refParse_empty (s : ByteArray) (w : World) (h : s.size = 0) :
    Calls Tryd.prog 11 #[.string s] w fun e w' => e = Np.ans (Np.parseS s.data.toList) ∧ w = w' := by
  have hl : s.data.toList = [] := List.length_eq_zero_iff.mp (by rw [← Lib.size_eq]; exact h)
  have HE : Hid (Np.ans (Np.parseS s.data.toList) = .returned (.tuple #[.int .i64 0, .int .i64 1])) := Lib.hid (by rw [hl]; rfl)
  have Hrun : Hid (Np.runN s.data.toList 0 = 0) := Lib.hid (by rw [hl]; rfl)
  have hz : ¬ (0 : Int) < (s.size : Int) := by omega
  have hs : s.size ≤ 1000000 := by omega
  clear h hl
  go_enter Tryd.func11, Tryd.ntmps11
  go_wp2_with fail
  refine (refRun_at s 0 (by omega) (by omega) _ hs).mono ?_
  rintro e w1 ⟨rfl, rfl⟩
  rw [show (0 : Int).toNat = 0 from rfl, Hrun.out]
  go_wp2_with fail
  go_ret2
  exact ⟨HE.out.symm, rfl⟩

theorem Np.at_of {l : List UInt8} {a n : Nat} {D t : List UInt8} {c : UInt8} (h : l.drop a = D ++ c :: t) (hn : D.length = n) : l[a + n]? = some c ∧ l.drop (a + n + 1) = t := by
  have e1 : (l.drop a)[n]? = some c := by rw [h, ← hn]; simp
  have e2 : l.drop (a + n + 1) = (l.drop a).drop (n + 1) := by rw [List.drop_drop]; congr 1
  refine ⟨by rw [List.getElem?_drop] at e1; exact e1, ?_⟩
  rw [e2, h, ← hn]; simp
theorem Np.byte_of (s : ByteArray) (j : Nat) (c : UInt8) (h : s.data.toList[j]? = some c) : ∃ hj : j < s.size, s[j]'hj = c := by
  obtain ⟨hj, e⟩ := List.getElem?_eq_some_iff.mp h
  exact ⟨by rw [Lib.size_eq]; exact hj, e⟩
theorem Np.fits_of (s : ByteArray) (a : Nat) (b : List UInt8) (hb : s.data.toList.drop a = b) (h : ∀ c ∈ b, Np.dig c = true ∨ c = 46) : Np.Fits s a := by
  intro j hj ha
  refine h _ ?_
  rw [← hb]
  have e : (s.data.toList.drop a)[j - a]? = some (s[j]'hj) := by
    rw [List.getElem?_drop, show a + (j - a) = j by omega, List.getElem?_eq_getElem (by rw [← Lib.size_eq]; exact hj)]; rfl
  exact List.mem_of_getElem? e
theorem Np.body_drop (l : List UInt8) : Np.body l = l.drop (if Np.neg l then 1 else 0) := by
  unfold Np.body
  cases Np.neg l <;> simp
theorem Np.fin_of (l b d : List UInt8) (f : Bool) (hb : Np.body l = b) (hf : Np.neg l = f) (h : Np.unsig b = some d) : Np.parseS l = Np.fin f (Np.num d) := by
  unfold Np.parseS; rw [hb, hf, h]
theorem Np.ne_dec {p : List UInt8} (h : p ≠ []) : 1 ≤ p.length := List.length_pos_iff.mpr h


theorem refParse_0 (s : ByteArray) (hs : s.size ≤ 1000000) (w : World) (hpos : 0 < s.size) (hneg : Np.neg s.data.toList = false) :
    Calls Tryd.prog 11 #[.string s] w fun e w' => e = Np.ans (Np.parseS s.data.toList) ∧ w = w' := by
  have hbody : Np.body s.data.toList = s.data.toList.drop 0 := by rw [Np.body_drop, hneg]; rfl
  obtain ⟨b, hb⟩ : ∃ b, s.data.toList.drop 0 = b := ⟨_, rfl⟩
  rw [hb] at hbody
  have hlen : s.size = 0 + b.length := by rw [← hb, List.length_drop, ← Lib.size_eq]; omega
  have hps := Np.pre_suf b
  have hpl := congrArg List.length hps
  rw [List.length_append] at hpl
  obtain ⟨n, hn⟩ : ∃ n, (Np.pre b).length = n := ⟨_, rfl⟩
  have hrun : Np.runN s.data.toList 0 = n := by unfold Np.runN; rw [hb]; exact hn
  have hn1 : Np.pre b ≠ [] → 1 ≤ n := fun h => by rw [← hn]; exact Np.ne_dec h
  have hn0 : Np.pre b = [] → n = 0 := fun h => by rw [← hn, h]; rfl
  cases hS : Np.suf b with
  | nil =>
    rw [hS] at hpl
    simp only [List.length_nil, Nat.add_zero] at hpl
    by_cases h0 : Np.pre b = []
    · exact refParse0_A1 s hs w n hneg hpos hrun (by omega) (hn0 h0) (Np.ans_none hbody (Np.uns_A1 b hS h0))
    · have hall := Np.pre_all b hS
      have hkb : Np.keep b = b := Np.keep_digs b (by rw [hall]; exact Np.pre_digs b)
      refine refParse0_A2 s hs w n hneg hpos hrun (by omega) (hn1 h0) _ (Np.fin_of _ b _ _ hbody hneg (Np.uns_A2 b hS h0)) ?_ (Np.fits_of s 0 b hb fun c hc => Or.inl ?_)
      · rw [hb, hkb, ← hall]; rfl
      · rw [hall] at hc; exact List.all_eq_true.mp (Np.pre_digs b) c hc
  | cons c t =>
    rw [hS] at hps hpl
    simp only [List.length_cons] at hpl
    obtain ⟨hat, hdr⟩ := Np.at_of (l := s.data.toList) (a := 0) (n := n) (by rw [hb]; exact hps) hn
    rw [Nat.zero_add] at hat hdr
    obtain ⟨hlt, hc⟩ := Np.byte_of s _ c hat
    by_cases h46 : c = 46
    · subst h46
      obtain ⟨m, hm⟩ : ∃ m, (Np.pre t).length = m := ⟨_, rfl⟩
      have hmt : m ≤ t.length := by rw [← hm]; exact (List.takeWhile_sublist _).length_le
      have hrun2 : Np.runN s.data.toList (n + 1) = m := by unfold Np.runN; rw [hdr]; exact hm
      have HN := fun (h : m < 1 ∨ 3 < m ∨ Np.pre b = [] ∨ m ≠ t.length) => Np.ans_none hbody (Np.uns_C b hS (by rw [hm]; exact h))
      by_cases h1 : m < 1
      · exact refParse0_C1 s hs w n hneg hpos hrun 46 hlt hc rfl m (by omega) hrun2 h1 (HN (Or.inl h1))
      · by_cases h3 : 3 < m
        · exact refParse0_C2 s hs w n hneg hpos hrun 46 hlt hc rfl m (by omega) hrun2 h1 h3 (HN (Or.inr (Or.inl h3)))
        · by_cases h0 : Np.pre b = []
          · exact refParse0_C3a s hs w n hneg hpos hrun 46 hlt hc rfl m (by omega) hrun2 h1 h3 (hn0 h0) (HN (Or.inr (Or.inr (Or.inl h0))))
          · by_cases he : m = t.length
            · obtain ⟨hu, htd⟩ := Np.uns_C3 b hS (by rw [hm]; exact h1) (by rw [hm]; exact h3) h0 (by rw [hm]; exact he)
              have hbC := Np.eq_C b hS
              refine refParse0_C3c s hs w n hneg hpos hrun 46 hlt hc rfl m (by omega) hrun2 h1 h3 (hn1 h0) (by omega) _ (Np.fin_of _ b _ _ hbody hneg hu) ?_ (Np.fits_of s 0 b hb fun x hx => ?_)
              · have hk : Np.keep b = Np.pre b ++ t := by
                  have := Np.keep_C (Np.pre b) t (Np.pre_digs b) htd
                  rw [← hbC] at this; exact this
                rw [hb, hk, Np.pad_rep t (by omega), he, List.append_assoc]
              · rw [hbC, List.mem_append, List.mem_cons] at hx
                rcases hx with hx | hx | hx
                · exact Or.inl (List.all_eq_true.mp (Np.pre_digs b) x hx)
                · exact Or.inr hx
                · exact Or.inl (List.all_eq_true.mp htd x hx)
            · exact refParse0_C3b s hs w n hneg hpos hrun 46 hlt hc rfl m (by omega) hrun2 h1 h3 (hn1 h0) (by omega) (HN (Or.inr (Or.inr (Or.inr he))))
    · have HE := Np.ans_none hbody (Np.uns_B b hS h46)
      by_cases h0 : Np.pre b = []
      · exact refParse0_B0 s hs w n hneg hpos hrun c hlt hc h46 (hn0 h0) HE
      · exact refParse0_B1 s hs w n hneg hpos hrun c hlt hc h46 (hn1 h0) HE

theorem refParse_1 (s : ByteArray) (hs : s.size ≤ 1000000) (w : World) (hpos : 0 < s.size) (hneg : Np.neg s.data.toList = true) :
    Calls Tryd.prog 11 #[.string s] w fun e w' => e = Np.ans (Np.parseS s.data.toList) ∧ w = w' := by
  have hbody : Np.body s.data.toList = s.data.toList.drop 1 := by rw [Np.body_drop, hneg]; rfl
  obtain ⟨b, hb⟩ : ∃ b, s.data.toList.drop 1 = b := ⟨_, rfl⟩
  rw [hb] at hbody
  have hlen : s.size = 1 + b.length := by rw [← hb, List.length_drop, ← Lib.size_eq]; omega
  have hps := Np.pre_suf b
  have hpl := congrArg List.length hps
  rw [List.length_append] at hpl
  obtain ⟨n, hn⟩ : ∃ n, (Np.pre b).length = n := ⟨_, rfl⟩
  have hrun : Np.runN s.data.toList 1 = n := by unfold Np.runN; rw [hb]; exact hn
  have hn1 : Np.pre b ≠ [] → 1 ≤ n := fun h => by rw [← hn]; exact Np.ne_dec h
  have hn0 : Np.pre b = [] → n = 0 := fun h => by rw [← hn, h]; rfl
  cases hS : Np.suf b with
  | nil =>
    rw [hS] at hpl
    simp only [List.length_nil, Nat.add_zero] at hpl
    by_cases h0 : Np.pre b = []
    · exact refParse1_A1 s hs w n hneg hpos hrun (by omega) (hn0 h0) (Np.ans_none hbody (Np.uns_A1 b hS h0))
    · have hall := Np.pre_all b hS
      have hkb : Np.keep b = b := Np.keep_digs b (by rw [hall]; exact Np.pre_digs b)
      refine refParse1_A2 s hs w n hneg hpos hrun (by omega) (hn1 h0) _ (Np.fin_of _ b _ _ hbody hneg (Np.uns_A2 b hS h0)) ?_ (Np.fits_of s 1 b hb fun c hc => Or.inl ?_)
      · rw [hb, hkb, ← hall]; rfl
      · rw [hall] at hc; exact List.all_eq_true.mp (Np.pre_digs b) c hc
  | cons c t =>
    rw [hS] at hps hpl
    simp only [List.length_cons] at hpl
    obtain ⟨hat, hdr⟩ := Np.at_of (l := s.data.toList) (a := 1) (n := n) (by rw [hb]; exact hps) hn
    
    obtain ⟨hlt, hc⟩ := Np.byte_of s _ c hat
    by_cases h46 : c = 46
    · subst h46
      obtain ⟨m, hm⟩ : ∃ m, (Np.pre t).length = m := ⟨_, rfl⟩
      have hmt : m ≤ t.length := by rw [← hm]; exact (List.takeWhile_sublist _).length_le
      have hrun2 : Np.runN s.data.toList (1 + n + 1) = m := by unfold Np.runN; rw [hdr]; exact hm
      have HN := fun (h : m < 1 ∨ 3 < m ∨ Np.pre b = [] ∨ m ≠ t.length) => Np.ans_none hbody (Np.uns_C b hS (by rw [hm]; exact h))
      by_cases h1 : m < 1
      · exact refParse1_C1 s hs w n hneg hpos hrun 46 hlt hc rfl m (by omega) hrun2 h1 (HN (Or.inl h1))
      · by_cases h3 : 3 < m
        · exact refParse1_C2 s hs w n hneg hpos hrun 46 hlt hc rfl m (by omega) hrun2 h1 h3 (HN (Or.inr (Or.inl h3)))
        · by_cases h0 : Np.pre b = []
          · exact refParse1_C3a s hs w n hneg hpos hrun 46 hlt hc rfl m (by omega) hrun2 h1 h3 (hn0 h0) (HN (Or.inr (Or.inr (Or.inl h0))))
          · by_cases he : m = t.length
            · obtain ⟨hu, htd⟩ := Np.uns_C3 b hS (by rw [hm]; exact h1) (by rw [hm]; exact h3) h0 (by rw [hm]; exact he)
              have hbC := Np.eq_C b hS
              refine refParse1_C3c s hs w n hneg hpos hrun 46 hlt hc rfl m (by omega) hrun2 h1 h3 (hn1 h0) (by omega) _ (Np.fin_of _ b _ _ hbody hneg hu) ?_ (Np.fits_of s 1 b hb fun x hx => ?_)
              · have hk : Np.keep b = Np.pre b ++ t := by
                  have := Np.keep_C (Np.pre b) t (Np.pre_digs b) htd
                  rw [← hbC] at this; exact this
                rw [hb, hk, Np.pad_rep t (by omega), he, List.append_assoc]
              · rw [hbC, List.mem_append, List.mem_cons] at hx
                rcases hx with hx | hx | hx
                · exact Or.inl (List.all_eq_true.mp (Np.pre_digs b) x hx)
                · exact Or.inr hx
                · exact Or.inl (List.all_eq_true.mp htd x hx)
            · exact refParse1_C3b s hs w n hneg hpos hrun 46 hlt hc rfl m (by omega) hrun2 h1 h3 (hn1 h0) (by omega) (HN (Or.inr (Or.inr (Or.inr he))))
    · have HE := Np.ans_none hbody (Np.uns_B b hS h46)
      by_cases h0 : Np.pre b = []
      · exact refParse1_B0 s hs w n hneg hpos hrun c hlt hc h46 (hn0 h0) HE
      · exact refParse1_B1 s hs w n hneg hpos hrun c hlt hc h46 (hn1 h0) HE

theorem refParse_any (s : ByteArray) (hs : s.size ≤ 1000000) (w : World) :
    Calls Tryd.prog 11 #[.string s] w fun e w' => e = Np.ans (Np.parseS s.data.toList) ∧ w = w' := by
  by_cases h : s.size = 0
  · exact refParse_empty s w h
  · cases hn : Np.neg s.data.toList with
    | false => exact refParse_0 s hs w (by omega) hn
    | true => exact refParse_1 s hs w (by omega) hn
end Go.Proofs.YtjndehdihjlcaaaDoor

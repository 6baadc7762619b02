/-
  The walk of layer lex's first as landed: the token that stands first.
-/
import Derived.Test.YtgahahichplpkaaDoorLexText
namespace Go.Proofs.YtgahahichplpkaaDoor
open Go.RowKit

theorem trim45 (c : UInt8) (r : Lx.T) : Lib.trimPrefix (c :: r) [45] = if c.toNat = 45 then r else c :: r := by
  unfold Lib.trimPrefix Lib.hasPrefix
  by_cases h : c.toNat = 45
  · obtain rfl : c = 45 := UInt8.toNat_inj.1 h
    rw [if_pos h]
    rfl
  · have hc : ((45 : UInt8) == c) = false := by
      rw [beq_eq_false_iff_ne]
      rintro rfl
      exact h rfl
    rw [if_neg h, if_neg (by simp [List.isPrefixOf, hc])]
theorem bg_digits (c : UInt8) (r : Lx.T) : Lx.bg Lx.digitsL (Lib.trimPrefix (c :: r) [45]) = (Lx.isD c || (decide (c.toNat = 45) && Lx.hdD r)) := by
  rw [trim45]
  by_cases h : c.toNat = 45
  · obtain rfl : c = 45 := UInt8.toNat_inj.1 h
    rw [if_pos h, show Lx.isD 45 = false by decide, show decide ((45 : UInt8).toNat = 45) = true by decide, Bool.false_or, Bool.true_and]
    cases r with
    | nil => rfl
    | cons d r => exact Lx.digits_is d
  · rw [if_neg h, decide_eq_false h, Bool.false_and, Bool.or_false]
    exact Lx.digits_is c
theorem num_drop (c : UInt8) (r : Lx.T) (h : (Lx.isD c || (decide (c.toNat = 45) && Lx.hdD r)) = true) : (Lib.trimPrefix (c :: r) [45]).dropWhile Lx.numC = r.dropWhile Lx.numC := by
  rw [trim45]
  by_cases h45 : c.toNat = 45
  · rw [if_pos h45]
  · rw [decide_eq_false h45, Bool.false_and, Bool.or_false] at h
    rw [if_neg h45, List.dropWhile_cons, if_pos (by simp [Lx.numC, h])]
theorem word_drop (c : UInt8) (r : Lx.T) (h : Lx.isL c = true) : (c :: r).dropWhile Lx.wordC = r.dropWhile Lx.wordC := by
  rw [List.dropWhile_cons, if_pos (by simp [Lx.wordC, h])]
theorem take_cons (f : UInt8 → Bool) (c : UInt8) (r : Lx.T) : (c :: r).take (r.length + 1 - (r.dropWhile f).length) = c :: r.takeWhile f := by
  have h := Lx.drop_len f r
  rw [show r.length + 1 - (r.dropWhile f).length = (r.length - (r.dropWhile f).length) + 1 by omega, List.take_succ_cons, Lx.take_drop]
theorem ext_take (l : Lx.T) (x : Nat) : (str l).extract 0 x = str (l.take x) := by
  apply str_of
  simp [str]
theorem ext_tail (c : UInt8) (r : Lx.T) : (str (c :: r)).extract 1 (r.length + 1) = str r := by
  apply str_of
  simp [str]
theorem two_bg (c : UInt8) (r : Lx.T) : Lx.two c.toNat (Lx.hd r) = (Lx.widenedL.contains c && Lx.bg [61] r) := by
  cases r with
  | nil =>
    show Lx.two c.toNat 0 = (_ && false)
    rw [Bool.and_false]
    simp [Lx.two]
  | cons d r => exact (Lx.two_is c d).symm

set_option maxHeartbeats 6400000 in
theorem first_of (s : ByteArray) (c : UInt8) (r t r' : Lx.T) (k x : Nat) (z : Int) (hl : s.data.toList = c :: r) (hs : r.length < 1000000) (ho : Lx.one (c :: r) = (k, t, r', z)) (hx : x = r.length + 1 - r'.length) (w : World) :
    Calls Tryd.prog 44 #[.string s] w fun e w' => e = .returned (.tuple #[.agg #[.int .i64 (k : Int), .int .i64 0, .string (str t)], .int .i64 (x : Int), .int .i64 z]) ∧ Below w.heap.size w w' := by
  obtain rfl : s = str (c :: r) := str_of hl
  clear hl
  have HO := Lib.hid ho
  have HX := Lib.hid hx
  clear ho hx
  have hsz : (str (c :: r)).size = r.length + 1 := by rw [str_len]; rfl
  have hE1 := ext_tail c r
  obtain ⟨n, hn⟩ : ∃ n, r.length = n := ⟨_, rfl⟩
  rw [hn] at hsz hs hE1
  have HN := Lib.hid hn
  clear hn
  have h1n : (1 : Int) ≤ (n : Int) + 1 := by omega
  obtain ⟨U, hU⟩ : ∃ U, w.alloc (Obj.cells #[Value.int .i64 0, Value.int .i64 0, Value.string ⟨#[]⟩] 39) = U := ⟨_, rfl⟩
  obtain ⟨R, hR⟩ : ∃ R, w.heap.size = R := ⟨_, rfl⟩
  have hb0 : Below R w U := by rw [← hU, ← hR]; exact below_alloc w _
  have hUR : U.heap[R]? = some (.cells #[Value.int .i64 0, Value.int .i64 0, Value.string ⟨#[]⟩] 39 (0, 0)) := by rw [← hU, ← hR]; exact lx_new w _
  have hsz0 : U.heap.size = R + 1 := by rw [← hU, ← hR]; show (w.heap.push _).size = _; rw [Array.size_push]
  have fin : ∀ w1 : World, Below U.heap.size U w1 → Below R w w1 ∧ w1.heap[R]? = some (.cells #[Value.int .i64 0, Value.int .i64 0, Value.string ⟨#[]⟩] 39 (0, 0)) := by
    intro w1 h1
    exact ⟨hb0.trans (h1.mono (by omega)), by rw [h1.block R (by omega)]; exact hUR⟩
  have hpre : (⟨(Lib.trimPrefix (c :: r) [45]).toArray⟩ : ByteArray) = str (Lib.trimPrefix (c :: r) [45]) := rfl
  have FIN := Lib.hid fin
  clear hUR hb0 fin
  rw [hR]
  go_enter Tryd.func44, Tryd.ntmps44
  go_wp2_with fail
  try rw [hU]
  refine (Tryd.strings_TrimPrefix _ _ _).mono ?_
  rintro e w1 ⟨rfl, rfl⟩
  rw [show (Lib.trimPrefix (str (c :: r)).data.toList (⟨#[45]⟩ : ByteArray).data.toList) = Lib.trimPrefix (c :: r) [45] from rfl, hpre]
  obtain ⟨u, hu⟩ : ∃ u, Lib.trimPrefix (c :: r) [45] = u := ⟨_, rfl⟩
  rw [hu]
  have HU := Lib.hid hu
  clear hu hpre
  go_wp2_with fail
  cases b1 : Lx.isL c with
  | true =>
    refine (begins_of _ _ (c :: r) Lx.lettersL true rfl rfl (by rw [Lx.bg_cons, Lx.letters_is]; exact b1) _).mono ?_
    rintro e w2 ⟨rfl, hw2⟩
    have h := HO.out
    rw [Lx.one, if_pos b1] at h
    simp only [Prod.mk.injEq] at h
    obtain ⟨rfl, rfl, rfl, rfl⟩ := h
    go_wp2_with fail
    refine (trimK_of _ _ (c :: r) Lx.wordL Lx.wordC rfl rfl (by decide) (by decide) Lx.word_is _).mono ?_
    rintro e w3 ⟨rfl, hw3⟩
    rw [word_drop c r b1]
    have hszq : (str (r.dropWhile Lx.wordC)).size = (r.dropWhile Lx.wordC).length := str_len _
    obtain ⟨q, hq⟩ : ∃ q, (r.dropWhile Lx.wordC).length = q := ⟨_, rfl⟩
    have hqn : q ≤ n := by have := Lx.drop_len Lx.wordC r; have := HN.out; omega
    rw [hq] at hszq
    have hxq : x = n + 1 - q := by have := HX.out; rw [HN.out, hq] at this; exact this
    have hsub : (n : Int) + 1 - (q : Int) = (x : Int) := by omega
    have hxn : (x : Int) ≤ (n : Int) + 1 := by omega
    have hE : (str (c :: r)).extract 0 x = str (c :: r.takeWhile Lx.wordC) := by
      rw [ext_take, hxq, ← hq, ← HN.out, take_cons]
    obtain ⟨hb3, hR3⟩ := FIN.out _ (below_on hw2 hw3)
    have hc0 := lx_cell hR3 0
    have hc1 := lx_cell hR3 1
    have hc2 := lx_cell hR3 2
    have hf0 := lx_frozen hR3 0
    have hf1 := lx_frozen hR3 1
    have hf2 := lx_frozen hR3 2
    clear hq hxq
    go_wp2_with fail
    exact tok_end rfl hb3 hc0 hc1 hc2 1 0 x 0 (str (c :: r.takeWhile Lx.wordC)) _ rfl rfl rfl rfl
  | false =>
    refine (begins_of _ _ (c :: r) Lx.lettersL false rfl rfl (by rw [Lx.bg_cons, Lx.letters_is]; exact b1) _).mono ?_
    rintro e w2 ⟨rfl, hw2⟩
    go_wp2_with fail
    cases b2 : (Lx.isD c || (decide (c.toNat = 45) && Lx.hdD r)) with
    | true =>
      refine (begins_of _ _ u Lx.digitsL true rfl rfl (by rw [← HU.out, bg_digits]; exact b2) _).mono ?_
      rintro e w3 ⟨rfl, hw3⟩
      have h := HO.out
      rw [Lx.one, if_neg (by rw [b1]; decide), if_pos b2] at h
      simp only [Prod.mk.injEq] at h
      obtain ⟨rfl, rfl, rfl, rfl⟩ := h
      go_wp2_with fail
      refine (trimK_of _ _ u Lx.numL Lx.numC rfl rfl (by decide) (by decide) Lx.num_is _).mono ?_
      rintro e w4 ⟨rfl, hw4⟩
      rw [← HU.out, num_drop c r b2]
      have hszq : (str (r.dropWhile Lx.numC)).size = (r.dropWhile Lx.numC).length := str_len _
      obtain ⟨q, hq⟩ : ∃ q, (r.dropWhile Lx.numC).length = q := ⟨_, rfl⟩
      have hqn : q ≤ n := by have := Lx.drop_len Lx.numC r; have := HN.out; omega
      rw [hq] at hszq
      have hxq : x = n + 1 - q := by have := HX.out; rw [HN.out, hq] at this; exact this
      have hsub : (n : Int) + 1 - (q : Int) = (x : Int) := by omega
      have hxn : (x : Int) ≤ (n : Int) + 1 := by omega
      have hE : (str (c :: r)).extract 0 x = str (c :: r.takeWhile Lx.numC) := by
        rw [ext_take, hxq, ← hq, ← HN.out, take_cons]
      obtain ⟨hb3, hR3⟩ := FIN.out _ (below_on hw2 (below_on hw3 hw4))
      have hc0 := lx_cell hR3 0
      have hc1 := lx_cell hR3 1
      have hc2 := lx_cell hR3 2
      have hf0 := lx_frozen hR3 0
      have hf1 := lx_frozen hR3 1
      have hf2 := lx_frozen hR3 2
      clear hq hxq
      go_wp2_with fail
      exact tok_end rfl hb3 hc0 hc1 hc2 2 0 x 0 (str (c :: r.takeWhile Lx.numC)) _ rfl rfl rfl rfl
    | false =>
      refine (begins_of _ _ u Lx.digitsL false rfl rfl (by rw [← HU.out, bg_digits]; exact b2) _).mono ?_
      rintro e w3 ⟨rfl, hw3⟩
      have hb3 := below_on hw2 hw3
      clear hw2 hw3
      go_wp2_with fail
      by_cases b3 : c.toNat = 34
      · obtain rfl : c = 34 := UInt8.toNat_inj.1 b3
        refine (begins_of _ _ (34 :: r) [34] true rfl rfl rfl _).mono ?_
        rintro e w4 ⟨rfl, hw4⟩
        go_wp2_with fail
        refine (text_of _ r t r' k x z rfl (by rw [HN.out]; exact hs) HO.out HX.out _).mono ?_
        rintro e w5 ⟨rfl, hw5⟩
        obtain ⟨hb5, hR5⟩ := FIN.out _ (below_on hb3 (below_on hw4 hw5))
        have hc0 := lx_cell hR5 0
        have hc1 := lx_cell hR5 1
        have hc2 := lx_cell hR5 2
        have hf0 := lx_frozen hR5 0
        have hf1 := lx_frozen hR5 1
        have hf2 := lx_frozen hR5 2
        go_wp2_with fail
        exact tok_end rfl hb5 hc0 hc1 hc2 k 0 x z (str t) _ rfl rfl rfl rfl
      · refine (begins_of _ _ (c :: r) [34] false rfl rfl (by rw [Lx.bg_cons, Lx.lit_is]; exact decide_eq_false b3) _).mono ?_
        rintro e w4 ⟨rfl, hw4⟩
        have hb4 := below_on hb3 hw4
        clear hw4 hb3
        have hone := HO.out
        rw [Lx.one, if_neg (by rw [b1]; decide), if_neg (by rw [b2]; decide), if_neg b3, two_bg] at hone
        have HO2 := Lib.hid hone
        clear hone HO
        go_wp2_with fail
        cases b4 : Lx.widenedL.contains c with
        | false =>
          have HNO : Hid ((Lx.widenedL.contains c && Lx.bg [61] r) = false) := Lib.hid (by rw [b4]; rfl)
          rw [b4] at HNO HO2
          refine (begins_of _ _ (c :: r) Lx.widenedL false rfl rfl (by rw [Lx.bg_cons]; exact b4) _).mono ?_
          rintro e w5 ⟨rfl, hw5⟩
          have hb5 := below_on hb4 hw5
          clear hw5 hb4
          go_wp2_with fail
          cases b6 : Lx.oneS c.toNat with
          | true =>
            refine (begins_of _ _ (c :: r) Lx.signsL true rfl rfl (by rw [Lx.bg_cons, Lx.signs_is]; exact b6) _).mono ?_
            rintro e w7 ⟨rfl, hw7⟩
            have h := HO2.out
            rw [HNO.out, if_neg (by decide), if_pos b6] at h
            simp only [Prod.mk.injEq] at h
            obtain ⟨rfl, rfl, rfl, rfl⟩ := h
            obtain rfl : x = 1 := by have := HX.out; omega
            have hE : (str (c :: r)).extract 0 1 = str [c] := ext_take (c :: r) 1
            obtain ⟨hbe, hRe⟩ := FIN.out _ (below_on hb5 hw7)
            have hc0 := lx_cell hRe 0
            have hc1 := lx_cell hRe 1
            have hc2 := lx_cell hRe 2
            have hf0 := lx_frozen hRe 0
            have hf1 := lx_frozen hRe 1
            have hf2 := lx_frozen hRe 2
            go_wp2_with fail
            exact tok_end rfl hbe hc0 hc1 hc2 4 0 1 0 (str [c]) _ rfl rfl rfl rfl
          | false =>
            refine (begins_of _ _ (c :: r) Lx.signsL false rfl rfl (by rw [Lx.bg_cons, Lx.signs_is]; exact b6) _).mono ?_
            rintro e w7 ⟨rfl, hw7⟩
            have h := HO2.out
            rw [HNO.out, if_neg (by decide), if_neg (by rw [b6]; decide)] at h
            simp only [Prod.mk.injEq] at h
            obtain ⟨rfl, rfl, rfl, rfl⟩ := h
            obtain rfl : x = 0 := by have := HX.out; simp only [List.length_cons] at this; omega
            obtain ⟨hbe, hRe⟩ := FIN.out _ (below_on hb5 hw7)
            have hc0 := lx_cell hRe 0
            have hc1 := lx_cell hRe 1
            have hc2 := lx_cell hRe 2
            have hf0 := lx_frozen hRe 0
            have hf1 := lx_frozen hRe 1
            have hf2 := lx_frozen hRe 2
            go_wp2_with fail
            exact tok_end rfl hbe hc0 hc1 hc2 0 0 0 1 ⟨#[]⟩ _ rfl rfl rfl rfl
        | true =>
          rw [b4] at HO2
          refine (begins_of _ _ (c :: r) Lx.widenedL true rfl rfl (by rw [Lx.bg_cons]; exact b4) _).mono ?_
          rintro e w5 ⟨rfl, hw5⟩
          have hb5 := below_on hb4 hw5
          clear hw5 hb4
          go_wp2_with fail
          cases b5 : Lx.bg [61] r with
          | false =>
            have HNO : Hid ((true && Lx.bg [61] r) = false) := Lib.hid (by rw [b5]; rfl)
            refine (begins_of _ _ r [61] false rfl rfl b5 _).mono ?_
            rintro e w6 ⟨rfl, hw6⟩
            have hb6 := below_on hb5 hw6
            clear hw6 hb5
            go_wp2_with fail
            cases b6 : Lx.oneS c.toNat with
            | true =>
              refine (begins_of _ _ (c :: r) Lx.signsL true rfl rfl (by rw [Lx.bg_cons, Lx.signs_is]; exact b6) _).mono ?_
              rintro e w7 ⟨rfl, hw7⟩
              have h := HO2.out
              rw [HNO.out, if_neg (by decide), if_pos b6] at h
              simp only [Prod.mk.injEq] at h
              obtain ⟨rfl, rfl, rfl, rfl⟩ := h
              obtain rfl : x = 1 := by have := HX.out; omega
              have hE : (str (c :: r)).extract 0 1 = str [c] := ext_take (c :: r) 1
              obtain ⟨hbe, hRe⟩ := FIN.out _ (below_on hb6 hw7)
              have hc0 := lx_cell hRe 0
              have hc1 := lx_cell hRe 1
              have hc2 := lx_cell hRe 2
              have hf0 := lx_frozen hRe 0
              have hf1 := lx_frozen hRe 1
              have hf2 := lx_frozen hRe 2
              go_wp2_with fail
              exact tok_end rfl hbe hc0 hc1 hc2 4 0 1 0 (str [c]) _ rfl rfl rfl rfl
            | false =>
              refine (begins_of _ _ (c :: r) Lx.signsL false rfl rfl (by rw [Lx.bg_cons, Lx.signs_is]; exact b6) _).mono ?_
              rintro e w7 ⟨rfl, hw7⟩
              have h := HO2.out
              rw [HNO.out, if_neg (by decide), if_neg (by rw [b6]; decide)] at h
              simp only [Prod.mk.injEq] at h
              obtain ⟨rfl, rfl, rfl, rfl⟩ := h
              obtain rfl : x = 0 := by have := HX.out; simp only [List.length_cons] at this; omega
              obtain ⟨hbe, hRe⟩ := FIN.out _ (below_on hb6 hw7)
              have hc0 := lx_cell hRe 0
              have hc1 := lx_cell hRe 1
              have hc2 := lx_cell hRe 2
              have hf0 := lx_frozen hRe 0
              have hf1 := lx_frozen hRe 1
              have hf2 := lx_frozen hRe 2
              go_wp2_with fail
              exact tok_end rfl hbe hc0 hc1 hc2 0 0 0 1 ⟨#[]⟩ _ rfl rfl rfl rfl
          | true =>
            refine (begins_of _ _ r [61] true rfl rfl b5 _).mono ?_
            rintro e w6 ⟨rfl, hw6⟩
            have h := HO2.out
            rw [b5, if_pos (by rfl)] at h
            simp only [Prod.mk.injEq] at h
            obtain ⟨rfl, rfl, rfl, rfl⟩ := h
            have hn1 : 1 ≤ n := by
              cases r with
              | nil => simp [Lx.bg] at b5
              | cons d rr => have := HN.out; simp only [List.length_cons] at this; omega
            obtain rfl : x = 2 := by have := HX.out; rw [List.length_drop, HN.out] at this; omega
            have h2n : (2 : Int) ≤ (n : Int) + 1 := by omega
            have hE : (str (c :: r)).extract 0 2 = str (c :: r.take 1) := ext_take (c :: r) 2
            obtain ⟨hbe, hRe⟩ := FIN.out _ (below_on hb5 hw6)
            have hc0 := lx_cell hRe 0
            have hc1 := lx_cell hRe 1
            have hc2 := lx_cell hRe 2
            have hf0 := lx_frozen hRe 0
            have hf1 := lx_frozen hRe 1
            have hf2 := lx_frozen hRe 2
            go_wp2_with fail
            exact tok_end rfl hbe hc0 hc1 hc2 4 0 2 0 (str (c :: r.take 1)) _ rfl rfl rfl rfl
end Go.Proofs.YtgahahichplpkaaDoor

/-
  The walk of SelParsed: what is parsed is a selector, of the tokens from there on, and printed and parsed again it is the same; where an error is told.
-/
import Derived.Test.YtgahahichplpkaaDoorSelLaw
namespace Go.Proofs.YtgahahichplpkaaDoor
open Go.RowKit Go.Proofs.YtgahahichplpkaaDoor.Lp
open Go.Proofs.YtgahahichplpkaaDoor.Sl (Mt Sel Tf)

/-- What is printed, read and parsed. -/
theorem again {N : ByteArray} {l : List Mt} (h : Sl.saneS (N, l) = true) {ts : List Tz} {x : Nat} {z : Int} (ha : allZ (Sl.prS (N, l)) = (ts, x, z)) : z = 0 ∧ ts.map flatK = (Sl.tS (N, l)).map Sl.tf ∧ ts.length = (Sl.tS (N, l)).length ∧ Sl.parse (ts.map flatK) 0 = ((N, l), ts.length, 0) := by
  obtain ⟨h1, h2, h3⟩ := Sl.lex_print h
  unfold allZ allT at ha
  simp only [Prod.mk.injEq] at ha
  obtain ⟨rfl, rfl, rfl⟩ := ha
  have e : ((((Lx.lex 65536 (Sl.prS (N, l))).1.map (place (Sl.prS (N, l)).length)).map lz).map flatK) = (Sl.tS (N, l)).map Sl.tf := by rw [flatK_place, h1]
  have el : (((Lx.lex 65536 (Sl.prS (N, l))).1.map (place (Sl.prS (N, l)).length)).map lz).length = (Sl.tS (N, l)).length := by
    have := congrArg List.length e
    simpa using this
  refine ⟨h3, e, el, ?_⟩
  have := Sl.parse_print h [] [] (fun _ => by decide)
  rw [show (0 : Int) = ((0 : Nat) : Int) from rfl, parse_at, e, el]
  simpa using this
set_option maxHeartbeats 3200000 in
theorem selParsed_any (H : SelC) (B : Option Addr) (d q : Nat) (ts : List Tz) (i : Int) (w : World) (hi1 : -9223372036854775808 ≤ i) (hi2 : i ≤ 9223372036854775807) (hq : q = ts.length) (hr : Rz w w.heap.size B ts) (hqd : q ≤ d ∧ d ≤ 9223372036854775807) :
    Calls Tryd.prog 5 #[.slice B q d, .int .i64 i] w fun e w' => e = .returned (.bool true) ∧ Below w.heap.size w w' := by
  have HQ := Lib.hid hq
  have HR := Lib.hid hr
  have HQD := Lib.hid hqd
  clear hq hr hqd
  go_enter Tryd.func5, Tryd.ntmps5
  go_wp2_with fail
  refine (awake_any H w).mono ?_
  rintro e w1 ⟨rfl, hw1⟩
  have HR1 := Lib.hid (HR.out.on hw1)
  go_wp2_with fail
  refine (short_of B d q ts HQ.out w1 HR1.out).mono ?_
  rintro e w2 ⟨b, rfl, HB, hw2⟩
  have hb2 := below_on hw1 hw2
  have HR2 := Lib.hid (HR1.out.on hw2)
  have HB := Lib.hid HB
  clear hw1 hw2 HR HR1
  cases b with
  | false =>
    go_wp2_with fail
    go_ret
    exact ⟨rfl, hb2⟩
  | true =>
    have hq1500 := HB.out rfl
    clear HB
    by_cases hneg : i < 0
    · go_wp2_with fail
      go_ret
      exact ⟨rfl, hb2⟩
    · obtain ⟨j, rfl⟩ : ∃ j : Nat, i = (j : Int) := ⟨i.toNat, by omega⟩
      rcases hp : Sl.parse (ts.map flatK) (j : Int) with ⟨⟨M, m⟩, x, z⟩
      have HP := Lib.hid hp
      rw [parse_at] at hp
      have HP2 := Lib.hid hp
      obtain ⟨k, hk⟩ : ∃ k, k = m.length := ⟨_, rfl⟩
      have HK := Lib.hid hk
      clear hk hp
      go_wp2_with fail
      refine (H.parse B d q ts j M m k x z HQ.out HQD.out (by omega) hi2 HP.out HK.out w2 HR2.out).mono ?_
      rintro e w3 ⟨A, c, rfl, HR3, HC3, hw3⟩
      have hb3 := below_on hb2 hw3
      obtain ⟨W, P, hW, hPe, hb0, d0, d1, hPW⟩ := box_sel w3 M A k c
      have hbW : Below w.heap.size w W := hb3.trans (hb0.mono (by have := hb3.size; omega))
      have HRW := Lib.hid (HR3.out.on (hPe ▸ hb0))
      clear hw3 hb2 hb3 hb0 HR3 HR2
      by_cases hz : z = 0
      · subst hz
        obtain ⟨hsane, hjx, hxl⟩ := Sl.parseN_ok HP2.out
        rw [List.length_map, ← HQ.out] at hxl
        obtain ⟨S, hS⟩ : ∃ S : ByteArray, S.data.toList = Sl.prS (M, m) := ⟨str (Sl.prS (M, m)), rfl⟩
        have hSz : S.size ≤ 1000000 := by
          have := print_len (s := (M, m))
          rw [← hS, Array.length_toList] at this
          show S.data.size ≤ _
          omega
        rcases ha : allZ (Sl.prS (M, m)) with ⟨us, y, v⟩
        obtain ⟨rfl, _, _, hag⟩ := again hsane ha
        have HSan := Lib.hid hsane
        have HSt := Lib.hid hS
        have HAll := Lib.hid ha
        have HAg := Lib.hid hag
        obtain ⟨r, hr⟩ : ∃ r, r = us.length := ⟨_, rfl⟩
        have HRr := Lib.hid hr
        have hMs : M.size ≤ 9223372036854775807 := by have := name_size hsane; omega
        clear hsane hS ha hag hr
        go_wp2_with fail
        refine (H.print M A k c m S hMs HK.out HC3.out HSt.out W HRW.out).mono ?_
        rintro e w4 ⟨rfl, hw4⟩
        have e0 := (hw4.cell (p := ⟨P, 0, none⟩) hPW).trans d0
        have e1 := (hw4.cell (p := ⟨P, 1, none⟩) hPW).trans d1
        have hP4 : P < w4.heap.size := Nat.lt_of_lt_of_le hPW hw4.size
        have hb4 := below_on hbW hw4
        have HR4 := Lib.hid (HRW.out.on hw4)
        clear d0 d1 hbW hw4 HRW hPW
        go_wp2_with fail
        refine (H.all S (Sl.prS (M, m)) us r y 0 hSz HSt.out HAll.out HRr.out w4).mono ?_
        rintro e w5 ⟨B5, d5, rfl, HR5, HC5, hw5⟩
        have d0 := (hw5.cell (p := ⟨P, 0, none⟩) hP4).trans e0
        have d1 := (hw5.cell (p := ⟨P, 1, none⟩) hP4).trans e1
        have hP5 : P < w5.heap.size := Nat.lt_of_lt_of_le hP4 hw5.size
        have hb5 := below_on hb4 hw5
        have HM5 := Lib.hid (HR4.out.on hw5)
        clear e0 e1 hb4 hw5 HR4 hP4
        go_wp2_with fail
        refine (H.parse B5 d5 r us 0 M m k us.length 0 HRr.out HC5.out (by decide) (by decide) HAg.out HK.out w5 HR5.out).mono ?_
        rintro e w6 ⟨A6, c6, rfl, HM6, HC6, hw6⟩
        rw [← HRr.out]
        have e0 := (hw6.cell (p := ⟨P, 0, none⟩) hP5).trans d0
        have e1 := (hw6.cell (p := ⟨P, 1, none⟩) hP5).trans d1
        have hP6 : P < w6.heap.size := Nat.lt_of_lt_of_le hP5 hw6.size
        have hb6 := below_on hb5 hw6
        have HN6 := Lib.hid (HM5.out.on hw6)
        clear d0 d1 hb5 hw6 HM5 hP5 HR5
        obtain ⟨W2, P2, hW2, hPe2, hb02, f0, f1, hPW2⟩ := box_sel w6 M A6 k c6
        have hPP : P < P2 := by omega
        have hbW2 : Below w.heap.size w W2 := hb6.trans (hb02.mono (by have := hb6.size; omega))
        have hb02' : Below w6.heap.size w6 W2 := hPe2 ▸ hb02
        have d0 := (hb02'.cell (p := ⟨P, 0, none⟩) hP6).trans e0
        have d1 := (hb02'.cell (p := ⟨P, 1, none⟩) hP6).trans e1
        have hP7 : P < W2.heap.size := by omega
        have HM7 := Lib.hid (HM6.out.on hb02')
        have HN7 := Lib.hid (HN6.out.on hb02')
        have hjz : (j : Int) < (x : Int) := by omega
        have hxz : (x : Int) ≤ (q : Int) := by omega
        have hrr : ((r : Int) == (r : Int)) = true := by simp
        clear e0 e1 hb6 hb02 hb02' HM6 HN6
        go_wp2_with fail
        refine (H.sane M A k c m true hMs HK.out HC3.out HSan.out W2 HN7.out).mono ?_
        rintro e w8 ⟨rfl, hw8⟩
        have e0 := (hw8.cell (p := ⟨P, 0, none⟩) hP7).trans d0
        have e1 := (hw8.cell (p := ⟨P, 1, none⟩) hP7).trans d1
        have j0 := (hw8.cell (p := ⟨P2, 0, none⟩) hPW2).trans f0
        have j1 := (hw8.cell (p := ⟨P2, 1, none⟩) hPW2).trans f1
        have hb8 := below_on hbW2 hw8
        have HM8 := Lib.hid (HM7.out.on hw8)
        have HN8 := Lib.hid (HN7.out.on hw8)
        clear d0 d1 f0 f1 hbW2 hw8 HM7 HN7
        go_wp2_with fail
        refine (sameS_of M M A A6 c c6 k k m m HK.out HK.out true (by simp) w8 HN8.out HM8.out).mono ?_
        rintro e w9 ⟨rfl, hw9⟩
        have hb9 := below_on hb8 hw9
        go_wp2_with fail
        go_ret
        exact ⟨rfl, hb9⟩
      · obtain ⟨hnone, hx1, hx2, hx3⟩ := Sl.parseN_no HP2.out hz
        rw [List.length_map, ← HQ.out] at hx1 hx2 hx3
        unfold Sl.none_ at hnone
        simp only [Prod.mk.injEq] at hnone
        obtain ⟨rfl, rfl⟩ := hnone
        obtain rfl : k = 0 := HK.out
        have hzb : (z != 0) = true := by simpa using hz
        have hzb2 : (z == 0) = false := by simpa using hz
        have hmin : min (j : Int) (q : Int) ≤ (x : Int) := by omega
        have hxz : (x : Int) ≤ (q : Int) := by omega
        by_cases h3 : z = 3
        · subst h3
          have hxq : ((x : Int) == (q : Int)) = true := by have := hx3.1 rfl; simp; omega
          clear hz hx3 hx1 hx2
          go_wp2_with fail
          refine (sameS_of ⟨#[]⟩ ⟨#[]⟩ A none c 0 0 0 [] [] rfl rfl true (by simp) W HRW.out (Rq.none_ _ _ _)).mono ?_
          rintro e w4 ⟨rfl, hw4⟩
          have hb4 := below_on hbW hw4
          go_wp2_with fail
          all_goals
            go_ret
            exact ⟨rfl, hb4⟩
        · have hxq : ((x : Int) == (q : Int)) = false := by
            have : x ≠ q := fun e => h3 (hx3.2 e)
            simp; omega
          have h3b : (z == 3) = false := by simpa using h3
          clear hz h3 hx3 hx1 hx2
          go_wp2_with fail
          refine (sameS_of ⟨#[]⟩ ⟨#[]⟩ A none c 0 0 0 [] [] rfl rfl true (by simp) W HRW.out (Rq.none_ _ _ _)).mono ?_
          rintro e w4 ⟨rfl, hw4⟩
          have hb4 := below_on hbW hw4
          go_wp2_with fail
          all_goals
            go_ret
            exact ⟨rfl, hb4⟩
end Go.Proofs.YtgahahichplpkaaDoor

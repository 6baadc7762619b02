/-
  The walk of CondParsed: what is parsed may be asked, and printed and parsed again it is the same; where an error is told.
-/
import Derived.Test.YtkoeggjfdcpokaaGreatDoorCondBase
namespace Go.Proofs.YtkoeggjfdcpokaaGreatDoor
open Go.RowKit Go.Proofs.YtkoeggjfdcpokaaGreatDoor.Lp
open Go.Proofs.YtkoeggjfdcpokaaGreatDoor.Sl (Mt Sel Tf)

set_option maxHeartbeats 6400000 in
theorem condParsed_any {Ok : World → Prop} (H : CondC Ok) (B : Option Addr) (d q : Nat) (ts : List Tz) (i : Int) (w : World) (hok : Ok w) (hi1 : -9223372036854775808 ≤ i) (hi2 : i ≤ 9223372036854775807) (hq : q = ts.length) (hr : Rz w w.heap.size B ts) (hqd : q ≤ d ∧ d ≤ 9223372036854775807) (hts : ∀ t ∈ ts, t.2.2.size ≤ 1048576) :
    Calls Tryz.prog 6 #[.slice B q d, .int .i64 i] w fun e w' => e = .returned (.bool true) ∧ Below w.heap.size w w' := by
  have HOK := Lib.hid hok
  have HQ := Lib.hid hq
  have HR := Lib.hid hr
  have HQD := Lib.hid hqd
  have HTS := Lib.hid hts
  clear hok hq hr hqd hts
  go_enter Tryz.func6, Tryz.ntmps6
  go_wp2_with fail
  refine (awakeX_any H w HOK.out).mono ?_
  rintro e w1 ⟨rfl, hw1⟩
  have HR1 := Lib.hid (HR.out.on hw1)
  go_wp2_with fail
  refine (short_of B d q ts HQ.out w1 HR1.out).mono ?_
  rintro e w2 ⟨b, rfl, HB, hw2⟩
  have hb2 := below_on hw1 hw2
  have HR2 := Lib.hid (HR1.out.on hw2)
  have HB := Lib.hid HB
  clear hw1 hw2 HR HR1
  cases b with
  | false =>
    go_wp2_with fail
    go_ret
    exact ⟨rfl, hb2⟩
  | true =>
    have hq1500 := HB.out rfl
    clear HB
    by_cases hneg : i < 0
    · go_wp2_with fail
      go_ret
      exact ⟨rfl, hb2⟩
    · obtain ⟨j, rfl⟩ : ∃ j : Nat, i = (j : Int) := ⟨i.toNat, by omega⟩
      rcases hp : Cd.parse (ts.map flatK) (j : Int) with ⟨⟨⟨M, m⟩, o, v⟩, x, z⟩
      have HP := Lib.hid hp
      rw [parse_atX] at hp
      have HP2 := Lib.hid hp
      obtain ⟨k, hk⟩ : ∃ k, k = m.length := ⟨_, rfl⟩
      have HK := Lib.hid hk
      clear hk hp
      go_wp2_with fail
      refine (H.parse B d q ts j M m o v k x z HQ.out HQD.out HTS.out (by omega) hi2 HP.out HK.out w2 (H.on _ _ HOK.out hb2) HR2.out).mono ?_
      rintro e w3 ⟨A, c, rfl, HR3, HC3, hw3⟩
      have hb3 := below_on hb2 hw3
      obtain ⟨W, P, hW, hPe, hb0, X⟩ := box_x w3 M A k c o v
      have hbW := below_on hb3 hb0
      have HRW := Lib.hid (HR3.out.on hb0)
      have HX := Lib.hid X
      clear hw3 hb2 hb3 hb0 HR3 HR2
      obtain ⟨d0, d1, d2, d3, _⟩ := X
      by_cases hz : z = 0
      · subst hz
        obtain ⟨hsane, hjx, hxl⟩ := Cd.within_ok 32 (ts.map flatK) j (by rw [HP2.out])
        rw [HP2.out] at hsane hjx hxl
        rw [List.length_map, ← HQ.out] at hxl
        obtain ⟨S, hS⟩ : ∃ S : ByteArray, S.data.toList = Cd.pr ((M, m), o, v) := ⟨str (Cd.pr ((M, m), o, v)), rfl⟩
        have hSz : S.size ≤ 1000000 := by
          have := prX_len (x := ((M, m), o, v))
          rw [← hS, Array.length_toList] at this
          show S.data.size ≤ _
          omega
        rcases ha : allZ (Cd.pr ((M, m), o, v)) with ⟨us, y, u⟩
        obtain ⟨rfl, hag⟩ := again_x hsane ha
        have hMs : M.size ≤ 9223372036854775807 := by have := name_sizeX hsane; omega
        have HSan := Lib.hid hsane
        have HSt := Lib.hid hS
        have HAll := Lib.hid ha
        have HAg := Lib.hid hag
        obtain ⟨r, hr⟩ : ∃ r, r = us.length := ⟨_, rfl⟩
        have HRr := Lib.hid hr
        have HL := Lib.hid hxl
        have HJ := Lib.hid hjx
        clear hsane hS ha hag hr hxl hjx
        go_wp2_with fail
        refine (H.print M A k c m o v S hMs HK.out HC3.out HSt.out W (H.on _ _ HOK.out hbW) HRW.out).mono ?_
        rintro e w4 ⟨rfl, hw4⟩
        have hb4 := below_on hbW hw4
        have X4 := Lib.hid (HX.out.on hw4)
        have HR4 := Lib.hid (HRW.out.on hw4)
        clear d0 d1 d2 d3 hbW hw4 HRW HX
        go_wp2_with fail
        refine (H.all S (Cd.pr ((M, m), o, v)) us r y 0 hSz HSt.out HAll.out HRr.out w4).mono ?_
        rintro e w5 ⟨B5, d5, rfl, HR5, HC5, hw5⟩
        have hb5 := below_on hb4 hw5
        have X5 := Lib.hid (X4.out.on hw5)
        have HM5 := Lib.hid (HR4.out.on hw5)
        clear hb4 hw5 HR4 X4
        go_wp2_with fail
        refine (H.parse B5 d5 r us 0 M m o v k us.length 0 HRr.out HC5.out (toks_size HAll.out (by have := prX_len (x := ((M, m), o, v)); omega)) (by decide) (by decide) HAg.out HK.out w5 (H.on _ _ HOK.out hb5) HR5.out).mono ?_
        rintro e w6 ⟨A6, c6, rfl, HM6, HC6, hw6⟩
        rw [← HRr.out]
        have hb6 := below_on hb5 hw6
        have X6 := Lib.hid (X5.out.on hw6)
        have HN6 := Lib.hid (HM5.out.on hw6)
        clear hb5 hw6 HM5 X5 HR5
        obtain ⟨W2, P2, hW2, hPe2, hb02, Y⟩ := box_x w6 M A6 k c6 o v
        have hbW2 := below_on hb6 hb02
        have HM7 := Lib.hid (HM6.out.on hb02)
        have HN7 := Lib.hid (HN6.out.on hb02)
        have X7 := Lib.hid (X6.out.on hb02)
        have Y7 := Lib.hid Y
        have hj2 : (j : Int) + 2 < (x : Int) := by have := HJ.out; omega
        have hwr : wrap64 ((j : Int) + 2) = (j : Int) + 2 := IntWalk.wrap64_in _ (by have := HJ.out; have := HL.out; omega)
        have hxz : (x : Int) ≤ (q : Int) := by have := HL.out; omega
        have hrr : ((r : Int) == (r : Int)) = true := by simp
        clear hb6 hb02 HM6 HN6 X6 Y
        obtain ⟨d0, d1, d2, d3, _⟩ := X7.out
        go_wp2_with fail
        refine (H.sane M A k c m o v true hMs HK.out HC3.out HSan.out W2 HN7.out).mono ?_
        rintro e w8 ⟨rfl, hw8⟩
        have hb8 := below_on hbW2 hw8
        clear d0 d1 d2 d3
        obtain ⟨d0, d1, d2, d3, _⟩ := X7.out.on hw8
        obtain ⟨f0, f1, f2, f3, _⟩ := Y7.out.on hw8
        have HM8 := Lib.hid (HM7.out.on hw8)
        have HN8 := Lib.hid (HN7.out.on hw8)
        clear hbW2 hw8 HM7 HN7 X7 Y7
        go_wp2_with fail
        refine (sameX_of M A A6 c c6 k m o v HK.out w8 HN8.out HM8.out).mono ?_
        rintro e w9 ⟨rfl, hw9⟩
        have hb9 := below_on hb8 hw9
        go_wp2_with fail
        go_ret
        exact ⟨rfl, hb9⟩
      · obtain ⟨hnone, hx1, hx2, hx3⟩ := Cd.within_no 32 (ts.map flatK) j (by rw [HP2.out]; exact hz)
        rw [HP2.out] at hnone hx1 hx2 hx3
        rw [List.length_map, ← HQ.out] at hx1 hx2 hx3
        simp only at hnone hx1 hx2 hx3
        unfold Cd.noX Sl.none_ at hnone
        simp only [Prod.mk.injEq] at hnone
        obtain ⟨⟨rfl, rfl⟩, rfl, rfl⟩ := hnone
        obtain rfl : k = 0 := HK.out
        have hzb : (z != 0) = true := by simpa using hz
        have hzb2 : (z == 0) = false := by simpa using hz
        have hmin : min (j : Int) (q : Int) ≤ (x : Int) := by omega
        have hxz : (x : Int) ≤ (q : Int) := by omega
        by_cases h3 : z = 3
        · subst h3
          have hxq : ((x : Int) == (q : Int)) = true := by have := hx3.1 rfl; simp; omega
          have HW := Lib.hid hW
          clear hz hx3 hx1 hx2 hW d0 d1 d2 d3
          go_wp2_with fail
          rw [HW.out]
          refine (sameX_of ⟨#[]⟩ A none c 0 0 [] 0 0 rfl W HRW.out (Rq.none_ _ _ _)).mono ?_
          rintro e w4 ⟨rfl, hw4⟩
          have hb4 := below_on hbW hw4
          go_wp2_with fail
          all_goals
            go_ret
            exact ⟨rfl, hb4⟩
        · have hxq : ((x : Int) == (q : Int)) = false := by
            have : x ≠ q := fun e => h3 (hx3.2 e)
            simp; omega
          have h3b : (z == 3) = false := by simpa using h3
          have HW := Lib.hid hW
          clear hz h3 hx3 hx1 hx2 hW d0 d1 d2 d3
          go_wp2_with fail
          rw [HW.out]
          refine (sameX_of ⟨#[]⟩ A none c 0 0 [] 0 0 rfl W HRW.out (Rq.none_ _ _ _)).mono ?_
          rintro e w4 ⟨rfl, hw4⟩
          have hb4 := below_on hbW hw4
          go_wp2_with fail
          all_goals
            go_ret
            exact ⟨rfl, hb4⟩
end Go.Proofs.YtkoeggjfdcpokaaGreatDoor

/-
  The walk of CondOrder: what is more stays more. (Written by wip/gen_condorder.py.)
-/
import Derived.Test.YtkoeggjfdcpokaaGreatDoorCndA
import Derived.Deep.DeepCutAuto
namespace Go.Proofs.YtkoeggjfdcpokaaGreatDoor
open Go.RowKit

theorem mono_more {a b t : Int} (h : a ≤ b) : ((Cd.holds 1 a t = true ∧ Cd.holds 1 b t = true) ∨ Cd.holds 1 a t = false) ∧ ((Cd.holds 2 a t = true ∧ Cd.holds 2 b t = true) ∨ Cd.holds 2 a t = false) ∧
    ((Cd.holds 3 b t = true ∧ Cd.holds 3 a t = true) ∨ Cd.holds 3 b t = false) ∧ ((Cd.holds 4 b t = true ∧ Cd.holds 4 a t = true) ∨ Cd.holds 4 b t = false) := by
  simp only [Cd.holds]
  simp
  omega
theorem holds_self (v u : Int) : Cd.holds 1 v v = false ∧ Cd.holds 5 v v = true ∧ Cd.holds 6 v u = (v != u) := by
  simp [Cd.holds, bne]
  by_cases h : v = u <;> simp [h]
set_option maxHeartbeats 12800000 in
theorem condOrder_any {Ok : World → Prop} (H : CondC Ok) (v u t : Int) (w : World) (hok : Ok w) :
    Calls Tryz.prog 7 #[.int .i64 v, .int .i64 u, .int .i64 t] w fun e w' => e = .returned (.bool true) ∧ Below w.heap.size w w' := by
  have HOK := Lib.hid hok
  clear hok
  obtain ⟨s1, s5, s6⟩ := holds_self v u
  have S1 := Lib.hid s1
  have S5 := Lib.hid s5
  have S6 := Lib.hid s6
  clear s1 s5 s6
  go_enter Tryz.func7, Tryz.ntmps7
  go_wp2_with fail
  refine (awakeX_any H w HOK.out).mono ?_
  rintro e w1 ⟨rfl, hcur⟩
  rcases Int.lt_trichotomy v u with h | h | h
  · have hn : ¬ u < v := by omega
    have hl : v ≤ u := by omega
    obtain ⟨m1, m2, m3, m4⟩ := mono_more (a := v) (b := u) (t := t) (by omega)
    have M1 := Lib.hid m1
    have M2 := Lib.hid m2
    have M3 := Lib.hid m3
    have M4 := Lib.hid m4
    clear m1 m2 m3 m4
    go_upto_region 4 with fail
    go_cut [36] (fun s wx => s = .bool false ∧ Hid (Below w.heap.size w wx))
    case first =>
      obtain ⟨p, hp⟩ : ∃ p, Cd.holds 1 v t = p := ⟨_, rfl⟩
      have HP1 := Lib.hid hp
      have M1' := M1.out
      rw [hp] at M1'
      clear hp
      go_wp2_with fail
      refine (H.holds 1 v t p HP1.out _).mono ?_
      rintro e w' ⟨rfl, hw'⟩
      replace hcur := below_on hcur hw'
      clear hw'
      rcases M1' with ⟨rfl, hq⟩ | rfl
      · have HQ1 := Lib.hid hq
        clear hq
        go_wp2_with fail
        refine (H.holds 1 u t true HQ1.out _).mono ?_
        rintro e w' ⟨rfl, hw'⟩
        replace hcur := below_on hcur hw'
        clear hw'
        obtain ⟨p, hp⟩ : ∃ p, Cd.holds 2 v t = p := ⟨_, rfl⟩
        have HP2 := Lib.hid hp
        have M2' := M2.out
        rw [hp] at M2'
        clear hp
        go_wp2_with fail
        refine (H.holds 2 v t p HP2.out _).mono ?_
        rintro e w' ⟨rfl, hw'⟩
        replace hcur := below_on hcur hw'
        clear hw'
        rcases M2' with ⟨rfl, hq⟩ | rfl
        · have HQ2 := Lib.hid hq
          clear hq
          go_wp2_with fail
          refine (H.holds 2 u t true HQ2.out _).mono ?_
          rintro e w' ⟨rfl, hw'⟩
          replace hcur := below_on hcur hw'
          clear hw'
          go_wp2_with fail
          go_meet
          exact ⟨rfl, Lib.hid hcur⟩
        · skip
          go_wp2_with fail
          go_meet
          exact ⟨rfl, Lib.hid hcur⟩
      · skip
        obtain ⟨p, hp⟩ : ∃ p, Cd.holds 2 v t = p := ⟨_, rfl⟩
        have HP2 := Lib.hid hp
        have M2' := M2.out
        rw [hp] at M2'
        clear hp
        go_wp2_with fail
        refine (H.holds 2 v t p HP2.out _).mono ?_
        rintro e w' ⟨rfl, hw'⟩
        replace hcur := below_on hcur hw'
        clear hw'
        rcases M2' with ⟨rfl, hq⟩ | rfl
        · have HQ2 := Lib.hid hq
          clear hq
          go_wp2_with fail
          refine (H.holds 2 u t true HQ2.out _).mono ?_
          rintro e w' ⟨rfl, hw'⟩
          replace hcur := below_on hcur hw'
          clear hw'
          go_wp2_with fail
          go_meet
          exact ⟨rfl, Lib.hid hcur⟩
        · skip
          go_wp2_with fail
          go_meet
          exact ⟨rfl, Lib.hid hcur⟩
    case rest =>
      obtain ⟨rfl, HC⟩ := hcut
      clear hcur
      have hcur := HC.out
      clear HC
      go_upto_region 6 with fail
      go_cut [56] (fun s wx => s = .bool false ∧ Hid (Below w.heap.size w wx))
      case first =>
        obtain ⟨p, hp⟩ : ∃ p, Cd.holds 3 u t = p := ⟨_, rfl⟩
        have HP3 := Lib.hid hp
        have M3' := M3.out
        rw [hp] at M3'
        clear hp
        go_wp2_with fail
        refine (H.holds 3 u t p HP3.out _).mono ?_
        rintro e w' ⟨rfl, hw'⟩
        replace hcur := below_on hcur hw'
        clear hw'
        rcases M3' with ⟨rfl, hq⟩ | rfl
        · have HQ3 := Lib.hid hq
          clear hq
          go_wp2_with fail
          refine (H.holds 3 v t true HQ3.out _).mono ?_
          rintro e w' ⟨rfl, hw'⟩
          replace hcur := below_on hcur hw'
          clear hw'
          obtain ⟨p, hp⟩ : ∃ p, Cd.holds 4 u t = p := ⟨_, rfl⟩
          have HP4 := Lib.hid hp
          have M4' := M4.out
          rw [hp] at M4'
          clear hp
          go_wp2_with fail
          refine (H.holds 4 u t p HP4.out _).mono ?_
          rintro e w' ⟨rfl, hw'⟩
          replace hcur := below_on hcur hw'
          clear hw'
          rcases M4' with ⟨rfl, hq⟩ | rfl
          · have HQ4 := Lib.hid hq
            clear hq
            go_wp2_with fail
            refine (H.holds 4 v t true HQ4.out _).mono ?_
            rintro e w' ⟨rfl, hw'⟩
            replace hcur := below_on hcur hw'
            clear hw'
            go_wp2_with fail
            go_meet
            exact ⟨rfl, Lib.hid hcur⟩
          · skip
            go_wp2_with fail
            go_meet
            exact ⟨rfl, Lib.hid hcur⟩
        · skip
          obtain ⟨p, hp⟩ : ∃ p, Cd.holds 4 u t = p := ⟨_, rfl⟩
          have HP4 := Lib.hid hp
          have M4' := M4.out
          rw [hp] at M4'
          clear hp
          go_wp2_with fail
          refine (H.holds 4 u t p HP4.out _).mono ?_
          rintro e w' ⟨rfl, hw'⟩
          replace hcur := below_on hcur hw'
          clear hw'
          rcases M4' with ⟨rfl, hq⟩ | rfl
          · have HQ4 := Lib.hid hq
            clear hq
            go_wp2_with fail
            refine (H.holds 4 v t true HQ4.out _).mono ?_
            rintro e w' ⟨rfl, hw'⟩
            replace hcur := below_on hcur hw'
            clear hw'
            go_wp2_with fail
            go_meet
            exact ⟨rfl, Lib.hid hcur⟩
          · skip
            go_wp2_with fail
            go_meet
            exact ⟨rfl, Lib.hid hcur⟩
      case rest =>
        obtain ⟨rfl, HC⟩ := hcut
        clear hcur
        have hcur := HC.out
        clear HC
        go_wp2_with fail
        refine (H.holds 1 v v false S1.out _).mono ?_
        rintro e w' ⟨rfl, hw'⟩
        replace hcur := below_on hcur hw'
        clear hw'
        go_wp2_with fail
        refine (H.holds 5 v v true S5.out _).mono ?_
        rintro e w' ⟨rfl, hw'⟩
        replace hcur := below_on hcur hw'
        clear hw'
        go_wp2_with fail
        refine (H.holds 6 v u (v != u) S6.out _).mono ?_
        rintro e w' ⟨rfl, hw'⟩
        replace hcur := below_on hcur hw'
        clear hw'
        go_wp2_with fail
        go_ret
        exact ⟨by simp, hcur⟩
  · subst h
    have hn : ¬ v < v := by omega
    obtain ⟨m1, m2, m3, m4⟩ := mono_more (a := v) (b := v) (t := t) (by omega)
    have M1 := Lib.hid m1
    have M2 := Lib.hid m2
    have M3 := Lib.hid m3
    have M4 := Lib.hid m4
    clear m1 m2 m3 m4
    go_upto_region 4 with fail
    go_cut [36] (fun s wx => s = .bool false ∧ Hid (Below w.heap.size w wx))
    case first =>
      obtain ⟨p, hp⟩ : ∃ p, Cd.holds 1 v t = p := ⟨_, rfl⟩
      have HP1 := Lib.hid hp
      have M1' := M1.out
      rw [hp] at M1'
      clear hp
      go_wp2_with fail
      refine (H.holds 1 v t p HP1.out _).mono ?_
      rintro e w' ⟨rfl, hw'⟩
      replace hcur := below_on hcur hw'
      clear hw'
      rcases M1' with ⟨rfl, hq⟩ | rfl
      · clear hq
        skip
        go_wp2_with fail
        refine (H.holds 1 v t true HP1.out _).mono ?_
        rintro e w' ⟨rfl, hw'⟩
        replace hcur := below_on hcur hw'
        clear hw'
        obtain ⟨p, hp⟩ : ∃ p, Cd.holds 2 v t = p := ⟨_, rfl⟩
        have HP2 := Lib.hid hp
        have M2' := M2.out
        rw [hp] at M2'
        clear hp
        go_wp2_with fail
        refine (H.holds 2 v t p HP2.out _).mono ?_
        rintro e w' ⟨rfl, hw'⟩
        replace hcur := below_on hcur hw'
        clear hw'
        rcases M2' with ⟨rfl, hq⟩ | rfl
        · clear hq
          skip
          go_wp2_with fail
          refine (H.holds 2 v t true HP2.out _).mono ?_
          rintro e w' ⟨rfl, hw'⟩
          replace hcur := below_on hcur hw'
          clear hw'
          go_wp2_with fail
          go_meet
          exact ⟨rfl, Lib.hid hcur⟩
        · skip
          go_wp2_with fail
          go_meet
          exact ⟨rfl, Lib.hid hcur⟩
      · skip
        obtain ⟨p, hp⟩ : ∃ p, Cd.holds 2 v t = p := ⟨_, rfl⟩
        have HP2 := Lib.hid hp
        have M2' := M2.out
        rw [hp] at M2'
        clear hp
        go_wp2_with fail
        refine (H.holds 2 v t p HP2.out _).mono ?_
        rintro e w' ⟨rfl, hw'⟩
        replace hcur := below_on hcur hw'
        clear hw'
        rcases M2' with ⟨rfl, hq⟩ | rfl
        · clear hq
          skip
          go_wp2_with fail
          refine (H.holds 2 v t true HP2.out _).mono ?_
          rintro e w' ⟨rfl, hw'⟩
          replace hcur := below_on hcur hw'
          clear hw'
          go_wp2_with fail
          go_meet
          exact ⟨rfl, Lib.hid hcur⟩
        · skip
          go_wp2_with fail
          go_meet
          exact ⟨rfl, Lib.hid hcur⟩
    case rest =>
      obtain ⟨rfl, HC⟩ := hcut
      clear hcur
      have hcur := HC.out
      clear HC
      go_upto_region 6 with fail
      go_cut [56] (fun s wx => s = .bool false ∧ Hid (Below w.heap.size w wx))
      case first =>
        obtain ⟨p, hp⟩ : ∃ p, Cd.holds 3 v t = p := ⟨_, rfl⟩
        have HP3 := Lib.hid hp
        have M3' := M3.out
        rw [hp] at M3'
        clear hp
        go_wp2_with fail
        refine (H.holds 3 v t p HP3.out _).mono ?_
        rintro e w' ⟨rfl, hw'⟩
        replace hcur := below_on hcur hw'
        clear hw'
        rcases M3' with ⟨rfl, hq⟩ | rfl
        · clear hq
          skip
          go_wp2_with fail
          refine (H.holds 3 v t true HP3.out _).mono ?_
          rintro e w' ⟨rfl, hw'⟩
          replace hcur := below_on hcur hw'
          clear hw'
          obtain ⟨p, hp⟩ : ∃ p, Cd.holds 4 v t = p := ⟨_, rfl⟩
          have HP4 := Lib.hid hp
          have M4' := M4.out
          rw [hp] at M4'
          clear hp
          go_wp2_with fail
          refine (H.holds 4 v t p HP4.out _).mono ?_
          rintro e w' ⟨rfl, hw'⟩
          replace hcur := below_on hcur hw'
          clear hw'
          rcases M4' with ⟨rfl, hq⟩ | rfl
          · clear hq
            skip
            go_wp2_with fail
            refine (H.holds 4 v t true HP4.out _).mono ?_
            rintro e w' ⟨rfl, hw'⟩
            replace hcur := below_on hcur hw'
            clear hw'
            go_wp2_with fail
            go_meet
            exact ⟨rfl, Lib.hid hcur⟩
          · skip
            go_wp2_with fail
            go_meet
            exact ⟨rfl, Lib.hid hcur⟩
        · skip
          obtain ⟨p, hp⟩ : ∃ p, Cd.holds 4 v t = p := ⟨_, rfl⟩
          have HP4 := Lib.hid hp
          have M4' := M4.out
          rw [hp] at M4'
          clear hp
          go_wp2_with fail
          refine (H.holds 4 v t p HP4.out _).mono ?_
          rintro e w' ⟨rfl, hw'⟩
          replace hcur := below_on hcur hw'
          clear hw'
          rcases M4' with ⟨rfl, hq⟩ | rfl
          · clear hq
            skip
            go_wp2_with fail
            refine (H.holds 4 v t true HP4.out _).mono ?_
            rintro e w' ⟨rfl, hw'⟩
            replace hcur := below_on hcur hw'
            clear hw'
            go_wp2_with fail
            go_meet
            exact ⟨rfl, Lib.hid hcur⟩
          · skip
            go_wp2_with fail
            go_meet
            exact ⟨rfl, Lib.hid hcur⟩
      case rest =>
        obtain ⟨rfl, HC⟩ := hcut
        clear hcur
        have hcur := HC.out
        clear HC
        go_wp2_with fail
        refine (H.holds 1 v v false S1.out _).mono ?_
        rintro e w' ⟨rfl, hw'⟩
        replace hcur := below_on hcur hw'
        clear hw'
        go_wp2_with fail
        refine (H.holds 5 v v true S5.out _).mono ?_
        rintro e w' ⟨rfl, hw'⟩
        replace hcur := below_on hcur hw'
        clear hw'
        go_wp2_with fail
        refine (H.holds 6 v v (v != v) S6.out _).mono ?_
        rintro e w' ⟨rfl, hw'⟩
        replace hcur := below_on hcur hw'
        clear hw'
        go_wp2_with fail
        go_ret
        exact ⟨by simp, hcur⟩
  · have hn : ¬ v < u := by omega
    have hl : u ≤ v := by omega
    obtain ⟨m1, m2, m3, m4⟩ := mono_more (a := u) (b := v) (t := t) (by omega)
    have M1 := Lib.hid m1
    have M2 := Lib.hid m2
    have M3 := Lib.hid m3
    have M4 := Lib.hid m4
    clear m1 m2 m3 m4
    go_upto_region 4 with fail
    go_cut [36] (fun s wx => s = .bool false ∧ Hid (Below w.heap.size w wx))
    case first =>
      obtain ⟨p, hp⟩ : ∃ p, Cd.holds 1 u t = p := ⟨_, rfl⟩
      have HP1 := Lib.hid hp
      have M1' := M1.out
      rw [hp] at M1'
      clear hp
      go_wp2_with fail
      refine (H.holds 1 u t p HP1.out _).mono ?_
      rintro e w' ⟨rfl, hw'⟩
      replace hcur := below_on hcur hw'
      clear hw'
      rcases M1' with ⟨rfl, hq⟩ | rfl
      · have HQ1 := Lib.hid hq
        clear hq
        go_wp2_with fail
        refine (H.holds 1 v t true HQ1.out _).mono ?_
        rintro e w' ⟨rfl, hw'⟩
        replace hcur := below_on hcur hw'
        clear hw'
        obtain ⟨p, hp⟩ : ∃ p, Cd.holds 2 u t = p := ⟨_, rfl⟩
        have HP2 := Lib.hid hp
        have M2' := M2.out
        rw [hp] at M2'
        clear hp
        go_wp2_with fail
        refine (H.holds 2 u t p HP2.out _).mono ?_
        rintro e w' ⟨rfl, hw'⟩
        replace hcur := below_on hcur hw'
        clear hw'
        rcases M2' with ⟨rfl, hq⟩ | rfl
        · have HQ2 := Lib.hid hq
          clear hq
          go_wp2_with fail
          refine (H.holds 2 v t true HQ2.out _).mono ?_
          rintro e w' ⟨rfl, hw'⟩
          replace hcur := below_on hcur hw'
          clear hw'
          go_wp2_with fail
          go_meet
          exact ⟨rfl, Lib.hid hcur⟩
        · skip
          go_wp2_with fail
          go_meet
          exact ⟨rfl, Lib.hid hcur⟩
      · skip
        obtain ⟨p, hp⟩ : ∃ p, Cd.holds 2 u t = p := ⟨_, rfl⟩
        have HP2 := Lib.hid hp
        have M2' := M2.out
        rw [hp] at M2'
        clear hp
        go_wp2_with fail
        refine (H.holds 2 u t p HP2.out _).mono ?_
        rintro e w' ⟨rfl, hw'⟩
        replace hcur := below_on hcur hw'
        clear hw'
        rcases M2' with ⟨rfl, hq⟩ | rfl
        · have HQ2 := Lib.hid hq
          clear hq
          go_wp2_with fail
          refine (H.holds 2 v t true HQ2.out _).mono ?_
          rintro e w' ⟨rfl, hw'⟩
          replace hcur := below_on hcur hw'
          clear hw'
          go_wp2_with fail
          go_meet
          exact ⟨rfl, Lib.hid hcur⟩
        · skip
          go_wp2_with fail
          go_meet
          exact ⟨rfl, Lib.hid hcur⟩
    case rest =>
      obtain ⟨rfl, HC⟩ := hcut
      clear hcur
      have hcur := HC.out
      clear HC
      go_upto_region 6 with fail
      go_cut [56] (fun s wx => s = .bool false ∧ Hid (Below w.heap.size w wx))
      case first =>
        obtain ⟨p, hp⟩ : ∃ p, Cd.holds 3 v t = p := ⟨_, rfl⟩
        have HP3 := Lib.hid hp
        have M3' := M3.out
        rw [hp] at M3'
        clear hp
        go_wp2_with fail
        refine (H.holds 3 v t p HP3.out _).mono ?_
        rintro e w' ⟨rfl, hw'⟩
        replace hcur := below_on hcur hw'
        clear hw'
        rcases M3' with ⟨rfl, hq⟩ | rfl
        · have HQ3 := Lib.hid hq
          clear hq
          go_wp2_with fail
          refine (H.holds 3 u t true HQ3.out _).mono ?_
          rintro e w' ⟨rfl, hw'⟩
          replace hcur := below_on hcur hw'
          clear hw'
          obtain ⟨p, hp⟩ : ∃ p, Cd.holds 4 v t = p := ⟨_, rfl⟩
          have HP4 := Lib.hid hp
          have M4' := M4.out
          rw [hp] at M4'
          clear hp
          go_wp2_with fail
          refine (H.holds 4 v t p HP4.out _).mono ?_
          rintro e w' ⟨rfl, hw'⟩
          replace hcur := below_on hcur hw'
          clear hw'
          rcases M4' with ⟨rfl, hq⟩ | rfl
          · have HQ4 := Lib.hid hq
            clear hq
            go_wp2_with fail
            refine (H.holds 4 u t true HQ4.out _).mono ?_
            rintro e w' ⟨rfl, hw'⟩
            replace hcur := below_on hcur hw'
            clear hw'
            go_wp2_with fail
            go_meet
            exact ⟨rfl, Lib.hid hcur⟩
          · skip
            go_wp2_with fail
            go_meet
            exact ⟨rfl, Lib.hid hcur⟩
        · skip
          obtain ⟨p, hp⟩ : ∃ p, Cd.holds 4 v t = p := ⟨_, rfl⟩
          have HP4 := Lib.hid hp
          have M4' := M4.out
          rw [hp] at M4'
          clear hp
          go_wp2_with fail
          refine (H.holds 4 v t p HP4.out _).mono ?_
          rintro e w' ⟨rfl, hw'⟩
          replace hcur := below_on hcur hw'
          clear hw'
          rcases M4' with ⟨rfl, hq⟩ | rfl
          · have HQ4 := Lib.hid hq
            clear hq
            go_wp2_with fail
            refine (H.holds 4 u t true HQ4.out _).mono ?_
            rintro e w' ⟨rfl, hw'⟩
            replace hcur := below_on hcur hw'
            clear hw'
            go_wp2_with fail
            go_meet
            exact ⟨rfl, Lib.hid hcur⟩
          · skip
            go_wp2_with fail
            go_meet
            exact ⟨rfl, Lib.hid hcur⟩
      case rest =>
        obtain ⟨rfl, HC⟩ := hcut
        clear hcur
        have hcur := HC.out
        clear HC
        go_wp2_with fail
        refine (H.holds 1 v v false S1.out _).mono ?_
        rintro e w' ⟨rfl, hw'⟩
        replace hcur := below_on hcur hw'
        clear hw'
        go_wp2_with fail
        refine (H.holds 5 v v true S5.out _).mono ?_
        rintro e w' ⟨rfl, hw'⟩
        replace hcur := below_on hcur hw'
        clear hw'
        go_wp2_with fail
        refine (H.holds 6 v u (v != u) S6.out _).mono ?_
        rintro e w' ⟨rfl, hw'⟩
        replace hcur := below_on hcur hw'
        clear hw'
        go_wp2_with fail
        go_ret
        exact ⟨by simp, hcur⟩
end Go.Proofs.YtkoeggjfdcpokaaGreatDoor

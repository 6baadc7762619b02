/-
  The walk of dur.Print: what is answered is the text of Dp.printS.
-/
import Derived.Test.YtjlonndkkeoohaaDoorDurSane
import Derived.Deep.LoopGhost
namespace Go.Proofs.YtjlonndkkeoohaaDoor
open Go.RowKit

set_option maxRecDepth 100000 in
set_option maxHeartbeats 8000000 in
theorem dprint_any (d : Int) (w : World) (hok : Ok w) :
    Calls Tryd.prog 14 #[.int .i64 d] w fun e w' => e = .returned (.string ⟨(Dp.printS d).toArray⟩) ∧ Below w.heap.size w w' := by
  have Hok := Lib.hid hok
  clear hok
  cases hs : Dp.saneB d with
  | false =>
    have Hs := Lib.hid (Dp.print_no d hs)
    go_enter Tryd.func14, Tryd.ntmps14
    go_wp2_with fail
    refine (dsane_any d _).mono ?_
    rintro e w1 ⟨rfl, rfl⟩
    go_wp2_with fail
    go_ret
    exact ⟨by rw [Hs.out]; rfl, Below.refl _ _⟩
  | true =>
    obtain ⟨h1, h2⟩ := (Dp.sane_iff d).mp hs
    by_cases h0 : d = 0
    · subst h0
      have Hp : Hid (Dp.printS 0 = [48, 115]) := Lib.hid rfl
      go_enter Tryd.func14, Tryd.ntmps14
      go_wp2_with fail
      refine (dsane_any 0 _).mono ?_
      rintro e w1 ⟨rfl, rfl⟩
      go_wp2_with fail
      go_ret
      exact ⟨by rw [Hp.out]; rfl, Below.refl _ _⟩
    · have h0b : (d == 0) = false := by simpa using h0
      have Hp := Lib.hid (Dp.print_pos d hs h0)
      go_enter Tryd.func14, Tryd.ntmps14
      go_wp2_with fail
      refine (dsane_any d _).mono ?_
      rintro e w1 ⟨rfl, rfl⟩
      obtain ⟨c0, c1, c2, c3, c4, c5, c6, c7, c8, c9⟩ := Hok.out.cells
      have x0 : ∀ w : World, (Instr.index 35 (.agg #[.string ⟨#[100]⟩, .int .i64 86400000, .string ⟨#[104]⟩, .int .i64 3600000, .string ⟨#[109]⟩, .int .i64 60000, .string ⟨#[115]⟩, .int .i64 1000, .string ⟨#[109, 115]⟩, .int .i64 1]) (.int .i64 0)).run Tryd.prog w = .ok (.agg #[.string ⟨#[100]⟩, .int .i64 86400000]) w := fun _ => by kernel_rfl
      have x1 : ∀ w : World, (Instr.index 35 (.agg #[.string ⟨#[100]⟩, .int .i64 86400000, .string ⟨#[104]⟩, .int .i64 3600000, .string ⟨#[109]⟩, .int .i64 60000, .string ⟨#[115]⟩, .int .i64 1000, .string ⟨#[109, 115]⟩, .int .i64 1]) (.int .i64 1)).run Tryd.prog w = .ok (.agg #[.string ⟨#[104]⟩, .int .i64 3600000]) w := fun _ => by kernel_rfl
      have x2 : ∀ w : World, (Instr.index 35 (.agg #[.string ⟨#[100]⟩, .int .i64 86400000, .string ⟨#[104]⟩, .int .i64 3600000, .string ⟨#[109]⟩, .int .i64 60000, .string ⟨#[115]⟩, .int .i64 1000, .string ⟨#[109, 115]⟩, .int .i64 1]) (.int .i64 2)).run Tryd.prog w = .ok (.agg #[.string ⟨#[109]⟩, .int .i64 60000]) w := fun _ => by kernel_rfl
      have x3 : ∀ w : World, (Instr.index 35 (.agg #[.string ⟨#[100]⟩, .int .i64 86400000, .string ⟨#[104]⟩, .int .i64 3600000, .string ⟨#[109]⟩, .int .i64 60000, .string ⟨#[115]⟩, .int .i64 1000, .string ⟨#[109, 115]⟩, .int .i64 1]) (.int .i64 3)).run Tryd.prog w = .ok (.agg #[.string ⟨#[115]⟩, .int .i64 1000]) w := fun _ => by kernel_rfl
      have x4 : ∀ w : World, (Instr.index 35 (.agg #[.string ⟨#[100]⟩, .int .i64 86400000, .string ⟨#[104]⟩, .int .i64 3600000, .string ⟨#[109]⟩, .int .i64 60000, .string ⟨#[115]⟩, .int .i64 1000, .string ⟨#[109, 115]⟩, .int .i64 1]) (.int .i64 4)).run Tryd.prog w = .ok (.agg #[.string ⟨#[109, 115]⟩, .int .i64 1]) w := fun _ => by kernel_rfl
      go_wp2_with fail
      clear c0 c1 c2 c3 c4 c5 c6 c7 c8 c9
      go_loopg [0, 3, 5, 12] 5 (fun g s0 s3 _ s12 wx => ∃ (i : Nat) (v : Int) (S : ByteArray), i + g = 5 ∧ s0 = .int .i64 v ∧ 0 ≤ v ∧ v ≤ 9007199254740992 ∧ s12 = .int .i64 i ∧ s3 = .string S ∧ S.size ≤ 100 * i ∧ Hid (S.data.toList ++ Dp.printFrom g i v.toNat = Dp.printFrom 5 0 d.toNat) ∧ Below w.heap.size w wx)
      case atStart => exact ⟨0, d, _, rfl, rfl, h1, h2, rfl, rfl, by decide, Lib.hid rfl, Below.refl _ _⟩
      case round =>
        obtain ⟨i, v, S, hig, rfl, hv0, hv1, rfl, rfl, hS, HS, hw1⟩ := hrel
        cases gk with
        | zero =>
          obtain rfl : i = 5 := by omega
          go_wp2_with fail
          go_ret
          refine ⟨?_, hw1⟩
          rw [Hp.out, ← HS.out]
          refine congrArg (fun x => Ending.returned (Value.string x)) (str_eq _ _ ?_)
          exact (List.append_nil _).symm
        | succ g =>
          rcases (show i = 0 ∨ i = 1 ∨ i = 2 ∨ i = 3 ∨ i = 4 by omega) with rfl | rfl | rfl | rfl | rfl
          · have q0 : v.tdiv 86400000 = v / 86400000 := Int.tdiv_eq_ediv_of_nonneg hv0
            have q1 : IntKind.i64.wrap (v / 86400000) = v / 86400000 := IntWalk.i64_in _ (by omega)
            have hstep : Dp.printFrom (g + 1) 0 v.toNat = Dp.part (v / 86400000).toNat 0 ++ Dp.printFrom g 1 (v % 86400000).toNat := by
              rw [show (v / 86400000).toNat = v.toNat / 86400000 by omega, show (v % 86400000).toNat = v.toNat % 86400000 by omega]; rfl
            clear x1 x2 x3 x4
            by_cases hge : 86400000 ≤ v
            · have hp : Dp.part (v / 86400000).toNat 0 = Lib.decDigits (v / 86400000).toNat ++ [100] := by
                unfold Dp.part; rw [if_neg (by omega)]; rfl
              have HS1 : Hid (S.data.toList ++ (Lib.decDigits (v / 86400000).toNat ++ [100]) ++ Dp.printFrom g 1 (v % 86400000).toNat = Dp.printFrom 5 0 d.toNat) := Lib.hid (by
                rw [← HS.out, hstep, hp, List.append_assoc])
              clear hstep hp
              go_wp2_with fail
              go_region_with (go_at_call 22; refine (itoa_str (v / 86400000) (by omega) (by omega) _ (Hok.out.on (by first | exact (hw1.alloc hw1.size _).drew | exact hw1.drew.alloc hw1.size _))).mono ?_; rintro e w2 ⟨T, rfl, ⟨hT0, hT⟩, HT, hw2⟩; obtain ⟨hbc, _⟩ := bcell hw2)
              all_goals
                go_wp2_with fail
                go_roundg g
                case measure => omega
                case rel =>
                  refine ⟨1, _, _, by omega, rfl, by omega, by omega, rfl, rfl, ?_, Lib.hid ?_, ?_⟩
                  · simp only [ByteArray.size_append, show (⟨#[100]⟩ : ByteArray).size = 1 from rfl]; omega
                  · rw [← HS1.out]; simp only [data_app, HT.out]
                  · first
                      | exact ((hw1.alloc hw1.size _).drew).trans (hw2.mono (by have := hw1.size; simp; omega))
                      | exact ((hw1.drew.alloc hw1.size _)).trans (hw2.mono (by have := hw1.size; simp; omega))
            · have hp : Dp.part (v / 86400000).toNat 0 = [] := by
                unfold Dp.part; rw [if_pos (by omega)]
              have HS1 : Hid (S.data.toList ++ Dp.printFrom g 1 (v % 86400000).toNat = Dp.printFrom 5 0 d.toNat) := Lib.hid (by
                rw [← HS.out, hstep, hp, List.nil_append])
              clear hstep hp
              go_wp2_with fail
              go_roundg g
              case measure => omega
              case rel => exact ⟨1, _, S, by omega, rfl, by omega, by omega, rfl, rfl, by omega, HS1, hw1.alloc hw1.size _⟩
          · have q0 : v.tdiv 3600000 = v / 3600000 := Int.tdiv_eq_ediv_of_nonneg hv0
            have q1 : IntKind.i64.wrap (v / 3600000) = v / 3600000 := IntWalk.i64_in _ (by omega)
            have hstep : Dp.printFrom (g + 1) 1 v.toNat = Dp.part (v / 3600000).toNat 1 ++ Dp.printFrom g 2 (v % 3600000).toNat := by
              rw [show (v / 3600000).toNat = v.toNat / 3600000 by omega, show (v % 3600000).toNat = v.toNat % 3600000 by omega]; rfl
            clear x0 x2 x3 x4
            by_cases hge : 3600000 ≤ v
            · have hp : Dp.part (v / 3600000).toNat 1 = Lib.decDigits (v / 3600000).toNat ++ [104] := by
                unfold Dp.part; rw [if_neg (by omega)]; rfl
              have HS1 : Hid (S.data.toList ++ (Lib.decDigits (v / 3600000).toNat ++ [104]) ++ Dp.printFrom g 2 (v % 3600000).toNat = Dp.printFrom 5 0 d.toNat) := Lib.hid (by
                rw [← HS.out, hstep, hp, List.append_assoc])
              clear hstep hp
              go_wp2_with fail
              go_region_with (go_at_call 22; refine (itoa_str (v / 3600000) (by omega) (by omega) _ (Hok.out.on (by first | exact (hw1.alloc hw1.size _).drew | exact hw1.drew.alloc hw1.size _))).mono ?_; rintro e w2 ⟨T, rfl, ⟨hT0, hT⟩, HT, hw2⟩; obtain ⟨hbc, _⟩ := bcell hw2)
              all_goals
                go_wp2_with fail
                go_roundg g
                case measure => omega
                case rel =>
                  refine ⟨2, _, _, by omega, rfl, by omega, by omega, rfl, rfl, ?_, Lib.hid ?_, ?_⟩
                  · simp only [ByteArray.size_append, show (⟨#[104]⟩ : ByteArray).size = 1 from rfl]; omega
                  · rw [← HS1.out]; simp only [data_app, HT.out]
                  · first
                      | exact ((hw1.alloc hw1.size _).drew).trans (hw2.mono (by have := hw1.size; simp; omega))
                      | exact ((hw1.drew.alloc hw1.size _)).trans (hw2.mono (by have := hw1.size; simp; omega))
            · have hp : Dp.part (v / 3600000).toNat 1 = [] := by
                unfold Dp.part; rw [if_pos (by omega)]
              have HS1 : Hid (S.data.toList ++ Dp.printFrom g 2 (v % 3600000).toNat = Dp.printFrom 5 0 d.toNat) := Lib.hid (by
                rw [← HS.out, hstep, hp, List.nil_append])
              clear hstep hp
              go_wp2_with fail
              go_roundg g
              case measure => omega
              case rel => exact ⟨2, _, S, by omega, rfl, by omega, by omega, rfl, rfl, by omega, HS1, hw1.alloc hw1.size _⟩
          · have q0 : v.tdiv 60000 = v / 60000 := Int.tdiv_eq_ediv_of_nonneg hv0
            have q1 : IntKind.i64.wrap (v / 60000) = v / 60000 := IntWalk.i64_in _ (by omega)
            have hstep : Dp.printFrom (g + 1) 2 v.toNat = Dp.part (v / 60000).toNat 2 ++ Dp.printFrom g 3 (v % 60000).toNat := by
              rw [show (v / 60000).toNat = v.toNat / 60000 by omega, show (v % 60000).toNat = v.toNat % 60000 by omega]; rfl
            clear x0 x1 x3 x4
            by_cases hge : 60000 ≤ v
            · have hp : Dp.part (v / 60000).toNat 2 = Lib.decDigits (v / 60000).toNat ++ [109] := by
                unfold Dp.part; rw [if_neg (by omega)]; rfl
              have HS1 : Hid (S.data.toList ++ (Lib.decDigits (v / 60000).toNat ++ [109]) ++ Dp.printFrom g 3 (v % 60000).toNat = Dp.printFrom 5 0 d.toNat) := Lib.hid (by
                rw [← HS.out, hstep, hp, List.append_assoc])
              clear hstep hp
              go_wp2_with fail
              go_region_with (go_at_call 22; refine (itoa_str (v / 60000) (by omega) (by omega) _ (Hok.out.on (by first | exact (hw1.alloc hw1.size _).drew | exact hw1.drew.alloc hw1.size _))).mono ?_; rintro e w2 ⟨T, rfl, ⟨hT0, hT⟩, HT, hw2⟩; obtain ⟨hbc, _⟩ := bcell hw2)
              all_goals
                go_wp2_with fail
                go_roundg g
                case measure => omega
                case rel =>
                  refine ⟨3, _, _, by omega, rfl, by omega, by omega, rfl, rfl, ?_, Lib.hid ?_, ?_⟩
                  · simp only [ByteArray.size_append, show (⟨#[109]⟩ : ByteArray).size = 1 from rfl]; omega
                  · rw [← HS1.out]; simp only [data_app, HT.out]
                  · first
                      | exact ((hw1.alloc hw1.size _).drew).trans (hw2.mono (by have := hw1.size; simp; omega))
                      | exact ((hw1.drew.alloc hw1.size _)).trans (hw2.mono (by have := hw1.size; simp; omega))
            · have hp : Dp.part (v / 60000).toNat 2 = [] := by
                unfold Dp.part; rw [if_pos (by omega)]
              have HS1 : Hid (S.data.toList ++ Dp.printFrom g 3 (v % 60000).toNat = Dp.printFrom 5 0 d.toNat) := Lib.hid (by
                rw [← HS.out, hstep, hp, List.nil_append])
              clear hstep hp
              go_wp2_with fail
              go_roundg g
              case measure => omega
              case rel => exact ⟨3, _, S, by omega, rfl, by omega, by omega, rfl, rfl, by omega, HS1, hw1.alloc hw1.size _⟩
          · have q0 : v.tdiv 1000 = v / 1000 := Int.tdiv_eq_ediv_of_nonneg hv0
            have q1 : IntKind.i64.wrap (v / 1000) = v / 1000 := IntWalk.i64_in _ (by omega)
            have hstep : Dp.printFrom (g + 1) 3 v.toNat = Dp.part (v / 1000).toNat 3 ++ Dp.printFrom g 4 (v % 1000).toNat := by
              rw [show (v / 1000).toNat = v.toNat / 1000 by omega, show (v % 1000).toNat = v.toNat % 1000 by omega]; rfl
            clear x0 x1 x2 x4
            by_cases hge : 1000 ≤ v
            · have hp : Dp.part (v / 1000).toNat 3 = Lib.decDigits (v / 1000).toNat ++ [115] := by
                unfold Dp.part; rw [if_neg (by omega)]; rfl
              have HS1 : Hid (S.data.toList ++ (Lib.decDigits (v / 1000).toNat ++ [115]) ++ Dp.printFrom g 4 (v % 1000).toNat = Dp.printFrom 5 0 d.toNat) := Lib.hid (by
                rw [← HS.out, hstep, hp, List.append_assoc])
              clear hstep hp
              go_wp2_with fail
              go_region_with (go_at_call 22; refine (itoa_str (v / 1000) (by omega) (by omega) _ (Hok.out.on (by first | exact (hw1.alloc hw1.size _).drew | exact hw1.drew.alloc hw1.size _))).mono ?_; rintro e w2 ⟨T, rfl, ⟨hT0, hT⟩, HT, hw2⟩; obtain ⟨hbc, _⟩ := bcell hw2)
              all_goals
                go_wp2_with fail
                go_roundg g
                case measure => omega
                case rel =>
                  refine ⟨4, _, _, by omega, rfl, by omega, by omega, rfl, rfl, ?_, Lib.hid ?_, ?_⟩
                  · simp only [ByteArray.size_append, show (⟨#[115]⟩ : ByteArray).size = 1 from rfl]; omega
                  · rw [← HS1.out]; simp only [data_app, HT.out]
                  · first
                      | exact ((hw1.alloc hw1.size _).drew).trans (hw2.mono (by have := hw1.size; simp; omega))
                      | exact ((hw1.drew.alloc hw1.size _)).trans (hw2.mono (by have := hw1.size; simp; omega))
            · have hp : Dp.part (v / 1000).toNat 3 = [] := by
                unfold Dp.part; rw [if_pos (by omega)]
              have HS1 : Hid (S.data.toList ++ Dp.printFrom g 4 (v % 1000).toNat = Dp.printFrom 5 0 d.toNat) := Lib.hid (by
                rw [← HS.out, hstep, hp, List.nil_append])
              clear hstep hp
              go_wp2_with fail
              go_roundg g
              case measure => omega
              case rel => exact ⟨4, _, S, by omega, rfl, by omega, by omega, rfl, rfl, by omega, HS1, hw1.alloc hw1.size _⟩
          · have q1 : IntKind.i64.wrap v = v := IntWalk.i64_in _ (by omega)
            have hstep : Dp.printFrom (g + 1) 4 v.toNat = Dp.part v.toNat 4 ++ Dp.printFrom g 5 0 := by
              show Dp.part (v.toNat / 1) 4 ++ Dp.printFrom g 5 (v.toNat % 1) = _
              rw [Nat.div_one, Nat.mod_one]
            clear x0 x1 x2 x3
            by_cases hge : 1 ≤ v
            · have hp : Dp.part v.toNat 4 = Lib.decDigits v.toNat ++ [109, 115] := by
                unfold Dp.part; rw [if_neg (by omega)]; rfl
              have HS1 : Hid (S.data.toList ++ (Lib.decDigits v.toNat ++ [109, 115]) ++ Dp.printFrom g 5 0 = Dp.printFrom 5 0 d.toNat) := Lib.hid (by
                rw [← HS.out, hstep, hp, List.append_assoc])
              clear hstep hp
              go_wp2_with fail
              go_region_with (go_at_call 22; refine (itoa_str v (by omega) (by omega) _ (Hok.out.on (by first | exact (hw1.alloc hw1.size _).drew | exact hw1.drew.alloc hw1.size _))).mono ?_; rintro e w2 ⟨T, rfl, ⟨hT0, hT⟩, HT, hw2⟩; obtain ⟨hbc, _⟩ := bcell hw2)
              all_goals
                go_wp2_with fail
                go_roundg g
                case measure => omega
                case rel =>
                  refine ⟨5, _, _, by omega, rfl, by omega, by omega, rfl, rfl, ?_, Lib.hid ?_, ?_⟩
                  · simp only [ByteArray.size_append, show (⟨#[109, 115]⟩ : ByteArray).size = 2 from rfl]; omega
                  · rw [← HS1.out]; simp only [data_app, HT.out]; rfl
                  · first
                      | exact ((hw1.alloc hw1.size _).drew).trans (hw2.mono (by have := hw1.size; simp; omega))
                      | exact ((hw1.drew.alloc hw1.size _)).trans (hw2.mono (by have := hw1.size; simp; omega))
            · have hp : Dp.part v.toNat 4 = [] := by
                unfold Dp.part; rw [if_pos (by omega)]
              have HS1 : Hid (S.data.toList ++ Dp.printFrom g 5 0 = Dp.printFrom 5 0 d.toNat) := Lib.hid (by
                rw [← HS.out, hstep, hp, List.nil_append])
              clear hstep hp
              go_wp2_with fail
              go_roundg g
              case measure => omega
              case rel => exact ⟨5, _, S, by omega, rfl, by omega, by omega, rfl, rfl, by omega, HS1, hw1.alloc hw1.size _⟩
end Go.Proofs.YtjlonndkkeoohaaDoor

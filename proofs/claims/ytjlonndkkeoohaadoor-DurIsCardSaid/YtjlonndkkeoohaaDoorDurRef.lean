/-
  The walks of the document's answer of layer dur: Sane, Units and unit.
-/
import Derived.Test.YtjlonndkkeoohaaDoorDurRefPlain
import Derived.Test.YtjlonndkkeoohaaDoorRefRun
import Derived.Test.YtjlonndkkeoohaaDoorDurDigits
import Derived.Deep.LoopGhost
import Derived.Deep.QuietTactic
import Derived.BigQuiet
namespace Go.Proofs.YtjlonndkkeoohaaDoor
open Go.RowKit

theorem rsane_any (v : Int) (w : World) :
    Calls Tryd.prog 13 #[.int .i64 v] w fun e w' => e = .returned (.bool (Dp.saneB v)) ∧ w = w' := by
  by_cases h1 : 0 ≤ v
  · by_cases h2 : v ≤ 9007199254740992
    · have H : Hid (Dp.saneB v = true) := Lib.hid ((Dp.sane_iff v).mpr ⟨h1, h2⟩)
      go_enter Tryd.func13, Tryd.ntmps13
      go_wp2
      go_ret
      exact ⟨by rw [H.out]; rfl, rfl⟩
    · have H : Hid (Dp.saneB v = false) := Lib.hid (by unfold Dp.saneB; simp; omega)
      go_enter Tryd.func13, Tryd.ntmps13
      go_wp2
      go_ret
      exact ⟨by rw [H.out]; rfl, rfl⟩
  · have H : Hid (Dp.saneB v = false) := Lib.hid (by unfold Dp.saneB; simp; omega)
    go_enter Tryd.func13, Tryd.ntmps13
    go_wp2
    go_ret
    exact ⟨by rw [H.out]; rfl, rfl⟩

/-- The units lie at block B. -/
def UnitsAt (w : World) (B : Nat) : Prop := ∀ i, i < 5 → w.cell? ⟨B, i * 2, none⟩ = some (.string ⟨(Dp.nm i).toArray⟩) ∧ w.cell? ⟨B, i * 2 + 1, none⟩ = some (.int .i64 (Dp.sz i))
theorem UnitsAt.on {w w' : World} {B : Nat} (h : UnitsAt w B) (hB : B < w.heap.size) (hb : Below w.heap.size w w') : UnitsAt w' B := fun i hi =>
  ⟨(hb.cell (p := ⟨B, i * 2, none⟩) hB).trans (h i hi).1, (hb.cell (p := ⟨B, i * 2 + 1, none⟩) hB).trans (h i hi).2⟩
theorem units_any (w : World) :
    Calls Tryd.prog 19 #[] w fun e w' => ∃ B : Nat, e = .returned (.slice (some ⟨B, 0, none⟩) 5 5) ∧ Hid (UnitsAt w' B) ∧ w.heap.size ≤ B ∧ B < w'.heap.size ∧ Below w.heap.size w w' := by
  go_enter Tryd.func19, Tryd.ntmps19
  go_wp2_with fail
  go_ret
  refine ⟨w.heap.size, rfl, Lib.hid ?_, Nat.le_refl _, by simp, (Below.refl _ _).alloc (Nat.le_refl _) _⟩
  intro i hi
  rcases (show i = 0 ∨ i = 1 ∨ i = 2 ∨ i = 3 ∨ i = 4 by omega) with rfl | rfl | rfl | rfl | rfl
  all_goals
    rw [World.cell?_alloc_new, World.cell?_alloc_new]
    exact ⟨rfl, rfl⟩

theorem Dp.best_bd (r : List UInt8) : ∀ k, -1 ≤ Dp.best r k ∧ Dp.best r k < (k : Int)
  | 0 => ⟨Int.le_refl _, by show (-1 : Int) < 0; omega⟩
  | k + 1 => by
    have := Dp.best_bd r k
    unfold Dp.best
    split <;> omega
theorem Dp.best_yes {r : List UInt8} {k : Nat} (h : (Dp.nm k).isPrefixOf r = true) (h2 : Dp.best r k < 0 ∨ (Dp.nm (Dp.best r k).toNat).length < (Dp.nm k).length) : Dp.best r (k + 1) = (k : Int) := by
  show (if _ then _ else _) = _
  rw [if_pos ⟨h, h2⟩]
theorem Dp.best_no {r : List UInt8} {k : Nat} (h : (Dp.nm k).isPrefixOf r = false) : Dp.best r (k + 1) = Dp.best r k := by
  show (if _ then _ else _) = _
  rw [if_neg (by rintro ⟨a, _⟩; rw [h] at a; exact absurd a (by simp))]
theorem Dp.best_keep {r : List UInt8} {k : Nat} (h1 : ¬ Dp.best r k < 0) (h2 : ¬ (Dp.nm (Dp.best r k).toNat).length < (Dp.nm k).length) : Dp.best r (k + 1) = Dp.best r k := by
  show (if _ then _ else _) = _
  rw [if_neg (by rintro ⟨_, a | a⟩; exact h1 a; exact h2 a)]
theorem unit_name (i : Nat) : ∃ N : ByteArray, (.string ⟨(Dp.nm i).toArray⟩ : Value) = .string N ∧ Hid (N.size = (Dp.nm i).length) ∧ N.size ≤ 2 ∧ Hid (N.data.toList = Dp.nm i) := by
  refine ⟨_, rfl, Lib.hid (str_size _), ?_, Lib.hid (str_data _)⟩
  rw [str_size]; unfold Dp.nm; split <;> simp

set_option maxHeartbeats 4000000 in
set_option maxRecDepth 100000 in
theorem unitAt_any (s : ByteArray) (a : Nat) (ha : a ≤ s.size) (hs : s.size ≤ 1000000) (w : World) :
    Calls Tryd.prog 21 #[.string s, .int .i64 a] w fun e w' => e = .returned (.int .i64 (Dp.best (s.data.toList.drop a) 5)) ∧ Below w.heap.size w w' := by
  go_enter Tryd.func21, Tryd.ntmps21
  go_wp2_with fail
  refine (units_any _).mono ?_
  rintro e w1 ⟨B, rfl, HU, hB0, hB, hw1⟩
  go_wp2_with fail
  go_loopg [6, 7, 8] 5 (fun g s6 s7 _ wx => ∃ i : Nat, i + g = 5 ∧ s7 = .int .i64 i ∧ s6 = .int .i64 (Dp.best (s.data.toList.drop a) i) ∧ wx = w1)
  case atStart => exact ⟨0, rfl, rfl, rfl, rfl⟩
  case round =>
    obtain ⟨i, hig, rfl, rfl, rfl⟩ := hrel
    cases gk with
    | zero =>
      obtain rfl : i = 5 := by omega
      go_wp2_with fail
      go_ret
      exact ⟨rfl, hw1⟩
    | succ g =>
      have hi : i < 5 := by omega
      obtain ⟨hb0, hb1⟩ := Dp.best_bd (s.data.toList.drop a) i
      obtain ⟨c1, _⟩ := HU.out i hi
      obtain ⟨NI, eNI, hNl, hN2, HNI⟩ := unit_name i
      rw [eNI] at c1
      clear eNI
      by_cases hfit : a + NI.size ≤ s.size
      · have hfitz : (a : Int) + (NI.size : Int) ≤ (s.size : Int) := by omega
        have hx : Hid ((s.extract a (a + NI.size)).data.toList = (s.data.toList.drop a).take (Dp.nm i).length) := Lib.hid (by
          rw [Lib.extract_data, hNl.out]
          congr 1; omega)
        cases hp : (Dp.nm i).isPrefixOf (s.data.toList.drop a) with
        | false =>
          have HB := Lib.hid (Dp.best_no hp)
          have hne : ¬ (s.extract a (a + NI.size)).toList = NI.toList := by
            rw [toList_eq, toList_eq, hx.out, HNI.out]
            intro e
            have : Dp.nm i <+: s.data.toList.drop a := by rw [← e]; exact List.take_prefix _ _
            rw [← List.isPrefixOf_iff_prefix, hp] at this
            exact absurd this (by simp)
          have hne' : ((s.extract a (a + NI.size)).toList == NI.toList) = false := by simpa using hne
          clear hp
          generalize Dp.best (s.data.toList.drop a) i = bi at HB hb0 hb1 ⊢
          go_wp2_with fail
          go_roundg g
          case measure => omega
          case rel => exact ⟨i + 1, by omega, rfl, by rw [HB.out], rfl⟩
        | true =>
          have heq : (s.extract a (a + NI.size)).toList = NI.toList := by
            rw [toList_eq, toList_eq, hx.out, HNI.out]
            rw [List.isPrefixOf_iff_prefix] at hp
            obtain ⟨t, ht⟩ := hp
            rw [← ht]; simp
          by_cases hb : Dp.best (s.data.toList.drop a) i < 0
          · have HB := Lib.hid (Dp.best_yes hp (Or.inl hb))
            clear hp
            generalize Dp.best (s.data.toList.drop a) i = bi at HB hb0 hb1 hb ⊢
            go_wp2_with fail
            go_roundg g
            case measure => omega
            case rel => exact ⟨i + 1, by omega, rfl, by rw [HB.out], rfl⟩
          · obtain ⟨bn, hbn⟩ : ∃ bn : Nat, Dp.best (s.data.toList.drop a) i = (bn : Int) := Int.eq_ofNat_of_zero_le (by omega)
            obtain ⟨c2, _⟩ := HU.out bn (by omega)
            obtain ⟨NB, eNB, hBl, hB2, HNB⟩ := unit_name bn
            rw [eNB] at c2
            clear eNB
            by_cases hlen : NB.size < NI.size
            · have HB := Lib.hid (Dp.best_yes hp (Or.inr (by rw [hbn, Int.toNat_natCast, ← hBl.out, ← hNl.out]; exact hlen)))
              rw [hbn] at hb0 hb1 hb ⊢
              clear hp hbn
              go_wp2_with fail
              go_roundg g
              case measure => omega
              case rel => exact ⟨i + 1, by omega, rfl, by rw [HB.out], rfl⟩
            · have HB := Lib.hid (Dp.best_keep hb (by rw [hbn, Int.toNat_natCast, ← hBl.out, ← hNl.out]; exact hlen))
              have Hbn := Lib.hid hbn
              rw [hbn] at hb0 hb1 hb ⊢
              clear hp hbn
              go_wp2_with fail
              go_roundg g
              case measure => omega
              case rel => exact ⟨i + 1, by omega, rfl, by rw [HB.out, Hbn.out], rfl⟩
      · have hfitz : ¬ (a : Int) + (NI.size : Int) ≤ (s.size : Int) := by omega
        have HB : Hid (Dp.best (s.data.toList.drop a) (i + 1) = Dp.best (s.data.toList.drop a) i) := Lib.hid (Dp.best_no (by
          cases hp : (Dp.nm i).isPrefixOf (s.data.toList.drop a) with
          | false => rfl
          | true =>
            rw [List.isPrefixOf_iff_prefix] at hp
            have := hp.length_le
            rw [List.length_drop, ← Lib.size_eq, ← hNl.out] at this
            omega))
        generalize Dp.best (s.data.toList.drop a) i = bi at HB hb0 hb1 ⊢
        go_wp2_with fail
        go_roundg g
        case measure => omega
        case rel => exact ⟨i + 1, by omega, rfl, by rw [HB.out], rfl⟩
end Go.Proofs.YtjlonndkkeoohaaDoor

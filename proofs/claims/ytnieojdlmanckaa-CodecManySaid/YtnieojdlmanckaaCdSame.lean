/-
  The walks of the document's Few and Same.
-/
import Derived.Test.YtnieojdlmanckaaCdSane
import Derived.Laws.StructEq
namespace Go.Proofs.Ytnieojdlmanckaa
open Go.RowKit Go.Proofs.Ytnieojdlmanckaa.Lp

/-! ### Few -/
set_option maxHeartbeats 1600000 in
theorem few_of (A : Option Addr) (c n : Nat) (l : List Pr) (hn : n = l.length) (w : World) (hr : Rd w w.heap.size A l) :
    Calls Try.prog 9 #[.slice A n c] w fun e w' => ∃ b : Bool, e = .returned (.bool b) ∧ (b = true → n ≤ 40) ∧ Below w.heap.size w w' := by
  have HN := Lib.hid hn
  have hlen : n ≤ 9223372036854775807 := by rw [hn]; exact hr.len
  clear hn
  go_enter Try.func9, Try.ntmps9
  go_wp2_with fail
  go_loopg [3, 4] n (fun g s3 s4 wx => ∃ (i : Nat) (z : Int), i + g = n ∧ s4 = .int .i64 i ∧ s3 = .int .i64 z ∧ Below w.heap.size w wx)
  case atStart => exact ⟨0, 0, by omega, rfl, rfl, Below.refl _ _⟩
  case round =>
    obtain ⟨i, z, hi, rfl, rfl, hwx⟩ := hrel
    cases gk with
    | zero =>
      obtain rfl : i = n := by omega
      by_cases h40 : i ≤ 40
      · have hz : decide ((i : Int) ≤ 40) = true := by simp; omega
        go_wp2_with fail
        go_ret
        exact ⟨_, rfl, fun _ => h40, hwx⟩
      · have hz : decide ((i : Int) ≤ 40) = false := by simp; omega
        go_wp2_with fail
        go_ret
        exact ⟨false, rfl, fun h => (by cases h), hwx⟩
    | succ g =>
      have hlt : i < n := by omega
      have hltz : (i : Int) < (n : Int) := by omega
      obtain ⟨bk, off, rfl, hbk, hc⟩ := (hr.below hwx).all (by have := HN.out; omega)
      obtain ⟨N, V, hp⟩ := ex_at (l := l) (k := i) (by have := HN.out; omega)
      obtain ⟨c0, c1⟩ := hc _ _ hp
      have hbk' : bk < wr.heap.size := by have := hwx.size; omega
      clear hc hp hr
      go_wp2_with fail
      go_quiet (fail)
      go_wp2_with fail
      go_roundg g
      case measure => omega
      case rel => exact ⟨i + 1, _, by omega, by simp, rfl, below_on hwx (below_drewN _ _)⟩

theorem neq_pair (N V M U : ByteArray) (w : World) : (binOp .neq 44 (.agg #[.string N, .string V]) (.agg #[.string M, .string U])).run Try.prog w = .ok (.bool (!decide (N = M ∧ V = U))) w := by
  have u9 := Try.underlying9
  have a9 := Try.isAgg9
  have z9 := Try.sizeOf9
  have hS : Try.prog.underlying 44 = some (.struct (Try.prog.fieldsOf 44)) := by kernel_rfl
  have hp : Try.prog.stoodInHeld 44 = false := by kernel_rfl
  have e1 := beq_tl N M
  have e2 := beq_tl V U
  rw [run_neq_struct, show (10000 : Nat) = 9999 + 1 from rfl, run_equalIn_agg w 9999 44 _ _ hS hp]
  simp only [Program.fieldsOf, Try.underlying44]
  by_cases h1 : N = M
  · by_cases h2 : V = U
    · subst h1 h2
      go_simp
    · have b1 : (N.toList == M.toList) = true := by rw [e1]; simpa using h1
      have b2 : (V.toList == U.toList) = false := by rw [e2]; simpa using h2
      clear e1 e2
      simp only [h1, h2]
      go_simp
  · have b1 : (N.toList == M.toList) = false := by rw [e1]; simpa using h1
    clear e1 e2
    simp only [h1]
    go_simp
theorem guard_pair : Try.prog.eqGuardType Try.prog.depth 44 = false := by kernel_rfl

set_option maxHeartbeats 1600000 in
theorem same_of (A B : Option Addr) (c d n k : Nat) (l m : List Pr) (hn : n = l.length) (hk : k = m.length) (b : Bool) (hb : decide (l = m) = b) (w : World) (hr : Rd w w.heap.size A l) (hs : Rd w w.heap.size B m) :
    Calls Try.prog 19 #[.slice A n c, .slice B k d] w fun e w' => e = .returned (.bool b) ∧ Below w.heap.size w w' := by
  have HN := Lib.hid hn
  have HK := Lib.hid hk
  have HB := Lib.hid hb
  have hlen : n ≤ 9223372036854775807 := by rw [hn]; exact hr.len
  have hlen' : k ≤ 9223372036854775807 := by rw [hk]; exact hs.len
  clear hn hk hb
  by_cases hnk : n = k
  · subst hnk
    go_enter Try.func19, Try.ntmps19
    go_wp2_with fail
    go_loopg [5] n (fun g s5 wx => ∃ i : Nat, i + g = n ∧ s5 = .int .i64 i ∧ Hid (∀ j, j < i → l[j]? = m[j]?) ∧ Below w.heap.size w wx)
    case atStart => exact ⟨0, by omega, rfl, Lib.hid (fun j hj => by omega), Below.refl _ _⟩
    case round =>
      obtain ⟨i, hi, rfl, HA, hwx⟩ := hrel
      cases gk with
      | zero =>
        obtain rfl : i = n := by omega
        have hb : b = true := by
          rw [← HB.out, decide_eq_true_eq]
          refine List.ext_getElem? fun j => ?_
          by_cases hj : j < i
          · exact HA.out j hj
          · rw [List.getElem?_eq_none (by have := HN.out; omega), List.getElem?_eq_none (by have := HK.out; omega)]
        subst hb
        go_wp2_with fail
        go_ret
        exact ⟨rfl, hwx⟩
      | succ g =>
        have hlt : i < n := by omega
        have hltz : (i : Int) < (n : Int) := by omega
        obtain ⟨bk, off, rfl, hbk, hc⟩ := (hr.below hwx).all (by have := HN.out; omega)
        obtain ⟨bk2, off2, rfl, hbk2, hd⟩ := (hs.below hwx).all (by have := HK.out; omega)
        obtain ⟨N, V, hp⟩ := ex_at (l := l) (k := i) (by have := HN.out; omega)
        obtain ⟨M, U, hq⟩ := ex_at (l := m) (k := i) (by have := HK.out; omega)
        obtain ⟨c0, c1⟩ := hc _ _ hp
        obtain ⟨d0, d1⟩ := hd _ _ hq
        have HP := Lib.hid hp
        have HQ := Lib.hid hq
        clear hc hd hp hq hr hs
        have hbk' : bk < wr.heap.size := by have := hwx.size; omega
        have hbk2' : bk2 < wr.heap.size := by have := hwx.size; omega
        have hgp := guard_pair
        by_cases he : N = M ∧ V = U
        · have hne : ∀ w, (binOp .neq 44 (.agg #[.string N, .string V]) (.agg #[.string M, .string U])).run Try.prog w = .ok (.bool false) w := fun w => by
            rw [neq_pair]; simp [he]
          have HA' : Hid (∀ j, j < i + 1 → l[j]? = m[j]?) := Lib.hid (fun j hj => by
            by_cases e : j = i
            · subst e; rw [HP.out, HQ.out, he.1, he.2]
            · exact HA.out j (by omega))
          clear he
          go_wp2_with fail
          go_quiet (fail)
          go_wp2_with fail
          go_roundg g
          case measure => omega
          case rel => exact ⟨i + 1, by omega, by simp, HA', below_on hwx (below_drewN _ _)⟩
        · have hne : ∀ w, (binOp .neq 44 (.agg #[.string N, .string V]) (.agg #[.string M, .string U])).run Try.prog w = .ok (.bool true) w := fun w => by
            rw [neq_pair]; simp [he]
          have hb : b = false := by
            rw [← HB.out]
            simp only [decide_eq_false_iff_not]
            intro e
            have := HP.out
            rw [e, HQ.out] at this
            cases this
            exact he ⟨rfl, rfl⟩
          subst hb
          clear he
          go_wp2_with fail
          go_quiet (fail)
          go_wp2_with fail
          go_ret
          exact ⟨rfl, below_on hwx (below_drewN _ _)⟩
  · have hnz : ((n : Int) == (k : Int)) = false := by simp; omega
    have hb : b = false := by
      rw [← HB.out]
      simp only [decide_eq_false_iff_not]
      intro e
      rw [HN.out, HK.out, e] at hnk
      exact hnk rfl
    subst hb
    go_enter Try.func19, Try.ntmps19
    go_wp2_with fail
    go_ret
    exact ⟨rfl, Below.refl _ _⟩

end Go.Proofs.Ytnieojdlmanckaa

/-
  The walks of the document's Same, order and Compare.
-/
import Derived.Test.YthknoanhljonoaaLabRefGet
import Derived.Laws.StructEq
namespace Go.Proofs.Ythknoanhljonoaa
open Go.RowKit Go.Proofs.Ythknoanhljonoaa.Lp

theorem neq_pair (N V M U : ByteArray) (w : World) : (binOp .neq 38 (.agg #[.string N, .string V]) (.agg #[.string M, .string U])).run Try.prog w = .ok (.bool (!decide (N = M ∧ V = U))) w := by
  have u9 := Try.underlying9
  have a9 := Try.isAgg9
  have z9 := Try.sizeOf9
  have hS : Try.prog.underlying 38 = some (.struct (Try.prog.fieldsOf 38)) := by kernel_rfl
  have hp : Try.prog.stoodInHeld 38 = false := by kernel_rfl
  have e1 := beq_tl N M
  have e2 := beq_tl V U
  rw [run_neq_struct, show (10000 : Nat) = 9999 + 1 from rfl, run_equalIn_agg w 9999 38 _ _ hS hp]
  simp only [Program.fieldsOf, Try.underlying38]
  by_cases h1 : N = M
  · by_cases h2 : V = U
    · subst h1 h2
      go_simp
    · have b1 : (N.toList == M.toList) = true := by rw [e1]; simpa using h1
      have b2 : (V.toList == U.toList) = false := by rw [e2]; simpa using h2
      clear e1 e2
      simp only [h1, h2]
      go_simp
  · have b1 : (N.toList == M.toList) = false := by rw [e1]; simpa using h1
    clear e1 e2
    simp only [h1]
    go_simp
theorem guard_pair : Try.prog.eqGuardType Try.prog.depth 38 = false := by kernel_rfl

set_option maxHeartbeats 1600000 in
theorem same_of (A B : Option Addr) (c d n k : Nat) (l m : List Pr) (hn : n = l.length) (hk : k = m.length) (b : Bool) (hb : decide (l = m) = b) (w : World) (hr : Rd w w.heap.size A l) (hs : Rd w w.heap.size B m) :
    Calls Try.prog 20 #[.slice A n c, .slice B k d] w fun e w' => e = .returned (.bool b) ∧ Below w.heap.size w w' := by
  have HN := Lib.hid hn
  have HK := Lib.hid hk
  have HB := Lib.hid hb
  have hlen : n ≤ 9223372036854775807 := by rw [hn]; exact hr.len
  have hlen' : k ≤ 9223372036854775807 := by rw [hk]; exact hs.len
  clear hn hk hb
  by_cases hnk : n = k
  · subst hnk
    go_enter Try.func20, Try.ntmps20
    go_wp2_with fail
    go_loopg [5] n (fun g s5 wx => ∃ i : Nat, i + g = n ∧ s5 = .int .i64 i ∧ Hid (∀ j, j < i → l[j]? = m[j]?) ∧ Below w.heap.size w wx)
    case atStart => exact ⟨0, by omega, rfl, Lib.hid (fun j hj => by omega), Below.refl _ _⟩
    case round =>
      obtain ⟨i, hi, rfl, HA, hwx⟩ := hrel
      cases gk with
      | zero =>
        obtain rfl : i = n := by omega
        have hb : b = true := by
          rw [← HB.out, decide_eq_true_eq]
          refine List.ext_getElem? fun j => ?_
          by_cases hj : j < i
          · exact HA.out j hj
          · rw [List.getElem?_eq_none (by have := HN.out; omega), List.getElem?_eq_none (by have := HK.out; omega)]
        subst hb
        go_wp2_with fail
        go_ret
        exact ⟨rfl, hwx⟩
      | succ g =>
        have hlt : i < n := by omega
        have hltz : (i : Int) < (n : Int) := by omega
        obtain ⟨bk, off, rfl, hbk, hc⟩ := (hr.below hwx).all (by have := HN.out; omega)
        obtain ⟨bk2, off2, rfl, hbk2, hd⟩ := (hs.below hwx).all (by have := HK.out; omega)
        obtain ⟨N, V, hp⟩ := ex_at (l := l) (k := i) (by have := HN.out; omega)
        obtain ⟨M, U, hq⟩ := ex_at (l := m) (k := i) (by have := HK.out; omega)
        obtain ⟨c0, c1⟩ := hc _ _ hp
        obtain ⟨d0, d1⟩ := hd _ _ hq
        have HP := Lib.hid hp
        have HQ := Lib.hid hq
        clear hc hd hp hq hr hs
        have hbk' : bk < wr.heap.size := by have := hwx.size; omega
        have hbk2' : bk2 < wr.heap.size := by have := hwx.size; omega
        have hgp := guard_pair
        by_cases he : N = M ∧ V = U
        · have hne : ∀ w, (binOp .neq 38 (.agg #[.string N, .string V]) (.agg #[.string M, .string U])).run Try.prog w = .ok (.bool false) w := fun w => by
            rw [neq_pair]; simp [he]
          have HA' : Hid (∀ j, j < i + 1 → l[j]? = m[j]?) := Lib.hid (fun j hj => by
            by_cases e : j = i
            · subst e; rw [HP.out, HQ.out, he.1, he.2]
            · exact HA.out j (by omega))
          clear he
          go_wp2_with fail
          go_quiet (fail)
          go_wp2_with fail
          go_roundg g
          case measure => omega
          case rel => exact ⟨i + 1, by omega, by simp, HA', below_on hwx (below_drewN _ _)⟩
        · have hne : ∀ w, (binOp .neq 38 (.agg #[.string N, .string V]) (.agg #[.string M, .string U])).run Try.prog w = .ok (.bool true) w := fun w => by
            rw [neq_pair]; simp [he]
          have hb : b = false := by
            rw [← HB.out]
            simp only [decide_eq_false_iff_not]
            intro e
            have := HP.out
            rw [e, HQ.out] at this
            cases this
            exact he ⟨rfl, rfl⟩
          subst hb
          clear he
          go_wp2_with fail
          go_quiet (fail)
          go_wp2_with fail
          go_ret
          exact ⟨rfl, below_on hwx (below_drewN _ _)⟩
  · have hnz : ((n : Int) == (k : Int)) = false := by simp; omega
    have hb : b = false := by
      rw [← HB.out]
      simp only [decide_eq_false_iff_not]
      intro e
      rw [HN.out, HK.out, e] at hnk
      exact hnk rfl
    subst hb
    go_enter Try.func20, Try.ntmps20
    go_wp2_with fail
    go_ret
    exact ⟨rfl, Below.refl _ _⟩

/-! ### the order of texts -/
theorem order_of (a b : ByteArray) (z : Int) (hz : cmpT a b = z) (w : World) :
    Calls Try.prog 47 #[.string a, .string b] w fun e w' => e = .returned (.int .i64 z) ∧ w' = w := by
  have HZ := Lib.hid hz
  clear hz
  cases h1 : Op.bytesLess a.toList b.toList with
  | true =>
    have hz : z = -1 := by rw [← HZ.out]; unfold cmpT blt; rw [h1]; rfl
    subst hz
    go_enter Try.func47, Try.ntmps47
    go_wp2_with fail
    go_ret
    exact ⟨rfl, rfl⟩
  | false =>
    by_cases he : a = b
    · have hz : z = 0 := by rw [← HZ.out, he]; exact cmpT_self b
      subst hz
      subst he
      go_enter Try.func47, Try.ntmps47
      go_wp2_with fail
      go_ret
      exact ⟨rfl, rfl⟩
    · have heb := beq_no he
      have hz : z = 1 := by
        rw [← HZ.out]
        unfold cmpT
        have h2 : blt a b = false := h1
        rcases blt_total a b with h | h | h
        · rw [h2] at h; cases h
        · exact absurd h he
        · rw [h2, h]; rfl
      subst hz
      clear he
      go_enter Try.func47, Try.ntmps47
      go_wp2_with fail
      go_ret
      exact ⟨rfl, rfl⟩

/-! ### the order of labels -/
theorem again_same {P : Program} {f : FuncId} {args : Array Value} {w : World} {a n : Nat} {v : Value}
    (h : Calls P f args (w.drewN (a + n)) fun e w' => e = .returned v ∧ w' = w.drewN (a + n)) : Calls P f args (w.drewN (a + n)) fun e w'' => e = .returned v ∧ ∃ m, w'' = w.drewN (a + m) :=
  h.mono fun _ _ ⟨he, hm⟩ => ⟨he, n, hm⟩
theorem cmp_step {x y : List Pr} {i : Nat} {p q : Pr} (hp : x[i]? = some p) (hq : y[i]? = some q) :
    cmpL (x.drop i) (y.drop i) = if cmpP p q = 0 then cmpL (x.drop (i + 1)) (y.drop (i + 1)) else cmpP p q := by
  obtain ⟨h1, rfl⟩ := List.getElem?_eq_some_iff.1 hp
  obtain ⟨h2, rfl⟩ := List.getElem?_eq_some_iff.1 hq
  rw [List.drop_eq_getElem_cons h1, List.drop_eq_getElem_cons h2]
  rfl
theorem cmp_end {x y : List Pr} {i : Nat} (h : x.length ≤ i ∨ y.length ≤ i) (h1 : i ≤ x.length) (h2 : i ≤ y.length) :
    cmpL (x.drop i) (y.drop i) = if x.length < y.length then -1 else if y.length < x.length then 1 else 0 := by
  by_cases e1 : x.length ≤ i
  · have : x.drop i = [] := List.drop_eq_nil_of_le e1
    rw [this]
    by_cases e2 : y.length ≤ i
    · rw [List.drop_eq_nil_of_le e2, if_neg (by omega), if_neg (by omega)]; rfl
    · rw [if_pos (by omega)]
      cases hd : y.drop i with
      | nil => have := congrArg List.length hd; simp at this; omega
      | cons a r => rfl
  · have e2 : y.length ≤ i := by omega
    rw [List.drop_eq_nil_of_le e2, if_neg (by omega), if_pos (by omega)]
    cases hd : x.drop i with
    | nil => have := congrArg List.length hd; simp at this; omega
    | cons a r => rfl

set_option maxHeartbeats 3200000 in
theorem rcompare_of (A B : Option Addr) (c d n k : Nat) (l m : List Pr) (hn : n = l.length) (hk : k = m.length) (z : Int) (hz : cmpL (asL l) (asL m) = z) (w : World) (hr : Rd w w.heap.size A l) (hs : Rd w w.heap.size B m) :
    Calls Try.prog 28 #[.slice A n c, .slice B k d] w fun e w' => e = .returned (.int .i64 z) ∧ Below w.heap.size w w' := by
  have HN := Lib.hid hn
  have HK := Lib.hid hk
  have HZ := Lib.hid hz
  clear hn hk hz
  go_enter Try.func28, Try.ntmps28
  go_wp2_with fail
  refine (as_of A c n l HN.out _ hr).mono ?_
  rintro e w1 ⟨A', c', rfl, hr1, hw1⟩
  go_wp2_with fail
  refine (as_of B d k m HK.out _ (hs.on hw1)).mono ?_
  rintro e w2 ⟨B', d', rfl, hs2, hw2⟩
  have hr2 := hr1.out.on hw2
  have hs2 := hs2.out
  have hw12 := below_on hw1 hw2
  clear hr hs hr1 hw1 hw2 HN HK
  generalize asL l = x at HZ hr2
  generalize asL m = y at HZ hs2
  obtain ⟨n, hn⟩ : ∃ n, x.length = n := ⟨_, rfl⟩
  obtain ⟨k, hk⟩ : ∃ k, y.length = k := ⟨_, rfl⟩
  have hlen := hr2.len
  have hlen' := hs2.len
  rw [hn] at hlen ⊢
  rw [hk] at hlen' ⊢
  have HN := Lib.hid hn
  have HK := Lib.hid hk
  clear hn hk
  go_wp2_with fail
  go_loopg [7, 8] (n + 1) (fun g s7 _ wx => ∃ i : Nat, i + g = n + 1 ∧ i ≤ n ∧ i ≤ k ∧ s7 = .int .i64 i ∧ Hid (cmpL (x.drop i) (y.drop i) = z) ∧ Below w2.heap.size w2 wx)
  case atStart => exact ⟨0, by omega, by omega, by omega, rfl, Lib.hid (by simpa using HZ.out), Below.refl _ _⟩
  case round =>
    obtain ⟨i, hi, hin, hik, rfl, HA, hwx⟩ := hrel
    by_cases hlt : i < n
    · by_cases hlt2 : i < k
      · have hltz : (i : Int) < (n : Int) := by omega
        have hltz2 : (i : Int) < (k : Int) := by omega
        obtain ⟨bk, off, rfl, hbk, hc⟩ := (hr2.below hwx).all (by have := HN.out; omega)
        obtain ⟨bk2, off2, rfl, hbk2, hd⟩ := (hs2.below hwx).all (by have := HK.out; omega)
        obtain ⟨N, V, hp⟩ := ex_at (l := x) (k := i) (by have := HN.out; omega)
        obtain ⟨M, U, hq⟩ := ex_at (l := y) (k := i) (by have := HK.out; omega)
        obtain ⟨c0, c1⟩ := hc _ _ hp
        obtain ⟨d0, d1⟩ := hd _ _ hq
        have HS := Lib.hid (cmp_step hp hq)
        clear hc hd hp hq hr2 hs2
        have hbk' : bk < wr.heap.size := by have := hwx.size; omega
        have hbk2' : bk2 < wr.heap.size := by have := hwx.size; omega
        obtain ⟨g, rfl⟩ : ∃ g, gk = g + 1 := ⟨gk - 1, by omega⟩
        by_cases h0 : cmpT N M = 0
        · by_cases h1 : cmpT V U = 0
          · have HA' : Hid (cmpL (x.drop (i + 1)) (y.drop (i + 1)) = z) := Lib.hid (by
              rw [← HA.out, HS.out, if_pos]
              unfold cmpP
              rw [if_pos h0, h1])
            have H0 := Lib.hid h0
            have H1 := Lib.hid h1
            clear h0 h1
            go_wp2_with fail
            go_quiet ((go_at_call 47; exact Calls.quiet_of_same (order_of N M 0 H0.out _)))
            go_wp2_with fail
            go_quiet ((go_at_call 47; exact again_same (order_of V U 0 H1.out _)))
            go_wp2_with fail
            go_roundg g
            case measure => omega
            case rel => exact ⟨i + 1, by omega, by omega, by omega, by simp, HA', below_on hwx (below_drewN _ _)⟩
          · obtain ⟨cn, hcn⟩ : ∃ cn, cmpT V U = cn := ⟨_, rfl⟩
            have hz : z = cn := by
              rw [← HA.out, HS.out, if_neg]
              · unfold cmpP; rw [if_pos h0, hcn]
              · unfold cmpP; rw [if_pos h0]; exact h1
            subst hz
            have hne : (z == 0) = false := by rw [← hcn]; simpa using h1
            have hne' : (z != 0) = true := by simp only [bne, hne]; rfl
            have H0 := Lib.hid h0
            have H1 := Lib.hid hcn
            clear h0 h1 hcn
            go_wp2_with fail
            go_quiet ((go_at_call 47; exact Calls.quiet_of_same (order_of N M 0 H0.out _)))
            go_wp2_with fail
            go_quiet ((go_at_call 47; exact again_same (order_of V U z H1.out _)))
            go_wp2_with fail
            go_ret
            exact ⟨rfl, below_on hw12 (below_on hwx (below_drewN _ _))⟩
        · obtain ⟨cn, hcn⟩ : ∃ cn, cmpT N M = cn := ⟨_, rfl⟩
          have hz : z = cn := by
            rw [← HA.out, HS.out, if_neg]
            · unfold cmpP; rw [if_neg h0, hcn]
            · unfold cmpP; rw [if_neg h0]; exact h0
          subst hz
          have hne : (z == 0) = false := by rw [← hcn]; simpa using h0
          have hne' : (z != 0) = true := by simp only [bne, hne]; rfl
          have H0 := Lib.hid hcn
          clear h0 hcn
          go_wp2_with fail
          go_quiet ((go_at_call 47; exact Calls.quiet_of_same (order_of N M z H0.out _)))
          go_wp2_with fail
          go_ret
          exact ⟨rfl, below_on hw12 (below_on hwx (below_drewN _ _))⟩
      · have hltz : (i : Int) < (n : Int) := by omega
        have hlt2z : ¬ (i : Int) < (k : Int) := by omega
        have hb2 : decide ((i : Int) < (k : Int)) = false := by simpa using hlt2z
        have hz : z = 1 := by
          rw [← HA.out, cmp_end (by have := HK.out; omega) (by have := HN.out; omega) (by have := HK.out; omega), HN.out, HK.out, if_neg (by omega), if_pos (by omega)]
        subst hz
        have hkn : (k : Int) < (n : Int) := by omega
        go_wp2_with fail
        go_ret
        exact ⟨rfl, below_on hw12 hwx⟩
    · obtain rfl : i = n := by omega
      by_cases hk : i < k
      · have hz : z = -1 := by
          rw [← HA.out, cmp_end (by have := HN.out; omega) (by have := HN.out; omega) (by have := HK.out; omega), HN.out, HK.out, if_pos hk]
        subst hz
        have hkn : (i : Int) < (k : Int) := by omega
        go_wp2_with fail
        go_ret
        exact ⟨rfl, below_on hw12 hwx⟩
      · have hz : z = 0 := by
          rw [← HA.out, cmp_end (by have := HN.out; omega) (by have := HN.out; omega) (by have := HK.out; omega), HN.out, HK.out, if_neg (by omega), if_neg (by omega)]
        subst hz
        have hkn : ¬ (i : Int) < (k : Int) := by omega
        have hkn2 : ¬ (k : Int) < (i : Int) := by omega
        go_wp2_with fail
        go_ret
        exact ⟨rfl, below_on hw12 hwx⟩
end Go.Proofs.Ythknoanhljonoaa

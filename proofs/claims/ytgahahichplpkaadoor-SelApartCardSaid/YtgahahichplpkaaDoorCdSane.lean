/-
  The walks of label.tooLarge, anyMisnamed, Sane, orNone.
-/
import Derived.Test.YtgahahichplpkaaDoorCdName
import Derived.Test.YtgahahichplpkaaDoorShelfG
import Derived.Shelf.SlicesQ.IndexFunc
namespace Go.Proofs.YtgahahichplpkaaDoor
open Go.RowKit Go.Proofs.YtgahahichplpkaaDoor.Lp

/-! ### a predicate on pairs handed to slices.ContainsFunc -/
theorem contains_none (A : Option Addr) (c : Nat) (v : Value) (w : World) :
    Calls Tryd.prog 64 #[.slice A 0 c, v] w fun e w' => e = .returned (.bool false) ∧ w = w' := by
  have h0 : ∀ W : World, Calls Tryd.prog 79 #[.slice A 0 c, v] W fun e w' => e = .returned (.int .i64 (-1)) ∧ W = w' := by
    intro W
    go_enter Tryd.func79, Tryd.ntmps79
    go_wp2
    go_loopg [5, 8] 1 (fun _ _ s8 wx => s8 = .int .i64 0 ∧ wx = W)
    case atStart => exact ⟨rfl, rfl⟩
    case round =>
      obtain ⟨rfl, rfl⟩ := hrel
      go_wp2
      go_ret
      exact ⟨rfl, rfl⟩
  go_enter Tryd.func64, Tryd.ntmps64
  go_wp2_with (go_at_call 79; refine (h0 _).mono ?_; rintro e w' ⟨rfl, rfl⟩)
  go_ret
  exact ⟨rfl, rfl⟩
theorem contains_any (g : Nat) (p : Pr → Bool) (eg : ∀ args w, (callFunc g args).run Tryd.prog w = .ok (.enter g args) w) (A : Option Addr) (c n : Nat) (l : List Pr) (hn : n = l.length) (w : World) (hr : Rd w w.heap.size A l)
    (hp : PredBelow Tryd.prog g #[] (fun x : Pr => .agg (enc x).toArray) p w) :
    Calls Tryd.prog 64 #[.slice A n c, .func (.func g) #[] #[]] w fun e w' => e = .returned (.bool (l.any p)) ∧ Below w.heap.size w w' := by
  subst hn
  by_cases hl : l = []
  · subst hl
    refine (contains_none A c _ w).mono ?_
    rintro e w' ⟨rfl, rfl⟩
    exact ⟨rfl, Below.refl _ _⟩
  · obtain ⟨b, off, rfl, hb, hc⟩ := hr.mem hl
    have := AnyQ.slices_ContainsFunc Tryd.containsG 2 Tryd.isAgg48 Tryd.sizeOf48 enc (fun _ => rfl) p g #[] eg b off l.length c l w hp (Nat.le_refl _) hr.len hb (by
      intro j hj i v hv
      refine hc (j * 2 + i) v ?_ |> fun h => by rw [← Nat.add_assoc] at h; exact h
      obtain ⟨h0, h1⟩ := cells_at l j hj
      rw [getElem!_pos l j hj] at hv
      match i, hv with
      | 0, hv => rw [← hv]; exact h0
      | 1, hv => rw [← hv]; exact h1)
    rw [List.take_length] at this
    exact this

theorem big_pred (w : World) : PredBelow Tryd.prog 65 #[] (fun x : Pr => .agg (enc x).toArray) bigV w := by
  rintro W ⟨N, V⟩ hb
  show Calls Tryd.prog 65 #[.agg #[.string N, .string V]] W _
  by_cases h : 64 < V.size
  · have hB : bigV (N, V) = true := by simp [bigV, h]
    rw [hB]
    clear hB
    go_enter Tryd.func65, Tryd.ntmps65
    go_wp2
    go_ret
    exact ⟨ret_bool (by simp; omega), hb.alloc hb.size _⟩
  · have hB : bigV (N, V) = false := by simp [bigV]; omega
    rw [hB]
    clear hB
    go_enter Tryd.func65, Tryd.ntmps65
    go_wp2
    go_ret
    exact ⟨ret_bool (by simp; omega), hb.alloc hb.size _⟩
theorem bad_pred (w : World) : PredBelow Tryd.prog 66 #[] (fun x : Pr => .agg (enc x).toArray) badN w := by
  rintro W ⟨N, V⟩ hb
  show Calls Tryd.prog 66 #[.agg #[.string N, .string V]] W _
  unfold badN
  obtain ⟨b, hB⟩ : ∃ b, nameB N = b := ⟨_, rfl⟩
  have HB := Lib.hid hB
  show Calls _ _ _ _ fun e w' => e = .returned (.bool (!nameB N)) ∧ _
  rw [hB]
  clear hB
  go_enter Tryd.func66, Tryd.ntmps66
  go_wp2_with (go_at_call 31; refine (name_of N b HB.out _).mono ?_; rintro e w' ⟨rfl, rfl⟩)
  go_ret
  exact ⟨rfl, hb.alloc hb.size _⟩
theorem eg49 : ∀ args w, (callFunc 65 args).run Tryd.prog w = .ok (.enter 65 args) w := enters_of Tryd.func65 (by kernel_rfl) rfl
theorem eg50 : ∀ args w, (callFunc 66 args).run Tryd.prog w = .ok (.enter 66 args) w := enters_of Tryd.func66 (by kernel_rfl) rfl

theorem large_of (A : Option Addr) (c n : Nat) (l : List Pr) (hn : n = l.length) (b : Bool) (hb : large l = b) (w : World) (hr : Rd w w.heap.size A l) :
    Calls Tryd.prog 45 #[.slice A n c] w fun e w' => e = .returned (.bool b) ∧ Below w.heap.size w w' := by
  have HB := Lib.hid hb
  clear hb
  have hc := contains_any 65 bigV eg49 A c n l hn w hr (big_pred w)
  by_cases h16 : 16 < n
  · have hb : b = true := by rw [← HB.out]; unfold large; simp [← hn, h16]
    subst hb
    clear hc hn
    go_enter Tryd.func45, Tryd.ntmps45
    go_wp2
    go_ret
    exact ⟨rfl, Below.refl _ _⟩
  · have hb : l.any bigV = b := by rw [← HB.out]; unfold large; simp [← hn, h16]
    rw [hb] at hc
    have hz : decide ((16 : Int) < (n : Int)) = false := by simp; omega
    clear hb hn
    go_enter Tryd.func45, Tryd.ntmps45
    go_wp2_with (go_at_call 64; refine hc.mono ?_; rintro e w' ⟨rfl, hw⟩)
    go_ret
    exact ⟨rfl, hw⟩
theorem misn_of (A : Option Addr) (c n : Nat) (l : List Pr) (hn : n = l.length) (b : Bool) (hb : misn l = b) (w : World) (hr : Rd w w.heap.size A l) :
    Calls Tryd.prog 46 #[.slice A n c] w fun e w' => e = .returned (.bool b) ∧ Below w.heap.size w w' := by
  have hc := contains_any 66 badN eg50 A c n l hn w hr (bad_pred w)
  rw [show l.any badN = b from hb] at hc
  clear hb hn
  go_enter Tryd.func46, Tryd.ntmps46
  go_wp2_with (go_at_call 64; refine hc.mono ?_; rintro e w' ⟨rfl, hw⟩)
  go_ret
  exact ⟨rfl, hw⟩

theorem rising_at : ∀ (l : List Pr), rising l = true ↔ ∀ i p q, l[i]? = some p → l[i + 1]? = some q → blt p.1 q.1 = true
  | [] => by simp [rising]
  | [x] => by simp [rising]
  | x :: y :: r => by
    have ih := rising_at (y :: r)
    unfold rising
    rw [Bool.and_eq_true, ih]
    constructor
    · rintro ⟨h0, h⟩ i p q hp hq
      cases i with
      | zero =>
        simp at hp hq
        subst hp hq
        exact h0
      | succ i => exact h i p q (by simpa using hp) (by simpa using hq)
    · intro h
      exact ⟨h 0 x y rfl rfl, fun i p q hp hq => h (i + 1) p q (by simpa using hp) (by simpa using hq)⟩
theorem ex_at {l : List Pr} {k : Nat} (h : k < l.length) : ∃ N V, l[k]? = some (N, V) := ⟨_, _, List.getElem?_eq_getElem h⟩

set_option maxHeartbeats 1600000 in
theorem sane_of (A : Option Addr) (c n : Nat) (l : List Pr) (hn : n = l.length) (b : Bool) (hb : saneB l = b) (w : World) (hr : Rd w w.heap.size A l) :
    Calls Tryd.prog 22 #[.slice A n c] w fun e w' => e = .returned (.bool b) ∧ Below w.heap.size w w' := by
  have HB := Lib.hid hb
  have HN := Lib.hid hn
  have hlen : n ≤ 9223372036854775807 := by rw [hn]; exact hr.len
  clear hb hn
  cases h1 : large l with
  | true =>
    have hb : b = false := by rw [← HB.out]; unfold saneB; rw [h1]; rfl
    subst hb
    go_enter Tryd.func22, Tryd.ntmps22
    go_wp2_with (go_at_call 45; refine (large_of A c n l HN.out true h1 _ hr).mono ?_; rintro e w1 ⟨rfl, hw1⟩)
    go_ret
    exact ⟨rfl, hw1⟩
  | false =>
    cases h2 : misn l with
    | true =>
      have hb : b = false := by rw [← HB.out]; unfold saneB; rw [h2]; simp
      subst hb
      go_enter Tryd.func22, Tryd.ntmps22
      go_wp2_with fail
      refine (large_of A c n l HN.out false h1 _ hr).mono ?_
      rintro e w1 ⟨rfl, hw1⟩
      go_wp2_with fail
      refine (misn_of A c n l HN.out true h2 _ (hr.on hw1)).mono ?_
      rintro e w2 ⟨rfl, hw2⟩
      go_wp2_with fail
      go_ret
      exact ⟨rfl, below_on hw1 hw2⟩
    | false =>
      have HR : Hid (saneB l = rising l) := Lib.hid (by unfold saneB; rw [h1, h2]; simp)
      go_enter Tryd.func22, Tryd.ntmps22
      go_wp2_with fail
      refine (large_of A c n l HN.out false h1 _ hr).mono ?_
      rintro e w1 ⟨rfl, hw1⟩
      go_wp2_with fail
      refine (misn_of A c n l HN.out false h2 _ (hr.on hw1)).mono ?_
      rintro e w2 ⟨rfl, hw2⟩
      have hw12 := below_on hw1 hw2
      clear h1 h2 hw1 hw2
      go_wp2_with fail
      go_loopg [3] n (fun g s3 wx => ∃ j : Nat, s3 = .int .i64 ((j : Int) + 1) ∧ n ≤ j + 1 + g ∧ (j + 1 ≤ n ∨ j = 0) ∧ Hid (∀ i p q, i < j → l[i]? = some p → l[i + 1]? = some q → blt p.1 q.1 = true) ∧ Below w.heap.size w wx)
      case atStart => exact ⟨0, by simp, by omega, .inr rfl, Lib.hid (fun i _ _ hi => by omega), hw12⟩
      case round =>
        obtain ⟨j, rfl, hg, hj, HA, hwx⟩ := hrel
        by_cases hlt : j + 1 < n
        · have hltz : (j : Int) + 1 < (n : Int) := by omega
          obtain ⟨bk, off, rfl, hbk, hc⟩ := (hr.below hwx).all (by have := HN.out; omega)
          obtain ⟨N0, V0, hp0⟩ := ex_at (l := l) (k := j) (by have := HN.out; omega)
          obtain ⟨N1, V1, hp1⟩ := ex_at (l := l) (k := j + 1) (by have := HN.out; omega)
          have c0 := (hc _ _ hp0).1
          have c1 := (hc _ _ hp1).1
          have HP0 := Lib.hid hp0
          have HP1 := Lib.hid hp1
          clear hc hp0 hp1
          have hbk' : bk < wr.heap.size := by have := hwx.size; omega
          cases hlss : Op.bytesLess N0.toList N1.toList with
          | true =>
            have HA' : Hid (∀ i p q, i < j + 1 → l[i]? = some p → l[i + 1]? = some q → blt p.1 q.1 = true) := Lib.hid (by
              intro i p q hi hp hq
              by_cases e : i = j
              · subst e
                rw [HP0.out] at hp
                rw [HP1.out] at hq
                cases hp; cases hq
                exact hlss
              · exact HA.out i p q (by omega) hp hq)
            go_wp2_with fail
            go_quiet (fail)
            go_wp2_with fail
            go_roundg (n - (j + 2))
            case measure => omega
            case rel => exact ⟨j + 1, by simp, by omega, by omega, HA', below_on hwx (below_drewN _ _)⟩
          | false =>
            have hb : b = false := by
              rw [← HB.out, HR.out]
              cases hr : rising l with
              | false => rfl
              | true =>
                have := (rising_at l).1 hr j _ _ HP0.out HP1.out
                unfold blt at this
                rw [hlss] at this; cases this
            subst hb
            go_wp2_with fail
            go_quiet (fail)
            go_wp2_with fail
            go_ret
            exact ⟨rfl, below_on hwx (below_drewN _ _)⟩
        · have hltz : ¬ (j : Int) + 1 < (n : Int) := by omega
          have hb : b = true := by
            rw [← HB.out, HR.out, rising_at]
            intro i p q hp hq
            refine HA.out i p q ?_ hp hq
            have := (List.getElem?_eq_some_iff.1 hq).1
            have := HN.out
            omega
          subst hb
          go_wp2_with fail
          go_ret
          exact ⟨rfl, hwx⟩

end Go.Proofs.YtgahahichplpkaaDoor

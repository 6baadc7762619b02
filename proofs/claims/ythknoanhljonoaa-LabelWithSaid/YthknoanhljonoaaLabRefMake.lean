/-
  The walks of the document's wrong, Make.
-/
import Derived.Test.YthknoanhljonoaaLabRefGet
import Derived.Test.YthknoanhljonoaaLabMake
namespace Go.Proofs.Ythknoanhljonoaa
open Go.RowKit Go.Maps Go.Proofs.Ythknoanhljonoaa.Lp

theorem nodup_at (l : List Pr) : (nms l).Nodup ↔ ∀ (a b : Nat) (p q : Pr), a < b → l[a]? = some p → l[b]? = some q → p.1 ≠ q.1 := by
  unfold nms
  rw [List.nodup_iff_pairwise_ne, List.pairwise_map, List.pairwise_iff_getElem]
  constructor
  · intro h a b p q hab hp hq
    obtain ⟨h1, rfl⟩ := List.getElem?_eq_some_iff.1 hp
    obtain ⟨h2, rfl⟩ := List.getElem?_eq_some_iff.1 hq
    exact h a b h1 h2 hab
  · intro h a b h1 h2 hab
    exact h a b _ _ hab (List.getElem?_eq_getElem h1) (List.getElem?_eq_getElem h2)
theorem any_no {l : List Pr} {f : Pr → Bool} (h : ∀ (j : Nat) (p : Pr), l[j]? = some p → f p = false) : l.any f = false := by
  rw [List.any_eq_false]
  intro p hp
  obtain ⟨j, hj, rfl⟩ := List.mem_iff_getElem.1 hp
  rw [h j _ (List.getElem?_eq_getElem hj)]
  simp
theorem any_yes {l : List Pr} {f : Pr → Bool} {j : Nat} {p : Pr} (hp : l[j]? = some p) (h : f p = true) : l.any f = true := List.any_eq_true.2 ⟨p, List.mem_of_getElem? hp, h⟩

set_option maxHeartbeats 6400000 in
theorem rwrong_of (A : Option Addr) (c n : Nat) (l : List Pr) (hn : n = l.length) (z : Int) (hz : wrong l = z) (w : World) (hr : Rd w w.heap.size A l) :
    Calls Try.prog 36 #[.slice A n c] w fun e w' => e = .returned (.int .i64 z) ∧ Below w.heap.size w w' := by
  have HN := Lib.hid hn
  have HZ := Lib.hid hz
  have hlen : n ≤ 9223372036854775807 := by rw [hn]; exact hr.len
  clear hn hz
  by_cases h16 : n ≤ 16
  · have hl16 : Hid (l.length ≤ 16) := Lib.hid (by have := HN.out; omega)
    go_enter Try.func36, Try.ntmps36
    go_wp2_with fail
    go_loopg [3] n (fun g s3 wx => ∃ i : Nat, i + g = n ∧ s3 = .int .i64 i ∧ Hid (∀ (j : Nat) (p : Pr), j < i → l[j]? = some p → bigV p = false) ∧ wx = w)
    case atStart => exact ⟨0, by omega, rfl, Lib.hid (fun j _ hj => by omega), rfl⟩
    case round =>
      obtain ⟨i, hi, rfl, HA, rfl⟩ := hrel
      cases gk with
      | succ g =>
        have hltz : (i : Int) < (n : Int) := by omega
        obtain ⟨bk, off, rfl, hbk, hc⟩ := hr.all (by have := HN.out; omega)
        obtain ⟨N, V, hp⟩ := ex_at (l := l) (k := i) (by have := HN.out; omega)
        obtain ⟨c0, c1⟩ := hc _ _ hp
        have HP := Lib.hid hp
        clear hc hp hr
        by_cases hv : 64 < V.size
        · have hz : z = 4 := by
            rw [← HZ.out]
            unfold wrong large
            rw [any_yes HP.out (show bigV (N, V) = true by simp [bigV, hv])]
            simp
          have hvz : (64 : Int) < (V.size : Int) := by omega
          subst hz
          go_wp2_with fail
          go_ret
          exact ⟨rfl, Below.refl _ _⟩
        · have hvz : ¬ (64 : Int) < (V.size : Int) := by omega
          have HA' : Hid (∀ (j : Nat) (p : Pr), j < i + 1 → l[j]? = some p → bigV p = false) := Lib.hid (fun j p hj hp => by
            by_cases e : j = i
            · subst e; rw [HP.out] at hp; cases hp; simp [bigV]; omega
            · exact HA.out j p (by omega) hp)
          go_wp2_with fail
          go_roundg g
          case measure => omega
          case rel => exact ⟨i + 1, by omega, by simp, HA', rfl⟩
      | zero =>
        obtain rfl : i = n := by omega
        have HL : Hid (large l = false) := Lib.hid (by
          rw [large_iff]
          refine ⟨hl16.out, any_no fun j p hp => HA.out j p ?_ hp⟩
          have := (List.getElem?_eq_some_iff.1 hp).1
          have := HN.out
          omega)
        clear HA hi
        obtain ⟨w, rfl⟩ : ∃ w0 : World, w0 = wr := ⟨_, rfl⟩
        go_wp2_with fail
        go_loopg [4] i (fun g s4 wx => ∃ j : Nat, j + g = i ∧ s4 = .int .i64 j ∧ Hid (∀ (a : Nat) (p : Pr), a < j → l[a]? = some p → badN p = false) ∧ wx = w)
        case atStart => exact ⟨0, by omega, rfl, Lib.hid (fun j _ hj => by omega), rfl⟩
        case round =>
          obtain ⟨j, hj, rfl, HB, rfl⟩ := hrel
          cases gk with
          | succ g =>
            have hltz : (j : Int) < (i : Int) := by omega
            obtain ⟨bk, off, rfl, hbk, hc⟩ := hr.all (by have := HN.out; omega)
            obtain ⟨N, V, hp⟩ := ex_at (l := l) (k := j) (by have := HN.out; omega)
            obtain ⟨c0, c1⟩ := hc _ _ hp
            have HP := Lib.hid hp
            have HSz := Lib.hid (hr.size _ (List.mem_of_getElem? hp)).1
            clear hc hp hr
            cases hnm : nameB N with
            | false =>
              have hz : z = 7 := by
                rw [← HZ.out]
                unfold wrong misn
                rw [HL.out, any_yes HP.out (show badN (N, V) = true by simp [badN, hnm])]
                simp
              subst hz
              go_wp2_with fail
              refine (rname_of N HSz.out false hnm _).mono ?_
              rintro e w2 ⟨rfl, rfl⟩
              go_wp2_with fail
              go_ret
              exact ⟨rfl, Below.refl _ _⟩
            | true =>
              have HB' : Hid (∀ (a : Nat) (p : Pr), a < j + 1 → l[a]? = some p → badN p = false) := Lib.hid (fun a p ha hp => by
                by_cases e : a = j
                · subst e; rw [HP.out] at hp; cases hp; simp [badN, hnm]
                · exact HB.out a p (by omega) hp)
              go_wp2_with fail
              refine (rname_of N HSz.out true hnm _).mono ?_
              rintro e w2 ⟨rfl, rfl⟩
              go_wp2_with fail
              go_roundg g
              case measure => omega
              case rel => exact ⟨j + 1, by omega, by simp, HB', rfl⟩
          | zero =>
            obtain rfl : j = i := by omega
            have HM : Hid (misn l = false) := Lib.hid (any_no fun a p hp => HB.out a p (by
              have := (List.getElem?_eq_some_iff.1 hp).1
              have := HN.out
              omega) hp)
            clear HB hj
            obtain ⟨w, rfl⟩ : ∃ w0 : World, w0 = wr := ⟨_, rfl⟩
            go_wp2_with fail
            go_loopg [5, 6] j (fun g s5 _ wx => ∃ i : Nat, i + g = j ∧ s5 = .int .i64 i ∧ Hid (∀ (a b : Nat) (p q : Pr), a < b → b < i → l[a]? = some p → l[b]? = some q → p.1 ≠ q.1) ∧ Below w.heap.size w wx)
            case atStart => exact ⟨0, by omega, rfl, Lib.hid (fun a b _ _ _ hb => by omega), Below.refl _ _⟩
            case round =>
              obtain ⟨i, hi, rfl, HD, hwx⟩ := hrel
              cases gk with
              | zero =>
                obtain rfl : i = j := by omega
                have hz : z = 0 := by
                  rw [← HZ.out]
                  refine wrong_of HL.out HM.out ((nodup_at l).2 fun a b p q hab hp hq => HD.out a b p q hab ?_ hp hq)
                  have := (List.getElem?_eq_some_iff.1 hq).1
                  have := HN.out
                  omega
                subst hz
                go_wp2_with fail
                go_ret
                exact ⟨rfl, hwx⟩
              | succ g =>
                have hlt : i < j := by omega
                have hltz : (i : Int) < (j : Int) := by omega
                obtain ⟨N, V, hp⟩ := ex_at (l := l) (k := i) (by have := HN.out; omega)
                have HP := Lib.hid hp
                clear hp
                obtain ⟨w3, rfl⟩ : ∃ w0 : World, w0 = wr := ⟨_, rfl⟩
                go_wp2_with fail
                go_loopg [6] i (fun g6 s6 wx => ∃ k : Nat, k + g6 = i ∧ s6 = .int .i64 k ∧ Hid (∀ (a : Nat) (p : Pr), a < k → l[a]? = some p → p.1 ≠ N) ∧ Below w.heap.size w wx)
                case atStart => exact ⟨0, by omega, rfl, Lib.hid (fun a _ ha => by omega), hwx⟩
                case round =>
                  obtain ⟨k, hk, rfl, HE, hwx2⟩ := hrel
                  cases gk with
                  | zero =>
                    obtain rfl : k = i := by omega
                    have HD' : Hid (∀ (a b : Nat) (p q : Pr), a < b → b < k + 1 → l[a]? = some p → l[b]? = some q → p.1 ≠ q.1) := Lib.hid (fun a b p q hab hb hp hq => by
                      by_cases e : b = k
                      · subst e
                        rw [HP.out] at hq
                        cases hq
                        exact HE.out a p hab hp
                      · exact HD.out a b p q hab (by omega) hp hq)
                    go_wp2_with fail
                    go_roundg g
                    case measure => omega
                    case rel => exact ⟨k + 1, by omega, by simp, HD', hwx2⟩
                  | succ g6 =>
                    have hkz : (k : Int) < (i : Int) := by omega
                    have hkj : (k : Int) < (j : Int) := by omega
                    obtain ⟨bk, off, rfl, hbk, hc⟩ := (hr.below hwx2).all (by have := HN.out; omega)
                    obtain ⟨M, U, hq⟩ := ex_at (l := l) (k := k) (by have := HN.out; omega)
                    have c0 := (hc _ _ HP.out).1
                    have d0 := (hc _ _ hq).1
                    have HQ := Lib.hid hq
                    have hbk' : bk < wr.heap.size := by have := hwx2.size; omega
                    clear hc hq hr
                    by_cases he : N = M
                    · have hz : z = 6 := by
                        rw [← HZ.out]
                        have ht : twice l = true := by
                          unfold twice
                          rw [Bool.not_eq_true', decide_eq_false_iff_not, nodup_at]
                          intro h
                          exact h k i _ _ (by omega) HQ.out HP.out he.symm
                        unfold wrong
                        rw [HL.out, HM.out, ht]
                        simp
                      subst hz
                      subst he
                      go_wp2_with fail
                      go_quiet (fail)
                      go_wp2_with fail
                      go_ret
                      exact ⟨rfl, below_on hwx2 (below_drewN _ _)⟩
                    · have heb := beq_no he
                      have HE' : Hid (∀ (a : Nat) (p : Pr), a < k + 1 → l[a]? = some p → p.1 ≠ N) := Lib.hid (fun a p ha hp => by
                        by_cases e : a = k
                        · subst e; rw [HQ.out] at hp; cases hp; exact fun e => he e.symm
                        · exact HE.out a p (by omega) hp)
                      clear he
                      go_wp2_with fail
                      go_quiet (fail)
                      go_wp2_with fail
                      go_roundg g6
                      case measure => omega
                      case rel => exact ⟨k + 1, by omega, by simp, HE', below_on hwx2 (below_drewN _ _)⟩
  · have hz : z = 4 := by
      rw [← HZ.out]
      have : large l = true := by
        unfold large
        have := HN.out
        simp; omega
      unfold wrong
      rw [this]; rfl
    have h16z : (16 : Int) < (n : Int) := by omega
    subst hz
    go_enter Try.func36, Try.ntmps36
    go_wp2_with fail
    go_ret
    exact ⟨rfl, Below.refl _ _⟩

/-! ### cut slices -/
theorem Rd.take {w : World} {B : Nat} {A : Option Addr} {l : List Pr} (h : Rd w B A l) (k : Nat) : Rd w B A (l.take k) := by
  refine ⟨by have := h.len; rw [List.length_take]; omega, fun p hp => h.size p (List.mem_of_mem_take hp), fun hn => ?_⟩
  obtain ⟨b, off, e, hb, hc⟩ := h.mem (fun e => hn (by rw [e]; simp))
  refine ⟨b, off, e, hb, fun j u hu => hc j u ?_⟩
  rw [cells_take] at hu
  rw [List.getElem?_take] at hu
  split at hu
  · exact hu
  · cases hu
theorem Rd.cut {w : World} {B : Nat} {A : Option Addr} {l : List Pr} (h : Rd w B A l) {k c : Nat} (hc : l.length ≤ c) : Rd w B (if c = k then A else A.map fun a => a.add (k * 2)) (l.drop k) := by
  refine ⟨by have := h.len; rw [List.length_drop]; omega, fun p hp => h.size p (List.mem_of_mem_drop hp), fun hn => ?_⟩
  have hk : k < l.length := by
    rcases Nat.lt_or_ge k l.length with h | h
    · exact h
    · exact absurd (List.drop_eq_nil_of_le h) hn
  obtain ⟨b, off, rfl, hb, hcc⟩ := h.mem (fun e => by subst e; simp at hk)
  rw [if_neg (by omega)]
  refine ⟨b, off + k * 2, by simp [Addr.add_lit], hb, fun j u hu => ?_⟩
  rw [cells_drop, List.getElem?_drop] at hu
  rw [Nat.add_assoc]
  exact hcc _ u hu
theorem Own.form {w : World} {base : Nat} {v : Value} {l : List Pr} (h : Own w base v l) : ∃ A c, v = .slice A l.length c ∧ l.length ≤ c ∧ c ≤ 9223372036854775807 := by
  rcases h.2 with ⟨rfl, h0⟩ | ⟨g, cap, cur, rfl, _, _, h1, h2, _⟩
  · obtain rfl : l = [] := List.length_eq_zero_iff.1 h0
    exact ⟨none, 0, rfl, by simp, by omega⟩
  · unfold maxLen at h2
    exact ⟨_, cap, rfl, h1, by omega⟩

theorem inss_len (l : List Pr) : (inss [] l).length = l.length := by rw [(inss_perm l []).length_eq]; rfl
theorem pos_step {out : List Pr} {n : ByteArray} {k : Nat} {p : Pr} (hp : out[k]? = some p) : pos out n (k + 1) = if blt n p.1 then pos out n k else k + 1 := by
  conv => lhs; unfold pos
  have : out.getD k default = p := by rw [List.getD_eq_getElem?_getD, hp]; rfl
  rw [this]

set_option maxHeartbeats 6400000 in
theorem rmake_of (A : Option Addr) (c n : Nat) (l : List Pr) (hn : n = l.length) (z : Int) (hz : wrong l = z) (w : World) (hr : Rd w w.heap.size A l) :
    Calls Try.prog 13 #[.slice A n c] w fun e w' => ∃ A' c', e = .returned (.tuple #[.slice A' (makeS l).length c', .int .i64 z]) ∧ Hid (Rd w' w'.heap.size A' (makeS l)) ∧ Below w.heap.size w w' := by
  have HN := Lib.hid hn
  have HZ := Lib.hid hz
  have hlen : n ≤ 9223372036854775807 := by rw [hn]; exact hr.len
  clear hn hz
  by_cases h0 : z = 0
  · have hw0 : wrong l = 0 := by rw [HZ.out, h0]
    have h16 : n ≤ 16 := by
      have := ((large_iff l).1 (wrong_zero hw0).1).1
      have := HN.out
      omega
    have HM : Hid (inss [] l = makeS l) := Lib.hid (inss_make hw0)
    subst h0
    go_enter Try.func13, Try.ntmps13
    go_wp2_with fail
    refine (rwrong_of A c n l HN.out 0 HZ.out _ hr).mono ?_
    rintro e w1 ⟨rfl, hw1⟩
    have hr1 := hr.on hw1
    clear hr hw0
    go_wp2_with fail
    go_loopg [5, 6, 7, 8] n (fun g s5 s6 _ _ wx => ∃ (i : Nat) (Ao : Option Addr) (co : Nat) (out : List Pr), i + g = n ∧ s6 = .int .i64 i ∧ s5 = .slice Ao i co ∧ i ≤ co ∧ co ≤ 9223372036854775807 ∧ Hid (out = inss [] (l.take i)) ∧ Hid (out.length = i) ∧ Hid (Rd wx wx.heap.size Ao out) ∧ Below w1.heap.size w1 wx)
    case atStart => exact ⟨0, none, 0, [], by omega, rfl, rfl, by omega, by omega, Lib.hid (by simp [inss]), Lib.hid rfl, Lib.hid (Rd.none_ _ _ _), Below.refl _ _⟩
    case round =>
      obtain ⟨i, Ao, co, out, hi, rfl, rfl, hco, hco2, HOut, HOl, HRo, hwx⟩ := hrel
      cases gk with
      | zero =>
        obtain rfl : i = n := by omega
        go_wp2_with fail
        go_ret2
        have e : out = makeS l := by
          rw [HOut.out, ← HM.out, List.take_of_length_le (by have := HN.out; omega)]
        rw [← e]
        refine ⟨Ao, co, ?_, HRo, below_on hw1 hwx⟩
        rw [HOl.out]; rfl
      | succ g =>
        have hlt : i < n := by omega
        have hltz : (i : Int) < (n : Int) := by omega
        obtain ⟨N, V, hp⟩ := ex_at (l := l) (k := i) (by have := HN.out; omega)
        have HP := Lib.hid hp
        have HSz := Lib.hid (hr1.size _ (List.mem_of_getElem? hp))
        have HT : Hid (inss [] (l.take (i + 1)) = ins out (N, V)) := Lib.hid (by
          obtain ⟨h1, h2⟩ := List.getElem?_eq_some_iff.1 hp
          rw [List.take_succ_eq_append_getElem h1, h2, inss_snoc, ← HOut.out])
        clear hp
        obtain ⟨w2, rfl⟩ : ∃ w0 : World, w0 = wr := ⟨_, rfl⟩
        go_wp2_with fail
        go_loopg [7] i (fun g7 s7 wx => ∃ k : Nat, k ≤ i ∧ k = g7 ∧ s7 = .int .i64 k ∧ Hid (pos out N k = pos out N i) ∧ Below w2.heap.size w2 wx)
        case atStart => exact ⟨i, by omega, rfl, rfl, Lib.hid rfl, Below.refl _ _⟩
        case round =>
          obtain ⟨k, hk, rfl, rfl, HPk, hwx2⟩ := hrel
          obtain ⟨bk, off, rfl, hbk, hc⟩ := hr1.all (by have := HN.out; omega)
          have C0 : Hid (∀ w', Below w1.heap.size w1 w' → w'.cell? ⟨bk, off + i * 2, none⟩ = some (.string N) ∧ w'.cell? ⟨bk, off + i * 2 + 1, none⟩ = some (.string V)) := Lib.hid (fun w' hb => by
            obtain ⟨h1, h2⟩ := hc _ _ HP.out
            exact ⟨(hb.cell (p := ⟨bk, off + i * 2, none⟩) hbk).trans h1, (hb.cell (p := ⟨bk, off + i * 2 + 1, none⟩) hbk).trans h2⟩)
          clear hc
          have HKk := Lib.hid hk
          by_cases hk0 : 0 < k
          · obtain ⟨bo, oo, rfl, hbo, ho⟩ := (HRo.out.below hwx2).all (by have := HOl.out; omega)
            obtain ⟨O, X, hq⟩ := ex_at (l := out) (k := k - 1) (by have := HOl.out; omega)
            have d0 := (ho _ _ hq).1
            obtain ⟨c0, c1⟩ := C0.out wr (below_on hwx hwx2)
            have HPs : Hid (pos out N k = if blt N O then pos out N (k - 1) else k) := Lib.hid (by
              have := pos_step (n := N) hq
              rwa [show k - 1 + 1 = k by omega] at this)
            have hbk' : bk < wr.heap.size := Nat.lt_of_lt_of_le hbk (below_on hwx hwx2).size
            have hbo' : bo < wr.heap.size := Nat.lt_of_lt_of_le hbo hwx2.size
            have hz0 : decide ((0 : Int) < (k : Int)) = true := by simp; omega
            clear ho hq
            cases hb : blt N O with
            | true =>
              have hlss : Op.bytesLess O.toList N.toList = false := blt_asymm hb
              have heq : (O.toList == N.toList) = false := beq_no (fun e => blt_ne hb e.symm)
              have HPk' : Hid (pos out N (k - 1) = pos out N i) := Lib.hid (by rw [← HPk.out, HPs.out, hb]; rfl)
              clear hb
              go_wp2_with fail
              go_quiet (fail)
              go_wp2_with fail
              go_roundg (k - 1)
              case measure => omega
              case rel => exact ⟨k - 1, by omega, rfl, by simp; omega, HPk', below_on hwx2 (below_drewN _ _)⟩
            | false =>
              have hor : (Op.bytesLess O.toList N.toList || O.toList == N.toList) = true := by
                rw [beq_tl]
                rcases blt_total O N with h | h | h
                · have h' : Op.bytesLess O.toList N.toList = true := h
                  rw [h']; rfl
                · simp [h]
                · rw [hb] at h; cases h
              have hor' : (!Op.bytesLess O.toList N.toList && !(O.toList == N.toList)) = false := by
                rw [← Bool.not_or, hor]; rfl
              have HPos : Hid (pos out N i = k) := Lib.hid (by rw [← HPk.out, HPs.out, hb]; rfl)
              clear hb
              go_wp2_with fail
              go_quiet (fail)
              generalize (some ({ block := bo, off := oo, spot := none } : Addr)) = Ao at HRo ⊢
              have hwq := below_on hwx2 (below_drewN wr nq)
              generalize wr.drewN nq = W at hwq ⊢
              have hW := below_on hwx hwq
              have HRW := Lib.hid (HRo.out.on hwq)
              have HTk : Hid (k = (out.take k).length) := Lib.hid (by rw [List.length_take]; have := HOl.out; omega)
              have HDk : Hid (i - k = (out.drop k).length) := Lib.hid (by rw [List.length_drop]; have := HOl.out; omega)
              have HIns : Hid (([] ++ out.take k ++ [(N, V)]) ++ out.drop k = ins out (N, V)) := Lib.hid (by
                unfold ins
                rw [HOl.out, HPos.out]
                simp)
              have hl1 : ([] : List Pr).length + (out.take k).length ≤ 1000000 := by have := HTk.out; simp only [List.length_nil]; omega
              have hl2 : ([] ++ out.take k : List Pr).length + [(N, V)].length ≤ 1000000 := by have := HTk.out; simp only [List.length_append, List.length_nil, List.length_singleton]; omega
              have hl3 : ([] ++ out.take k ++ [(N, V)] : List Pr).length + (out.drop k).length ≤ 1000000 := by have := HTk.out; have := HDk.out; simp only [List.length_append, List.length_nil, List.length_singleton]; omega
              have hkco : (k : Int) ≤ (co : Int) := by omega
              have hki : (k : Int) ≤ (i : Int) := by omega
              have tok1 : True := trivial
              have tok2 : True := trivial
              have tok3 : True := trivial
              go_wp2_with (first
                | (at_builtin; have _t := tok1; refine wp_app _ rfl _ _ rfl W.heap.size _ [] (out.take k) rfl (Own.nil _ _) Ao k co HTk.out rfl (HRW.out.take k) hl1 (Nat.le_refl _) ?_; intro v3 w3 hown3 hb3; clear tok1; obtain ⟨e0, e1⟩ := C0.out w3 (below_on hW hb3); have hlt3 : bk < w3.heap.size := Nat.lt_of_lt_of_le hbk (below_on hW hb3).size)
                | (at_builtin; have _t := tok2; refine wp_app _ rfl _ _ rfl W.heap.size v3 ([] ++ out.take k) [(N, V)] rfl (Own.alloc hown3 _) _ 1 _ rfl rfl (rd_new _ N V HSz.out.1 HSz.out.2 rfl) hl2 (by have := hb3.size; simp; omega) ?_; intro v4 w4 hown4 hb4; clear tok2; have hb34 := (hb3.alloc hb3.size _).trans hb4)
                | (at_builtin; have _t := tok3; refine wp_app _ rfl _ _ rfl W.heap.size v4 ([] ++ out.take k ++ [(N, V)]) (out.drop k) rfl hown4 _ (i - k) (co - k) HDk.out rfl ((HRW.out.on hb34).cut (by have := HOl.out; omega)) hl3 hb34.size ?_; intro v5 w5 hown5 hb5; clear tok3))
              all_goals
                rw [HIns.out, ← HT.out] at hown5
                obtain ⟨A5, c5, rfl, hc5, hc5'⟩ := Own.form hown5
                have hln : (inss [] (l.take (i + 1))).length = i + 1 := by rw [inss_len, List.length_take]; have := HN.out; omega
                have hrd5 := Own.rd hown5 (by rw [hln]; omega) (fun p hp => by
                  have hm := (inss_perm (l.take (i + 1)) []).mem_iff.1 hp
                  exact hr1.size p (List.mem_of_mem_take (by simpa using hm)))
                rw [hln] at hown5 hc5 ⊢
                have HLn := Lib.hid hln
                have HR5 := Lib.hid hrd5
                have hb35 := hb34.trans hb5
                clear hln hrd5 hown5
                go_wp2_with fail
                go_roundg g
                case measure => omega
                case rel => exact ⟨i + 1, A5, c5, _, by omega, by simp, by simp, hc5, hc5', Lib.hid rfl, HLn, HR5, below_on hW hb35⟩
          · have HPos : Hid (pos out N i = k) := Lib.hid (by
              rw [← HPk.out]
              obtain rfl : k = 0 := by omega
              rfl)
            have hz0 : decide ((0 : Int) < (k : Int)) = false := by simp; omega
            go_wp2_with fail
            go_quiet (fail)
            have hwq := below_on hwx2 (below_drewN wr nq)
            generalize wr.drewN nq = W at hwq ⊢
            have hW := below_on hwx hwq
            have HRW := Lib.hid (HRo.out.on hwq)
            have HTk : Hid (k = (out.take k).length) := Lib.hid (by rw [List.length_take]; have := HOl.out; omega)
            have HDk : Hid (i - k = (out.drop k).length) := Lib.hid (by rw [List.length_drop]; have := HOl.out; omega)
            have HIns : Hid (([] ++ out.take k ++ [(N, V)]) ++ out.drop k = ins out (N, V)) := Lib.hid (by
              unfold ins
              rw [HOl.out, HPos.out]
              simp)
            have hl1 : ([] : List Pr).length + (out.take k).length ≤ 1000000 := by have := HTk.out; simp only [List.length_nil]; omega
            have hl2 : ([] ++ out.take k : List Pr).length + [(N, V)].length ≤ 1000000 := by have := HTk.out; simp only [List.length_append, List.length_nil, List.length_singleton]; omega
            have hl3 : ([] ++ out.take k ++ [(N, V)] : List Pr).length + (out.drop k).length ≤ 1000000 := by have := HTk.out; have := HDk.out; simp only [List.length_append, List.length_nil, List.length_singleton]; omega
            have hkco : (k : Int) ≤ (co : Int) := by omega
            have hki : (k : Int) ≤ (i : Int) := by omega
            have tok1 : True := trivial
            have tok2 : True := trivial
            have tok3 : True := trivial
            go_wp2_with (first
              | (at_builtin; have _t := tok1; refine wp_app _ rfl _ _ rfl W.heap.size _ [] (out.take k) rfl (Own.nil _ _) Ao k co HTk.out rfl (HRW.out.take k) hl1 (Nat.le_refl _) ?_; intro v3 w3 hown3 hb3; clear tok1; obtain ⟨e0, e1⟩ := C0.out w3 (below_on hW hb3); have hlt3 : bk < w3.heap.size := Nat.lt_of_lt_of_le hbk (below_on hW hb3).size)
              | (at_builtin; have _t := tok2; refine wp_app _ rfl _ _ rfl W.heap.size v3 ([] ++ out.take k) [(N, V)] rfl (Own.alloc hown3 _) _ 1 _ rfl rfl (rd_new _ N V HSz.out.1 HSz.out.2 rfl) hl2 (by have := hb3.size; simp; omega) ?_; intro v4 w4 hown4 hb4; clear tok2; have hb34 := (hb3.alloc hb3.size _).trans hb4)
              | (at_builtin; have _t := tok3; refine wp_app _ rfl _ _ rfl W.heap.size v4 ([] ++ out.take k ++ [(N, V)]) (out.drop k) rfl hown4 _ (i - k) (co - k) HDk.out rfl ((HRW.out.on hb34).cut (by have := HOl.out; omega)) hl3 hb34.size ?_; intro v5 w5 hown5 hb5; clear tok3))
            all_goals
              rw [HIns.out, ← HT.out] at hown5
              obtain ⟨A5, c5, rfl, hc5, hc5'⟩ := Own.form hown5
              have hln : (inss [] (l.take (i + 1))).length = i + 1 := by rw [inss_len, List.length_take]; have := HN.out; omega
              have hrd5 := Own.rd hown5 (by rw [hln]; omega) (fun p hp => by
                have hm := (inss_perm (l.take (i + 1)) []).mem_iff.1 hp
                exact hr1.size p (List.mem_of_mem_take (by simpa using hm)))
              rw [hln] at hown5 hc5 ⊢
              have HLn := Lib.hid hln
              have HR5 := Lib.hid hrd5
              have hb35 := hb34.trans hb5
              clear hln hrd5 hown5
              go_wp2_with fail
              go_roundg g
              case measure => omega
              case rel => exact ⟨i + 1, A5, c5, _, by omega, by simp, by simp, hc5, hc5', Lib.hid rfl, HLn, HR5, below_on hW hb35⟩
  · have hne : (z == 0) = false := by simpa using h0
    have hne' : (z != 0) = true := by simpa using h0
    have HM : Hid (makeS l = []) := Lib.hid (make_no (by rw [HZ.out]; exact h0))
    clear h0
    go_enter Try.func13, Try.ntmps13
    go_wp2_with fail
    refine (rwrong_of A c n l HN.out z HZ.out _ hr).mono ?_
    rintro e w1 ⟨rfl, hw1⟩
    go_wp2_with fail
    go_ret2
    exact ⟨none, 0, by rw [HM.out]; rfl, by rw [HM.out]; exact Lib.hid (Rd.none_ _ _ _), hw1⟩
end Go.Proofs.Ythknoanhljonoaa

/-
  The walk of SelFits: more that is asked fits less; a match, and the same one the other way round, fit just one; another name fits not. (Written by wip/gen_selfits.py.)
-/
import Derived.Test.YtgahahichplpkaaDoorSelFitA
import Derived.Test.YtgahahichplpkaaDoorSelApart
import Derived.Test.YtgahahichplpkaaDoorCdSane
namespace Go.Proofs.YtgahahichplpkaaDoor
open Go.RowKit Go.Proofs.YtgahahichplpkaaDoor.Lp
open Go.Proofs.YtgahahichplpkaaDoor.Sl (Mt Sel Tf)

theorem held_take {P : Program} {ops : Array Oper} {Q : Exit → Act → World → Prop} {md : Region.Mode} {S : World → Prop} {i d : Nat} {oi : Oper} {v : Value} {fuel : Nat} {listed : Array Bool} {T : Array Value} {D : _} {w : World} (hi : ops[i]? = some oi) (hd : oi.dst = some d)
    (hs : Region.noSelect ops = true) (hf : Region.free md ops listed i = true) (hr : (Region.ready md ops listed).contains i = true)
    (hQ : ∀ c a w, Q (.panic c) (a.put oi.dst v) w → Q (.panic c) a w) (hy : YieldsIf P ops S oi v ⟨T, D⟩) (hS : S w)
    (h : wpAnyH P md ops Q S fuel (listed.setIfInBounds i true) ⟨T.setIfInBounds d v, D⟩ w) : wpAnyH P md ops Q S (fuel + 1) listed ⟨T, D⟩ w :=
  wpAnyH_take hi hs hf hr hQ hy hS (by rw [hd]; exact h)
theorem sel_cells {w : World} {P : Nat} (h : w.heap[P]? = some (.cells #[.string ⟨#[]⟩, .slice none 0 0] 24 (0, 0))) : w.cell? ⟨P, 0, none⟩ = some (.string ⟨#[]⟩) ∧ w.cell? ⟨P, 1, none⟩ = some (.slice none 0 0) ∧ w.frozen? ⟨P, 0, none⟩ = false ∧ w.frozen? ⟨P, 1, none⟩ = false :=
  ⟨cell_of h 0, cell_of h 1, frozen_of h 0, frozen_of h 1⟩
/-- A match laid. -/
theorem box_mat (w : World) (a b : ByteArray) (u : Bool) : ∃ W P, w.alloc (Obj.cells #[Value.string a, Value.string b, Value.bool u] 45) = W ∧ w.heap.size = P ∧ Below w.heap.size w W ∧ Bm W P a b u := by
  have h := heap_alloc_new w (Obj.cells #[Value.string a, Value.string b, Value.bool u] 45)
  exact ⟨_, _, rfl, rfl, below_alloc w _, cell_of h 0, cell_of h 1, cell_of h 2, (Array.getElem?_eq_some_iff.1 h).1⟩
/-- A block laid: under names. -/
theorem alloc_abs {U W : World} (o : Obj) (h : Below U.heap.size U W) :
    ∃ V k, W.alloc o = V ∧ W.heap.size = k ∧ U.heap.size ≤ k ∧ Below U.heap.size U V ∧ V.heap[k]? = some o ∧ ∀ (j : Nat) (x : Obj), W.heap[j]? = some x → V.heap[j]? = some x :=
  ⟨_, _, rfl, rfl, h.size, bal h, heap_new rfl, fun _ _ h => heap_old h⟩
/-- What the three say of each other. -/
theorem fits_three {N : ByteArray} {l : List Mt} {a b : ByteArray} {t u f x y : Bool} {ps : List Pr} (hu : (!t) = u) (hf : Sl.fits (N, l) ps = f) (hx : Sl.fits (N, l ++ [(a, b, t)]) ps = x) (hy : Sl.fits (N, l ++ [(a, b, u)]) ps = y) :
    (f = false ∧ x = false ∧ y = false) ∨ (f = true ∧ ∃ s, Sl.saneS (N, l ++ [(a, b, t)]) = s ∧ ((x = false ∧ y = false ∧ s = false) ∨ (x = true ∧ y = false ∧ s = true) ∨ (x = false ∧ y = true ∧ s = true))) := by
  rw [Sl.fits_more, hf] at hx hy
  have h1 : Sl.mFits ps (a, b, u) = !Sl.mFits ps (a, b, t) := by rw [← hu]; exact Sl.fits_not ps (a, b, t)
  have h2 : Sl.mOk (a, b, u) = Sl.mOk (a, b, t) := rfl
  rw [h1, h2] at hy
  cases f with
  | false => exact .inl ⟨rfl, by rw [← hx]; rfl, by rw [← hy]; rfl⟩
  | true =>
    refine .inr ⟨rfl, _, rfl, ?_⟩
    have hs : Sl.saneS (N, l) = true := by
      unfold Sl.fits at hf
      simp only [Bool.and_eq_true] at hf
      exact hf.1.1.1
    have h3 : Sl.saneS (N, l ++ [(a, b, t)]) = (Sl.mOk (a, b, t) && decide (l.length < 8)) := by
      rw [Bool.eq_iff_iff, Sl.sane_more, hs]
      simp
    rw [h3, ← hx, ← hy]
    cases Sl.mOk (a, b, t) <;> cases decide (l.length < 8) <;> cases Sl.mFits ps (a, b, t) <;> simp
theorem fits_true {N : ByteArray} {l : List Mt} {ps : List Pr} (hf : Sl.fits (N, l) ps = true) : Sl.saneS (N, l) = true ∧ Lp.saneB ps = true ∧ ∀ U, U.size ≠ N.size → Sl.fits (U, l) ps = false := by
  unfold Sl.fits at hf
  simp only [Bool.and_eq_true, decide_eq_true_eq] at hf
  refine ⟨hf.1.1.1, hf.1.1.2, fun U hU => ?_⟩
  have h : decide (Lp.getS ps Sl.nameL = some U) = false := by
    rw [decide_eq_false_iff_not, hf.1.2]
    intro e
    injection e with e
    exact hU (by rw [e])
  unfold Sl.fits
  rw [h]
  simp
set_option maxHeartbeats 12800000 in
set_option maxRecDepth 100000 in
theorem selFits_any (H : SelC) (N : ByteArray) (A : Option Addr) (c n : Nat) (l : List Mt) (B : Option Addr) (d q : Nat) (ps : List Pr) (a0 v0 : ByteArray) (t0 : Bool) (w : World) (hNs : N.size ≤ 2000000) (hn : n = l.length) (hr : Rq w w.heap.size A l) (hnc : n ≤ c ∧ c ≤ 9223372036854775807)
    (hq : q = ps.length) (ht : Rd w w.heap.size B ps) (hqd : q ≤ d ∧ d ≤ 9223372036854775807) (ha0 : a0.size ≤ 2000000) (hv0 : v0.size ≤ 2000000) :
    Calls Tryd.prog 6 #[sv N A n c, .slice B q d, .agg #[.string a0, .string v0, .bool t0]] w fun e w' => e = .returned (.bool true) ∧ Below w.heap.size w w' := by
  have HN := Lib.hid hn
  have HQ := Lib.hid hq
  have HNC := Lib.hid hnc
  have HQD := Lib.hid hqd
  have HR := Lib.hid hr
  have HT := Lib.hid ht
  clear hn hq hnc hqd hr ht
  obtain ⟨f, hf⟩ : ∃ b, Sl.fits (N, l) ps = b := ⟨_, rfl⟩
  have HF := Lib.hid hf
  clear hf
  go_enter Tryd.func6, Tryd.ntmps6
  obtain ⟨W, P, hW, hP, hb0, X1, X2⟩ := box_sm w N A n c a0 v0 t0
  have HB0 : Hid (Below w.heap.size w W) := Lib.hid (hP ▸ hb0)
  have X1 := Lib.hid X1
  have X2 := Lib.hid X2
  have HRW := Lib.hid (HR.out.on HB0.out)
  have HTW := Lib.hid (HT.out.on HB0.out)
  clear hb0 HR HT
  go_wp2_with fail
  refine (awake_any H W).mono ?_
  rintro e w1 ⟨rfl, hV1⟩
  obtain ⟨c0, c1, _⟩ := X1.out.on hV1
  go_wp2_with fail
  refine (fewS_of N A c n l HN.out w1 (HRW.out.on hV1)).mono ?_
  rintro e w2 ⟨q1, rfl, HQ1, hw2⟩
  have hV2 : Below W.heap.size W w2 := below_on hV1 hw2
  have HQ1 := Lib.hid HQ1
  clear c0 c1 hV1 hw2
  cases q1 with
  | false =>
    go_wp2_with fail
    go_ret
    exact ⟨rfl, below_on HB0.out hV2⟩
  | true =>
    have hn40 := HQ1.out rfl
    clear HQ1
    go_wp2_with fail
    refine (few_of B d q ps HQ.out w2 (HTW.out.on hV2)).mono ?_
    rintro e w3 ⟨q2, rfl, HQ2, hw3⟩
    have hV3 := below_on hV2 hw3
    clear hV2 hw3 HQ2
    cases q2 with
    | false =>
      go_wp2_with fail
      go_ret
      exact ⟨rfl, below_on HB0.out hV3⟩
    | true =>
      obtain ⟨m0, m1, m2, _⟩ := X2.out.on hV3
      by_cases hbig : 1000 < a0.size + v0.size
      · have hbz : (1000 : Int) < (a0.size : Int) + (v0.size : Int) := by omega
        go_wp2_with fail
        go_ret
        exact ⟨rfl, below_on HB0.out hV3⟩
      · have hbz : ¬ (1000 : Int) < (a0.size : Int) + (v0.size : Int) := by omega
        obtain ⟨c0, c1, _⟩ := X1.out.on hV3
        go_wp2_with fail
        refine (H.fits N A n c l B q d ps f (by omega) HN.out HNC.out HQ.out HQD.out HF.out w3 (HRW.out.on hV3) (HTW.out.on hV3)).mono ?_
        rintro e w4 ⟨rfl, hw4⟩
        have hV4 := below_on hV3 hw4
        clear c0 c1 m0 m1 m2 hV3 hw4 hbig
        obtain ⟨c0, c1, _⟩ := X1.out.on hV4
        obtain ⟨m0, m1, m2, _⟩ := X2.out.on hV4
        go_upto_region 5 with fail
        have KS : Hid (∀ V, Below w4.heap.size w4 V → V.cell? ⟨P, 0, none⟩ = some (.string N) ∧ V.cell? ⟨P, 1, none⟩ = some (.slice A n c) ∧ V.cell? ⟨P + 1, 0, none⟩ = some (.string a0) ∧ V.cell? ⟨P + 1, 1, none⟩ = some (.string v0) ∧ V.cell? ⟨P + 1, 2, none⟩ = some (.bool t0)) := Lib.hid (fun V h => by
          have hh := below_on hV4 h
          obtain ⟨e0, e1, _⟩ := X1.out.on hh
          obtain ⟨f0, f1, f2, _⟩ := X2.out.on hh
          exact ⟨e0, e1, f0, f1, f2⟩)
        have HR4 := Lib.hid (HRW.out.on hV4)
        have hl1 : ([] : List Mt).length + l.length ≤ 1000000 := by rw [List.length_nil, ← HN.out]; omega
        have hl2 : l.length + [(a0, v0, t0)].length ≤ 1000000 := by rw [← HN.out]; simp; omega
        have hLL : (l ++ [(a0, v0, t0)]).length = n + 1 := by rw [List.length_append, ← HN.out]; rfl
        have ha9 : a0.size ≤ 9223372036854775807 := by omega
        have hv9 : v0.size ≤ 9223372036854775807 := by omega
        have hsz1 : ∀ t ∈ l ++ [(a0, v0, t0)], t.1.size ≤ 9223372036854775807 ∧ t.2.1.size ≤ 9223372036854775807 := fun t ht => by
          rcases List.mem_append.1 ht with h | h
          · exact HR4.out.size t h
          · simp only [List.mem_cons, List.not_mem_nil, or_false] at h
            subst h
            exact ⟨ha9, hv9⟩
        clear c0 c1 m0 m1 m2
        go_cut [9] (fun s9 wx => ∃ k9 A9 c9, s9 = .pointer (some ⟨k9, 0, none⟩) ∧ Hid (Below w4.heap.size w4 wx ∧ w4.heap.size ≤ k9 ∧ Bx wx k9 N A9 (n + 1) c9 ∧ Rq wx wx.heap.size A9 (l ++ [(a0, v0, t0)]) ∧ Cap (n + 1) c9))
        case first =>
          have hcur : Below w4.heap.size w4 w4.drew := (Below.refl _ _).drew
          refine wp_region_held_drew (S := (fun V => V.cell? ⟨P, 0, none⟩ = some (.string N) ∧ V.cell? ⟨P, 1, none⟩ = some (.slice A n c) ∧ V.cell? ⟨P + 1, 0, none⟩ = some (.string a0) ∧ V.cell? ⟨P + 1, 1, none⟩ = some (.string v0) ∧ V.cell? ⟨P + 1, 2, none⟩ = some (.bool t0))) (by kernel_rfl) (KS.out _ hcur) (fun hHeld => ?_)
          obtain ⟨V0, hV0⟩ : ∃ V, w4.drew = V := ⟨_, rfl⟩
          rw [hV0] at hcur hHeld ⊢
          clear hV0
          refine held_take (i := 0) (d := 38) (v := ?v9_1) rfl rfl (by kernel_rfl) (by kernel_rfl) (by kernel_rfl) (fun _ _ _ h => h) (Or.inl ⟨by rfl, ?y9_1⟩) (by assumption) ?r9_1
          case y9_1 => (intro w hSw; (try dsimp only at hSw); go_simp <;> with_reducible rfl)
          (try simp only [List.setIfInBounds_toArray, List.set_cons_zero, List.set_cons_succ])
          refine held_take (i := 1) (d := 39) (v := ?v9_2) rfl rfl (by kernel_rfl) (by kernel_rfl) (by kernel_rfl) (fun _ _ _ h => h) (Or.inl ⟨by rfl, ?y9_2⟩) (by assumption) ?r9_2
          case y9_2 => (intro w hSw; (try dsimp only at hSw); go_simp <;> with_reducible rfl)
          (try simp only [List.setIfInBounds_toArray, List.set_cons_zero, List.set_cons_succ])
          refine held_take (i := 3) (d := 41) (v := ?v9_3) rfl rfl (by kernel_rfl) (by kernel_rfl) (by kernel_rfl) (fun _ _ _ h => h) (Or.inl ⟨by rfl, ?y9_3⟩) (by assumption) ?r9_3
          case y9_3 => (intro w hSw; (try dsimp only at hSw); go_simp <;> with_reducible rfl)
          (try simp only [List.setIfInBounds_toArray, List.set_cons_zero, List.set_cons_succ])
          refine held_take (i := 4) (d := 42) (v := ?v9_4) rfl rfl (by kernel_rfl) (by kernel_rfl) (by kernel_rfl) (fun _ _ _ h => h) (Or.inl ⟨by rfl, ?y9_4⟩) (by assumption) ?r9_4
          case y9_4 => (intro w hSw; (try dsimp only at hSw); go_simp <;> with_reducible rfl)
          (try simp only [List.setIfInBounds_toArray, List.set_cons_zero, List.set_cons_succ])
          refine held_take (i := 6) (d := 44) (v := ?v9_5) rfl rfl (by kernel_rfl) (by kernel_rfl) (by kernel_rfl) (fun _ _ _ h => h) (Or.inl ⟨by rfl, ?y9_5⟩) (by assumption) ?r9_5
          case y9_5 => (intro w hSw; (try dsimp only at hSw); go_simp <;> with_reducible rfl)
          (try simp only [List.setIfInBounds_toArray, List.set_cons_zero, List.set_cons_succ])
          refine wpAnyH_ready (rs := [2, 7, 10]) (by kernel_rfl) (by simp) ?_
          refine AllReadyH.cons rfl (fun K hK => ?_) (AllReadyH.cons rfl (fun K hK => ?_) (AllReadyH.cons rfl (fun K hK => ?_) AllReadyH.nil))
          · go_simp
            obtain ⟨VN, k2, hVN, hk2, hbk2, hcurN, f2N, hold⟩ := alloc_abs (Obj.cells #[] 45) hcur
            rw [hVN] at ⊢
            rw [hk2]
            refine hK.out _ _ (KS.out _ hcurN) (fun hHeld => ?_)
            clear hK K hold hVN hk2
            replace hcur := hcurN; have f2 := f2N; clear hcurN f2N
            (try simp only [List.setIfInBounds_toArray, List.set_cons_zero, List.set_cons_succ])
            refine wpAnyH_ready (rs := [5, 7, 10]) (by kernel_rfl) (by simp) ?_
            refine AllReadyH.cons rfl (fun K hK => ?_) (AllReadyH.cons rfl (fun K hK => ?_) (AllReadyH.cons rfl (fun K hK => ?_) AllReadyH.nil))
            · refine step_appq (by rfl) _ _ (by rfl) w4.heap.size _ [] l (by rfl) (ownQ_at f2 hbk2) A n c HN.out (by rfl) (HR4.out.on hcur) hl1 hcur.size ?_
              intro v5 W5 hown5 hb5 hg5
              replace hcur := hcur.trans hb5
              refine hK.out _ _ (KS.out _ hcur) (fun hHeld => ?_)
              clear hK K f2 hg5 hb5
              (try simp only [List.setIfInBounds_toArray, List.set_cons_zero, List.set_cons_succ])
              refine wpAnyH_ready (rs := [7, 10]) (by kernel_rfl) (by simp) ?_
              refine AllReadyH.cons rfl (fun K hK => ?_) (AllReadyH.cons rfl (fun K hK => ?_) AllReadyH.nil)
              · go_simp
                obtain ⟨VN, k7, hVN, hk7, hbk7, hcurN, f7N, hold⟩ := alloc_abs (Obj.cells #[Value.string a0, Value.string v0, Value.bool t0] 45) hcur
                replace hown5 := OwnQ.alloc hown5 (Obj.cells #[Value.string a0, Value.string v0, Value.bool t0] 45)
                rw [hVN] at ⊢ hown5
                rw [hk7]
                refine hK.out _ _ (KS.out _ hcurN) (fun hHeld => ?_)
                clear hK K hold hVN hk7
                replace hcur := hcurN; have f7 := f7N; clear hcurN f7N
                (try simp only [List.setIfInBounds_toArray, List.set_cons_zero, List.set_cons_succ])
                refine wpAnyH_ready (rs := [8, 10]) (by kernel_rfl) (by simp) ?_
                refine AllReadyH.cons rfl (fun K hK => ?_) (AllReadyH.cons rfl (fun K hK => ?_) AllReadyH.nil)
                · refine step_appq (by rfl) _ _ (by rfl) w4.heap.size v5 l [(a0, v0, t0)] (by rfl) hown5 _ 1 1 rfl (by rfl) (rq_heap ha9 hv9 f7) hl2 hcur.size ?_
                  intro v6 W6 hown6 hb6 hg6
                  obtain ⟨A6, c6, rfl, hc6⟩ := OwnQ.sliceN hown6 hLL
                  replace hcur := hcur.trans hb6
                  refine hK.out _ _ (KS.out _ hcur) (fun hHeld => ?_)
                  clear hK K f7 hg6 hb6 hown5
                  (try simp only [List.setIfInBounds_toArray, List.set_cons_zero, List.set_cons_succ])
                  refine held_take (i := 9) (d := 47) (v := ?v9_10) rfl rfl (by kernel_rfl) (by kernel_rfl) (by kernel_rfl) (fun _ _ _ h => h) (Or.inl ⟨by rfl, ?y9_10⟩) (by assumption) ?r9_10
                  case y9_10 => (intro w hSw; (try dsimp only at hSw); go_simp <;> with_reducible rfl)
                  (try simp only [List.setIfInBounds_toArray, List.set_cons_zero, List.set_cons_succ])
                  refine wpAnyH_ready (rs := [10]) (by kernel_rfl) (by simp) ?_
                  refine AllReadyH.cons rfl (fun K hK => ?_) AllReadyH.nil
                  · go_simp
                    obtain ⟨VN, k10, hVN, hk10, hbk10, hcurN, f10N, hold⟩ := alloc_abs (Obj.cells #[Value.string ⟨#[]⟩, Value.slice none 0 0] 24) hcur
                    replace hown6 := OwnQ.alloc hown6 (Obj.cells #[Value.string ⟨#[]⟩, Value.slice none 0 0] 24)
                    rw [hVN] at ⊢ hown6
                    rw [hk10]
                    refine hK.out _ _ (KS.out _ hcurN) (fun hHeld => ?_)
                    clear hK K hold hVN hk10
                    replace hcur := hcurN; have f10 := f10N; clear hcurN f10N
                    (try simp only [List.setIfInBounds_toArray, List.set_cons_zero, List.set_cons_succ])
                    refine wpAnyH_ready (rs := [11]) (by kernel_rfl) (by simp) ?_
                    refine AllReadyH.cons rfl (fun K hK => ?_) AllReadyH.nil
                    · have g0 := (sel_cells f10).1; have g1 := (sel_cells f10).2.1; have g2 := (sel_cells f10).2.2.1; have g3 := (sel_cells f10).2.2.2
                      go_simp
                      obtain ⟨e1, e2, e3⟩ := set_sel f10 hcur hbk10 hown6 (by rw [hLL]; omega) hsz1 rfl
                      refine hK.out _ _ (KS.out _ e1) (fun hHeld => ?_)
                      refine wpAnyH_done (by kernel_rfl) ?_ _
                      go_wp2_with fail
                      go_meet
                      exact ⟨k10, A6, c6, rfl, Lib.hid ⟨e1, hbk10, e2, e3, hc6⟩⟩
                · go_simp
                  obtain ⟨VN, k10, hVN, hk10, hbk10, hcurN, f10N, hold⟩ := alloc_abs (Obj.cells #[Value.string ⟨#[]⟩, Value.slice none 0 0] 24) hcur
                  replace hown5 := OwnQ.alloc hown5 (Obj.cells #[Value.string ⟨#[]⟩, Value.slice none 0 0] 24)
                  replace f7 := hold _ _ f7
                  rw [hVN] at ⊢ hown5
                  rw [hk10]
                  refine hK.out _ _ (KS.out _ hcurN) (fun hHeld => ?_)
                  clear hK K hold hVN hk10
                  replace hcur := hcurN; have f10 := f10N; clear hcurN f10N
                  (try simp only [List.setIfInBounds_toArray, List.set_cons_zero, List.set_cons_succ])
                  refine wpAnyH_ready (rs := [8]) (by kernel_rfl) (by simp) ?_
                  refine AllReadyH.cons rfl (fun K hK => ?_) AllReadyH.nil
                  · refine step_appq (by rfl) _ _ (by rfl) w4.heap.size v5 l [(a0, v0, t0)] (by rfl) hown5 _ 1 1 rfl (by rfl) (rq_heap ha9 hv9 f7) hl2 hcur.size ?_
                    intro v6 W6 hown6 hb6 hg6
                    obtain ⟨A6, c6, rfl, hc6⟩ := OwnQ.sliceN hown6 hLL
                    replace f10 := keepL f10 hown5 (by decide) hg6
                    replace hcur := hcur.trans hb6
                    refine hK.out _ _ (KS.out _ hcur) (fun hHeld => ?_)
                    clear hK K f7 hg6 hb6 hown5
                    (try simp only [List.setIfInBounds_toArray, List.set_cons_zero, List.set_cons_succ])
                    refine held_take (i := 9) (d := 47) (v := ?v9_15) rfl rfl (by kernel_rfl) (by kernel_rfl) (by kernel_rfl) (fun _ _ _ h => h) (Or.inl ⟨by rfl, ?y9_15⟩) (by assumption) ?r9_15
                    case y9_15 => (intro w hSw; (try dsimp only at hSw); go_simp <;> with_reducible rfl)
                    (try simp only [List.setIfInBounds_toArray, List.set_cons_zero, List.set_cons_succ])
                    refine wpAnyH_ready (rs := [11]) (by kernel_rfl) (by simp) ?_
                    refine AllReadyH.cons rfl (fun K hK => ?_) AllReadyH.nil
                    · have g0 := (sel_cells f10).1; have g1 := (sel_cells f10).2.1; have g2 := (sel_cells f10).2.2.1; have g3 := (sel_cells f10).2.2.2
                      go_simp
                      obtain ⟨e1, e2, e3⟩ := set_sel f10 hcur hbk10 hown6 (by rw [hLL]; omega) hsz1 rfl
                      refine hK.out _ _ (KS.out _ e1) (fun hHeld => ?_)
                      refine wpAnyH_done (by kernel_rfl) ?_ _
                      go_wp2_with fail
                      go_meet
                      exact ⟨k10, A6, c6, rfl, Lib.hid ⟨e1, hbk10, e2, e3, hc6⟩⟩
              · go_simp
                obtain ⟨VN, k10, hVN, hk10, hbk10, hcurN, f10N, hold⟩ := alloc_abs (Obj.cells #[Value.string ⟨#[]⟩, Value.slice none 0 0] 24) hcur
                replace hown5 := OwnQ.alloc hown5 (Obj.cells #[Value.string ⟨#[]⟩, Value.slice none 0 0] 24)
                rw [hVN] at ⊢ hown5
                rw [hk10]
                refine hK.out _ _ (KS.out _ hcurN) (fun hHeld => ?_)
                clear hK K hold hVN hk10
                replace hcur := hcurN; have f10 := f10N; clear hcurN f10N
                (try simp only [List.setIfInBounds_toArray, List.set_cons_zero, List.set_cons_succ])
                refine wpAnyH_ready (rs := [7]) (by kernel_rfl) (by simp) ?_
                refine AllReadyH.cons rfl (fun K hK => ?_) AllReadyH.nil
                · go_simp
                  obtain ⟨VN, k7, hVN, hk7, hbk7, hcurN, f7N, hold⟩ := alloc_abs (Obj.cells #[Value.string a0, Value.string v0, Value.bool t0] 45) hcur
                  replace hown5 := OwnQ.alloc hown5 (Obj.cells #[Value.string a0, Value.string v0, Value.bool t0] 45)
                  replace f10 := hold _ _ f10
                  rw [hVN] at ⊢ hown5
                  rw [hk7]
                  refine hK.out _ _ (KS.out _ hcurN) (fun hHeld => ?_)
                  clear hK K hold hVN hk7
                  replace hcur := hcurN; have f7 := f7N; clear hcurN f7N
                  (try simp only [List.setIfInBounds_toArray, List.set_cons_zero, List.set_cons_succ])
                  refine wpAnyH_ready (rs := [8]) (by kernel_rfl) (by simp) ?_
                  refine AllReadyH.cons rfl (fun K hK => ?_) AllReadyH.nil
                  · refine step_appq (by rfl) _ _ (by rfl) w4.heap.size v5 l [(a0, v0, t0)] (by rfl) hown5 _ 1 1 rfl (by rfl) (rq_heap ha9 hv9 f7) hl2 hcur.size ?_
                    intro v6 W6 hown6 hb6 hg6
                    obtain ⟨A6, c6, rfl, hc6⟩ := OwnQ.sliceN hown6 hLL
                    replace f10 := keepL f10 hown5 (by decide) hg6
                    replace hcur := hcur.trans hb6
                    refine hK.out _ _ (KS.out _ hcur) (fun hHeld => ?_)
                    clear hK K f7 hg6 hb6 hown5
                    (try simp only [List.setIfInBounds_toArray, List.set_cons_zero, List.set_cons_succ])
                    refine held_take (i := 9) (d := 47) (v := ?v9_20) rfl rfl (by kernel_rfl) (by kernel_rfl) (by kernel_rfl) (fun _ _ _ h => h) (Or.inl ⟨by rfl, ?y9_20⟩) (by assumption) ?r9_20
                    case y9_20 => (intro w hSw; (try dsimp only at hSw); go_simp <;> with_reducible rfl)
                    (try simp only [List.setIfInBounds_toArray, List.set_cons_zero, List.set_cons_succ])
                    refine wpAnyH_ready (rs := [11]) (by kernel_rfl) (by simp) ?_
                    refine AllReadyH.cons rfl (fun K hK => ?_) AllReadyH.nil
                    · have g0 := (sel_cells f10).1; have g1 := (sel_cells f10).2.1; have g2 := (sel_cells f10).2.2.1; have g3 := (sel_cells f10).2.2.2
                      go_simp
                      obtain ⟨e1, e2, e3⟩ := set_sel f10 hcur hbk10 hown6 (by rw [hLL]; omega) hsz1 rfl
                      refine hK.out _ _ (KS.out _ e1) (fun hHeld => ?_)
                      refine wpAnyH_done (by kernel_rfl) ?_ _
                      go_wp2_with fail
                      go_meet
                      exact ⟨k10, A6, c6, rfl, Lib.hid ⟨e1, hbk10, e2, e3, hc6⟩⟩
            · go_simp
              obtain ⟨VN, k7, hVN, hk7, hbk7, hcurN, f7N, hold⟩ := alloc_abs (Obj.cells #[Value.string a0, Value.string v0, Value.bool t0] 45) hcur
              replace f2 := hold _ _ f2
              rw [hVN] at ⊢
              rw [hk7]
              refine hK.out _ _ (KS.out _ hcurN) (fun hHeld => ?_)
              clear hK K hold hVN hk7
              replace hcur := hcurN; have f7 := f7N; clear hcurN f7N
              (try simp only [List.setIfInBounds_toArray, List.set_cons_zero, List.set_cons_succ])
              refine wpAnyH_ready (rs := [5, 10]) (by kernel_rfl) (by simp) ?_
              refine AllReadyH.cons rfl (fun K hK => ?_) (AllReadyH.cons rfl (fun K hK => ?_) AllReadyH.nil)
              · refine step_appq (by rfl) _ _ (by rfl) w4.heap.size _ [] l (by rfl) (ownQ_at f2 hbk2) A n c HN.out (by rfl) (HR4.out.on hcur) hl1 hcur.size ?_
                intro v5 W5 hown5 hb5 hg5
                replace f7 := keepX f7 f2 (by simp) hg5
                replace hcur := hcur.trans hb5
                refine hK.out _ _ (KS.out _ hcur) (fun hHeld => ?_)
                clear hK K f2 hg5 hb5
                (try simp only [List.setIfInBounds_toArray, List.set_cons_zero, List.set_cons_succ])
                refine wpAnyH_ready (rs := [8, 10]) (by kernel_rfl) (by simp) ?_
                refine AllReadyH.cons rfl (fun K hK => ?_) (AllReadyH.cons rfl (fun K hK => ?_) AllReadyH.nil)
                · refine step_appq (by rfl) _ _ (by rfl) w4.heap.size v5 l [(a0, v0, t0)] (by rfl) hown5 _ 1 1 rfl (by rfl) (rq_heap ha9 hv9 f7) hl2 hcur.size ?_
                  intro v6 W6 hown6 hb6 hg6
                  obtain ⟨A6, c6, rfl, hc6⟩ := OwnQ.sliceN hown6 hLL
                  replace hcur := hcur.trans hb6
                  refine hK.out _ _ (KS.out _ hcur) (fun hHeld => ?_)
                  clear hK K f7 hg6 hb6 hown5
                  (try simp only [List.setIfInBounds_toArray, List.set_cons_zero, List.set_cons_succ])
                  refine held_take (i := 9) (d := 47) (v := ?v9_25) rfl rfl (by kernel_rfl) (by kernel_rfl) (by kernel_rfl) (fun _ _ _ h => h) (Or.inl ⟨by rfl, ?y9_25⟩) (by assumption) ?r9_25
                  case y9_25 => (intro w hSw; (try dsimp only at hSw); go_simp <;> with_reducible rfl)
                  (try simp only [List.setIfInBounds_toArray, List.set_cons_zero, List.set_cons_succ])
                  refine wpAnyH_ready (rs := [10]) (by kernel_rfl) (by simp) ?_
                  refine AllReadyH.cons rfl (fun K hK => ?_) AllReadyH.nil
                  · go_simp
                    obtain ⟨VN, k10, hVN, hk10, hbk10, hcurN, f10N, hold⟩ := alloc_abs (Obj.cells #[Value.string ⟨#[]⟩, Value.slice none 0 0] 24) hcur
                    replace hown6 := OwnQ.alloc hown6 (Obj.cells #[Value.string ⟨#[]⟩, Value.slice none 0 0] 24)
                    rw [hVN] at ⊢ hown6
                    rw [hk10]
                    refine hK.out _ _ (KS.out _ hcurN) (fun hHeld => ?_)
                    clear hK K hold hVN hk10
                    replace hcur := hcurN; have f10 := f10N; clear hcurN f10N
                    (try simp only [List.setIfInBounds_toArray, List.set_cons_zero, List.set_cons_succ])
                    refine wpAnyH_ready (rs := [11]) (by kernel_rfl) (by simp) ?_
                    refine AllReadyH.cons rfl (fun K hK => ?_) AllReadyH.nil
                    · have g0 := (sel_cells f10).1; have g1 := (sel_cells f10).2.1; have g2 := (sel_cells f10).2.2.1; have g3 := (sel_cells f10).2.2.2
                      go_simp
                      obtain ⟨e1, e2, e3⟩ := set_sel f10 hcur hbk10 hown6 (by rw [hLL]; omega) hsz1 rfl
                      refine hK.out _ _ (KS.out _ e1) (fun hHeld => ?_)
                      refine wpAnyH_done (by kernel_rfl) ?_ _
                      go_wp2_with fail
                      go_meet
                      exact ⟨k10, A6, c6, rfl, Lib.hid ⟨e1, hbk10, e2, e3, hc6⟩⟩
                · go_simp
                  obtain ⟨VN, k10, hVN, hk10, hbk10, hcurN, f10N, hold⟩ := alloc_abs (Obj.cells #[Value.string ⟨#[]⟩, Value.slice none 0 0] 24) hcur
                  replace hown5 := OwnQ.alloc hown5 (Obj.cells #[Value.string ⟨#[]⟩, Value.slice none 0 0] 24)
                  replace f7 := hold _ _ f7
                  rw [hVN] at ⊢ hown5
                  rw [hk10]
                  refine hK.out _ _ (KS.out _ hcurN) (fun hHeld => ?_)
                  clear hK K hold hVN hk10
                  replace hcur := hcurN; have f10 := f10N; clear hcurN f10N
                  (try simp only [List.setIfInBounds_toArray, List.set_cons_zero, List.set_cons_succ])
                  refine wpAnyH_ready (rs := [8]) (by kernel_rfl) (by simp) ?_
                  refine AllReadyH.cons rfl (fun K hK => ?_) AllReadyH.nil
                  · refine step_appq (by rfl) _ _ (by rfl) w4.heap.size v5 l [(a0, v0, t0)] (by rfl) hown5 _ 1 1 rfl (by rfl) (rq_heap ha9 hv9 f7) hl2 hcur.size ?_
                    intro v6 W6 hown6 hb6 hg6
                    obtain ⟨A6, c6, rfl, hc6⟩ := OwnQ.sliceN hown6 hLL
                    replace f10 := keepL f10 hown5 (by decide) hg6
                    replace hcur := hcur.trans hb6
                    refine hK.out _ _ (KS.out _ hcur) (fun hHeld => ?_)
                    clear hK K f7 hg6 hb6 hown5
                    (try simp only [List.setIfInBounds_toArray, List.set_cons_zero, List.set_cons_succ])
                    refine held_take (i := 9) (d := 47) (v := ?v9_30) rfl rfl (by kernel_rfl) (by kernel_rfl) (by kernel_rfl) (fun _ _ _ h => h) (Or.inl ⟨by rfl, ?y9_30⟩) (by assumption) ?r9_30
                    case y9_30 => (intro w hSw; (try dsimp only at hSw); go_simp <;> with_reducible rfl)
                    (try simp only [List.setIfInBounds_toArray, List.set_cons_zero, List.set_cons_succ])
                    refine wpAnyH_ready (rs := [11]) (by kernel_rfl) (by simp) ?_
                    refine AllReadyH.cons rfl (fun K hK => ?_) AllReadyH.nil
                    · have g0 := (sel_cells f10).1; have g1 := (sel_cells f10).2.1; have g2 := (sel_cells f10).2.2.1; have g3 := (sel_cells f10).2.2.2
                      go_simp
                      obtain ⟨e1, e2, e3⟩ := set_sel f10 hcur hbk10 hown6 (by rw [hLL]; omega) hsz1 rfl
                      refine hK.out _ _ (KS.out _ e1) (fun hHeld => ?_)
                      refine wpAnyH_done (by kernel_rfl) ?_ _
                      go_wp2_with fail
                      go_meet
                      exact ⟨k10, A6, c6, rfl, Lib.hid ⟨e1, hbk10, e2, e3, hc6⟩⟩
              · go_simp
                obtain ⟨VN, k10, hVN, hk10, hbk10, hcurN, f10N, hold⟩ := alloc_abs (Obj.cells #[Value.string ⟨#[]⟩, Value.slice none 0 0] 24) hcur
                replace f2 := hold _ _ f2
                replace f7 := hold _ _ f7
                rw [hVN] at ⊢
                rw [hk10]
                refine hK.out _ _ (KS.out _ hcurN) (fun hHeld => ?_)
                clear hK K hold hVN hk10
                replace hcur := hcurN; have f10 := f10N; clear hcurN f10N
                (try simp only [List.setIfInBounds_toArray, List.set_cons_zero, List.set_cons_succ])
                refine wpAnyH_ready (rs := [5]) (by kernel_rfl) (by simp) ?_
                refine AllReadyH.cons rfl (fun K hK => ?_) AllReadyH.nil
                · refine step_appq (by rfl) _ _ (by rfl) w4.heap.size _ [] l (by rfl) (ownQ_at f2 hbk2) A n c HN.out (by rfl) (HR4.out.on hcur) hl1 hcur.size ?_
                  intro v5 W5 hown5 hb5 hg5
                  replace f7 := keepX f7 f2 (by simp) hg5
                  replace f10 := keepX f10 f2 (by simp) hg5
                  replace hcur := hcur.trans hb5
                  refine hK.out _ _ (KS.out _ hcur) (fun hHeld => ?_)
                  clear hK K f2 hg5 hb5
                  (try simp only [List.setIfInBounds_toArray, List.set_cons_zero, List.set_cons_succ])
                  refine wpAnyH_ready (rs := [8]) (by kernel_rfl) (by simp) ?_
                  refine AllReadyH.cons rfl (fun K hK => ?_) AllReadyH.nil
                  · refine step_appq (by rfl) _ _ (by rfl) w4.heap.size v5 l [(a0, v0, t0)] (by rfl) hown5 _ 1 1 rfl (by rfl) (rq_heap ha9 hv9 f7) hl2 hcur.size ?_
                    intro v6 W6 hown6 hb6 hg6
                    obtain ⟨A6, c6, rfl, hc6⟩ := OwnQ.sliceN hown6 hLL
                    replace f10 := keepL f10 hown5 (by decide) hg6
                    replace hcur := hcur.trans hb6
                    refine hK.out _ _ (KS.out _ hcur) (fun hHeld => ?_)
                    clear hK K f7 hg6 hb6 hown5
                    (try simp only [List.setIfInBounds_toArray, List.set_cons_zero, List.set_cons_succ])
                    refine held_take (i := 9) (d := 47) (v := ?v9_35) rfl rfl (by kernel_rfl) (by kernel_rfl) (by kernel_rfl) (fun _ _ _ h => h) (Or.inl ⟨by rfl, ?y9_35⟩) (by assumption) ?r9_35
                    case y9_35 => (intro w hSw; (try dsimp only at hSw); go_simp <;> with_reducible rfl)
                    (try simp only [List.setIfInBounds_toArray, List.set_cons_zero, List.set_cons_succ])
                    refine wpAnyH_ready (rs := [11]) (by kernel_rfl) (by simp) ?_
                    refine AllReadyH.cons rfl (fun K hK => ?_) AllReadyH.nil
                    · have g0 := (sel_cells f10).1; have g1 := (sel_cells f10).2.1; have g2 := (sel_cells f10).2.2.1; have g3 := (sel_cells f10).2.2.2
                      go_simp
                      obtain ⟨e1, e2, e3⟩ := set_sel f10 hcur hbk10 hown6 (by rw [hLL]; omega) hsz1 rfl
                      refine hK.out _ _ (KS.out _ e1) (fun hHeld => ?_)
                      refine wpAnyH_done (by kernel_rfl) ?_ _
                      go_wp2_with fail
                      go_meet
                      exact ⟨k10, A6, c6, rfl, Lib.hid ⟨e1, hbk10, e2, e3, hc6⟩⟩
            · go_simp
              obtain ⟨VN, k10, hVN, hk10, hbk10, hcurN, f10N, hold⟩ := alloc_abs (Obj.cells #[Value.string ⟨#[]⟩, Value.slice none 0 0] 24) hcur
              replace f2 := hold _ _ f2
              rw [hVN] at ⊢
              rw [hk10]
              refine hK.out _ _ (KS.out _ hcurN) (fun hHeld => ?_)
              clear hK K hold hVN hk10
              replace hcur := hcurN; have f10 := f10N; clear hcurN f10N
              (try simp only [List.setIfInBounds_toArray, List.set_cons_zero, List.set_cons_succ])
              refine wpAnyH_ready (rs := [5, 7]) (by kernel_rfl) (by simp) ?_
              refine AllReadyH.cons rfl (fun K hK => ?_) (AllReadyH.cons rfl (fun K hK => ?_) AllReadyH.nil)
              · refine step_appq (by rfl) _ _ (by rfl) w4.heap.size _ [] l (by rfl) (ownQ_at f2 hbk2) A n c HN.out (by rfl) (HR4.out.on hcur) hl1 hcur.size ?_
                intro v5 W5 hown5 hb5 hg5
                replace f10 := keepX f10 f2 (by simp) hg5
                replace hcur := hcur.trans hb5
                refine hK.out _ _ (KS.out _ hcur) (fun hHeld => ?_)
                clear hK K f2 hg5 hb5
                (try simp only [List.setIfInBounds_toArray, List.set_cons_zero, List.set_cons_succ])
                refine wpAnyH_ready (rs := [7]) (by kernel_rfl) (by simp) ?_
                refine AllReadyH.cons rfl (fun K hK => ?_) AllReadyH.nil
                · go_simp
                  obtain ⟨VN, k7, hVN, hk7, hbk7, hcurN, f7N, hold⟩ := alloc_abs (Obj.cells #[Value.string a0, Value.string v0, Value.bool t0] 45) hcur
                  replace hown5 := OwnQ.alloc hown5 (Obj.cells #[Value.string a0, Value.string v0, Value.bool t0] 45)
                  replace f10 := hold _ _ f10
                  rw [hVN] at ⊢ hown5
                  rw [hk7]
                  refine hK.out _ _ (KS.out _ hcurN) (fun hHeld => ?_)
                  clear hK K hold hVN hk7
                  replace hcur := hcurN; have f7 := f7N; clear hcurN f7N
                  (try simp only [List.setIfInBounds_toArray, List.set_cons_zero, List.set_cons_succ])
                  refine wpAnyH_ready (rs := [8]) (by kernel_rfl) (by simp) ?_
                  refine AllReadyH.cons rfl (fun K hK => ?_) AllReadyH.nil
                  · refine step_appq (by rfl) _ _ (by rfl) w4.heap.size v5 l [(a0, v0, t0)] (by rfl) hown5 _ 1 1 rfl (by rfl) (rq_heap ha9 hv9 f7) hl2 hcur.size ?_
                    intro v6 W6 hown6 hb6 hg6
                    obtain ⟨A6, c6, rfl, hc6⟩ := OwnQ.sliceN hown6 hLL
                    replace f10 := keepL f10 hown5 (by decide) hg6
                    replace hcur := hcur.trans hb6
                    refine hK.out _ _ (KS.out _ hcur) (fun hHeld => ?_)
                    clear hK K f7 hg6 hb6 hown5
                    (try simp only [List.setIfInBounds_toArray, List.set_cons_zero, List.set_cons_succ])
                    refine held_take (i := 9) (d := 47) (v := ?v9_41) rfl rfl (by kernel_rfl) (by kernel_rfl) (by kernel_rfl) (fun _ _ _ h => h) (Or.inl ⟨by rfl, ?y9_41⟩) (by assumption) ?r9_41
                    case y9_41 => (intro w hSw; (try dsimp only at hSw); go_simp <;> with_reducible rfl)
                    (try simp only [List.setIfInBounds_toArray, List.set_cons_zero, List.set_cons_succ])
                    refine wpAnyH_ready (rs := [11]) (by kernel_rfl) (by simp) ?_
                    refine AllReadyH.cons rfl (fun K hK => ?_) AllReadyH.nil
                    · have g0 := (sel_cells f10).1; have g1 := (sel_cells f10).2.1; have g2 := (sel_cells f10).2.2.1; have g3 := (sel_cells f10).2.2.2
                      go_simp
                      obtain ⟨e1, e2, e3⟩ := set_sel f10 hcur hbk10 hown6 (by rw [hLL]; omega) hsz1 rfl
                      refine hK.out _ _ (KS.out _ e1) (fun hHeld => ?_)
                      refine wpAnyH_done (by kernel_rfl) ?_ _
                      go_wp2_with fail
                      go_meet
                      exact ⟨k10, A6, c6, rfl, Lib.hid ⟨e1, hbk10, e2, e3, hc6⟩⟩
              · go_simp
                obtain ⟨VN, k7, hVN, hk7, hbk7, hcurN, f7N, hold⟩ := alloc_abs (Obj.cells #[Value.string a0, Value.string v0, Value.bool t0] 45) hcur
                replace f2 := hold _ _ f2
                replace f10 := hold _ _ f10
                rw [hVN] at ⊢
                rw [hk7]
                refine hK.out _ _ (KS.out _ hcurN) (fun hHeld => ?_)
                clear hK K hold hVN hk7
                replace hcur := hcurN; have f7 := f7N; clear hcurN f7N
                (try simp only [List.setIfInBounds_toArray, List.set_cons_zero, List.set_cons_succ])
                refine wpAnyH_ready (rs := [5]) (by kernel_rfl) (by simp) ?_
                refine AllReadyH.cons rfl (fun K hK => ?_) AllReadyH.nil
                · refine step_appq (by rfl) _ _ (by rfl) w4.heap.size _ [] l (by rfl) (ownQ_at f2 hbk2) A n c HN.out (by rfl) (HR4.out.on hcur) hl1 hcur.size ?_
                  intro v5 W5 hown5 hb5 hg5
                  replace f7 := keepX f7 f2 (by simp) hg5
                  replace f10 := keepX f10 f2 (by simp) hg5
                  replace hcur := hcur.trans hb5
                  refine hK.out _ _ (KS.out _ hcur) (fun hHeld => ?_)
                  clear hK K f2 hg5 hb5
                  (try simp only [List.setIfInBounds_toArray, List.set_cons_zero, List.set_cons_succ])
                  refine wpAnyH_ready (rs := [8]) (by kernel_rfl) (by simp) ?_
                  refine AllReadyH.cons rfl (fun K hK => ?_) AllReadyH.nil
                  · refine step_appq (by rfl) _ _ (by rfl) w4.heap.size v5 l [(a0, v0, t0)] (by rfl) hown5 _ 1 1 rfl (by rfl) (rq_heap ha9 hv9 f7) hl2 hcur.size ?_
                    intro v6 W6 hown6 hb6 hg6
                    obtain ⟨A6, c6, rfl, hc6⟩ := OwnQ.sliceN hown6 hLL
                    replace f10 := keepL f10 hown5 (by decide) hg6
                    replace hcur := hcur.trans hb6
                    refine hK.out _ _ (KS.out _ hcur) (fun hHeld => ?_)
                    clear hK K f7 hg6 hb6 hown5
                    (try simp only [List.setIfInBounds_toArray, List.set_cons_zero, List.set_cons_succ])
                    refine held_take (i := 9) (d := 47) (v := ?v9_46) rfl rfl (by kernel_rfl) (by kernel_rfl) (by kernel_rfl) (fun _ _ _ h => h) (Or.inl ⟨by rfl, ?y9_46⟩) (by assumption) ?r9_46
                    case y9_46 => (intro w hSw; (try dsimp only at hSw); go_simp <;> with_reducible rfl)
                    (try simp only [List.setIfInBounds_toArray, List.set_cons_zero, List.set_cons_succ])
                    refine wpAnyH_ready (rs := [11]) (by kernel_rfl) (by simp) ?_
                    refine AllReadyH.cons rfl (fun K hK => ?_) AllReadyH.nil
                    · have g0 := (sel_cells f10).1; have g1 := (sel_cells f10).2.1; have g2 := (sel_cells f10).2.2.1; have g3 := (sel_cells f10).2.2.2
                      go_simp
                      obtain ⟨e1, e2, e3⟩ := set_sel f10 hcur hbk10 hown6 (by rw [hLL]; omega) hsz1 rfl
                      refine hK.out _ _ (KS.out _ e1) (fun hHeld => ?_)
                      refine wpAnyH_done (by kernel_rfl) ?_ _
                      go_wp2_with fail
                      go_meet
                      exact ⟨k10, A6, c6, rfl, Lib.hid ⟨e1, hbk10, e2, e3, hc6⟩⟩
          · go_simp
            obtain ⟨VN, k7, hVN, hk7, hbk7, hcurN, f7N, hold⟩ := alloc_abs (Obj.cells #[Value.string a0, Value.string v0, Value.bool t0] 45) hcur
            rw [hVN] at ⊢
            rw [hk7]
            refine hK.out _ _ (KS.out _ hcurN) (fun hHeld => ?_)
            clear hK K hold hVN hk7
            replace hcur := hcurN; have f7 := f7N; clear hcurN f7N
            (try simp only [List.setIfInBounds_toArray, List.set_cons_zero, List.set_cons_succ])
            refine wpAnyH_ready (rs := [2, 10]) (by kernel_rfl) (by simp) ?_
            refine AllReadyH.cons rfl (fun K hK => ?_) (AllReadyH.cons rfl (fun K hK => ?_) AllReadyH.nil)
            · go_simp
              obtain ⟨VN, k2, hVN, hk2, hbk2, hcurN, f2N, hold⟩ := alloc_abs (Obj.cells #[] 45) hcur
              replace f7 := hold _ _ f7
              rw [hVN] at ⊢
              rw [hk2]
              refine hK.out _ _ (KS.out _ hcurN) (fun hHeld => ?_)
              clear hK K hold hVN hk2
              replace hcur := hcurN; have f2 := f2N; clear hcurN f2N
              (try simp only [List.setIfInBounds_toArray, List.set_cons_zero, List.set_cons_succ])
              refine wpAnyH_ready (rs := [5, 10]) (by kernel_rfl) (by simp) ?_
              refine AllReadyH.cons rfl (fun K hK => ?_) (AllReadyH.cons rfl (fun K hK => ?_) AllReadyH.nil)
              · refine step_appq (by rfl) _ _ (by rfl) w4.heap.size _ [] l (by rfl) (ownQ_at f2 hbk2) A n c HN.out (by rfl) (HR4.out.on hcur) hl1 hcur.size ?_
                intro v5 W5 hown5 hb5 hg5
                replace f7 := keepX f7 f2 (by simp) hg5
                replace hcur := hcur.trans hb5
                refine hK.out _ _ (KS.out _ hcur) (fun hHeld => ?_)
                clear hK K f2 hg5 hb5
                (try simp only [List.setIfInBounds_toArray, List.set_cons_zero, List.set_cons_succ])
                refine wpAnyH_ready (rs := [8, 10]) (by kernel_rfl) (by simp) ?_
                refine AllReadyH.cons rfl (fun K hK => ?_) (AllReadyH.cons rfl (fun K hK => ?_) AllReadyH.nil)
                · refine step_appq (by rfl) _ _ (by rfl) w4.heap.size v5 l [(a0, v0, t0)] (by rfl) hown5 _ 1 1 rfl (by rfl) (rq_heap ha9 hv9 f7) hl2 hcur.size ?_
                  intro v6 W6 hown6 hb6 hg6
                  obtain ⟨A6, c6, rfl, hc6⟩ := OwnQ.sliceN hown6 hLL
                  replace hcur := hcur.trans hb6
                  refine hK.out _ _ (KS.out _ hcur) (fun hHeld => ?_)
                  clear hK K f7 hg6 hb6 hown5
                  (try simp only [List.setIfInBounds_toArray, List.set_cons_zero, List.set_cons_succ])
                  refine held_take (i := 9) (d := 47) (v := ?v9_52) rfl rfl (by kernel_rfl) (by kernel_rfl) (by kernel_rfl) (fun _ _ _ h => h) (Or.inl ⟨by rfl, ?y9_52⟩) (by assumption) ?r9_52
                  case y9_52 => (intro w hSw; (try dsimp only at hSw); go_simp <;> with_reducible rfl)
                  (try simp only [List.setIfInBounds_toArray, List.set_cons_zero, List.set_cons_succ])
                  refine wpAnyH_ready (rs := [10]) (by kernel_rfl) (by simp) ?_
                  refine AllReadyH.cons rfl (fun K hK => ?_) AllReadyH.nil
                  · go_simp
                    obtain ⟨VN, k10, hVN, hk10, hbk10, hcurN, f10N, hold⟩ := alloc_abs (Obj.cells #[Value.string ⟨#[]⟩, Value.slice none 0 0] 24) hcur
                    replace hown6 := OwnQ.alloc hown6 (Obj.cells #[Value.string ⟨#[]⟩, Value.slice none 0 0] 24)
                    rw [hVN] at ⊢ hown6
                    rw [hk10]
                    refine hK.out _ _ (KS.out _ hcurN) (fun hHeld => ?_)
                    clear hK K hold hVN hk10
                    replace hcur := hcurN; have f10 := f10N; clear hcurN f10N
                    (try simp only [List.setIfInBounds_toArray, List.set_cons_zero, List.set_cons_succ])
                    refine wpAnyH_ready (rs := [11]) (by kernel_rfl) (by simp) ?_
                    refine AllReadyH.cons rfl (fun K hK => ?_) AllReadyH.nil
                    · have g0 := (sel_cells f10).1; have g1 := (sel_cells f10).2.1; have g2 := (sel_cells f10).2.2.1; have g3 := (sel_cells f10).2.2.2
                      go_simp
                      obtain ⟨e1, e2, e3⟩ := set_sel f10 hcur hbk10 hown6 (by rw [hLL]; omega) hsz1 rfl
                      refine hK.out _ _ (KS.out _ e1) (fun hHeld => ?_)
                      refine wpAnyH_done (by kernel_rfl) ?_ _
                      go_wp2_with fail
                      go_meet
                      exact ⟨k10, A6, c6, rfl, Lib.hid ⟨e1, hbk10, e2, e3, hc6⟩⟩
                · go_simp
                  obtain ⟨VN, k10, hVN, hk10, hbk10, hcurN, f10N, hold⟩ := alloc_abs (Obj.cells #[Value.string ⟨#[]⟩, Value.slice none 0 0] 24) hcur
                  replace hown5 := OwnQ.alloc hown5 (Obj.cells #[Value.string ⟨#[]⟩, Value.slice none 0 0] 24)
                  replace f7 := hold _ _ f7
                  rw [hVN] at ⊢ hown5
                  rw [hk10]
                  refine hK.out _ _ (KS.out _ hcurN) (fun hHeld => ?_)
                  clear hK K hold hVN hk10
                  replace hcur := hcurN; have f10 := f10N; clear hcurN f10N
                  (try simp only [List.setIfInBounds_toArray, List.set_cons_zero, List.set_cons_succ])
                  refine wpAnyH_ready (rs := [8]) (by kernel_rfl) (by simp) ?_
                  refine AllReadyH.cons rfl (fun K hK => ?_) AllReadyH.nil
                  · refine step_appq (by rfl) _ _ (by rfl) w4.heap.size v5 l [(a0, v0, t0)] (by rfl) hown5 _ 1 1 rfl (by rfl) (rq_heap ha9 hv9 f7) hl2 hcur.size ?_
                    intro v6 W6 hown6 hb6 hg6
                    obtain ⟨A6, c6, rfl, hc6⟩ := OwnQ.sliceN hown6 hLL
                    replace f10 := keepL f10 hown5 (by decide) hg6
                    replace hcur := hcur.trans hb6
                    refine hK.out _ _ (KS.out _ hcur) (fun hHeld => ?_)
                    clear hK K f7 hg6 hb6 hown5
                    (try simp only [List.setIfInBounds_toArray, List.set_cons_zero, List.set_cons_succ])
                    refine held_take (i := 9) (d := 47) (v := ?v9_57) rfl rfl (by kernel_rfl) (by kernel_rfl) (by kernel_rfl) (fun _ _ _ h => h) (Or.inl ⟨by rfl, ?y9_57⟩) (by assumption) ?r9_57
                    case y9_57 => (intro w hSw; (try dsimp only at hSw); go_simp <;> with_reducible rfl)
                    (try simp only [List.setIfInBounds_toArray, List.set_cons_zero, List.set_cons_succ])
                    refine wpAnyH_ready (rs := [11]) (by kernel_rfl) (by simp) ?_
                    refine AllReadyH.cons rfl (fun K hK => ?_) AllReadyH.nil
                    · have g0 := (sel_cells f10).1; have g1 := (sel_cells f10).2.1; have g2 := (sel_cells f10).2.2.1; have g3 := (sel_cells f10).2.2.2
                      go_simp
                      obtain ⟨e1, e2, e3⟩ := set_sel f10 hcur hbk10 hown6 (by rw [hLL]; omega) hsz1 rfl
                      refine hK.out _ _ (KS.out _ e1) (fun hHeld => ?_)
                      refine wpAnyH_done (by kernel_rfl) ?_ _
                      go_wp2_with fail
                      go_meet
                      exact ⟨k10, A6, c6, rfl, Lib.hid ⟨e1, hbk10, e2, e3, hc6⟩⟩
              · go_simp
                obtain ⟨VN, k10, hVN, hk10, hbk10, hcurN, f10N, hold⟩ := alloc_abs (Obj.cells #[Value.string ⟨#[]⟩, Value.slice none 0 0] 24) hcur
                replace f2 := hold _ _ f2
                replace f7 := hold _ _ f7
                rw [hVN] at ⊢
                rw [hk10]
                refine hK.out _ _ (KS.out _ hcurN) (fun hHeld => ?_)
                clear hK K hold hVN hk10
                replace hcur := hcurN; have f10 := f10N; clear hcurN f10N
                (try simp only [List.setIfInBounds_toArray, List.set_cons_zero, List.set_cons_succ])
                refine wpAnyH_ready (rs := [5]) (by kernel_rfl) (by simp) ?_
                refine AllReadyH.cons rfl (fun K hK => ?_) AllReadyH.nil
                · refine step_appq (by rfl) _ _ (by rfl) w4.heap.size _ [] l (by rfl) (ownQ_at f2 hbk2) A n c HN.out (by rfl) (HR4.out.on hcur) hl1 hcur.size ?_
                  intro v5 W5 hown5 hb5 hg5
                  replace f7 := keepX f7 f2 (by simp) hg5
                  replace f10 := keepX f10 f2 (by simp) hg5
                  replace hcur := hcur.trans hb5
                  refine hK.out _ _ (KS.out _ hcur) (fun hHeld => ?_)
                  clear hK K f2 hg5 hb5
                  (try simp only [List.setIfInBounds_toArray, List.set_cons_zero, List.set_cons_succ])
                  refine wpAnyH_ready (rs := [8]) (by kernel_rfl) (by simp) ?_
                  refine AllReadyH.cons rfl (fun K hK => ?_) AllReadyH.nil
                  · refine step_appq (by rfl) _ _ (by rfl) w4.heap.size v5 l [(a0, v0, t0)] (by rfl) hown5 _ 1 1 rfl (by rfl) (rq_heap ha9 hv9 f7) hl2 hcur.size ?_
                    intro v6 W6 hown6 hb6 hg6
                    obtain ⟨A6, c6, rfl, hc6⟩ := OwnQ.sliceN hown6 hLL
                    replace f10 := keepL f10 hown5 (by decide) hg6
                    replace hcur := hcur.trans hb6
                    refine hK.out _ _ (KS.out _ hcur) (fun hHeld => ?_)
                    clear hK K f7 hg6 hb6 hown5
                    (try simp only [List.setIfInBounds_toArray, List.set_cons_zero, List.set_cons_succ])
                    refine held_take (i := 9) (d := 47) (v := ?v9_62) rfl rfl (by kernel_rfl) (by kernel_rfl) (by kernel_rfl) (fun _ _ _ h => h) (Or.inl ⟨by rfl, ?y9_62⟩) (by assumption) ?r9_62
                    case y9_62 => (intro w hSw; (try dsimp only at hSw); go_simp <;> with_reducible rfl)
                    (try simp only [List.setIfInBounds_toArray, List.set_cons_zero, List.set_cons_succ])
                    refine wpAnyH_ready (rs := [11]) (by kernel_rfl) (by simp) ?_
                    refine AllReadyH.cons rfl (fun K hK => ?_) AllReadyH.nil
                    · have g0 := (sel_cells f10).1; have g1 := (sel_cells f10).2.1; have g2 := (sel_cells f10).2.2.1; have g3 := (sel_cells f10).2.2.2
                      go_simp
                      obtain ⟨e1, e2, e3⟩ := set_sel f10 hcur hbk10 hown6 (by rw [hLL]; omega) hsz1 rfl
                      refine hK.out _ _ (KS.out _ e1) (fun hHeld => ?_)
                      refine wpAnyH_done (by kernel_rfl) ?_ _
                      go_wp2_with fail
                      go_meet
                      exact ⟨k10, A6, c6, rfl, Lib.hid ⟨e1, hbk10, e2, e3, hc6⟩⟩
            · go_simp
              obtain ⟨VN, k10, hVN, hk10, hbk10, hcurN, f10N, hold⟩ := alloc_abs (Obj.cells #[Value.string ⟨#[]⟩, Value.slice none 0 0] 24) hcur
              replace f7 := hold _ _ f7
              rw [hVN] at ⊢
              rw [hk10]
              refine hK.out _ _ (KS.out _ hcurN) (fun hHeld => ?_)
              clear hK K hold hVN hk10
              replace hcur := hcurN; have f10 := f10N; clear hcurN f10N
              (try simp only [List.setIfInBounds_toArray, List.set_cons_zero, List.set_cons_succ])
              refine wpAnyH_ready (rs := [2]) (by kernel_rfl) (by simp) ?_
              refine AllReadyH.cons rfl (fun K hK => ?_) AllReadyH.nil
              · go_simp
                obtain ⟨VN, k2, hVN, hk2, hbk2, hcurN, f2N, hold⟩ := alloc_abs (Obj.cells #[] 45) hcur
                replace f7 := hold _ _ f7
                replace f10 := hold _ _ f10
                rw [hVN] at ⊢
                rw [hk2]
                refine hK.out _ _ (KS.out _ hcurN) (fun hHeld => ?_)
                clear hK K hold hVN hk2
                replace hcur := hcurN; have f2 := f2N; clear hcurN f2N
                (try simp only [List.setIfInBounds_toArray, List.set_cons_zero, List.set_cons_succ])
                refine wpAnyH_ready (rs := [5]) (by kernel_rfl) (by simp) ?_
                refine AllReadyH.cons rfl (fun K hK => ?_) AllReadyH.nil
                · refine step_appq (by rfl) _ _ (by rfl) w4.heap.size _ [] l (by rfl) (ownQ_at f2 hbk2) A n c HN.out (by rfl) (HR4.out.on hcur) hl1 hcur.size ?_
                  intro v5 W5 hown5 hb5 hg5
                  replace f7 := keepX f7 f2 (by simp) hg5
                  replace f10 := keepX f10 f2 (by simp) hg5
                  replace hcur := hcur.trans hb5
                  refine hK.out _ _ (KS.out _ hcur) (fun hHeld => ?_)
                  clear hK K f2 hg5 hb5
                  (try simp only [List.setIfInBounds_toArray, List.set_cons_zero, List.set_cons_succ])
                  refine wpAnyH_ready (rs := [8]) (by kernel_rfl) (by simp) ?_
                  refine AllReadyH.cons rfl (fun K hK => ?_) AllReadyH.nil
                  · refine step_appq (by rfl) _ _ (by rfl) w4.heap.size v5 l [(a0, v0, t0)] (by rfl) hown5 _ 1 1 rfl (by rfl) (rq_heap ha9 hv9 f7) hl2 hcur.size ?_
                    intro v6 W6 hown6 hb6 hg6
                    obtain ⟨A6, c6, rfl, hc6⟩ := OwnQ.sliceN hown6 hLL
                    replace f10 := keepL f10 hown5 (by decide) hg6
                    replace hcur := hcur.trans hb6
                    refine hK.out _ _ (KS.out _ hcur) (fun hHeld => ?_)
                    clear hK K f7 hg6 hb6 hown5
                    (try simp only [List.setIfInBounds_toArray, List.set_cons_zero, List.set_cons_succ])
                    refine held_take (i := 9) (d := 47) (v := ?v9_68) rfl rfl (by kernel_rfl) (by kernel_rfl) (by kernel_rfl) (fun _ _ _ h => h) (Or.inl ⟨by rfl, ?y9_68⟩) (by assumption) ?r9_68
                    case y9_68 => (intro w hSw; (try dsimp only at hSw); go_simp <;> with_reducible rfl)
                    (try simp only [List.setIfInBounds_toArray, List.set_cons_zero, List.set_cons_succ])
                    refine wpAnyH_ready (rs := [11]) (by kernel_rfl) (by simp) ?_
                    refine AllReadyH.cons rfl (fun K hK => ?_) AllReadyH.nil
                    · have g0 := (sel_cells f10).1; have g1 := (sel_cells f10).2.1; have g2 := (sel_cells f10).2.2.1; have g3 := (sel_cells f10).2.2.2
                      go_simp
                      obtain ⟨e1, e2, e3⟩ := set_sel f10 hcur hbk10 hown6 (by rw [hLL]; omega) hsz1 rfl
                      refine hK.out _ _ (KS.out _ e1) (fun hHeld => ?_)
                      refine wpAnyH_done (by kernel_rfl) ?_ _
                      go_wp2_with fail
                      go_meet
                      exact ⟨k10, A6, c6, rfl, Lib.hid ⟨e1, hbk10, e2, e3, hc6⟩⟩
          · go_simp
            obtain ⟨VN, k10, hVN, hk10, hbk10, hcurN, f10N, hold⟩ := alloc_abs (Obj.cells #[Value.string ⟨#[]⟩, Value.slice none 0 0] 24) hcur
            rw [hVN] at ⊢
            rw [hk10]
            refine hK.out _ _ (KS.out _ hcurN) (fun hHeld => ?_)
            clear hK K hold hVN hk10
            replace hcur := hcurN; have f10 := f10N; clear hcurN f10N
            (try simp only [List.setIfInBounds_toArray, List.set_cons_zero, List.set_cons_succ])
            refine wpAnyH_ready (rs := [2, 7]) (by kernel_rfl) (by simp) ?_
            refine AllReadyH.cons rfl (fun K hK => ?_) (AllReadyH.cons rfl (fun K hK => ?_) AllReadyH.nil)
            · go_simp
              obtain ⟨VN, k2, hVN, hk2, hbk2, hcurN, f2N, hold⟩ := alloc_abs (Obj.cells #[] 45) hcur
              replace f10 := hold _ _ f10
              rw [hVN] at ⊢
              rw [hk2]
              refine hK.out _ _ (KS.out _ hcurN) (fun hHeld => ?_)
              clear hK K hold hVN hk2
              replace hcur := hcurN; have f2 := f2N; clear hcurN f2N
              (try simp only [List.setIfInBounds_toArray, List.set_cons_zero, List.set_cons_succ])
              refine wpAnyH_ready (rs := [5, 7]) (by kernel_rfl) (by simp) ?_
              refine AllReadyH.cons rfl (fun K hK => ?_) (AllReadyH.cons rfl (fun K hK => ?_) AllReadyH.nil)
              · refine step_appq (by rfl) _ _ (by rfl) w4.heap.size _ [] l (by rfl) (ownQ_at f2 hbk2) A n c HN.out (by rfl) (HR4.out.on hcur) hl1 hcur.size ?_
                intro v5 W5 hown5 hb5 hg5
                replace f10 := keepX f10 f2 (by simp) hg5
                replace hcur := hcur.trans hb5
                refine hK.out _ _ (KS.out _ hcur) (fun hHeld => ?_)
                clear hK K f2 hg5 hb5
                (try simp only [List.setIfInBounds_toArray, List.set_cons_zero, List.set_cons_succ])
                refine wpAnyH_ready (rs := [7]) (by kernel_rfl) (by simp) ?_
                refine AllReadyH.cons rfl (fun K hK => ?_) AllReadyH.nil
                · go_simp
                  obtain ⟨VN, k7, hVN, hk7, hbk7, hcurN, f7N, hold⟩ := alloc_abs (Obj.cells #[Value.string a0, Value.string v0, Value.bool t0] 45) hcur
                  replace hown5 := OwnQ.alloc hown5 (Obj.cells #[Value.string a0, Value.string v0, Value.bool t0] 45)
                  replace f10 := hold _ _ f10
                  rw [hVN] at ⊢ hown5
                  rw [hk7]
                  refine hK.out _ _ (KS.out _ hcurN) (fun hHeld => ?_)
                  clear hK K hold hVN hk7
                  replace hcur := hcurN; have f7 := f7N; clear hcurN f7N
                  (try simp only [List.setIfInBounds_toArray, List.set_cons_zero, List.set_cons_succ])
                  refine wpAnyH_ready (rs := [8]) (by kernel_rfl) (by simp) ?_
                  refine AllReadyH.cons rfl (fun K hK => ?_) AllReadyH.nil
                  · refine step_appq (by rfl) _ _ (by rfl) w4.heap.size v5 l [(a0, v0, t0)] (by rfl) hown5 _ 1 1 rfl (by rfl) (rq_heap ha9 hv9 f7) hl2 hcur.size ?_
                    intro v6 W6 hown6 hb6 hg6
                    obtain ⟨A6, c6, rfl, hc6⟩ := OwnQ.sliceN hown6 hLL
                    replace f10 := keepL f10 hown5 (by decide) hg6
                    replace hcur := hcur.trans hb6
                    refine hK.out _ _ (KS.out _ hcur) (fun hHeld => ?_)
                    clear hK K f7 hg6 hb6 hown5
                    (try simp only [List.setIfInBounds_toArray, List.set_cons_zero, List.set_cons_succ])
                    refine held_take (i := 9) (d := 47) (v := ?v9_75) rfl rfl (by kernel_rfl) (by kernel_rfl) (by kernel_rfl) (fun _ _ _ h => h) (Or.inl ⟨by rfl, ?y9_75⟩) (by assumption) ?r9_75
                    case y9_75 => (intro w hSw; (try dsimp only at hSw); go_simp <;> with_reducible rfl)
                    (try simp only [List.setIfInBounds_toArray, List.set_cons_zero, List.set_cons_succ])
                    refine wpAnyH_ready (rs := [11]) (by kernel_rfl) (by simp) ?_
                    refine AllReadyH.cons rfl (fun K hK => ?_) AllReadyH.nil
                    · have g0 := (sel_cells f10).1; have g1 := (sel_cells f10).2.1; have g2 := (sel_cells f10).2.2.1; have g3 := (sel_cells f10).2.2.2
                      go_simp
                      obtain ⟨e1, e2, e3⟩ := set_sel f10 hcur hbk10 hown6 (by rw [hLL]; omega) hsz1 rfl
                      refine hK.out _ _ (KS.out _ e1) (fun hHeld => ?_)
                      refine wpAnyH_done (by kernel_rfl) ?_ _
                      go_wp2_with fail
                      go_meet
                      exact ⟨k10, A6, c6, rfl, Lib.hid ⟨e1, hbk10, e2, e3, hc6⟩⟩
              · go_simp
                obtain ⟨VN, k7, hVN, hk7, hbk7, hcurN, f7N, hold⟩ := alloc_abs (Obj.cells #[Value.string a0, Value.string v0, Value.bool t0] 45) hcur
                replace f2 := hold _ _ f2
                replace f10 := hold _ _ f10
                rw [hVN] at ⊢
                rw [hk7]
                refine hK.out _ _ (KS.out _ hcurN) (fun hHeld => ?_)
                clear hK K hold hVN hk7
                replace hcur := hcurN; have f7 := f7N; clear hcurN f7N
                (try simp only [List.setIfInBounds_toArray, List.set_cons_zero, List.set_cons_succ])
                refine wpAnyH_ready (rs := [5]) (by kernel_rfl) (by simp) ?_
                refine AllReadyH.cons rfl (fun K hK => ?_) AllReadyH.nil
                · refine step_appq (by rfl) _ _ (by rfl) w4.heap.size _ [] l (by rfl) (ownQ_at f2 hbk2) A n c HN.out (by rfl) (HR4.out.on hcur) hl1 hcur.size ?_
                  intro v5 W5 hown5 hb5 hg5
                  replace f7 := keepX f7 f2 (by simp) hg5
                  replace f10 := keepX f10 f2 (by simp) hg5
                  replace hcur := hcur.trans hb5
                  refine hK.out _ _ (KS.out _ hcur) (fun hHeld => ?_)
                  clear hK K f2 hg5 hb5
                  (try simp only [List.setIfInBounds_toArray, List.set_cons_zero, List.set_cons_succ])
                  refine wpAnyH_ready (rs := [8]) (by kernel_rfl) (by simp) ?_
                  refine AllReadyH.cons rfl (fun K hK => ?_) AllReadyH.nil
                  · refine step_appq (by rfl) _ _ (by rfl) w4.heap.size v5 l [(a0, v0, t0)] (by rfl) hown5 _ 1 1 rfl (by rfl) (rq_heap ha9 hv9 f7) hl2 hcur.size ?_
                    intro v6 W6 hown6 hb6 hg6
                    obtain ⟨A6, c6, rfl, hc6⟩ := OwnQ.sliceN hown6 hLL
                    replace f10 := keepL f10 hown5 (by decide) hg6
                    replace hcur := hcur.trans hb6
                    refine hK.out _ _ (KS.out _ hcur) (fun hHeld => ?_)
                    clear hK K f7 hg6 hb6 hown5
                    (try simp only [List.setIfInBounds_toArray, List.set_cons_zero, List.set_cons_succ])
                    refine held_take (i := 9) (d := 47) (v := ?v9_80) rfl rfl (by kernel_rfl) (by kernel_rfl) (by kernel_rfl) (fun _ _ _ h => h) (Or.inl ⟨by rfl, ?y9_80⟩) (by assumption) ?r9_80
                    case y9_80 => (intro w hSw; (try dsimp only at hSw); go_simp <;> with_reducible rfl)
                    (try simp only [List.setIfInBounds_toArray, List.set_cons_zero, List.set_cons_succ])
                    refine wpAnyH_ready (rs := [11]) (by kernel_rfl) (by simp) ?_
                    refine AllReadyH.cons rfl (fun K hK => ?_) AllReadyH.nil
                    · have g0 := (sel_cells f10).1; have g1 := (sel_cells f10).2.1; have g2 := (sel_cells f10).2.2.1; have g3 := (sel_cells f10).2.2.2
                      go_simp
                      obtain ⟨e1, e2, e3⟩ := set_sel f10 hcur hbk10 hown6 (by rw [hLL]; omega) hsz1 rfl
                      refine hK.out _ _ (KS.out _ e1) (fun hHeld => ?_)
                      refine wpAnyH_done (by kernel_rfl) ?_ _
                      go_wp2_with fail
                      go_meet
                      exact ⟨k10, A6, c6, rfl, Lib.hid ⟨e1, hbk10, e2, e3, hc6⟩⟩
            · go_simp
              obtain ⟨VN, k7, hVN, hk7, hbk7, hcurN, f7N, hold⟩ := alloc_abs (Obj.cells #[Value.string a0, Value.string v0, Value.bool t0] 45) hcur
              replace f10 := hold _ _ f10
              rw [hVN] at ⊢
              rw [hk7]
              refine hK.out _ _ (KS.out _ hcurN) (fun hHeld => ?_)
              clear hK K hold hVN hk7
              replace hcur := hcurN; have f7 := f7N; clear hcurN f7N
              (try simp only [List.setIfInBounds_toArray, List.set_cons_zero, List.set_cons_succ])
              refine wpAnyH_ready (rs := [2]) (by kernel_rfl) (by simp) ?_
              refine AllReadyH.cons rfl (fun K hK => ?_) AllReadyH.nil
              · go_simp
                obtain ⟨VN, k2, hVN, hk2, hbk2, hcurN, f2N, hold⟩ := alloc_abs (Obj.cells #[] 45) hcur
                replace f7 := hold _ _ f7
                replace f10 := hold _ _ f10
                rw [hVN] at ⊢
                rw [hk2]
                refine hK.out _ _ (KS.out _ hcurN) (fun hHeld => ?_)
                clear hK K hold hVN hk2
                replace hcur := hcurN; have f2 := f2N; clear hcurN f2N
                (try simp only [List.setIfInBounds_toArray, List.set_cons_zero, List.set_cons_succ])
                refine wpAnyH_ready (rs := [5]) (by kernel_rfl) (by simp) ?_
                refine AllReadyH.cons rfl (fun K hK => ?_) AllReadyH.nil
                · refine step_appq (by rfl) _ _ (by rfl) w4.heap.size _ [] l (by rfl) (ownQ_at f2 hbk2) A n c HN.out (by rfl) (HR4.out.on hcur) hl1 hcur.size ?_
                  intro v5 W5 hown5 hb5 hg5
                  replace f7 := keepX f7 f2 (by simp) hg5
                  replace f10 := keepX f10 f2 (by simp) hg5
                  replace hcur := hcur.trans hb5
                  refine hK.out _ _ (KS.out _ hcur) (fun hHeld => ?_)
                  clear hK K f2 hg5 hb5
                  (try simp only [List.setIfInBounds_toArray, List.set_cons_zero, List.set_cons_succ])
                  refine wpAnyH_ready (rs := [8]) (by kernel_rfl) (by simp) ?_
                  refine AllReadyH.cons rfl (fun K hK => ?_) AllReadyH.nil
                  · refine step_appq (by rfl) _ _ (by rfl) w4.heap.size v5 l [(a0, v0, t0)] (by rfl) hown5 _ 1 1 rfl (by rfl) (rq_heap ha9 hv9 f7) hl2 hcur.size ?_
                    intro v6 W6 hown6 hb6 hg6
                    obtain ⟨A6, c6, rfl, hc6⟩ := OwnQ.sliceN hown6 hLL
                    replace f10 := keepL f10 hown5 (by decide) hg6
                    replace hcur := hcur.trans hb6
                    refine hK.out _ _ (KS.out _ hcur) (fun hHeld => ?_)
                    clear hK K f7 hg6 hb6 hown5
                    (try simp only [List.setIfInBounds_toArray, List.set_cons_zero, List.set_cons_succ])
                    refine held_take (i := 9) (d := 47) (v := ?v9_86) rfl rfl (by kernel_rfl) (by kernel_rfl) (by kernel_rfl) (fun _ _ _ h => h) (Or.inl ⟨by rfl, ?y9_86⟩) (by assumption) ?r9_86
                    case y9_86 => (intro w hSw; (try dsimp only at hSw); go_simp <;> with_reducible rfl)
                    (try simp only [List.setIfInBounds_toArray, List.set_cons_zero, List.set_cons_succ])
                    refine wpAnyH_ready (rs := [11]) (by kernel_rfl) (by simp) ?_
                    refine AllReadyH.cons rfl (fun K hK => ?_) AllReadyH.nil
                    · have g0 := (sel_cells f10).1; have g1 := (sel_cells f10).2.1; have g2 := (sel_cells f10).2.2.1; have g3 := (sel_cells f10).2.2.2
                      go_simp
                      obtain ⟨e1, e2, e3⟩ := set_sel f10 hcur hbk10 hown6 (by rw [hLL]; omega) hsz1 rfl
                      refine hK.out _ _ (KS.out _ e1) (fun hHeld => ?_)
                      refine wpAnyH_done (by kernel_rfl) ?_ _
                      go_wp2_with fail
                      go_meet
                      exact ⟨k10, A6, c6, rfl, Lib.hid ⟨e1, hbk10, e2, e3, hc6⟩⟩
        case rest =>
          obtain ⟨k9, A9, c9, rfl, H5⟩ := hcut
          have hVc := below_on hV4 H5.out.1
          obtain ⟨m0, m1, m2, _⟩ := X2.out.on hVc
          obtain ⟨tn, htn⟩ : ∃ b, (!t0) = b := ⟨_, rfl⟩
          go_upto_region 8 with fail
          obtain ⟨w8, Pn, hw8, hPn, hb8, X8⟩ := box_mat wc a0 v0 tn
          rw [hPn, hw8]
          clear hPn hw8 m0 m1 m2
          have hV8 := below_on hVc hb8
          have X8 := Lib.hid X8
          have HR8 := Lib.hid (HRW.out.on hV8)
          have KS8 : Hid (∀ V, Below w8.heap.size w8 V → V.cell? ⟨P, 0, none⟩ = some (.string N) ∧ V.cell? ⟨P, 1, none⟩ = some (.slice A n c) ∧ V.cell? ⟨Pn, 0, none⟩ = some (.string a0) ∧ V.cell? ⟨Pn, 1, none⟩ = some (.string v0) ∧ V.cell? ⟨Pn, 2, none⟩ = some (.bool tn)) := Lib.hid (fun V h => by
            obtain ⟨e0, e1, _⟩ := X1.out.on (below_on hV8 h)
            obtain ⟨f0, f1, f2, _⟩ := X8.out.on h
            exact ⟨e0, e1, f0, f1, f2⟩)
          have hl2n : l.length + [(a0, v0, tn)].length ≤ 1000000 := by rw [← HN.out]; simp; omega
          have hLLn : (l ++ [(a0, v0, tn)]).length = n + 1 := by rw [List.length_append, ← HN.out]; rfl
          have hsz2 : ∀ t ∈ l ++ [(a0, v0, tn)], t.1.size ≤ 9223372036854775807 ∧ t.2.1.size ≤ 9223372036854775807 := fun t ht => by
            rcases List.mem_append.1 ht with h | h
            · exact HR8.out.size t h
            · simp only [List.mem_cons, List.not_mem_nil, or_false] at h
              subst h
              exact ⟨ha9, hv9⟩
          have HTN := Lib.hid htn
          have HHb8 := Lib.hid hb8
          clear htn hb8 hsz1 hl2 KS HR4
          go_cut [11] (fun s11 wx => ∃ k9 A9 c9, s11 = .pointer (some ⟨k9, 0, none⟩) ∧ Hid (Below w8.heap.size w8 wx ∧ w8.heap.size ≤ k9 ∧ Bx wx k9 N A9 (n + 1) c9 ∧ Rq wx wx.heap.size A9 (l ++ [(a0, v0, tn)]) ∧ Cap (n + 1) c9))
          case first =>
            have hcur : Below w8.heap.size w8 w8.drew := (Below.refl _ _).drew
            refine wp_region_held_drew (S := (fun V => V.cell? ⟨P, 0, none⟩ = some (.string N) ∧ V.cell? ⟨P, 1, none⟩ = some (.slice A n c) ∧ V.cell? ⟨Pn, 0, none⟩ = some (.string a0) ∧ V.cell? ⟨Pn, 1, none⟩ = some (.string v0) ∧ V.cell? ⟨Pn, 2, none⟩ = some (.bool tn))) (by kernel_rfl) (KS8.out _ hcur) (fun hHeld => ?_)
            obtain ⟨V0, hV0⟩ : ∃ V, w8.drew = V := ⟨_, rfl⟩
            rw [hV0] at hcur hHeld ⊢
            clear hV0
            refine held_take (i := 0) (d := 53) (v := ?v11_1) rfl rfl (by kernel_rfl) (by kernel_rfl) (by kernel_rfl) (fun _ _ _ h => h) (Or.inl ⟨by rfl, ?y11_1⟩) (by assumption) ?r11_1
            case y11_1 => (intro w hSw; (try dsimp only at hSw); go_simp <;> with_reducible rfl)
            (try simp only [List.setIfInBounds_toArray, List.set_cons_zero, List.set_cons_succ])
            refine held_take (i := 1) (d := 54) (v := ?v11_2) rfl rfl (by kernel_rfl) (by kernel_rfl) (by kernel_rfl) (fun _ _ _ h => h) (Or.inl ⟨by rfl, ?y11_2⟩) (by assumption) ?r11_2
            case y11_2 => (intro w hSw; (try dsimp only at hSw); go_simp <;> with_reducible rfl)
            (try simp only [List.setIfInBounds_toArray, List.set_cons_zero, List.set_cons_succ])
            refine held_take (i := 3) (d := 56) (v := ?v11_3) rfl rfl (by kernel_rfl) (by kernel_rfl) (by kernel_rfl) (fun _ _ _ h => h) (Or.inl ⟨by rfl, ?y11_3⟩) (by assumption) ?r11_3
            case y11_3 => (intro w hSw; (try dsimp only at hSw); go_simp <;> with_reducible rfl)
            (try simp only [List.setIfInBounds_toArray, List.set_cons_zero, List.set_cons_succ])
            refine held_take (i := 4) (d := 57) (v := ?v11_4) rfl rfl (by kernel_rfl) (by kernel_rfl) (by kernel_rfl) (fun _ _ _ h => h) (Or.inl ⟨by rfl, ?y11_4⟩) (by assumption) ?r11_4
            case y11_4 => (intro w hSw; (try dsimp only at hSw); go_simp <;> with_reducible rfl)
            (try simp only [List.setIfInBounds_toArray, List.set_cons_zero, List.set_cons_succ])
            refine held_take (i := 6) (d := 59) (v := ?v11_5) rfl rfl (by kernel_rfl) (by kernel_rfl) (by kernel_rfl) (fun _ _ _ h => h) (Or.inl ⟨by rfl, ?y11_5⟩) (by assumption) ?r11_5
            case y11_5 => (intro w hSw; (try dsimp only at hSw); go_simp <;> with_reducible rfl)
            (try simp only [List.setIfInBounds_toArray, List.set_cons_zero, List.set_cons_succ])
            refine wpAnyH_ready (rs := [2, 7, 10]) (by kernel_rfl) (by simp) ?_
            refine AllReadyH.cons rfl (fun K hK => ?_) (AllReadyH.cons rfl (fun K hK => ?_) (AllReadyH.cons rfl (fun K hK => ?_) AllReadyH.nil))
            · go_simp
              obtain ⟨VN, k2, hVN, hk2, hbk2, hcurN, f2N, hold⟩ := alloc_abs (Obj.cells #[] 45) hcur
              rw [hVN] at ⊢
              rw [hk2]
              refine hK.out _ _ (KS8.out _ hcurN) (fun hHeld => ?_)
              clear hK K hold hVN hk2
              replace hcur := hcurN; have f2 := f2N; clear hcurN f2N
              (try simp only [List.setIfInBounds_toArray, List.set_cons_zero, List.set_cons_succ])
              refine wpAnyH_ready (rs := [5, 7, 10]) (by kernel_rfl) (by simp) ?_
              refine AllReadyH.cons rfl (fun K hK => ?_) (AllReadyH.cons rfl (fun K hK => ?_) (AllReadyH.cons rfl (fun K hK => ?_) AllReadyH.nil))
              · refine step_appq (by rfl) _ _ (by rfl) w8.heap.size _ [] l (by rfl) (ownQ_at f2 hbk2) A n c HN.out (by rfl) (HR8.out.on hcur) hl1 hcur.size ?_
                intro v5 W5 hown5 hb5 hg5
                replace hcur := hcur.trans hb5
                refine hK.out _ _ (KS8.out _ hcur) (fun hHeld => ?_)
                clear hK K f2 hg5 hb5
                (try simp only [List.setIfInBounds_toArray, List.set_cons_zero, List.set_cons_succ])
                refine wpAnyH_ready (rs := [7, 10]) (by kernel_rfl) (by simp) ?_
                refine AllReadyH.cons rfl (fun K hK => ?_) (AllReadyH.cons rfl (fun K hK => ?_) AllReadyH.nil)
                · go_simp
                  obtain ⟨VN, k7, hVN, hk7, hbk7, hcurN, f7N, hold⟩ := alloc_abs (Obj.cells #[Value.string a0, Value.string v0, Value.bool tn] 45) hcur
                  replace hown5 := OwnQ.alloc hown5 (Obj.cells #[Value.string a0, Value.string v0, Value.bool tn] 45)
                  rw [hVN] at ⊢ hown5
                  rw [hk7]
                  refine hK.out _ _ (KS8.out _ hcurN) (fun hHeld => ?_)
                  clear hK K hold hVN hk7
                  replace hcur := hcurN; have f7 := f7N; clear hcurN f7N
                  (try simp only [List.setIfInBounds_toArray, List.set_cons_zero, List.set_cons_succ])
                  refine wpAnyH_ready (rs := [8, 10]) (by kernel_rfl) (by simp) ?_
                  refine AllReadyH.cons rfl (fun K hK => ?_) (AllReadyH.cons rfl (fun K hK => ?_) AllReadyH.nil)
                  · refine step_appq (by rfl) _ _ (by rfl) w8.heap.size v5 l [(a0, v0, tn)] (by rfl) hown5 _ 1 1 rfl (by rfl) (rq_heap ha9 hv9 f7) hl2n hcur.size ?_
                    intro v6 W6 hown6 hb6 hg6
                    obtain ⟨A6, c6, rfl, hc6⟩ := OwnQ.sliceN hown6 hLLn
                    replace hcur := hcur.trans hb6
                    refine hK.out _ _ (KS8.out _ hcur) (fun hHeld => ?_)
                    clear hK K f7 hg6 hb6 hown5
                    (try simp only [List.setIfInBounds_toArray, List.set_cons_zero, List.set_cons_succ])
                    refine held_take (i := 9) (d := 62) (v := ?v11_10) rfl rfl (by kernel_rfl) (by kernel_rfl) (by kernel_rfl) (fun _ _ _ h => h) (Or.inl ⟨by rfl, ?y11_10⟩) (by assumption) ?r11_10
                    case y11_10 => (intro w hSw; (try dsimp only at hSw); go_simp <;> with_reducible rfl)
                    (try simp only [List.setIfInBounds_toArray, List.set_cons_zero, List.set_cons_succ])
                    refine wpAnyH_ready (rs := [10]) (by kernel_rfl) (by simp) ?_
                    refine AllReadyH.cons rfl (fun K hK => ?_) AllReadyH.nil
                    · go_simp
                      obtain ⟨VN, k10, hVN, hk10, hbk10, hcurN, f10N, hold⟩ := alloc_abs (Obj.cells #[Value.string ⟨#[]⟩, Value.slice none 0 0] 24) hcur
                      replace hown6 := OwnQ.alloc hown6 (Obj.cells #[Value.string ⟨#[]⟩, Value.slice none 0 0] 24)
                      rw [hVN] at ⊢ hown6
                      rw [hk10]
                      refine hK.out _ _ (KS8.out _ hcurN) (fun hHeld => ?_)
                      clear hK K hold hVN hk10
                      replace hcur := hcurN; have f10 := f10N; clear hcurN f10N
                      (try simp only [List.setIfInBounds_toArray, List.set_cons_zero, List.set_cons_succ])
                      refine wpAnyH_ready (rs := [11]) (by kernel_rfl) (by simp) ?_
                      refine AllReadyH.cons rfl (fun K hK => ?_) AllReadyH.nil
                      · have g0 := (sel_cells f10).1; have g1 := (sel_cells f10).2.1; have g2 := (sel_cells f10).2.2.1; have g3 := (sel_cells f10).2.2.2
                        go_simp
                        obtain ⟨e1, e2, e3⟩ := set_sel f10 hcur hbk10 hown6 (by rw [hLLn]; omega) hsz2 rfl
                        refine hK.out _ _ (KS8.out _ e1) (fun hHeld => ?_)
                        refine wpAnyH_done (by kernel_rfl) ?_ _
                        go_wp2_with fail
                        go_meet
                        exact ⟨k10, A6, c6, rfl, Lib.hid ⟨e1, hbk10, e2, e3, hc6⟩⟩
                  · go_simp
                    obtain ⟨VN, k10, hVN, hk10, hbk10, hcurN, f10N, hold⟩ := alloc_abs (Obj.cells #[Value.string ⟨#[]⟩, Value.slice none 0 0] 24) hcur
                    replace hown5 := OwnQ.alloc hown5 (Obj.cells #[Value.string ⟨#[]⟩, Value.slice none 0 0] 24)
                    replace f7 := hold _ _ f7
                    rw [hVN] at ⊢ hown5
                    rw [hk10]
                    refine hK.out _ _ (KS8.out _ hcurN) (fun hHeld => ?_)
                    clear hK K hold hVN hk10
                    replace hcur := hcurN; have f10 := f10N; clear hcurN f10N
                    (try simp only [List.setIfInBounds_toArray, List.set_cons_zero, List.set_cons_succ])
                    refine wpAnyH_ready (rs := [8]) (by kernel_rfl) (by simp) ?_
                    refine AllReadyH.cons rfl (fun K hK => ?_) AllReadyH.nil
                    · refine step_appq (by rfl) _ _ (by rfl) w8.heap.size v5 l [(a0, v0, tn)] (by rfl) hown5 _ 1 1 rfl (by rfl) (rq_heap ha9 hv9 f7) hl2n hcur.size ?_
                      intro v6 W6 hown6 hb6 hg6
                      obtain ⟨A6, c6, rfl, hc6⟩ := OwnQ.sliceN hown6 hLLn
                      replace f10 := keepL f10 hown5 (by decide) hg6
                      replace hcur := hcur.trans hb6
                      refine hK.out _ _ (KS8.out _ hcur) (fun hHeld => ?_)
                      clear hK K f7 hg6 hb6 hown5
                      (try simp only [List.setIfInBounds_toArray, List.set_cons_zero, List.set_cons_succ])
                      refine held_take (i := 9) (d := 62) (v := ?v11_15) rfl rfl (by kernel_rfl) (by kernel_rfl) (by kernel_rfl) (fun _ _ _ h => h) (Or.inl ⟨by rfl, ?y11_15⟩) (by assumption) ?r11_15
                      case y11_15 => (intro w hSw; (try dsimp only at hSw); go_simp <;> with_reducible rfl)
                      (try simp only [List.setIfInBounds_toArray, List.set_cons_zero, List.set_cons_succ])
                      refine wpAnyH_ready (rs := [11]) (by kernel_rfl) (by simp) ?_
                      refine AllReadyH.cons rfl (fun K hK => ?_) AllReadyH.nil
                      · have g0 := (sel_cells f10).1; have g1 := (sel_cells f10).2.1; have g2 := (sel_cells f10).2.2.1; have g3 := (sel_cells f10).2.2.2
                        go_simp
                        obtain ⟨e1, e2, e3⟩ := set_sel f10 hcur hbk10 hown6 (by rw [hLLn]; omega) hsz2 rfl
                        refine hK.out _ _ (KS8.out _ e1) (fun hHeld => ?_)
                        refine wpAnyH_done (by kernel_rfl) ?_ _
                        go_wp2_with fail
                        go_meet
                        exact ⟨k10, A6, c6, rfl, Lib.hid ⟨e1, hbk10, e2, e3, hc6⟩⟩
                · go_simp
                  obtain ⟨VN, k10, hVN, hk10, hbk10, hcurN, f10N, hold⟩ := alloc_abs (Obj.cells #[Value.string ⟨#[]⟩, Value.slice none 0 0] 24) hcur
                  replace hown5 := OwnQ.alloc hown5 (Obj.cells #[Value.string ⟨#[]⟩, Value.slice none 0 0] 24)
                  rw [hVN] at ⊢ hown5
                  rw [hk10]
                  refine hK.out _ _ (KS8.out _ hcurN) (fun hHeld => ?_)
                  clear hK K hold hVN hk10
                  replace hcur := hcurN; have f10 := f10N; clear hcurN f10N
                  (try simp only [List.setIfInBounds_toArray, List.set_cons_zero, List.set_cons_succ])
                  refine wpAnyH_ready (rs := [7]) (by kernel_rfl) (by simp) ?_
                  refine AllReadyH.cons rfl (fun K hK => ?_) AllReadyH.nil
                  · go_simp
                    obtain ⟨VN, k7, hVN, hk7, hbk7, hcurN, f7N, hold⟩ := alloc_abs (Obj.cells #[Value.string a0, Value.string v0, Value.bool tn] 45) hcur
                    replace hown5 := OwnQ.alloc hown5 (Obj.cells #[Value.string a0, Value.string v0, Value.bool tn] 45)
                    replace f10 := hold _ _ f10
                    rw [hVN] at ⊢ hown5
                    rw [hk7]
                    refine hK.out _ _ (KS8.out _ hcurN) (fun hHeld => ?_)
                    clear hK K hold hVN hk7
                    replace hcur := hcurN; have f7 := f7N; clear hcurN f7N
                    (try simp only [List.setIfInBounds_toArray, List.set_cons_zero, List.set_cons_succ])
                    refine wpAnyH_ready (rs := [8]) (by kernel_rfl) (by simp) ?_
                    refine AllReadyH.cons rfl (fun K hK => ?_) AllReadyH.nil
                    · refine step_appq (by rfl) _ _ (by rfl) w8.heap.size v5 l [(a0, v0, tn)] (by rfl) hown5 _ 1 1 rfl (by rfl) (rq_heap ha9 hv9 f7) hl2n hcur.size ?_
                      intro v6 W6 hown6 hb6 hg6
                      obtain ⟨A6, c6, rfl, hc6⟩ := OwnQ.sliceN hown6 hLLn
                      replace f10 := keepL f10 hown5 (by decide) hg6
                      replace hcur := hcur.trans hb6
                      refine hK.out _ _ (KS8.out _ hcur) (fun hHeld => ?_)
                      clear hK K f7 hg6 hb6 hown5
                      (try simp only [List.setIfInBounds_toArray, List.set_cons_zero, List.set_cons_succ])
                      refine held_take (i := 9) (d := 62) (v := ?v11_20) rfl rfl (by kernel_rfl) (by kernel_rfl) (by kernel_rfl) (fun _ _ _ h => h) (Or.inl ⟨by rfl, ?y11_20⟩) (by assumption) ?r11_20
                      case y11_20 => (intro w hSw; (try dsimp only at hSw); go_simp <;> with_reducible rfl)
                      (try simp only [List.setIfInBounds_toArray, List.set_cons_zero, List.set_cons_succ])
                      refine wpAnyH_ready (rs := [11]) (by kernel_rfl) (by simp) ?_
                      refine AllReadyH.cons rfl (fun K hK => ?_) AllReadyH.nil
                      · have g0 := (sel_cells f10).1; have g1 := (sel_cells f10).2.1; have g2 := (sel_cells f10).2.2.1; have g3 := (sel_cells f10).2.2.2
                        go_simp
                        obtain ⟨e1, e2, e3⟩ := set_sel f10 hcur hbk10 hown6 (by rw [hLLn]; omega) hsz2 rfl
                        refine hK.out _ _ (KS8.out _ e1) (fun hHeld => ?_)
                        refine wpAnyH_done (by kernel_rfl) ?_ _
                        go_wp2_with fail
                        go_meet
                        exact ⟨k10, A6, c6, rfl, Lib.hid ⟨e1, hbk10, e2, e3, hc6⟩⟩
              · go_simp
                obtain ⟨VN, k7, hVN, hk7, hbk7, hcurN, f7N, hold⟩ := alloc_abs (Obj.cells #[Value.string a0, Value.string v0, Value.bool tn] 45) hcur
                replace f2 := hold _ _ f2
                rw [hVN] at ⊢
                rw [hk7]
                refine hK.out _ _ (KS8.out _ hcurN) (fun hHeld => ?_)
                clear hK K hold hVN hk7
                replace hcur := hcurN; have f7 := f7N; clear hcurN f7N
                (try simp only [List.setIfInBounds_toArray, List.set_cons_zero, List.set_cons_succ])
                refine wpAnyH_ready (rs := [5, 10]) (by kernel_rfl) (by simp) ?_
                refine AllReadyH.cons rfl (fun K hK => ?_) (AllReadyH.cons rfl (fun K hK => ?_) AllReadyH.nil)
                · refine step_appq (by rfl) _ _ (by rfl) w8.heap.size _ [] l (by rfl) (ownQ_at f2 hbk2) A n c HN.out (by rfl) (HR8.out.on hcur) hl1 hcur.size ?_
                  intro v5 W5 hown5 hb5 hg5
                  replace f7 := keepX f7 f2 (by simp) hg5
                  replace hcur := hcur.trans hb5
                  refine hK.out _ _ (KS8.out _ hcur) (fun hHeld => ?_)
                  clear hK K f2 hg5 hb5
                  (try simp only [List.setIfInBounds_toArray, List.set_cons_zero, List.set_cons_succ])
                  refine wpAnyH_ready (rs := [8, 10]) (by kernel_rfl) (by simp) ?_
                  refine AllReadyH.cons rfl (fun K hK => ?_) (AllReadyH.cons rfl (fun K hK => ?_) AllReadyH.nil)
                  · refine step_appq (by rfl) _ _ (by rfl) w8.heap.size v5 l [(a0, v0, tn)] (by rfl) hown5 _ 1 1 rfl (by rfl) (rq_heap ha9 hv9 f7) hl2n hcur.size ?_
                    intro v6 W6 hown6 hb6 hg6
                    obtain ⟨A6, c6, rfl, hc6⟩ := OwnQ.sliceN hown6 hLLn
                    replace hcur := hcur.trans hb6
                    refine hK.out _ _ (KS8.out _ hcur) (fun hHeld => ?_)
                    clear hK K f7 hg6 hb6 hown5
                    (try simp only [List.setIfInBounds_toArray, List.set_cons_zero, List.set_cons_succ])
                    refine held_take (i := 9) (d := 62) (v := ?v11_25) rfl rfl (by kernel_rfl) (by kernel_rfl) (by kernel_rfl) (fun _ _ _ h => h) (Or.inl ⟨by rfl, ?y11_25⟩) (by assumption) ?r11_25
                    case y11_25 => (intro w hSw; (try dsimp only at hSw); go_simp <;> with_reducible rfl)
                    (try simp only [List.setIfInBounds_toArray, List.set_cons_zero, List.set_cons_succ])
                    refine wpAnyH_ready (rs := [10]) (by kernel_rfl) (by simp) ?_
                    refine AllReadyH.cons rfl (fun K hK => ?_) AllReadyH.nil
                    · go_simp
                      obtain ⟨VN, k10, hVN, hk10, hbk10, hcurN, f10N, hold⟩ := alloc_abs (Obj.cells #[Value.string ⟨#[]⟩, Value.slice none 0 0] 24) hcur
                      replace hown6 := OwnQ.alloc hown6 (Obj.cells #[Value.string ⟨#[]⟩, Value.slice none 0 0] 24)
                      rw [hVN] at ⊢ hown6
                      rw [hk10]
                      refine hK.out _ _ (KS8.out _ hcurN) (fun hHeld => ?_)
                      clear hK K hold hVN hk10
                      replace hcur := hcurN; have f10 := f10N; clear hcurN f10N
                      (try simp only [List.setIfInBounds_toArray, List.set_cons_zero, List.set_cons_succ])
                      refine wpAnyH_ready (rs := [11]) (by kernel_rfl) (by simp) ?_
                      refine AllReadyH.cons rfl (fun K hK => ?_) AllReadyH.nil
                      · have g0 := (sel_cells f10).1; have g1 := (sel_cells f10).2.1; have g2 := (sel_cells f10).2.2.1; have g3 := (sel_cells f10).2.2.2
                        go_simp
                        obtain ⟨e1, e2, e3⟩ := set_sel f10 hcur hbk10 hown6 (by rw [hLLn]; omega) hsz2 rfl
                        refine hK.out _ _ (KS8.out _ e1) (fun hHeld => ?_)
                        refine wpAnyH_done (by kernel_rfl) ?_ _
                        go_wp2_with fail
                        go_meet
                        exact ⟨k10, A6, c6, rfl, Lib.hid ⟨e1, hbk10, e2, e3, hc6⟩⟩
                  · go_simp
                    obtain ⟨VN, k10, hVN, hk10, hbk10, hcurN, f10N, hold⟩ := alloc_abs (Obj.cells #[Value.string ⟨#[]⟩, Value.slice none 0 0] 24) hcur
                    replace hown5 := OwnQ.alloc hown5 (Obj.cells #[Value.string ⟨#[]⟩, Value.slice none 0 0] 24)
                    replace f7 := hold _ _ f7
                    rw [hVN] at ⊢ hown5
                    rw [hk10]
                    refine hK.out _ _ (KS8.out _ hcurN) (fun hHeld => ?_)
                    clear hK K hold hVN hk10
                    replace hcur := hcurN; have f10 := f10N; clear hcurN f10N
                    (try simp only [List.setIfInBounds_toArray, List.set_cons_zero, List.set_cons_succ])
                    refine wpAnyH_ready (rs := [8]) (by kernel_rfl) (by simp) ?_
                    refine AllReadyH.cons rfl (fun K hK => ?_) AllReadyH.nil
                    · refine step_appq (by rfl) _ _ (by rfl) w8.heap.size v5 l [(a0, v0, tn)] (by rfl) hown5 _ 1 1 rfl (by rfl) (rq_heap ha9 hv9 f7) hl2n hcur.size ?_
                      intro v6 W6 hown6 hb6 hg6
                      obtain ⟨A6, c6, rfl, hc6⟩ := OwnQ.sliceN hown6 hLLn
                      replace f10 := keepL f10 hown5 (by decide) hg6
                      replace hcur := hcur.trans hb6
                      refine hK.out _ _ (KS8.out _ hcur) (fun hHeld => ?_)
                      clear hK K f7 hg6 hb6 hown5
                      (try simp only [List.setIfInBounds_toArray, List.set_cons_zero, List.set_cons_succ])
                      refine held_take (i := 9) (d := 62) (v := ?v11_30) rfl rfl (by kernel_rfl) (by kernel_rfl) (by kernel_rfl) (fun _ _ _ h => h) (Or.inl ⟨by rfl, ?y11_30⟩) (by assumption) ?r11_30
                      case y11_30 => (intro w hSw; (try dsimp only at hSw); go_simp <;> with_reducible rfl)
                      (try simp only [List.setIfInBounds_toArray, List.set_cons_zero, List.set_cons_succ])
                      refine wpAnyH_ready (rs := [11]) (by kernel_rfl) (by simp) ?_
                      refine AllReadyH.cons rfl (fun K hK => ?_) AllReadyH.nil
                      · have g0 := (sel_cells f10).1; have g1 := (sel_cells f10).2.1; have g2 := (sel_cells f10).2.2.1; have g3 := (sel_cells f10).2.2.2
                        go_simp
                        obtain ⟨e1, e2, e3⟩ := set_sel f10 hcur hbk10 hown6 (by rw [hLLn]; omega) hsz2 rfl
                        refine hK.out _ _ (KS8.out _ e1) (fun hHeld => ?_)
                        refine wpAnyH_done (by kernel_rfl) ?_ _
                        go_wp2_with fail
                        go_meet
                        exact ⟨k10, A6, c6, rfl, Lib.hid ⟨e1, hbk10, e2, e3, hc6⟩⟩
                · go_simp
                  obtain ⟨VN, k10, hVN, hk10, hbk10, hcurN, f10N, hold⟩ := alloc_abs (Obj.cells #[Value.string ⟨#[]⟩, Value.slice none 0 0] 24) hcur
                  replace f2 := hold _ _ f2
                  replace f7 := hold _ _ f7
                  rw [hVN] at ⊢
                  rw [hk10]
                  refine hK.out _ _ (KS8.out _ hcurN) (fun hHeld => ?_)
                  clear hK K hold hVN hk10
                  replace hcur := hcurN; have f10 := f10N; clear hcurN f10N
                  (try simp only [List.setIfInBounds_toArray, List.set_cons_zero, List.set_cons_succ])
                  refine wpAnyH_ready (rs := [5]) (by kernel_rfl) (by simp) ?_
                  refine AllReadyH.cons rfl (fun K hK => ?_) AllReadyH.nil
                  · refine step_appq (by rfl) _ _ (by rfl) w8.heap.size _ [] l (by rfl) (ownQ_at f2 hbk2) A n c HN.out (by rfl) (HR8.out.on hcur) hl1 hcur.size ?_
                    intro v5 W5 hown5 hb5 hg5
                    replace f7 := keepX f7 f2 (by simp) hg5
                    replace f10 := keepX f10 f2 (by simp) hg5
                    replace hcur := hcur.trans hb5
                    refine hK.out _ _ (KS8.out _ hcur) (fun hHeld => ?_)
                    clear hK K f2 hg5 hb5
                    (try simp only [List.setIfInBounds_toArray, List.set_cons_zero, List.set_cons_succ])
                    refine wpAnyH_ready (rs := [8]) (by kernel_rfl) (by simp) ?_
                    refine AllReadyH.cons rfl (fun K hK => ?_) AllReadyH.nil
                    · refine step_appq (by rfl) _ _ (by rfl) w8.heap.size v5 l [(a0, v0, tn)] (by rfl) hown5 _ 1 1 rfl (by rfl) (rq_heap ha9 hv9 f7) hl2n hcur.size ?_
                      intro v6 W6 hown6 hb6 hg6
                      obtain ⟨A6, c6, rfl, hc6⟩ := OwnQ.sliceN hown6 hLLn
                      replace f10 := keepL f10 hown5 (by decide) hg6
                      replace hcur := hcur.trans hb6
                      refine hK.out _ _ (KS8.out _ hcur) (fun hHeld => ?_)
                      clear hK K f7 hg6 hb6 hown5
                      (try simp only [List.setIfInBounds_toArray, List.set_cons_zero, List.set_cons_succ])
                      refine held_take (i := 9) (d := 62) (v := ?v11_35) rfl rfl (by kernel_rfl) (by kernel_rfl) (by kernel_rfl) (fun _ _ _ h => h) (Or.inl ⟨by rfl, ?y11_35⟩) (by assumption) ?r11_35
                      case y11_35 => (intro w hSw; (try dsimp only at hSw); go_simp <;> with_reducible rfl)
                      (try simp only [List.setIfInBounds_toArray, List.set_cons_zero, List.set_cons_succ])
                      refine wpAnyH_ready (rs := [11]) (by kernel_rfl) (by simp) ?_
                      refine AllReadyH.cons rfl (fun K hK => ?_) AllReadyH.nil
                      · have g0 := (sel_cells f10).1; have g1 := (sel_cells f10).2.1; have g2 := (sel_cells f10).2.2.1; have g3 := (sel_cells f10).2.2.2
                        go_simp
                        obtain ⟨e1, e2, e3⟩ := set_sel f10 hcur hbk10 hown6 (by rw [hLLn]; omega) hsz2 rfl
                        refine hK.out _ _ (KS8.out _ e1) (fun hHeld => ?_)
                        refine wpAnyH_done (by kernel_rfl) ?_ _
                        go_wp2_with fail
                        go_meet
                        exact ⟨k10, A6, c6, rfl, Lib.hid ⟨e1, hbk10, e2, e3, hc6⟩⟩
              · go_simp
                obtain ⟨VN, k10, hVN, hk10, hbk10, hcurN, f10N, hold⟩ := alloc_abs (Obj.cells #[Value.string ⟨#[]⟩, Value.slice none 0 0] 24) hcur
                replace f2 := hold _ _ f2
                rw [hVN] at ⊢
                rw [hk10]
                refine hK.out _ _ (KS8.out _ hcurN) (fun hHeld => ?_)
                clear hK K hold hVN hk10
                replace hcur := hcurN; have f10 := f10N; clear hcurN f10N
                (try simp only [List.setIfInBounds_toArray, List.set_cons_zero, List.set_cons_succ])
                refine wpAnyH_ready (rs := [5, 7]) (by kernel_rfl) (by simp) ?_
                refine AllReadyH.cons rfl (fun K hK => ?_) (AllReadyH.cons rfl (fun K hK => ?_) AllReadyH.nil)
                · refine step_appq (by rfl) _ _ (by rfl) w8.heap.size _ [] l (by rfl) (ownQ_at f2 hbk2) A n c HN.out (by rfl) (HR8.out.on hcur) hl1 hcur.size ?_
                  intro v5 W5 hown5 hb5 hg5
                  replace f10 := keepX f10 f2 (by simp) hg5
                  replace hcur := hcur.trans hb5
                  refine hK.out _ _ (KS8.out _ hcur) (fun hHeld => ?_)
                  clear hK K f2 hg5 hb5
                  (try simp only [List.setIfInBounds_toArray, List.set_cons_zero, List.set_cons_succ])
                  refine wpAnyH_ready (rs := [7]) (by kernel_rfl) (by simp) ?_
                  refine AllReadyH.cons rfl (fun K hK => ?_) AllReadyH.nil
                  · go_simp
                    obtain ⟨VN, k7, hVN, hk7, hbk7, hcurN, f7N, hold⟩ := alloc_abs (Obj.cells #[Value.string a0, Value.string v0, Value.bool tn] 45) hcur
                    replace hown5 := OwnQ.alloc hown5 (Obj.cells #[Value.string a0, Value.string v0, Value.bool tn] 45)
                    replace f10 := hold _ _ f10
                    rw [hVN] at ⊢ hown5
                    rw [hk7]
                    refine hK.out _ _ (KS8.out _ hcurN) (fun hHeld => ?_)
                    clear hK K hold hVN hk7
                    replace hcur := hcurN; have f7 := f7N; clear hcurN f7N
                    (try simp only [List.setIfInBounds_toArray, List.set_cons_zero, List.set_cons_succ])
                    refine wpAnyH_ready (rs := [8]) (by kernel_rfl) (by simp) ?_
                    refine AllReadyH.cons rfl (fun K hK => ?_) AllReadyH.nil
                    · refine step_appq (by rfl) _ _ (by rfl) w8.heap.size v5 l [(a0, v0, tn)] (by rfl) hown5 _ 1 1 rfl (by rfl) (rq_heap ha9 hv9 f7) hl2n hcur.size ?_
                      intro v6 W6 hown6 hb6 hg6
                      obtain ⟨A6, c6, rfl, hc6⟩ := OwnQ.sliceN hown6 hLLn
                      replace f10 := keepL f10 hown5 (by decide) hg6
                      replace hcur := hcur.trans hb6
                      refine hK.out _ _ (KS8.out _ hcur) (fun hHeld => ?_)
                      clear hK K f7 hg6 hb6 hown5
                      (try simp only [List.setIfInBounds_toArray, List.set_cons_zero, List.set_cons_succ])
                      refine held_take (i := 9) (d := 62) (v := ?v11_41) rfl rfl (by kernel_rfl) (by kernel_rfl) (by kernel_rfl) (fun _ _ _ h => h) (Or.inl ⟨by rfl, ?y11_41⟩) (by assumption) ?r11_41
                      case y11_41 => (intro w hSw; (try dsimp only at hSw); go_simp <;> with_reducible rfl)
                      (try simp only [List.setIfInBounds_toArray, List.set_cons_zero, List.set_cons_succ])
                      refine wpAnyH_ready (rs := [11]) (by kernel_rfl) (by simp) ?_
                      refine AllReadyH.cons rfl (fun K hK => ?_) AllReadyH.nil
                      · have g0 := (sel_cells f10).1; have g1 := (sel_cells f10).2.1; have g2 := (sel_cells f10).2.2.1; have g3 := (sel_cells f10).2.2.2
                        go_simp
                        obtain ⟨e1, e2, e3⟩ := set_sel f10 hcur hbk10 hown6 (by rw [hLLn]; omega) hsz2 rfl
                        refine hK.out _ _ (KS8.out _ e1) (fun hHeld => ?_)
                        refine wpAnyH_done (by kernel_rfl) ?_ _
                        go_wp2_with fail
                        go_meet
                        exact ⟨k10, A6, c6, rfl, Lib.hid ⟨e1, hbk10, e2, e3, hc6⟩⟩
                · go_simp
                  obtain ⟨VN, k7, hVN, hk7, hbk7, hcurN, f7N, hold⟩ := alloc_abs (Obj.cells #[Value.string a0, Value.string v0, Value.bool tn] 45) hcur
                  replace f2 := hold _ _ f2
                  replace f10 := hold _ _ f10
                  rw [hVN] at ⊢
                  rw [hk7]
                  refine hK.out _ _ (KS8.out _ hcurN) (fun hHeld => ?_)
                  clear hK K hold hVN hk7
                  replace hcur := hcurN; have f7 := f7N; clear hcurN f7N
                  (try simp only [List.setIfInBounds_toArray, List.set_cons_zero, List.set_cons_succ])
                  refine wpAnyH_ready (rs := [5]) (by kernel_rfl) (by simp) ?_
                  refine AllReadyH.cons rfl (fun K hK => ?_) AllReadyH.nil
                  · refine step_appq (by rfl) _ _ (by rfl) w8.heap.size _ [] l (by rfl) (ownQ_at f2 hbk2) A n c HN.out (by rfl) (HR8.out.on hcur) hl1 hcur.size ?_
                    intro v5 W5 hown5 hb5 hg5
                    replace f7 := keepX f7 f2 (by simp) hg5
                    replace f10 := keepX f10 f2 (by simp) hg5
                    replace hcur := hcur.trans hb5
                    refine hK.out _ _ (KS8.out _ hcur) (fun hHeld => ?_)
                    clear hK K f2 hg5 hb5
                    (try simp only [List.setIfInBounds_toArray, List.set_cons_zero, List.set_cons_succ])
                    refine wpAnyH_ready (rs := [8]) (by kernel_rfl) (by simp) ?_
                    refine AllReadyH.cons rfl (fun K hK => ?_) AllReadyH.nil
                    · refine step_appq (by rfl) _ _ (by rfl) w8.heap.size v5 l [(a0, v0, tn)] (by rfl) hown5 _ 1 1 rfl (by rfl) (rq_heap ha9 hv9 f7) hl2n hcur.size ?_
                      intro v6 W6 hown6 hb6 hg6
                      obtain ⟨A6, c6, rfl, hc6⟩ := OwnQ.sliceN hown6 hLLn
                      replace f10 := keepL f10 hown5 (by decide) hg6
                      replace hcur := hcur.trans hb6
                      refine hK.out _ _ (KS8.out _ hcur) (fun hHeld => ?_)
                      clear hK K f7 hg6 hb6 hown5
                      (try simp only [List.setIfInBounds_toArray, List.set_cons_zero, List.set_cons_succ])
                      refine held_take (i := 9) (d := 62) (v := ?v11_46) rfl rfl (by kernel_rfl) (by kernel_rfl) (by kernel_rfl) (fun _ _ _ h => h) (Or.inl ⟨by rfl, ?y11_46⟩) (by assumption) ?r11_46
                      case y11_46 => (intro w hSw; (try dsimp only at hSw); go_simp <;> with_reducible rfl)
                      (try simp only [List.setIfInBounds_toArray, List.set_cons_zero, List.set_cons_succ])
                      refine wpAnyH_ready (rs := [11]) (by kernel_rfl) (by simp) ?_
                      refine AllReadyH.cons rfl (fun K hK => ?_) AllReadyH.nil
                      · have g0 := (sel_cells f10).1; have g1 := (sel_cells f10).2.1; have g2 := (sel_cells f10).2.2.1; have g3 := (sel_cells f10).2.2.2
                        go_simp
                        obtain ⟨e1, e2, e3⟩ := set_sel f10 hcur hbk10 hown6 (by rw [hLLn]; omega) hsz2 rfl
                        refine hK.out _ _ (KS8.out _ e1) (fun hHeld => ?_)
                        refine wpAnyH_done (by kernel_rfl) ?_ _
                        go_wp2_with fail
                        go_meet
                        exact ⟨k10, A6, c6, rfl, Lib.hid ⟨e1, hbk10, e2, e3, hc6⟩⟩
            · go_simp
              obtain ⟨VN, k7, hVN, hk7, hbk7, hcurN, f7N, hold⟩ := alloc_abs (Obj.cells #[Value.string a0, Value.string v0, Value.bool tn] 45) hcur
              rw [hVN] at ⊢
              rw [hk7]
              refine hK.out _ _ (KS8.out _ hcurN) (fun hHeld => ?_)
              clear hK K hold hVN hk7
              replace hcur := hcurN; have f7 := f7N; clear hcurN f7N
              (try simp only [List.setIfInBounds_toArray, List.set_cons_zero, List.set_cons_succ])
              refine wpAnyH_ready (rs := [2, 10]) (by kernel_rfl) (by simp) ?_
              refine AllReadyH.cons rfl (fun K hK => ?_) (AllReadyH.cons rfl (fun K hK => ?_) AllReadyH.nil)
              · go_simp
                obtain ⟨VN, k2, hVN, hk2, hbk2, hcurN, f2N, hold⟩ := alloc_abs (Obj.cells #[] 45) hcur
                replace f7 := hold _ _ f7
                rw [hVN] at ⊢
                rw [hk2]
                refine hK.out _ _ (KS8.out _ hcurN) (fun hHeld => ?_)
                clear hK K hold hVN hk2
                replace hcur := hcurN; have f2 := f2N; clear hcurN f2N
                (try simp only [List.setIfInBounds_toArray, List.set_cons_zero, List.set_cons_succ])
                refine wpAnyH_ready (rs := [5, 10]) (by kernel_rfl) (by simp) ?_
                refine AllReadyH.cons rfl (fun K hK => ?_) (AllReadyH.cons rfl (fun K hK => ?_) AllReadyH.nil)
                · refine step_appq (by rfl) _ _ (by rfl) w8.heap.size _ [] l (by rfl) (ownQ_at f2 hbk2) A n c HN.out (by rfl) (HR8.out.on hcur) hl1 hcur.size ?_
                  intro v5 W5 hown5 hb5 hg5
                  replace f7 := keepX f7 f2 (by simp) hg5
                  replace hcur := hcur.trans hb5
                  refine hK.out _ _ (KS8.out _ hcur) (fun hHeld => ?_)
                  clear hK K f2 hg5 hb5
                  (try simp only [List.setIfInBounds_toArray, List.set_cons_zero, List.set_cons_succ])
                  refine wpAnyH_ready (rs := [8, 10]) (by kernel_rfl) (by simp) ?_
                  refine AllReadyH.cons rfl (fun K hK => ?_) (AllReadyH.cons rfl (fun K hK => ?_) AllReadyH.nil)
                  · refine step_appq (by rfl) _ _ (by rfl) w8.heap.size v5 l [(a0, v0, tn)] (by rfl) hown5 _ 1 1 rfl (by rfl) (rq_heap ha9 hv9 f7) hl2n hcur.size ?_
                    intro v6 W6 hown6 hb6 hg6
                    obtain ⟨A6, c6, rfl, hc6⟩ := OwnQ.sliceN hown6 hLLn
                    replace hcur := hcur.trans hb6
                    refine hK.out _ _ (KS8.out _ hcur) (fun hHeld => ?_)
                    clear hK K f7 hg6 hb6 hown5
                    (try simp only [List.setIfInBounds_toArray, List.set_cons_zero, List.set_cons_succ])
                    refine held_take (i := 9) (d := 62) (v := ?v11_52) rfl rfl (by kernel_rfl) (by kernel_rfl) (by kernel_rfl) (fun _ _ _ h => h) (Or.inl ⟨by rfl, ?y11_52⟩) (by assumption) ?r11_52
                    case y11_52 => (intro w hSw; (try dsimp only at hSw); go_simp <;> with_reducible rfl)
                    (try simp only [List.setIfInBounds_toArray, List.set_cons_zero, List.set_cons_succ])
                    refine wpAnyH_ready (rs := [10]) (by kernel_rfl) (by simp) ?_
                    refine AllReadyH.cons rfl (fun K hK => ?_) AllReadyH.nil
                    · go_simp
                      obtain ⟨VN, k10, hVN, hk10, hbk10, hcurN, f10N, hold⟩ := alloc_abs (Obj.cells #[Value.string ⟨#[]⟩, Value.slice none 0 0] 24) hcur
                      replace hown6 := OwnQ.alloc hown6 (Obj.cells #[Value.string ⟨#[]⟩, Value.slice none 0 0] 24)
                      rw [hVN] at ⊢ hown6
                      rw [hk10]
                      refine hK.out _ _ (KS8.out _ hcurN) (fun hHeld => ?_)
                      clear hK K hold hVN hk10
                      replace hcur := hcurN; have f10 := f10N; clear hcurN f10N
                      (try simp only [List.setIfInBounds_toArray, List.set_cons_zero, List.set_cons_succ])
                      refine wpAnyH_ready (rs := [11]) (by kernel_rfl) (by simp) ?_
                      refine AllReadyH.cons rfl (fun K hK => ?_) AllReadyH.nil
                      · have g0 := (sel_cells f10).1; have g1 := (sel_cells f10).2.1; have g2 := (sel_cells f10).2.2.1; have g3 := (sel_cells f10).2.2.2
                        go_simp
                        obtain ⟨e1, e2, e3⟩ := set_sel f10 hcur hbk10 hown6 (by rw [hLLn]; omega) hsz2 rfl
                        refine hK.out _ _ (KS8.out _ e1) (fun hHeld => ?_)
                        refine wpAnyH_done (by kernel_rfl) ?_ _
                        go_wp2_with fail
                        go_meet
                        exact ⟨k10, A6, c6, rfl, Lib.hid ⟨e1, hbk10, e2, e3, hc6⟩⟩
                  · go_simp
                    obtain ⟨VN, k10, hVN, hk10, hbk10, hcurN, f10N, hold⟩ := alloc_abs (Obj.cells #[Value.string ⟨#[]⟩, Value.slice none 0 0] 24) hcur
                    replace hown5 := OwnQ.alloc hown5 (Obj.cells #[Value.string ⟨#[]⟩, Value.slice none 0 0] 24)
                    replace f7 := hold _ _ f7
                    rw [hVN] at ⊢ hown5
                    rw [hk10]
                    refine hK.out _ _ (KS8.out _ hcurN) (fun hHeld => ?_)
                    clear hK K hold hVN hk10
                    replace hcur := hcurN; have f10 := f10N; clear hcurN f10N
                    (try simp only [List.setIfInBounds_toArray, List.set_cons_zero, List.set_cons_succ])
                    refine wpAnyH_ready (rs := [8]) (by kernel_rfl) (by simp) ?_
                    refine AllReadyH.cons rfl (fun K hK => ?_) AllReadyH.nil
                    · refine step_appq (by rfl) _ _ (by rfl) w8.heap.size v5 l [(a0, v0, tn)] (by rfl) hown5 _ 1 1 rfl (by rfl) (rq_heap ha9 hv9 f7) hl2n hcur.size ?_
                      intro v6 W6 hown6 hb6 hg6
                      obtain ⟨A6, c6, rfl, hc6⟩ := OwnQ.sliceN hown6 hLLn
                      replace f10 := keepL f10 hown5 (by decide) hg6
                      replace hcur := hcur.trans hb6
                      refine hK.out _ _ (KS8.out _ hcur) (fun hHeld => ?_)
                      clear hK K f7 hg6 hb6 hown5
                      (try simp only [List.setIfInBounds_toArray, List.set_cons_zero, List.set_cons_succ])
                      refine held_take (i := 9) (d := 62) (v := ?v11_57) rfl rfl (by kernel_rfl) (by kernel_rfl) (by kernel_rfl) (fun _ _ _ h => h) (Or.inl ⟨by rfl, ?y11_57⟩) (by assumption) ?r11_57
                      case y11_57 => (intro w hSw; (try dsimp only at hSw); go_simp <;> with_reducible rfl)
                      (try simp only [List.setIfInBounds_toArray, List.set_cons_zero, List.set_cons_succ])
                      refine wpAnyH_ready (rs := [11]) (by kernel_rfl) (by simp) ?_
                      refine AllReadyH.cons rfl (fun K hK => ?_) AllReadyH.nil
                      · have g0 := (sel_cells f10).1; have g1 := (sel_cells f10).2.1; have g2 := (sel_cells f10).2.2.1; have g3 := (sel_cells f10).2.2.2
                        go_simp
                        obtain ⟨e1, e2, e3⟩ := set_sel f10 hcur hbk10 hown6 (by rw [hLLn]; omega) hsz2 rfl
                        refine hK.out _ _ (KS8.out _ e1) (fun hHeld => ?_)
                        refine wpAnyH_done (by kernel_rfl) ?_ _
                        go_wp2_with fail
                        go_meet
                        exact ⟨k10, A6, c6, rfl, Lib.hid ⟨e1, hbk10, e2, e3, hc6⟩⟩
                · go_simp
                  obtain ⟨VN, k10, hVN, hk10, hbk10, hcurN, f10N, hold⟩ := alloc_abs (Obj.cells #[Value.string ⟨#[]⟩, Value.slice none 0 0] 24) hcur
                  replace f2 := hold _ _ f2
                  replace f7 := hold _ _ f7
                  rw [hVN] at ⊢
                  rw [hk10]
                  refine hK.out _ _ (KS8.out _ hcurN) (fun hHeld => ?_)
                  clear hK K hold hVN hk10
                  replace hcur := hcurN; have f10 := f10N; clear hcurN f10N
                  (try simp only [List.setIfInBounds_toArray, List.set_cons_zero, List.set_cons_succ])
                  refine wpAnyH_ready (rs := [5]) (by kernel_rfl) (by simp) ?_
                  refine AllReadyH.cons rfl (fun K hK => ?_) AllReadyH.nil
                  · refine step_appq (by rfl) _ _ (by rfl) w8.heap.size _ [] l (by rfl) (ownQ_at f2 hbk2) A n c HN.out (by rfl) (HR8.out.on hcur) hl1 hcur.size ?_
                    intro v5 W5 hown5 hb5 hg5
                    replace f7 := keepX f7 f2 (by simp) hg5
                    replace f10 := keepX f10 f2 (by simp) hg5
                    replace hcur := hcur.trans hb5
                    refine hK.out _ _ (KS8.out _ hcur) (fun hHeld => ?_)
                    clear hK K f2 hg5 hb5
                    (try simp only [List.setIfInBounds_toArray, List.set_cons_zero, List.set_cons_succ])
                    refine wpAnyH_ready (rs := [8]) (by kernel_rfl) (by simp) ?_
                    refine AllReadyH.cons rfl (fun K hK => ?_) AllReadyH.nil
                    · refine step_appq (by rfl) _ _ (by rfl) w8.heap.size v5 l [(a0, v0, tn)] (by rfl) hown5 _ 1 1 rfl (by rfl) (rq_heap ha9 hv9 f7) hl2n hcur.size ?_
                      intro v6 W6 hown6 hb6 hg6
                      obtain ⟨A6, c6, rfl, hc6⟩ := OwnQ.sliceN hown6 hLLn
                      replace f10 := keepL f10 hown5 (by decide) hg6
                      replace hcur := hcur.trans hb6
                      refine hK.out _ _ (KS8.out _ hcur) (fun hHeld => ?_)
                      clear hK K f7 hg6 hb6 hown5
                      (try simp only [List.setIfInBounds_toArray, List.set_cons_zero, List.set_cons_succ])
                      refine held_take (i := 9) (d := 62) (v := ?v11_62) rfl rfl (by kernel_rfl) (by kernel_rfl) (by kernel_rfl) (fun _ _ _ h => h) (Or.inl ⟨by rfl, ?y11_62⟩) (by assumption) ?r11_62
                      case y11_62 => (intro w hSw; (try dsimp only at hSw); go_simp <;> with_reducible rfl)
                      (try simp only [List.setIfInBounds_toArray, List.set_cons_zero, List.set_cons_succ])
                      refine wpAnyH_ready (rs := [11]) (by kernel_rfl) (by simp) ?_
                      refine AllReadyH.cons rfl (fun K hK => ?_) AllReadyH.nil
                      · have g0 := (sel_cells f10).1; have g1 := (sel_cells f10).2.1; have g2 := (sel_cells f10).2.2.1; have g3 := (sel_cells f10).2.2.2
                        go_simp
                        obtain ⟨e1, e2, e3⟩ := set_sel f10 hcur hbk10 hown6 (by rw [hLLn]; omega) hsz2 rfl
                        refine hK.out _ _ (KS8.out _ e1) (fun hHeld => ?_)
                        refine wpAnyH_done (by kernel_rfl) ?_ _
                        go_wp2_with fail
                        go_meet
                        exact ⟨k10, A6, c6, rfl, Lib.hid ⟨e1, hbk10, e2, e3, hc6⟩⟩
              · go_simp
                obtain ⟨VN, k10, hVN, hk10, hbk10, hcurN, f10N, hold⟩ := alloc_abs (Obj.cells #[Value.string ⟨#[]⟩, Value.slice none 0 0] 24) hcur
                replace f7 := hold _ _ f7
                rw [hVN] at ⊢
                rw [hk10]
                refine hK.out _ _ (KS8.out _ hcurN) (fun hHeld => ?_)
                clear hK K hold hVN hk10
                replace hcur := hcurN; have f10 := f10N; clear hcurN f10N
                (try simp only [List.setIfInBounds_toArray, List.set_cons_zero, List.set_cons_succ])
                refine wpAnyH_ready (rs := [2]) (by kernel_rfl) (by simp) ?_
                refine AllReadyH.cons rfl (fun K hK => ?_) AllReadyH.nil
                · go_simp
                  obtain ⟨VN, k2, hVN, hk2, hbk2, hcurN, f2N, hold⟩ := alloc_abs (Obj.cells #[] 45) hcur
                  replace f7 := hold _ _ f7
                  replace f10 := hold _ _ f10
                  rw [hVN] at ⊢
                  rw [hk2]
                  refine hK.out _ _ (KS8.out _ hcurN) (fun hHeld => ?_)
                  clear hK K hold hVN hk2
                  replace hcur := hcurN; have f2 := f2N; clear hcurN f2N
                  (try simp only [List.setIfInBounds_toArray, List.set_cons_zero, List.set_cons_succ])
                  refine wpAnyH_ready (rs := [5]) (by kernel_rfl) (by simp) ?_
                  refine AllReadyH.cons rfl (fun K hK => ?_) AllReadyH.nil
                  · refine step_appq (by rfl) _ _ (by rfl) w8.heap.size _ [] l (by rfl) (ownQ_at f2 hbk2) A n c HN.out (by rfl) (HR8.out.on hcur) hl1 hcur.size ?_
                    intro v5 W5 hown5 hb5 hg5
                    replace f7 := keepX f7 f2 (by simp) hg5
                    replace f10 := keepX f10 f2 (by simp) hg5
                    replace hcur := hcur.trans hb5
                    refine hK.out _ _ (KS8.out _ hcur) (fun hHeld => ?_)
                    clear hK K f2 hg5 hb5
                    (try simp only [List.setIfInBounds_toArray, List.set_cons_zero, List.set_cons_succ])
                    refine wpAnyH_ready (rs := [8]) (by kernel_rfl) (by simp) ?_
                    refine AllReadyH.cons rfl (fun K hK => ?_) AllReadyH.nil
                    · refine step_appq (by rfl) _ _ (by rfl) w8.heap.size v5 l [(a0, v0, tn)] (by rfl) hown5 _ 1 1 rfl (by rfl) (rq_heap ha9 hv9 f7) hl2n hcur.size ?_
                      intro v6 W6 hown6 hb6 hg6
                      obtain ⟨A6, c6, rfl, hc6⟩ := OwnQ.sliceN hown6 hLLn
                      replace f10 := keepL f10 hown5 (by decide) hg6
                      replace hcur := hcur.trans hb6
                      refine hK.out _ _ (KS8.out _ hcur) (fun hHeld => ?_)
                      clear hK K f7 hg6 hb6 hown5
                      (try simp only [List.setIfInBounds_toArray, List.set_cons_zero, List.set_cons_succ])
                      refine held_take (i := 9) (d := 62) (v := ?v11_68) rfl rfl (by kernel_rfl) (by kernel_rfl) (by kernel_rfl) (fun _ _ _ h => h) (Or.inl ⟨by rfl, ?y11_68⟩) (by assumption) ?r11_68
                      case y11_68 => (intro w hSw; (try dsimp only at hSw); go_simp <;> with_reducible rfl)
                      (try simp only [List.setIfInBounds_toArray, List.set_cons_zero, List.set_cons_succ])
                      refine wpAnyH_ready (rs := [11]) (by kernel_rfl) (by simp) ?_
                      refine AllReadyH.cons rfl (fun K hK => ?_) AllReadyH.nil
                      · have g0 := (sel_cells f10).1; have g1 := (sel_cells f10).2.1; have g2 := (sel_cells f10).2.2.1; have g3 := (sel_cells f10).2.2.2
                        go_simp
                        obtain ⟨e1, e2, e3⟩ := set_sel f10 hcur hbk10 hown6 (by rw [hLLn]; omega) hsz2 rfl
                        refine hK.out _ _ (KS8.out _ e1) (fun hHeld => ?_)
                        refine wpAnyH_done (by kernel_rfl) ?_ _
                        go_wp2_with fail
                        go_meet
                        exact ⟨k10, A6, c6, rfl, Lib.hid ⟨e1, hbk10, e2, e3, hc6⟩⟩
            · go_simp
              obtain ⟨VN, k10, hVN, hk10, hbk10, hcurN, f10N, hold⟩ := alloc_abs (Obj.cells #[Value.string ⟨#[]⟩, Value.slice none 0 0] 24) hcur
              rw [hVN] at ⊢
              rw [hk10]
              refine hK.out _ _ (KS8.out _ hcurN) (fun hHeld => ?_)
              clear hK K hold hVN hk10
              replace hcur := hcurN; have f10 := f10N; clear hcurN f10N
              (try simp only [List.setIfInBounds_toArray, List.set_cons_zero, List.set_cons_succ])
              refine wpAnyH_ready (rs := [2, 7]) (by kernel_rfl) (by simp) ?_
              refine AllReadyH.cons rfl (fun K hK => ?_) (AllReadyH.cons rfl (fun K hK => ?_) AllReadyH.nil)
              · go_simp
                obtain ⟨VN, k2, hVN, hk2, hbk2, hcurN, f2N, hold⟩ := alloc_abs (Obj.cells #[] 45) hcur
                replace f10 := hold _ _ f10
                rw [hVN] at ⊢
                rw [hk2]
                refine hK.out _ _ (KS8.out _ hcurN) (fun hHeld => ?_)
                clear hK K hold hVN hk2
                replace hcur := hcurN; have f2 := f2N; clear hcurN f2N
                (try simp only [List.setIfInBounds_toArray, List.set_cons_zero, List.set_cons_succ])
                refine wpAnyH_ready (rs := [5, 7]) (by kernel_rfl) (by simp) ?_
                refine AllReadyH.cons rfl (fun K hK => ?_) (AllReadyH.cons rfl (fun K hK => ?_) AllReadyH.nil)
                · refine step_appq (by rfl) _ _ (by rfl) w8.heap.size _ [] l (by rfl) (ownQ_at f2 hbk2) A n c HN.out (by rfl) (HR8.out.on hcur) hl1 hcur.size ?_
                  intro v5 W5 hown5 hb5 hg5
                  replace f10 := keepX f10 f2 (by simp) hg5
                  replace hcur := hcur.trans hb5
                  refine hK.out _ _ (KS8.out _ hcur) (fun hHeld => ?_)
                  clear hK K f2 hg5 hb5
                  (try simp only [List.setIfInBounds_toArray, List.set_cons_zero, List.set_cons_succ])
                  refine wpAnyH_ready (rs := [7]) (by kernel_rfl) (by simp) ?_
                  refine AllReadyH.cons rfl (fun K hK => ?_) AllReadyH.nil
                  · go_simp
                    obtain ⟨VN, k7, hVN, hk7, hbk7, hcurN, f7N, hold⟩ := alloc_abs (Obj.cells #[Value.string a0, Value.string v0, Value.bool tn] 45) hcur
                    replace hown5 := OwnQ.alloc hown5 (Obj.cells #[Value.string a0, Value.string v0, Value.bool tn] 45)
                    replace f10 := hold _ _ f10
                    rw [hVN] at ⊢ hown5
                    rw [hk7]
                    refine hK.out _ _ (KS8.out _ hcurN) (fun hHeld => ?_)
                    clear hK K hold hVN hk7
                    replace hcur := hcurN; have f7 := f7N; clear hcurN f7N
                    (try simp only [List.setIfInBounds_toArray, List.set_cons_zero, List.set_cons_succ])
                    refine wpAnyH_ready (rs := [8]) (by kernel_rfl) (by simp) ?_
                    refine AllReadyH.cons rfl (fun K hK => ?_) AllReadyH.nil
                    · refine step_appq (by rfl) _ _ (by rfl) w8.heap.size v5 l [(a0, v0, tn)] (by rfl) hown5 _ 1 1 rfl (by rfl) (rq_heap ha9 hv9 f7) hl2n hcur.size ?_
                      intro v6 W6 hown6 hb6 hg6
                      obtain ⟨A6, c6, rfl, hc6⟩ := OwnQ.sliceN hown6 hLLn
                      replace f10 := keepL f10 hown5 (by decide) hg6
                      replace hcur := hcur.trans hb6
                      refine hK.out _ _ (KS8.out _ hcur) (fun hHeld => ?_)
                      clear hK K f7 hg6 hb6 hown5
                      (try simp only [List.setIfInBounds_toArray, List.set_cons_zero, List.set_cons_succ])
                      refine held_take (i := 9) (d := 62) (v := ?v11_75) rfl rfl (by kernel_rfl) (by kernel_rfl) (by kernel_rfl) (fun _ _ _ h => h) (Or.inl ⟨by rfl, ?y11_75⟩) (by assumption) ?r11_75
                      case y11_75 => (intro w hSw; (try dsimp only at hSw); go_simp <;> with_reducible rfl)
                      (try simp only [List.setIfInBounds_toArray, List.set_cons_zero, List.set_cons_succ])
                      refine wpAnyH_ready (rs := [11]) (by kernel_rfl) (by simp) ?_
                      refine AllReadyH.cons rfl (fun K hK => ?_) AllReadyH.nil
                      · have g0 := (sel_cells f10).1; have g1 := (sel_cells f10).2.1; have g2 := (sel_cells f10).2.2.1; have g3 := (sel_cells f10).2.2.2
                        go_simp
                        obtain ⟨e1, e2, e3⟩ := set_sel f10 hcur hbk10 hown6 (by rw [hLLn]; omega) hsz2 rfl
                        refine hK.out _ _ (KS8.out _ e1) (fun hHeld => ?_)
                        refine wpAnyH_done (by kernel_rfl) ?_ _
                        go_wp2_with fail
                        go_meet
                        exact ⟨k10, A6, c6, rfl, Lib.hid ⟨e1, hbk10, e2, e3, hc6⟩⟩
                · go_simp
                  obtain ⟨VN, k7, hVN, hk7, hbk7, hcurN, f7N, hold⟩ := alloc_abs (Obj.cells #[Value.string a0, Value.string v0, Value.bool tn] 45) hcur
                  replace f2 := hold _ _ f2
                  replace f10 := hold _ _ f10
                  rw [hVN] at ⊢
                  rw [hk7]
                  refine hK.out _ _ (KS8.out _ hcurN) (fun hHeld => ?_)
                  clear hK K hold hVN hk7
                  replace hcur := hcurN; have f7 := f7N; clear hcurN f7N
                  (try simp only [List.setIfInBounds_toArray, List.set_cons_zero, List.set_cons_succ])
                  refine wpAnyH_ready (rs := [5]) (by kernel_rfl) (by simp) ?_
                  refine AllReadyH.cons rfl (fun K hK => ?_) AllReadyH.nil
                  · refine step_appq (by rfl) _ _ (by rfl) w8.heap.size _ [] l (by rfl) (ownQ_at f2 hbk2) A n c HN.out (by rfl) (HR8.out.on hcur) hl1 hcur.size ?_
                    intro v5 W5 hown5 hb5 hg5
                    replace f7 := keepX f7 f2 (by simp) hg5
                    replace f10 := keepX f10 f2 (by simp) hg5
                    replace hcur := hcur.trans hb5
                    refine hK.out _ _ (KS8.out _ hcur) (fun hHeld => ?_)
                    clear hK K f2 hg5 hb5
                    (try simp only [List.setIfInBounds_toArray, List.set_cons_zero, List.set_cons_succ])
                    refine wpAnyH_ready (rs := [8]) (by kernel_rfl) (by simp) ?_
                    refine AllReadyH.cons rfl (fun K hK => ?_) AllReadyH.nil
                    · refine step_appq (by rfl) _ _ (by rfl) w8.heap.size v5 l [(a0, v0, tn)] (by rfl) hown5 _ 1 1 rfl (by rfl) (rq_heap ha9 hv9 f7) hl2n hcur.size ?_
                      intro v6 W6 hown6 hb6 hg6
                      obtain ⟨A6, c6, rfl, hc6⟩ := OwnQ.sliceN hown6 hLLn
                      replace f10 := keepL f10 hown5 (by decide) hg6
                      replace hcur := hcur.trans hb6
                      refine hK.out _ _ (KS8.out _ hcur) (fun hHeld => ?_)
                      clear hK K f7 hg6 hb6 hown5
                      (try simp only [List.setIfInBounds_toArray, List.set_cons_zero, List.set_cons_succ])
                      refine held_take (i := 9) (d := 62) (v := ?v11_80) rfl rfl (by kernel_rfl) (by kernel_rfl) (by kernel_rfl) (fun _ _ _ h => h) (Or.inl ⟨by rfl, ?y11_80⟩) (by assumption) ?r11_80
                      case y11_80 => (intro w hSw; (try dsimp only at hSw); go_simp <;> with_reducible rfl)
                      (try simp only [List.setIfInBounds_toArray, List.set_cons_zero, List.set_cons_succ])
                      refine wpAnyH_ready (rs := [11]) (by kernel_rfl) (by simp) ?_
                      refine AllReadyH.cons rfl (fun K hK => ?_) AllReadyH.nil
                      · have g0 := (sel_cells f10).1; have g1 := (sel_cells f10).2.1; have g2 := (sel_cells f10).2.2.1; have g3 := (sel_cells f10).2.2.2
                        go_simp
                        obtain ⟨e1, e2, e3⟩ := set_sel f10 hcur hbk10 hown6 (by rw [hLLn]; omega) hsz2 rfl
                        refine hK.out _ _ (KS8.out _ e1) (fun hHeld => ?_)
                        refine wpAnyH_done (by kernel_rfl) ?_ _
                        go_wp2_with fail
                        go_meet
                        exact ⟨k10, A6, c6, rfl, Lib.hid ⟨e1, hbk10, e2, e3, hc6⟩⟩
              · go_simp
                obtain ⟨VN, k7, hVN, hk7, hbk7, hcurN, f7N, hold⟩ := alloc_abs (Obj.cells #[Value.string a0, Value.string v0, Value.bool tn] 45) hcur
                replace f10 := hold _ _ f10
                rw [hVN] at ⊢
                rw [hk7]
                refine hK.out _ _ (KS8.out _ hcurN) (fun hHeld => ?_)
                clear hK K hold hVN hk7
                replace hcur := hcurN; have f7 := f7N; clear hcurN f7N
                (try simp only [List.setIfInBounds_toArray, List.set_cons_zero, List.set_cons_succ])
                refine wpAnyH_ready (rs := [2]) (by kernel_rfl) (by simp) ?_
                refine AllReadyH.cons rfl (fun K hK => ?_) AllReadyH.nil
                · go_simp
                  obtain ⟨VN, k2, hVN, hk2, hbk2, hcurN, f2N, hold⟩ := alloc_abs (Obj.cells #[] 45) hcur
                  replace f7 := hold _ _ f7
                  replace f10 := hold _ _ f10
                  rw [hVN] at ⊢
                  rw [hk2]
                  refine hK.out _ _ (KS8.out _ hcurN) (fun hHeld => ?_)
                  clear hK K hold hVN hk2
                  replace hcur := hcurN; have f2 := f2N; clear hcurN f2N
                  (try simp only [List.setIfInBounds_toArray, List.set_cons_zero, List.set_cons_succ])
                  refine wpAnyH_ready (rs := [5]) (by kernel_rfl) (by simp) ?_
                  refine AllReadyH.cons rfl (fun K hK => ?_) AllReadyH.nil
                  · refine step_appq (by rfl) _ _ (by rfl) w8.heap.size _ [] l (by rfl) (ownQ_at f2 hbk2) A n c HN.out (by rfl) (HR8.out.on hcur) hl1 hcur.size ?_
                    intro v5 W5 hown5 hb5 hg5
                    replace f7 := keepX f7 f2 (by simp) hg5
                    replace f10 := keepX f10 f2 (by simp) hg5
                    replace hcur := hcur.trans hb5
                    refine hK.out _ _ (KS8.out _ hcur) (fun hHeld => ?_)
                    clear hK K f2 hg5 hb5
                    (try simp only [List.setIfInBounds_toArray, List.set_cons_zero, List.set_cons_succ])
                    refine wpAnyH_ready (rs := [8]) (by kernel_rfl) (by simp) ?_
                    refine AllReadyH.cons rfl (fun K hK => ?_) AllReadyH.nil
                    · refine step_appq (by rfl) _ _ (by rfl) w8.heap.size v5 l [(a0, v0, tn)] (by rfl) hown5 _ 1 1 rfl (by rfl) (rq_heap ha9 hv9 f7) hl2n hcur.size ?_
                      intro v6 W6 hown6 hb6 hg6
                      obtain ⟨A6, c6, rfl, hc6⟩ := OwnQ.sliceN hown6 hLLn
                      replace f10 := keepL f10 hown5 (by decide) hg6
                      replace hcur := hcur.trans hb6
                      refine hK.out _ _ (KS8.out _ hcur) (fun hHeld => ?_)
                      clear hK K f7 hg6 hb6 hown5
                      (try simp only [List.setIfInBounds_toArray, List.set_cons_zero, List.set_cons_succ])
                      refine held_take (i := 9) (d := 62) (v := ?v11_86) rfl rfl (by kernel_rfl) (by kernel_rfl) (by kernel_rfl) (fun _ _ _ h => h) (Or.inl ⟨by rfl, ?y11_86⟩) (by assumption) ?r11_86
                      case y11_86 => (intro w hSw; (try dsimp only at hSw); go_simp <;> with_reducible rfl)
                      (try simp only [List.setIfInBounds_toArray, List.set_cons_zero, List.set_cons_succ])
                      refine wpAnyH_ready (rs := [11]) (by kernel_rfl) (by simp) ?_
                      refine AllReadyH.cons rfl (fun K hK => ?_) AllReadyH.nil
                      · have g0 := (sel_cells f10).1; have g1 := (sel_cells f10).2.1; have g2 := (sel_cells f10).2.2.1; have g3 := (sel_cells f10).2.2.2
                        go_simp
                        obtain ⟨e1, e2, e3⟩ := set_sel f10 hcur hbk10 hown6 (by rw [hLLn]; omega) hsz2 rfl
                        refine hK.out _ _ (KS8.out _ e1) (fun hHeld => ?_)
                        refine wpAnyH_done (by kernel_rfl) ?_ _
                        go_wp2_with fail
                        go_meet
                        exact ⟨k10, A6, c6, rfl, Lib.hid ⟨e1, hbk10, e2, e3, hc6⟩⟩
          case rest =>
            obtain ⟨k11, A11, c11, rfl, H8⟩ := hcut
            clear hsz2 hl2n KS8 HR8
            have hcd := below_on HHb8.out H8.out.1
            have hVd := below_on hV8 H8.out.1
            obtain ⟨x, hx⟩ : ∃ b, Sl.fits (N, l ++ [(a0, v0, t0)]) ps = b := ⟨_, rfl⟩
            obtain ⟨y, hy⟩ : ∃ b, Sl.fits (N, l ++ [(a0, v0, tn)]) ps = b := ⟨_, rfl⟩
            have X9 : Hid (Bx w8 k9 N A9 (n + 1) c9) := Lib.hid (H5.out.2.2.1.on HHb8.out)
            have R9 : Hid (Rq w8 w8.heap.size A9 (l ++ [(a0, v0, t0)])) := Lib.hid (H5.out.2.2.2.1.on HHb8.out)
            have HX := Lib.hid hx
            have HY := Lib.hid hy
            have H3 := Lib.hid (fits_three HTN.out HF.out hx hy)
            clear hx hy
            have hLL1 := Lib.hid hLL
            have hLL2 := Lib.hid hLLn
            clear hLL hLLn hl1
            obtain ⟨d0, d1, _⟩ := X9.out.on H8.out.1
            go_wp2_with fail
            refine (H.fits N A9 (n + 1) c9 (l ++ [(a0, v0, t0)]) B q d ps x (by omega) hLL1.out.symm H5.out.2.2.2.2 HQ.out HQD.out HX.out _ (R9.out.on H8.out.1) (HTW.out.on hVd)).mono ?_
            rintro e wd ⟨rfl, hwd⟩
            have hbd := below_on H8.out.1 hwd
            have hVe := below_on hVd hwd
            clear d0 d1
            obtain ⟨d0, d1, _⟩ := H8.out.2.2.1.on hwd
            go_wp2_with fail
            refine (H.fits N A11 (n + 1) c11 (l ++ [(a0, v0, tn)]) B q d ps y (by omega) hLL2.out.symm H8.out.2.2.2.2 HQ.out HQD.out HY.out _ (H8.out.2.2.2.1.on hwd) (HTW.out.on hVe)).mono ?_
            rintro e we ⟨rfl, hwe⟩
            have hVf := below_on hVe hwe
            have hbe := below_on hbd hwe
            clear d0 d1 hVd hVe hbd hwd
            obtain ⟨c0, c1, _⟩ := X1.out.on hVf
            obtain ⟨NU, hNU⟩ : ∃ T, N ++ (⟨#[95]⟩ : ByteArray) = T := ⟨_, rfl⟩
            have HNU := Lib.hid hNU
            clear hNU
            go_upto_region 12 with fail
            obtain ⟨wf, Po, hwf, hPo, hbf, o0, o1, hPof⟩ := box_sel we NU A n c
            rw [HNU.out, hPo, hwf]
            have hVg := below_on hVf (hPo ▸ hbf)
            have hbg := below_on hbe (hPo ▸ hbf)
            have XO : Hid (Bx wf Po NU A n c) := Lib.hid ⟨o0, o1, hPof⟩
            clear hwf hbf o0 o1 hVf hbe c0 c1
            rcases H3.out with ⟨rfl, rfl, rfl⟩ | ⟨rfl, sa, hsa, hcases⟩
            · go_wp2_with fail
              go_ret
              exact ⟨rfl, by first | exact below_on HB0.out hVg | (rw [← hP]; exact below_on HB0.out hVg)⟩
            · obtain ⟨g1, g2, g3⟩ := fits_true HF.out
              have hNF := g3 NU (by rw [← HNU.out, ByteArray.size_append]; have : (⟨#[95]⟩ : ByteArray).size = 1 := rfl; omega)
              have hNUs : NU.size ≤ 9223372036854775807 := by rw [← HNU.out, ByteArray.size_append]; have : (⟨#[95]⟩ : ByteArray).size = 1 := rfl; omega
              have G1 := Lib.hid g1
              have G2 := Lib.hid g2
              have G3 := Lib.hid hNF
              have GS := Lib.hid hsa
              clear g1 g2 g3 hNF hsa
              rcases hcases with ⟨rfl, rfl, rfl⟩ | ⟨rfl, rfl, rfl⟩ | ⟨rfl, rfl, rfl⟩
              all_goals
                go_wp2_with fail
                refine (sane_of B d q ps HQ.out true G2.out _ (HTW.out.on hVg)).mono ?_
                rintro e w9 ⟨rfl, hw9⟩
                have hV9 := below_on hVg hw9
                obtain ⟨c0, c1, _⟩ := X1.out.on hV9
                go_wp2_with fail
                refine (H.sane N A n c l true (by omega) HN.out HNC.out G1.out _ (HRW.out.on hV9)).mono ?_
                rintro e w10 ⟨rfl, hw10⟩
                have hV10 := below_on hV9 hw10
                clear c0 c1
                obtain ⟨o0, o1, _⟩ := XO.out.on (below_on hw9 hw10)
                go_wp2_with fail
                refine (H.fits NU A n c l B q d ps false hNUs HN.out HNC.out HQ.out HQD.out G3.out _ (HRW.out.on hV10) (HTW.out.on hV10)).mono ?_
                rintro e w11 ⟨rfl, hw11⟩
                have hV11 := below_on hV10 hw11
                have hb11 := below_on (below_on (below_on hbg hw9) hw10) hw11
                clear o0 o1
                obtain ⟨d0, d1, _⟩ := X9.out.on hb11
                go_wp2_with fail
                refine (H.sane N A9 (n + 1) c9 (l ++ [(a0, v0, t0)]) _ (by omega) hLL1.out.symm H5.out.2.2.2.2 GS.out _ (R9.out.on hb11)).mono ?_
                rintro e w12 ⟨rfl, hw12⟩
                have hV12 := below_on hV11 hw12
                go_wp2_with fail
                go_ret
                exact ⟨rfl, by first | exact below_on HB0.out hV12 | (rw [← hP]; exact below_on HB0.out hV12)⟩
end Go.Proofs.YtgahahichplpkaaDoor

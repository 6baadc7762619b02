/-
  The walk of the document's Parse of layer sel.
-/
import Derived.Test.YtgahahichplpkaaDoorSelRefM
namespace Go.Proofs.YtgahahichplpkaaDoor
open Go.RowKit Go.Proofs.YtgahahichplpkaaDoor.Lp
open Go.Proofs.YtgahahichplpkaaDoor.Sl (Mt Sel Tf)

/-- A selector's variable that may be written. -/
structure Bw (w : World) (P : Nat) (N : ByteArray) (A : Option Addr) (n c : Nat) : Prop where
  c0 : w.cell? ⟨P, 0, none⟩ = some (.string N)
  c1 : w.cell? ⟨P, 1, none⟩ = some (.slice A n c)
  f0 : w.frozen? ⟨P, 0, none⟩ = false
  f1 : w.frozen? ⟨P, 1, none⟩ = false
  lt : P < w.heap.size
theorem Bw.low {w w' : World} {P Q : Nat} {N : ByteArray} {A : Option Addr} {n c : Nat} (h : Bw w P N A n c) (hb : Below Q w w') (hPQ : P < Q) : Bw w' P N A n c :=
  ⟨(hb.cell (p := ⟨P, 0, none⟩) hPQ).trans h.c0, (hb.cell (p := ⟨P, 1, none⟩) hPQ).trans h.c1, (hb.frozen (p := ⟨P, 0, none⟩) hPQ).trans h.f0, (hb.frozen (p := ⟨P, 1, none⟩) hPQ).trans h.f1, Nat.lt_of_lt_of_le h.lt hb.size⟩
theorem Bw.on {w w' : World} {P : Nat} {N : ByteArray} {A : Option Addr} {n c : Nat} (h : Bw w P N A n c) (hb : Below w.heap.size w w') : Bw w' P N A n c := h.low hb h.lt
theorem Bw.new (w : World) (N : ByteArray) (A : Option Addr) (n c : Nat) : Bw (w.alloc (Obj.cells #[Value.string N, Value.slice A n c] 24)) w.heap.size N A n c :=
  ⟨World.cell?_alloc_at _ _ _ _ rfl, World.cell?_alloc_at _ _ _ _ rfl, frozen_new rfl rfl 0, frozen_new rfl rfl 1, by show _ < (w.heap.push _).size; rw [Array.size_push]; omega⟩
theorem box_ss (w : World) : ∃ W P, (w.alloc (Obj.cells #[Value.string ⟨#[]⟩, Value.slice none 0 0] 24)).alloc (Obj.cells #[Value.string ⟨#[]⟩, Value.slice none 0 0] 24) = W ∧ w.heap.size = P ∧ Below P w W ∧ Bw W P ⟨#[]⟩ none 0 0 ∧ Bw W (P + 1) ⟨#[]⟩ none 0 0 ∧ W.heap.size = P + 2 := by
  obtain ⟨W1, hW1⟩ : ∃ W1, w.alloc (Obj.cells #[Value.string ⟨#[]⟩, Value.slice none 0 0] 24) = W1 := ⟨_, rfl⟩
  have hs : W1.heap.size = w.heap.size + 1 := by rw [← hW1]; show (w.heap.push _).size = _; rw [Array.size_push]
  have h1 : Bw W1 w.heap.size ⟨#[]⟩ none 0 0 := by rw [← hW1]; exact Bw.new w _ _ _ _
  have hb1 : Below w.heap.size w W1 := by rw [← hW1]; exact below_alloc w _
  have hb2 := below_alloc W1 (Obj.cells #[Value.string ⟨#[]⟩, Value.slice none 0 0] 24)
  refine ⟨_, _, rfl, rfl, ?_, ?_, ?_, ?_⟩
  · rw [hW1]; exact below_on hb1 hb2
  · rw [hW1]; exact h1.on hb2
  · rw [hW1, ← hs]; exact Bw.new W1 _ _ _ _
  · rw [hW1]; show (W1.heap.push _).size = _; rw [Array.size_push, hs]
theorem info_selsize : (Tryd.prog.info? 24).map (·.size) = some 2 := by kernel_rfl
theorem load_sel (w : World) (R : Nat) (N : ByteArray) (A : Option Addr) (n c : Nat) (h0 : w.cell? ⟨R, 0, none⟩ = some (.string N)) (h1 : w.cell? ⟨R, 1, none⟩ = some (.slice A n c)) :
    (loadVar 24 ⟨R, 0, none⟩).run Tryd.prog w = .ok (sv N A n c) w := by
  refine run_loadVar_mid w R 0 24 [.string N, .slice A n c] _ ?_ Tryd.underlying24 rfl info_selsize
  intro j v hv
  match j, hv with
  | 0, hv => cases hv; exact h0
  | 1, hv => cases hv; exact h1
theorem set_twoS {w : World} {R : Nat} {x y : Value} (a b : Value) (h0 : w.cell? ⟨R, 0, none⟩ = some x) (h1 : w.cell? ⟨R, 1, none⟩ = some y) :
    ((w.setCell ⟨R, 0, none⟩ a).setCell ⟨R, 1, none⟩ b).cell? ⟨R, 0, none⟩ = some a ∧ ((w.setCell ⟨R, 0, none⟩ a).setCell ⟨R, 1, none⟩ b).cell? ⟨R, 1, none⟩ = some b ∧ Below R w ((w.setCell ⟨R, 0, none⟩ a).setCell ⟨R, 1, none⟩ b) := by
  have n (i j : Nat) (h : i ≠ j) : (⟨R, i, none⟩ : Addr) ≠ ⟨R, j, none⟩ := fun e => h (by injection e)
  refine ⟨?_, ?_, ((Below.refl R w).setCell (p := ⟨R, 0, none⟩) (Nat.le_refl _) _).setCell (p := ⟨R, 1, none⟩) (Nat.le_refl _) _⟩
  · exact (World.cell?_setCell_other _ _ _ _ (n 1 0 (by decide))).trans (World.cell?_setCell_same _ _ _ h0)
  · exact World.cell?_setCell_same _ _ _ ((World.cell?_setCell_other _ _ _ _ (n 0 1 (by decide))).trans h1)
theorem far_two (w : World) {R Q : Nat} (a b : Value) (d : Nat) (h : Q ≠ R) : ((w.setCell ⟨R, 0, none⟩ a).setCell ⟨R, 1, none⟩ b).cell? ⟨Q, d, none⟩ = w.cell? ⟨Q, d, none⟩ := by
  have n (i : Nat) : (⟨R, i, none⟩ : Addr) ≠ ⟨Q, d, none⟩ := by intro e; injection e with e1; exact h e1.symm
  rw [World.cell?_setCell_other _ _ _ _ (n 1), World.cell?_setCell_other _ _ _ _ (n 0)]
theorem OwnQ.setLow {w : World} {base : Nat} {v : Value} {l : List Mt} (h : OwnQ w base v l) {p : Addr} (hp : p.block < base) (u : Value) : OwnQ (w.setCell p u) base v l := by
  refine ⟨h.1, ?_⟩
  rcases h.2 with h0 | ⟨g, cap, cur, hv, hbs, hg, hr⟩
  · exact .inl h0
  · exact .inr ⟨g, cap, cur, hv, hbs, (Below.heap_setCell w p u g (by omega)).trans hg, hr⟩
theorem Bw.setM {w : World} {R : Nat} {N : ByteArray} {A : Option Addr} {n c : Nat} (h : Bw w R N A n c) (B : Option Addr) (k d : Nat) : Bw (w.setCell ⟨R, 1, none⟩ (.slice B k d)) R N B k d := by
  have n1 : (⟨R, 1, none⟩ : Addr) ≠ ⟨R, 0, none⟩ := by simp
  have hb : Below R w (w.setCell ⟨R, 1, none⟩ (.slice B k d)) := (Below.refl R w).setCell (p := ⟨R, 1, none⟩) (Nat.le_refl _) _
  exact ⟨(World.cell?_setCell_other _ _ _ _ n1).trans h.c0, World.cell?_setCell_same _ _ _ h.c1, (World.frozen?_setCell _ _ _ _).trans h.f0, (World.frozen?_setCell _ _ _ _).trans h.f1, Nat.lt_of_lt_of_le h.lt hb.size⟩
theorem OwnQ.sliceN {w : World} {base : Nat} {v : Value} {l : List Mt} (h : OwnQ w base v l) {n : Nat} (hn : l.length = n) : ∃ A c, v = .slice A n c ∧ Cap n c := by
  subst hn; exact OwnQ.slice h
set_option maxHeartbeats 12800000 in
set_option maxRecDepth 100000 in
theorem rparse_of (B : Option Addr) (d q : Nat) (ts : List Tz) (i : Int) (M : ByteArray) (m : List Mt) (k x : Nat) (z : Int) (hq : q = ts.length) (hq2 : q ≤ 1500) (hi1 : -9223372036854775808 ≤ i) (hi2 : i ≤ 9223372036854775807) (hm : Sl.parse (ts.map flatK) i = ((M, m), x, z)) (hk : k = m.length) (w : World) (hr : Rz w w.heap.size B ts) :
    Calls Tryd.prog 13 #[.slice B q d, .int .i64 i] w fun e w' => ∃ A c, e = .returned (.tuple #[sv M A k c, .int .i64 (x : Int), .int .i64 z]) ∧ Hid (Rq w' w'.heap.size A m) ∧ Hid (Cap k c) ∧ Below w.heap.size w w' := by
  have HQ := Lib.hid hq
  have HM := Lib.hid hm
  have HR := Lib.hid hr
  have HK := Lib.hid hk
  have hlen : q ≤ 9223372036854775807 := by omega
  clear hq hm hr hk
  go_enter Tryd.func13, Tryd.ntmps13
  go_wp2_with fail
  obtain ⟨W, P, hW, hP, hb0, x1, x2, hWs⟩ := box_ss w
  rw [hW, hP]
  clear hW
  have X1 := Lib.hid x1
  have X2 := Lib.hid x2
  have HB0 : Hid (Below w.heap.size w W) := Lib.hid (hP ▸ hb0)
  have HRW := Lib.hid (HR.out.on HB0.out)
  clear hb0 HR x1 x2
  have KP : Hid (∀ (i : Int) (y : Nat) (V : World), (if i < 0 then 0 else min i.toNat q) = y → Calls Tryd.prog 28 #[.slice B q d, .int .i64 i] V fun e w' => e = .returned (.int .i64 (y : Int)) ∧ Below V.heap.size V w') := Lib.hid (fun i y V h => place_of B d q i y hlen h V)
  obtain ⟨e0, he0⟩ : ∃ z, nameI (ts.map flatK) i = z := ⟨_, rfl⟩
  have HE0 := Lib.hid he0
  clear he0
  have Y0 := Lib.hid (fun (V : World) (h : Below W.heap.size W V) => (X2.out.on h).c0)
  have Y1 := Lib.hid (fun (V : World) (h : Below W.heap.size W V) => (X2.out.on h).c1)
  refine (rname_at B d q ts i e0 HQ.out HE0.out W HRW.out).mono ?_
  rintro e w1 ⟨rfl, hV1⟩
  by_cases h0 : e0 = 0
  · subst h0
    have hneg : ¬ i < 0 := fun h => by have := HE0.out; unfold nameI at this; rw [if_pos h] at this; simp at this
    obtain ⟨j, rfl⟩ : ∃ j : Nat, i = (j : Int) := ⟨i.toNat, by omega⟩
    have hnj := HE0.out
    rw [nameI_at] at hnj
    obtain ⟨t, ht1, _, _⟩ := Sl.nameAt_zero.1 hnj
    have hjl := (List.getElem?_eq_some_iff.1 ht1).1
    rw [List.length_map] at hjl
    obtain ⟨a1, a2, a3, ha⟩ := getZ hjl
    have ta : Sl.txtAt (ts.map flatK) j = a3 := by unfold Sl.txtAt; rw [List.getElem?_map, ha]; rfl
    have h3 : a3.size ≤ 9223372036854775807 := HRW.out.size _ (List.mem_of_getElem? ha)
    obtain ⟨g, off, rfl, hg, c0, c1, c2⟩ := (HRW.out.on hV1).get ha
    have hjz : (j : Int) < (q : Int) := by have := HQ.out; omega
    have hjq : j < q := by omega
    have hm := HM.out
    rw [parse_at] at hm
    unfold Sl.parseN at hm
    rw [hnj, if_neg (by simp), ta] at hm
    have HM2 := Lib.hid hm
    clear hm ta ha hjl ht1 hnj c0 c1 hneg
    go_wp2_with fail
    obtain ⟨W2, hW2⟩ : ∃ W2, w1.alloc (Obj.cells #[Value.string a3, Value.slice none 0 0] 24) = W2 := ⟨_, rfl⟩
    obtain ⟨R, hR⟩ : ∃ R, w1.heap.size = R := ⟨_, rfl⟩
    have hx3 : Bw W2 R a3 none 0 0 := by rw [← hW2, ← hR]; exact Bw.new w1 _ _ _ _
    have hb12 : Below R w1 W2 := by rw [← hW2, ← hR]; exact below_alloc w1 _
    rw [hW2, hR]
    clear hW2
    have hWR : W.heap.size ≤ R := by rw [← hR]; exact hV1.size
    have HV2 : Hid (Below W.heap.size W W2) := Lib.hid (hV1.trans (hb12.mono hWR))
    have hRs : W2.heap.size ≤ W2.heap.size := Nat.le_refl _
    have X3 := Lib.hid hx3
    have hPR : P + 1 < R := by omega
    obtain ⟨e1, he1⟩ : ∃ z, Sl.want (ts.map flatK) (j + 1) 4 (Sl.sg [123]) = z := ⟨_, rfl⟩
    obtain ⟨e2, he2⟩ : ∃ z, Sl.want (ts.map flatK) (j + 2) 4 (Sl.sg [125]) = z := ⟨_, rfl⟩
    have HE1 : Hid (wantI (ts.map flatK) ((j : Int) + 1) 4 (Sl.sg [123]) = e1) := Lib.hid (by rw [show (j : Int) + 1 = ((j + 1 : Nat) : Int) by omega, wantI_at]; exact he1)
    have HE2 : Hid (wantI (ts.map flatK) ((j : Int) + 2) 4 (Sl.sg [125]) = e2) := Lib.hid (by rw [show (j : Int) + 2 = ((j + 2 : Nat) : Int) by omega, wantI_at]; exact he2)
    have hm := HM2.out
    rw [he1, he2] at hm
    have HM3 := Lib.hid hm
    clear hm HM2 he1 he2 hV1 hb12 hx3 hRs
    refine (want_of _ d q ts ((j : Int) + 1) 4 (Sl.sg [123]) e1 HQ.out HE1.out W2 (HRW.out.on HV2.out)).mono ?_
    rintro e w3 ⟨rfl, hw3⟩
    have hV3 := below_on HV2.out hw3
    have X3' := Lib.hid (X3.out.on hw3)
    by_cases h1 : e1 = 0
    · subst h1
      go_wp2_with fail
      refine (want_of _ d q ts ((j : Int) + 2) 4 (Sl.sg [125]) e2 HQ.out HE2.out w3 (HRW.out.on hV3)).mono ?_
      rintro e w4 ⟨rfl, hw4⟩
      have hV4 := below_on hV3 hw4
      have X4 := Lib.hid (X3'.out.on hw4)
      clear hV3 hw3 hw4 X3'
      by_cases h2 : e2 = 0
      · subst h2
        have hm := HM3.out
        rw [if_neg (by simp), if_pos rfl] at hm
        simp only [Prod.mk.injEq] at hm
        obtain ⟨⟨rfl, rfl⟩, rfl, rfl⟩ := hm
        obtain rfl : k = 0 := HK.out
        obtain ⟨c0, c1, _, _, _⟩ := X4.out
        obtain ⟨r0, r1, s0, s1, _⟩ := X1.out.on hV4
        go_wp2_with fail
        obtain ⟨u0, u1, hbX⟩ := set_twoS (Value.string a3) (Value.slice none 0 0) r0 r1
        generalize ((w4.setCell ⟨P, 0, none⟩ (Value.string a3)).setCell ⟨P, 1, none⟩ (Value.slice none 0 0)) = X at u0 u1 hbX ⊢
        refine bodyPost_ret (v := .tuple #[sv a3 none 0 0, .int .i64 ((j : Int) + 3), .int .i64 0]) ?_ rfl ⟨none, 0, rfl, Lib.hid (Rq.none_ _ _ _), Lib.hid (by decide), (below_on HB0.out hV4).trans (by rw [hP]; exact hbX)⟩
        · rw [results_cell2 rfl]
          have hld := load_sel X P a3 none 0 0 u0 u1
          simp [asAddr, Result.andThen, hld]
          omega
      · have hb1 : (e2 == 0) = false := by simpa using h2
        obtain ⟨⟨ms0, x0⟩, hL⟩ : ∃ r : List Mt × Nat × Int, Sl.loop 9 (ts.map flatK) (j + 2) [] = r := ⟨_, rfl⟩
        obtain ⟨x0, z0⟩ := x0
        have hm := HM3.out
        rw [if_neg (by simp), if_neg h2, hL] at hm
        have HM4 : Hid ((if z0 = 0 then ((a3, ms0), x0, (0 : Int)) else (Sl.none_, x0, z0)) = ((M, m), x, z)) := Lib.hid hm
        have HL := Lib.hid hL
        have hR4 : R < w4.heap.size := X4.out.lt
        clear hm hL h2
        go_wp2_with fail
        go_loopg [10, 11, 12, 13] 9 (fun g s10 _ _ _ wx => ∃ (p : Nat) (ms : List Mt) (A : Option Addr) (c : Nat), s10 = .int .i64 p ∧ ms.length + g = 9 ∧ ms.length ≤ 8 ∧ p ≤ 2000 + 4 * ms.length ∧ Hid (Bw wx R a3 A ms.length c) ∧ Hid (OwnQ wx (R + 1) (.slice A ms.length c) ms) ∧ Hid (∀ u ∈ ms, u.1.size ≤ 9223372036854775807 ∧ u.2.1.size ≤ 9223372036854775807) ∧ Hid (Sl.loop g (ts.map flatK) p ms = (ms0, x0, z0)) ∧ Hid (Below W.heap.size W wx) ∧ R < wx.heap.size)
        case atStart => exact ⟨j + 2, [], none, 0, by simp; omega, rfl, by simp, by omega, X4, Lib.hid (OwnQ.nil _ _), Lib.hid (by simp), HL, Lib.hid hV4, hR4⟩
        case round =>
          obtain ⟨p, ms, A, c, rfl, hg9, h8, hp, HX, HO, HSz, HLp, HV, hRx⟩ := hrel
          cases gk with
          | zero => omega
          | succ g =>
            obtain ⟨L, hLn⟩ : ∃ L, ms.length = L := ⟨_, rfl⟩
            rw [hLn] at hg9 h8 hp HX HO
            rcases hma : Sl.matchAt (ts.map flatK) p L with ⟨⟨b1, b2, b3⟩, y, v⟩
            have HMa := Lib.hid hma
            have hlp := HLp.out
            unfold Sl.loop at hlp
            rw [hLn, hma] at hlp
            have HLq := Lib.hid hlp
            have HLn := Lib.hid hLn
            clear hma hlp HLp hLn
            obtain ⟨c0, c1, t0, t1, _⟩ := HX.out
            go_wp2_with fail
            refine (rmatch_of _ d q ts p L (b1, b2, b3) y v HQ.out (by omega) (by omega) HMa.out wr (HRW.out.on HV.out)).mono ?_
            rintro e w5 ⟨rfl, hw5⟩
            have HV5 := Lib.hid (below_on HV.out hw5)
            have HX5 := Lib.hid (HX.out.on hw5)
            have HO5 := Lib.hid (OwnQ.below HO.out hw5)
            have hR5 : R < w5.heap.size := HX5.out.lt
            clear c0 c1 t0 t1 hw5 HX HO HV
            by_cases hv : v = 0
            · subst hv
              obtain ⟨am1, am2, am3, am4⟩ := Sl.matchAt_ok (l := ts.map flatK) (i := p) (n := L) (by rw [HMa.out])
              rw [HMa.out] at am2
              simp only at am2
              subst am2
              have hsm : b1.size ≤ 64 ∧ b2.size ≤ 64 := by
                have := am1
                rw [HMa.out] at this
                unfold Sl.mOk nameB nameL at this
                rw [tl] at this
                simp only [Bool.and_eq_true, decide_eq_true_eq] at this
                have h1 := this.1.1.1.2
                rw [Array.length_toList] at h1
                exact ⟨h1, this.2⟩
              have hlq := HLq.out
              rw [if_neg (by simp)] at hlq
              have HLr := Lib.hid hlq
              obtain ⟨W6, hW6⟩ : ∃ W6, w5.alloc (Obj.cells #[Value.string b1, Value.string b2, Value.bool b3] 45) = W6 := ⟨_, rfl⟩
              obtain ⟨R6, hR6⟩ : ∃ R6, w5.heap.size = R6 := ⟨_, rfl⟩
              have hsz5 : W.heap.size ≤ w5.heap.size := HV5.out.size
              have hV6 : Below W.heap.size W W6 := by rw [← hW6]; exact HV5.out.alloc hsz5 _
              have hb56 : Below w5.heap.size w5 W6 := by rw [← hW6]; exact below_alloc w5 _
              have HX6 := Lib.hid (HX5.out.on hb56)
              have HO6 := Lib.hid (OwnQ.below HO5.out hb56)
              have hm0 : W6.cell? ⟨R6, 0, none⟩ = some (.string b1) := by rw [← hW6, ← hR6]; exact World.cell?_alloc_at _ _ _ _ rfl
              have hm1 : W6.cell? ⟨R6, 1, none⟩ = some (.string b2) := by rw [← hW6, ← hR6]; exact World.cell?_alloc_at _ _ _ _ rfl
              have hm2 : W6.cell? ⟨R6, 2, none⟩ = some (.bool b3) := by rw [← hW6, ← hR6]; exact World.cell?_alloc_at _ _ _ _ rfl
              obtain ⟨c0, c1, t0, t1, hR6'⟩ := HX6.out
              have hlen1 : ms.length + [(b1, b2, b3)].length ≤ 1000000 := by rw [HLn.out]; simp; omega
              have hLL : (ms ++ [(b1, b2, b3)]).length = L + 1 := by rw [List.length_append, HLn.out]; rfl
              have HO6' : Hid (OwnQ W6 (R + 1) (.slice A L c) ms) := HO6
              clear hlq am1 am3 hb56
              go_upto_region 16 with (at_builtin; refine wp_appq _ rfl _ _ rfl (R + 1) (.slice A L c) ms [(b1, b2, b3)] rfl (OwnQ.alloc HO6'.out _) _ 1 1 rfl rfl (rq_new W6 b1 b2 b3 (by omega) (by omega)) hlen1 (by show _ ≤ (W6.heap.push _).size; rw [Array.size_push]; omega) ?_; intro v7 w7 hown7 hb7; obtain ⟨A7, c7, rfl, hc7⟩ := OwnQ.sliceN hown7 hLL; obtain ⟨y0, y1, f0, f1, _⟩ := ((HX6.out.on (below_alloc W6 (Obj.cells #[Value.string b1, Value.string b2, Value.bool b3] 45))).low hb7 (Nat.lt_succ_self R)))
              obtain ⟨W8, hW8⟩ : ∃ W8, w7.setCell ⟨R, 1, none⟩ (Value.slice A7 (L + 1) c7) = W8 := ⟨_, rfl⟩
              have HX8 : Hid (Bw W8 R a3 A7 (L + 1) c7) := Lib.hid (by
                rw [← hW8]
                exact ((HX6.out.on (below_alloc W6 (Obj.cells #[Value.string b1, Value.string b2, Value.bool b3] 45))).low hb7 (Nat.lt_succ_self R)).setM A7 (L + 1) c7)
              have HO8 : Hid (OwnQ W8 (R + 1) (.slice A7 (L + 1) c7) (ms ++ [(b1, b2, b3)])) := Lib.hid (by
                rw [← hW8]; exact OwnQ.setLow hown7 (Nat.lt_succ_self R) _)
              have HV8 : Hid (Below W.heap.size W W8) := Lib.hid (by
                rw [← hW8]
                exact ((hV6.alloc hV6.size _).trans (hb7.mono (by omega))).setCell (p := ⟨R, 1, none⟩) hWR _)
              have HSz8 : Hid (∀ u ∈ ms ++ [(b1, b2, b3)], u.1.size ≤ 9223372036854775807 ∧ u.2.1.size ≤ 9223372036854775807) := Lib.hid (by
                intro u hu
                rcases List.mem_append.1 hu with hu | hu
                · exact HSz.out u hu
                · rw [List.mem_singleton.1 hu]; exact ⟨Nat.le_trans hsm.1 (by decide), Nat.le_trans hsm.2 (by decide)⟩)
              have HC7 := Lib.hid hc7
              have HLL := Lib.hid hLL
              rw [hW8]
              clear hW8 hown7 hb7 hc7 hLL y0 y1 f0 f1 c0 c1 t0 t1 hm0 hm1 hm2 hV6 hW6 hR6 hR6' HX6 HO6 HO6' hlen1 HX5 HO5 HSz
              obtain ⟨g1, hg1⟩ : ∃ z, Sl.want (ts.map flatK) (p + 3) 4 (Sl.sg [125]) = z := ⟨_, rfl⟩
              obtain ⟨g2, hg2⟩ : ∃ z, Sl.want (ts.map flatK) (p + 3) 4 (Sl.sg [44]) = z := ⟨_, rfl⟩
              have G1 : Hid (wantI (ts.map flatK) ((p : Int) + 3) 4 (Sl.sg [125]) = g1) := Lib.hid (by rw [show (p : Int) + 3 = ((p + 3 : Nat) : Int) by omega, wantI_at]; exact hg1)
              have G2 : Hid (wantI (ts.map flatK) ((p : Int) + 3) 4 (Sl.sg [44]) = g2) := Lib.hid (by rw [show (p : Int) + 3 = ((p + 3 : Nat) : Int) by omega, wantI_at]; exact hg2)
              have hlr := HLr.out
              rw [hg1, hg2] at hlr
              have HLs := Lib.hid hlr
              clear hlr HLr hg1 hg2
              go_wp2_with fail
              refine (want_of _ d q ts ((p : Int) + 3) 4 (Sl.sg [125]) g1 HQ.out G1.out W8 (HRW.out.on HV8.out)).mono ?_
              rintro e w9 ⟨rfl, hw9⟩
              have HV9 := Lib.hid (below_on HV8.out hw9)
              have HX9 := Lib.hid (HX8.out.on hw9)
              have HO9 := Lib.hid (OwnQ.below HO8.out hw9)
              clear hw9 HX8 HO8 HV8
              by_cases h1 : g1 = 0
              · subst h1
                have hls := HLs.out
                rw [if_pos rfl] at hls
                simp only [Prod.mk.injEq] at hls
                obtain ⟨rfl, rfl, rfl⟩ := hls
                have hm := HM4.out
                rw [if_pos rfl] at hm
                simp only [Prod.mk.injEq] at hm
                obtain ⟨⟨rfl, rfl⟩, rfl, rfl⟩ := hm
                obtain rfl : k = L + 1 := by rw [HK.out]; exact HLL.out
                obtain ⟨c0, c1, _, _, hR9⟩ := HX9.out
                obtain ⟨r0, r1, s0, s1, hP9⟩ := X1.out.on HV9.out
                have HRq9 : Hid (Rq w9 w9.heap.size A7 (ms ++ [(b1, b2, b3)])) := Lib.hid (OwnQ.rq HO9.out (by have := HLL.out; omega) HSz8.out)
                go_wp2_with fail
                have hOX := OwnQ.setLow (OwnQ.setLow HO9.out (p := ⟨P, 0, none⟩) (by show P < R + 1; omega) (Value.string a3)) (p := ⟨P, 1, none⟩) (by show P < R + 1; omega) (Value.slice A7 (L + 1) c7)
                obtain ⟨u0, u1, hbX⟩ := set_twoS (Value.string a3) (Value.slice A7 (L + 1) c7) r0 r1
                generalize ((w9.setCell ⟨P, 0, none⟩ (Value.string a3)).setCell ⟨P, 1, none⟩ (Value.slice A7 (L + 1) c7)) = X at u0 u1 hbX hOX ⊢
                refine bodyPost_ret (v := .tuple #[sv a3 A7 (L + 1) c7, .int .i64 ((p + 4 : Nat) : Int), .int .i64 0]) ?_ rfl ⟨A7, c7, rfl, Lib.hid (OwnQ.rq hOX (by have := HLL.out; omega) HSz8.out), HC7, (below_on HB0.out HV9.out).trans (by rw [hP]; exact hbX)⟩
                rw [results_cell2 rfl]
                have hld := load_sel X P a3 A7 (L + 1) c7 u0 u1
                simp [asAddr, Result.andThen, hld]
                omega
              · have hb1 : (g1 == 0) = false := by simpa using h1
                have hls := HLs.out
                rw [if_neg h1] at hls
                have HLt := Lib.hid hls
                clear hls HLs h1
                go_wp2_with fail
                refine (want_of _ d q ts ((p : Int) + 3) 4 (Sl.sg [44]) g2 HQ.out G2.out w9 (HRW.out.on HV9.out)).mono ?_
                rintro e w10 ⟨rfl, hw10⟩
                have HV10 := Lib.hid (below_on HV9.out hw10)
                have HX10 := Lib.hid (HX9.out.on hw10)
                have HO10 := Lib.hid (OwnQ.below HO9.out hw10)
                have hR10 : R < w10.heap.size := HX10.out.lt
                clear hw10 HX9 HO9 HV9
                by_cases h2 : g2 = 0
                · subst h2
                  have hlt := HLt.out
                  rw [if_neg (by simp)] at hlt
                  have HLu := Lib.hid hlt
                  have h88 : L + 1 ≤ 8 := by
                    rcases Nat.lt_or_ge L 8 with h | h
                    · omega
                    · exfalso
                      have hL8 : L = 8 := by omega
                      obtain ⟨_, _, _, am4⟩ := Sl.matchAt_ok (l := ts.map flatK) (i := p) (n := L) (by rw [HMa.out])
                      omega
                  clear hlt HLt
                  go_wp2_with fail
                  go_roundg g
                  case measure => omega
                  case rel => exact ⟨p + 4, ms ++ [(b1, b2, b3)], A7, c7, by simp; omega, by rw [HLL.out]; omega, by rw [HLL.out]; omega, by rw [HLL.out]; omega, Lib.hid (by rw [HLL.out]; exact HX10.out), Lib.hid (by rw [HLL.out]; exact HO10.out), HSz8, HLu, HV10, hR10⟩
                · have hlt := HLt.out
                  rw [if_pos h2, List.length_map, ← HQ.out] at hlt
                  simp only [Prod.mk.injEq] at hlt
                  obtain ⟨rfl, hx, rfl⟩ := hlt
                  have hm := HM4.out
                  rw [if_neg h2] at hm
                  unfold Sl.none_ at hm
                  simp only [Prod.mk.injEq] at hm
                  obtain ⟨⟨rfl, rfl⟩, rfl, rfl⟩ := hm
                  obtain rfl : k = 0 := HK.out
                  have HXx : Hid ((if (p : Int) + 3 < 0 then 0 else min ((p : Int) + 3).toNat q) = x0) := Lib.hid (by
                    rw [if_neg (by omega), show ((p : Int) + 3).toNat = p + 3 by omega]; exact hx)
                  have hb2 : (g2 != 0) = true := by simpa using h2
                  have hb3 : (g2 == 0) = false := by simpa using h2
                  have hcur : Below W.heap.size W w10.drew := HV10.out.drew
                  have hPne : P + 1 ≠ P := by omega
                  clear hx h2
                  go_upto_region 20 with fail
                  first | (go_region_held (fun V => V.cell? ⟨P + 1, 0, none⟩ = some (.string ⟨#[]⟩) ∧ V.cell? ⟨P + 1, 1, none⟩ = some (.slice none 0 0))
                    (first | exact ⟨Y0.out _ hcur, Y1.out _ hcur⟩ | exact ⟨(far_two _ _ _ 0 hPne).trans (Y0.out _ hcur), (far_two _ _ _ 1 hPne).trans (Y1.out _ hcur)⟩)
                    (first
                      | (go_at_call 28; with_reducible refine (KP.out ((p : Int) + 3) x0 _ HXx.out).mono ?_; rintro e w' ⟨rfl, hw'⟩; replace hcur := below_on hcur hw'; obtain ⟨r0, r1, s0, s1, _⟩ := X1.out.on hcur))) | fail
                  all_goals
                    go_wp2_with fail
                    obtain ⟨u0, u1, hbX⟩ := set_twoS (Value.string ⟨#[]⟩) (Value.slice none 0 0) r0 r1
                    generalize ((w'.setCell ⟨P, 0, none⟩ (Value.string ⟨#[]⟩)).setCell ⟨P, 1, none⟩ (Value.slice none 0 0)) = X at u0 u1 hbX ⊢
                    refine bodyPost_ret (v := .tuple #[sv ⟨#[]⟩ none 0 0, .int .i64 (x0 : Int), .int .i64 g2]) ?_ rfl ⟨none, 0, rfl, Lib.hid (Rq.none_ _ _ _), Lib.hid (by decide), (below_on HB0.out hcur).trans (by rw [hP]; exact hbX)⟩
                    · rw [results_cell2 rfl]
                      have hld := load_sel X P ⟨#[]⟩ none 0 0 u0 u1
                      simp [asAddr, Result.andThen, hld]
            · have hlq := HLq.out
              rw [if_pos hv] at hlq
              simp only [Prod.mk.injEq] at hlq
              obtain ⟨rfl, rfl, rfl⟩ := hlq
              have hm := HM4.out
              rw [if_neg hv] at hm
              unfold Sl.none_ at hm
              simp only [Prod.mk.injEq] at hm
              obtain ⟨⟨rfl, rfl⟩, rfl, rfl⟩ := hm
              obtain rfl : k = 0 := HK.out
              have hb1 : (v != 0) = true := by simpa using hv
              have hsz5 : W.heap.size ≤ w5.heap.size := HV5.out.size
              obtain ⟨W6, hW6⟩ : ∃ W6, w5.alloc (Obj.cells #[Value.string b1, Value.string b2, Value.bool b3] 45) = W6 := ⟨_, rfl⟩
              have hV6 : Below W.heap.size W W6 := by rw [← hW6]; exact HV5.out.alloc hsz5 _
              have hc0 := Y0.out _ hV6
              have hc1 := Y1.out _ hV6
              obtain ⟨r0, r1, s0, s1, _⟩ := X1.out.on hV6
              clear hv
              go_wp2_with fail
              obtain ⟨u0, u1, hbX⟩ := set_twoS (Value.string ⟨#[]⟩) (Value.slice none 0 0) r0 r1
              generalize ((W6.setCell ⟨P, 0, none⟩ (Value.string ⟨#[]⟩)).setCell ⟨P, 1, none⟩ (Value.slice none 0 0)) = X at u0 u1 hbX ⊢
              refine bodyPost_ret (v := .tuple #[sv ⟨#[]⟩ none 0 0, .int .i64 (y : Int), .int .i64 v]) ?_ rfl ⟨none, 0, rfl, Lib.hid (Rq.none_ _ _ _), Lib.hid (by decide), (below_on HB0.out hV6).trans (by rw [hP]; exact hbX)⟩
              · rw [results_cell2 rfl]
                have hld := load_sel X P ⟨#[]⟩ none 0 0 u0 u1
                simp [asAddr, Result.andThen, hld]
    · have hm := HM3.out
      rw [if_pos h1] at hm
      simp only [Prod.mk.injEq] at hm
      obtain ⟨⟨rfl, rfl⟩, rfl, rfl⟩ := hm
      obtain rfl : k = 0 := HK.out
      have hb1 : (e1 != 0) = true := by simpa using h1
      obtain ⟨c0, c1, _, _, _⟩ := X3'.out
      obtain ⟨r0, r1, s0, s1, _⟩ := X1.out.on hV3
      clear h1
      go_wp2_with fail
      obtain ⟨u0, u1, hbX⟩ := set_twoS (Value.string a3) (Value.slice none 0 0) r0 r1
      generalize ((w3.setCell ⟨P, 0, none⟩ (Value.string a3)).setCell ⟨P, 1, none⟩ (Value.slice none 0 0)) = X at u0 u1 hbX ⊢
      refine bodyPost_ret (v := .tuple #[sv a3 none 0 0, .int .i64 ((j : Int) + 1), .int .i64 0]) ?_ rfl ⟨none, 0, rfl, Lib.hid (Rq.none_ _ _ _), Lib.hid (by decide), (below_on HB0.out hV3).trans (by rw [hP]; exact hbX)⟩
      · rw [results_cell2 rfl]
        have hld := load_sel X P a3 none 0 0 u0 u1
        simp [asAddr, Result.andThen, hld]
  · have hm := HM.out
    have hnone : Sl.parse (ts.map flatK) i = (Sl.none_, (if i < 0 then 0 else min i.toNat q), e0) := by
      unfold Sl.parse
      have he := HE0.out
      unfold nameI at he
      by_cases hi : i < 0
      · rw [if_pos hi] at he ⊢
        rw [if_pos hi, he]
      · rw [if_neg hi] at he ⊢
        rw [if_neg hi]
        unfold Sl.parseN
        rw [he, if_pos h0, List.length_map, ← HQ.out]
    rw [hnone] at hm
    unfold Sl.none_ at hm
    simp only [Prod.mk.injEq] at hm
    obtain ⟨⟨rfl, rfl⟩, hx, rfl⟩ := hm
    obtain rfl : k = 0 := HK.out
    have HX := Lib.hid hx
    have hb1 : (e0 != 0) = true := by simpa using h0
    have hb2 : (e0 == 0) = false := by simpa using h0
    have hcur : Below W.heap.size W w1.drew := hV1.drew
    have hPne : P + 1 ≠ P := by omega
    clear hx h0 hnone
    go_upto_region 4 with fail
    first | (go_region_held (fun V => V.cell? ⟨P + 1, 0, none⟩ = some (.string ⟨#[]⟩) ∧ V.cell? ⟨P + 1, 1, none⟩ = some (.slice none 0 0))
      (first | exact ⟨Y0.out _ hcur, Y1.out _ hcur⟩ | exact ⟨(far_two _ _ _ 0 hPne).trans (Y0.out _ hcur), (far_two _ _ _ 1 hPne).trans (Y1.out _ hcur)⟩)
      (first
        | (go_at_call 28; with_reducible refine (KP.out i x _ HX.out).mono ?_; rintro e w' ⟨rfl, hw'⟩; replace hcur := below_on hcur hw'; obtain ⟨r0, r1, s0, s1, _⟩ := X1.out.on hcur))) | fail
    all_goals
      go_wp2_with fail
      obtain ⟨u0, u1, hbX⟩ := set_twoS (Value.string ⟨#[]⟩) (Value.slice none 0 0) r0 r1
      generalize ((w'.setCell ⟨P, 0, none⟩ (Value.string ⟨#[]⟩)).setCell ⟨P, 1, none⟩ (Value.slice none 0 0)) = X at u0 u1 hbX ⊢
      refine bodyPost_ret (v := .tuple #[sv ⟨#[]⟩ none 0 0, .int .i64 (x : Int), .int .i64 e0]) ?_ rfl ⟨none, 0, rfl, Lib.hid (Rq.none_ _ _ _), Lib.hid (by decide), (below_on HB0.out hcur).trans (by rw [hP]; exact hbX)⟩
      · rw [results_cell2 rfl]
        have hld := load_sel X P ⟨#[]⟩ none 0 0 u0 u1
        simp [asAddr, Result.andThen, hld]
end Go.Proofs.YtgahahichplpkaaDoor

/-
  The walk of SelBack: what is printed is parsed, behind whatever tokens and ahead of whatever that is no brace.
-/
import Derived.Test.YtgahahichplpkaaDoorSelApart
namespace Go.Proofs.YtgahahichplpkaaDoor
open Go.RowKit Go.Proofs.YtgahahichplpkaaDoor.Lp
open Go.Proofs.YtgahahichplpkaaDoor.Sl (Mt Sel Tf)

/-- A token's variable. -/
structure Bt (w : World) (P : Nat) (k a : Int) (s : ByteArray) : Prop where
  c0 : w.cell? ⟨P, 0, none⟩ = some (.int .i64 k)
  c1 : w.cell? ⟨P, 1, none⟩ = some (.int .i64 a)
  c2 : w.cell? ⟨P, 2, none⟩ = some (.string s)
  lt : P < w.heap.size
theorem Bt.on {w w' : World} {P : Nat} {k a : Int} {s : ByteArray} (h : Bt w P k a s) (hb : Below w.heap.size w w') : Bt w' P k a s :=
  ⟨(hb.cell (p := ⟨P, 0, none⟩) h.lt).trans h.c0, (hb.cell (p := ⟨P, 1, none⟩) h.lt).trans h.c1, (hb.cell (p := ⟨P, 2, none⟩) h.lt).trans h.c2, Nat.lt_of_lt_of_le h.lt hb.size⟩
theorem box_st (w : World) (N : ByteArray) (A : Option Addr) (n c : Nat) (k a : Int) (s : ByteArray) :
    ∃ W P, (w.alloc (Obj.cells #[Value.string N, Value.slice A n c] 24)).alloc (Obj.cells #[Value.int .i64 k, Value.int .i64 a, Value.string s] 39) = W ∧ w.heap.size = P ∧ Below P w W ∧ Bx W P N A n c ∧ Bt W (P + 1) k a s := by
  obtain ⟨W1, P, hW1, hP, hb1, d0, d1, hPW1⟩ := box_sel w N A n c
  have hs : W1.heap.size = P + 1 := by rw [← hW1, ← hP]; show (w.heap.push _).size = _; rw [Array.size_push]
  have hb2 := below_alloc W1 (Obj.cells #[Value.int .i64 k, Value.int .i64 a, Value.string s] 39)
  refine ⟨_, P, rfl, hP, ?_, ?_, ?_⟩
  · rw [hW1]; exact hb1.trans (hb2.mono (by omega))
  · rw [hW1]; exact (Bx.mk d0 d1 hPW1).on hb2
  · rw [hW1]; exact ⟨World.cell?_alloc_at _ _ _ _ hs.symm, World.cell?_alloc_at _ _ _ _ hs.symm, World.cell?_alloc_at _ _ _ _ hs.symm, by show _ < (W1.heap.push _).size; rw [Array.size_push]; omega⟩
theorem Bx.low {w w' : World} {P Q : Nat} {N : ByteArray} {A : Option Addr} {n c : Nat} (h : Bx w P N A n c) (hb : Below Q w w') (hPQ : P < Q) : Bx w' P N A n c :=
  ⟨(hb.cell (p := ⟨P, 0, none⟩) hPQ).trans h.c0, (hb.cell (p := ⟨P, 1, none⟩) hPQ).trans h.c1, Nat.lt_of_lt_of_le h.lt hb.size⟩
theorem all_none : allZ [] = ([], 0, 0) := by
  unfold allZ allT
  obtain ⟨h1, h2, h3⟩ := Sl.lex_none
  rw [h1, h2, h3]; rfl
theorem print_no {s : Sel} (h : Sl.saneS s = false) : Sl.prS s = [] := by unfold Sl.prS; rw [h]; rfl
set_option maxHeartbeats 6400000 in
set_option maxRecDepth 100000 in
theorem selBack_any (H : SelC) (N : ByteArray) (A : Option Addr) (c n : Nat) (l : List Mt) (B : Option Addr) (d q : Nat) (ts : List Tz) (k0 a0 : Int) (s0 : ByteArray) (w : World) (hNs : N.size ≤ 9223372036854775807) (hn : n = l.length) (hr : Rq w w.heap.size A l) (hnc : n ≤ c ∧ c ≤ 9223372036854775807)
    (hq : q = ts.length) (ht : Rz w w.heap.size B ts) (hqd : q ≤ d ∧ d ≤ 9223372036854775807) (hs0 : s0.size ≤ 9223372036854775807) :
    Calls Tryd.prog 4 #[sv N A n c, .slice B q d, .agg #[.int .i64 k0, .int .i64 a0, .string s0]] w fun e w' => e = .returned (.bool true) ∧ Below w.heap.size w w' := by
  have HN := Lib.hid hn
  have HQ := Lib.hid hq
  have HNC := Lib.hid hnc
  have HQD := Lib.hid hqd
  have HR := Lib.hid hr
  have HT := Lib.hid ht
  clear hn hq hnc hqd hr ht
  obtain ⟨b1, hb1⟩ : ∃ b, Sl.saneS (N, l) = b := ⟨_, rfl⟩
  have H1 := Lib.hid hb1
  clear hb1
  go_enter Tryd.func4, Tryd.ntmps4
  obtain ⟨W, P, hW, hP, hb0, X1, X2⟩ := box_st w N A n c k0 a0 s0
  have HB0 : Hid (Below w.heap.size w W) := Lib.hid (hP ▸ hb0)
  have X1 := Lib.hid X1
  have X2 := Lib.hid X2
  have HRW := Lib.hid (HR.out.on HB0.out)
  have HTW := Lib.hid (HT.out.on HB0.out)
  clear hb0 HR HT
  go_wp2_with fail
  refine (awake_any H W).mono ?_
  rintro e w1 ⟨rfl, hV1⟩
  obtain ⟨c0, c1, _⟩ := X1.out.on hV1
  go_wp2_with fail
  refine (fewS_of N A c n l HN.out w1 (HRW.out.on hV1)).mono ?_
  rintro e w2 ⟨q1, rfl, HQ1, hw2⟩
  have hV2 : Below W.heap.size W w2 := below_on hV1 hw2
  have HQ1 := Lib.hid HQ1
  clear c0 c1 hV1 hw2
  cases q1 with
  | false =>
    go_wp2_with fail
    go_ret
    exact ⟨rfl, below_on HB0.out hV2⟩
  | true =>
    have hn40 := HQ1.out rfl
    clear HQ1
    go_wp2_with fail
    refine (short_of B d q ts HQ.out w2 (HTW.out.on hV2)).mono ?_
    rintro e w3 ⟨q2, rfl, HQ2, hw3⟩
    have hV3 := below_on hV2 hw3
    have HQ2 := Lib.hid HQ2
    clear hV2 hw3
    cases q2 with
    | false =>
      go_wp2_with fail
      go_ret
      exact ⟨rfl, below_on HB0.out hV3⟩
    | true =>
      have hq1500 := HQ2.out rfl
      clear HQ2
      obtain ⟨c0, c1, _⟩ := X1.out.on hV3
      obtain ⟨S, hS⟩ : ∃ S : ByteArray, S.data.toList = Sl.prS (N, l) := ⟨str (Sl.prS (N, l)), rfl⟩
      have hSz : S.size ≤ 1000000 := by
        have := print_len (s := (N, l))
        rw [← hS, Array.length_toList] at this
        show S.data.size ≤ _
        omega
      have HSt := Lib.hid hS
      clear hS
      rcases ha : allZ (Sl.prS (N, l)) with ⟨us, y, v⟩
      obtain ⟨r, hr⟩ : ∃ r, r = us.length := ⟨_, rfl⟩
      have HAll := Lib.hid ha
      have HRr := Lib.hid hr
      clear ha hr
      go_wp2_with fail
      refine (H.print N A n c l S hNs HN.out HNC.out HSt.out w3 (HRW.out.on hV3)).mono ?_
      rintro e w4 ⟨rfl, hw4⟩
      have hV4 := below_on hV3 hw4
      clear c0 c1 hV3 hw4
      go_wp2_with fail
      refine (H.all S (Sl.prS (N, l)) us r y v hSz HSt.out HAll.out HRr.out w4).mono ?_
      rintro e w5 ⟨B5, d5, rfl, HR5, HC5, hw5⟩
      have hV5 := below_on hV4 hw5
      clear hV4 hw5
      obtain ⟨c0, c1, _⟩ := X1.out.on hV5
      go_wp2_with fail
      refine (H.sane N A n c l b1 hNs HN.out HNC.out H1.out w5 (HRW.out.on hV5)).mono ?_
      rintro e w6 ⟨rfl, hw6⟩
      have hV6 := below_on hV5 hw6
      have HR6 := Lib.hid (HR5.out.on hw6)
      clear c0 c1 hV5 hw6 HR5
      cases b1 with
      | false =>
        have h := HAll.out
        rw [print_no H1.out, all_none] at h
        simp only [Prod.mk.injEq] at h
        obtain ⟨rfl, rfl, rfl⟩ := h
        obtain rfl : r = 0 := HRr.out
        go_wp2_with fail
        go_ret
        exact ⟨rfl, below_on HB0.out hV6⟩
      | true =>
        obtain ⟨rfl, hflat, hlen, hag⟩ := again H1.out HAll.out
        have hr34 : r ≤ 34 := by rw [HRr.out, hlen]; exact Sl.tS_len H1.out
        have HFl := Lib.hid hflat
        have HAg := Lib.hid hag
        have HLen := Lib.hid hlen
        obtain ⟨t0, t1, t2, _⟩ := X2.out.on hV6
        have hl1 : ([] : List Tz).length + ts.length ≤ 1000000 := by rw [List.length_nil, ← HQ.out]; omega
        have hl2 : ([] ++ ts).length + us.length ≤ 1000000 := by rw [List.nil_append, ← HQ.out, ← HRr.out]; omega
        have hl3 : ([] ++ ts ++ us).length + [(k0, a0, s0)].length ≤ 1000000 := by rw [List.nil_append, List.length_append, ← HQ.out, ← HRr.out]; simp; omega
        clear hflat hag hlen
        go_upto_region 8 with (at_builtin; refine wp_appz _ rfl _ _ rfl w6.heap.size _ [] ts rfl (ownZ_made w6) B q d HQ.out rfl ((HTW.out.on hV6).on (below_alloc _ _)) hl1 (by simp) ?_; intro v7 w7 hown7 hb7)
        clear t0 t1 t2
        have hw7 : Below w6.heap.size w6 w7 := (below_alloc w6 (.cells #[] 39)).trans hb7
        go_upto_region 9 with (at_builtin; refine wp_appz _ rfl _ _ rfl w6.heap.size v7 ([] ++ ts) us rfl hown7 B5 r d5 HRr.out rfl (HR6.out.on hw7) hl2 hw7.size ?_; intro v8 w8 hown8 hb8)
        have hw8 := hw7.trans hb8
        have hV8 := below_on hV6 hw8
        obtain ⟨t0, t1, t2, _⟩ := X2.out.on hV8
        have hsz8 := hw8.size
        go_upto_region 10 with (at_builtin; refine wp_appz _ rfl _ _ rfl w6.heap.size v8 ([] ++ ts ++ us) [(k0, a0, s0)] rfl (OwnZ.alloc hown8 _) _ 1 1 rfl rfl (rz_new w8 k0 a0 s0 hs0) hl3 (by show _ ≤ (w8.heap.push _).size; rw [Array.size_push]; omega) ?_; intro v9 w9 hown9 hb9)
        have hw9 := (hw8.alloc hsz8 (Obj.cells #[Value.int .i64 k0, Value.int .i64 a0, Value.string s0] 39)).trans hb9
        have hV9 := below_on hV6 hw9
        obtain ⟨L, hL⟩ : ∃ L, [] ++ ts ++ us ++ [(k0, a0, s0)] = L := ⟨_, rfl⟩
        rw [hL] at hown9
        obtain ⟨C, c9, rfl, hc9⟩ := OwnZ.slice hown9
        obtain ⟨p, hp⟩ : ∃ p, L.length = p := ⟨_, rfl⟩
        rw [hp] at hc9 hown9 ⊢
        have hplen : p = q + r + 1 := by rw [← hp, ← hL, HQ.out, HRr.out]; simp; omega
        have HRl := Lib.hid (OwnZ.rz hown9 (by omega) (fun t ht => by
          rw [← hL] at ht
          simp only [List.nil_append, List.mem_append, List.mem_singleton] at ht
          rcases ht with (ht | ht) | rfl
          · exact HTW.out.size t ht
          · exact HR6.out.size t ht
          · exact hs0))
        have HP := Lib.hid hp.symm
        have HPl := Lib.hid hplen
        clear hplen
        have HC9 := Lib.hid hc9
        have HLf : Hid (L.map flatK = ts.map flatK ++ ((Sl.tS (N, l)).map Sl.tf ++ [(k0, s0)])) := Lib.hid (by
          rw [← hL, List.nil_append, List.map_append, List.map_append, HFl.out, List.append_assoc]; rfl)
        have HR9 := Lib.hid (HR6.out.on hw9)
        clear hown7 hown8 hown9 hb7 hb8 hb9 hw7 hw8 hV8 hL hp hc9 t0 t1 t2 HR6 hl1 hl2 hl3
        go_wp2_with fail
        refine (H.parse B5 d5 r us 0 N l n us.length 0 HRr.out HC5.out (by decide) (by decide) HAg.out HN.out w9 HR9.out).mono ?_
        rintro e w10 ⟨A10, c10, rfl, HM10, HC10, hw10⟩
        rw [← HRr.out]
        have hV10 := below_on hV9 hw10
        obtain ⟨V1, P1, hV1, hP1, hb1, x0, x1, x2⟩ := box_sel w10 N A10 n c10
        have hWP1 : W.heap.size ≤ P1 := by have := hV10.size; omega
        have hb1' : Below w10.heap.size w10 V1 := hP1 ▸ hb1
        have hVV1 := below_on hV10 hb1'
        have HX3 : Hid (Bx V1 P1 N A10 n c10) := Lib.hid ⟨x0, x1, x2⟩
        have HL1 := Lib.hid ((HRl.out.on hw10).on hb1')
        have HM1 := Lib.hid (HM10.out.on hb1')
        have HMb1 : Hid (Rq V1 P1 A10 l) := Lib.hid (by
          have h := HM10.out.below hb1'
          rw [hP1] at h
          exact h)
        have hPV1 : P1 < V1.heap.size := x2
        rcases hpp : Sl.parse (L.map flatK) (q : Int) with ⟨⟨M, m⟩, x, z⟩
        have HPP := Lib.hid hpp
        obtain ⟨k, hk⟩ : ∃ k, k = m.length := ⟨_, rfl⟩
        have HK := Lib.hid hk
        clear hV9 hw10 hV10 hb1 hb1' x0 x1 x2 HRl HM10 hpp hk HR9
        go_wp2_with fail
        refine (H.parse C c9 p L q M m k x z HP.out HC9.out (by omega) (by omega) HPP.out HK.out V1 HL1.out).mono ?_
        rintro e w11 ⟨A11, c11, rfl, HM11, HC11, hw11⟩
        have hV11 := below_on hVV1 hw11
        have HX3' := Lib.hid (HX3.out.on hw11)
        have HM1' := Lib.hid (HM1.out.on hw11)
        have HMb2 := Lib.hid (HMb1.out.below (hw11.mono (by omega)))
        have hPw11 := hw11.size
        clear hVV1 hw11 HX3 HM1 HL1
        obtain ⟨V2, P2, hV2, hP2, hb2, y0, y1, y2⟩ := box_sel w11 M A11 k c11
        have hb2s := HX3'.out.lt
        have hb2' : Below w11.heap.size w11 V2 := hP2 ▸ hb2
        have hVV2 := below_on hV11 hb2'
        have HX4 : Hid (Bx V2 P2 M A11 k c11) := Lib.hid ⟨y0, y1, y2⟩
        have HX5 := Lib.hid (HX3'.out.on hb2')
        have HM2 := Lib.hid (HM1'.out.on hb2')
        have HMb3 := Lib.hid (HMb2.out.below (hb2'.mono (by omega)))
        have HM3 := Lib.hid (HM11.out.on hb2')
        clear hV11 hb2 hb2' y0 y1 y2 HX3' HM1' HM11
        obtain ⟨c0, c1, _⟩ := X1.out.on hVV2
        obtain ⟨t0, t1, t2, _⟩ := X2.out.on hVV2
        obtain ⟨y0, y1, _⟩ := HX4.out
        have hz0 := frozen_new hV2 hP2 0
        have hz1 := frozen_new hV2 hP2 1
        have hPP12 : P1 < P2 := by have := HX5.out.lt; have := hb2s; omega
        obtain ⟨br, hbr⟩ : ∃ br, (decide (k0 = 4) && (decide (s0 = Sl.sg [123]) && decide (n = 0))) = br := ⟨_, rfl⟩
        have HBr := Lib.hid hbr
        clear hbr
        go_upto_region 12 with fail
        go_cut [81] (fun s81 wx => s81 = .bool br ∧ wx = V2)
        case first =>
          by_cases e1 : k0 = 4
          · by_cases e2 : s0 = Sl.sg [123]
            · have e2b : (s0.toList == [123]) = true := by rw [e2, Lp.tl]; rfl
              by_cases e3 : n = 0
              · have : br = true := by rw [← HBr.out]; simp [e1, e2, e3]
                subst this
                have e1b : (k0 == 4) = true := by simpa using e1
                have e3b : ((n : Int) == 0) = true := by simp; omega
                clear e1 e2 e3
                go_wp2_with fail
                go_meet
                exact ⟨rfl, rfl⟩
              · have : br = false := by rw [← HBr.out]; simp [e3]
                subst this
                have e1b : (k0 == 4) = true := by simpa using e1
                have e3b : ((n : Int) == 0) = false := by simp; omega
                clear e1 e2 e3
                go_wp2_with fail
                go_meet
                exact ⟨rfl, rfl⟩
            · have : br = false := by rw [← HBr.out]; simp [e2]
              subst this
              have e1b : (k0 == 4) = true := by simpa using e1
              have e2b : (s0.toList == [123]) = false := by
                simp only [beq_eq_false_iff_ne]
                intro h
                refine e2 (Lp.ext ?_)
                rw [h, Lp.tl]; rfl
              have e2c : ¬ s0.toList = [123] := by simpa using e2b
              clear e1 e2
              go_wp2_with fail
              go_meet
              exact ⟨rfl, rfl⟩
          · have : br = false := by rw [← HBr.out]; simp [e1]
            subst this
            have e1b : (k0 == 4) = false := by simpa using e1
            clear e1
            go_wp2_with fail
            go_meet
            exact ⟨rfl, rfl⟩
        case rest =>
          obtain ⟨rfl, rfl⟩ := hcut
          have hqrb : q + r ≤ 2000 := by omega
          go_upto_if 81 with fail
          go_cut [16, 17] (fun s16 s17 wx => s16 = .int .i64 ((q : Int) + (r : Int)) ∧ s17 = .int .i64 0 ∧ Hid (∃ A12 c12, Bx wx P2 N A12 n c12 ∧ Rq wx wx.heap.size A12 l ∧ Bx wx P1 N A10 n c10 ∧ Rq wx wx.heap.size A10 l ∧ Below W.heap.size W wx))
          case first =>
            cases br with
            | false =>
              have h := HPP.out
              have hcond : l = [] → Sl.want [(k0, s0)] 0 4 (Sl.sg [123]) ≠ 0 := by
                intro hl hw
                obtain ⟨t, h1, h2, h3⟩ := Sl.want_zero.1 hw
                simp only [List.getElem?_cons_zero, Option.some.injEq] at h1
                subst h1
                have hs : s0 = Sl.sg [123] := by
                  rcases h3 with h3 | h3
                  · rw [Sl.sg_size] at h3; simp at h3
                  · exact h3
                have hn0 : n = 0 := by rw [HN.out, hl]; rfl
                have hb := HBr.out
                have h2' : k0 = 4 := h2
                rw [h2', hs, hn0] at hb
                simp at hb
              have hpr := Sl.parse_print (s := (N, l)) H1.out (ts.map flatK) [(k0, s0)] hcond
              rw [← HLf.out, List.length_map, ← HQ.out] at hpr
              rw [parse_at, hpr] at h
              simp only [Prod.mk.injEq] at h
              obtain ⟨⟨rfl, rfl⟩, rfl, rfl⟩ := h
              have hkn : k = n := by rw [HK.out, HN.out]
              subst hkn
              have hx : q + (Sl.tS (N, l)).length = q + r := by rw [HRr.out, HLen.out]
              rw [hx]
              clear hpr hcond
              go_wp2_with fail
              go_meet
              exact ⟨by rw [Int.natCast_add], rfl, Lib.hid ⟨A11, c11, HX4.out, HM3.out, HX5.out, HM2.out, hVV2⟩⟩
            | true =>
              go_wp2_with fail
              go_meet
              have hbX : Below P2 wc ((wc.setCell ⟨P2, 0, none⟩ (.string N)).setCell ⟨P2, 1, none⟩ (.slice A n c)) := ((Below.refl P2 wc).setCell (p := ⟨P2, 0, none⟩) (Nat.le_refl _) _).setCell (p := ⟨P2, 1, none⟩) (Nat.le_refl _) _
              have hWX := hVV2.trans (hbX.mono (by omega))
              refine ⟨rfl, rfl, Lib.hid ⟨A, c, HX4.out.set N A n c, HRW.out.on hWX, HX5.out.low hbX hPP12, (HMb3.out.below (hbX.mono (by omega))).more ?_, hWX⟩⟩
              have := hbX.size
              have := HX4.out.lt
              omega
          case rest =>
            obtain ⟨rfl, rfl, hh⟩ := hcut
            obtain ⟨A12, c12, z2, z3, z4, z5, z6⟩ := hh.out
            have Z2 := Lib.hid z2
            have Z3 := Lib.hid z3
            have Z4 := Lib.hid z4
            have Z5 := Lib.hid z5
            have Z6 := Lib.hid z6
            clear hh z2 z3 z4 z5 z6 c0 c1 t0 t1 t2 y0 y1 hz0 hz1
            obtain ⟨y0, y1, _⟩ := Z4.out
            obtain ⟨c0, c1, _⟩ := X1.out.on Z6.out
            have hrr : ((r : Int) == (r : Int)) = true := by simp
            have hqr : ((q : Int) + (r : Int) == (q : Int) + (r : Int)) = true := by simp
            go_wp2_with fail
            refine (sameS_of N N A10 A c10 c n n l l HN.out HN.out true (by simp) wc Z5.out (HRW.out.on Z6.out)).mono ?_
            rintro e w20 ⟨rfl, hw20⟩
            have hV20 := below_on Z6.out hw20
            have Z7 := Lib.hid (Z2.out.on hw20)
            have Z8 := Lib.hid (Z3.out.on hw20)
            clear y0 y1 c0 c1
            obtain ⟨y0, y1, _⟩ := Z7.out
            obtain ⟨c0, c1, _⟩ := X1.out.on hV20
            go_wp2_with fail
            refine (sameS_of N N A12 A c12 c n n l l HN.out HN.out true (by simp) w20 Z8.out (HRW.out.on hV20)).mono ?_
            rintro e w21 ⟨rfl, hw21⟩
            go_wp2_with fail
            go_ret
            exact ⟨rfl, below_on HB0.out (below_on hV20 hw21)⟩
end Go.Proofs.YtgahahichplpkaaDoor

/-
  The walk of the document's match of layer sel.
-/
import Derived.Test.YtgahahichplpkaaDoorSelRefP
import Derived.Deep.MidRow
namespace Go.Proofs.YtgahahichplpkaaDoor
open Go.RowKit Go.Proofs.YtgahahichplpkaaDoor.Lp
open Go.Proofs.YtgahahichplpkaaDoor.Sl (Mt Sel Tf)

/-- A match's variable that may be written. -/
structure Bf (w : World) (P : Nat) (a b : ByteArray) (c : Bool) : Prop where
  c0 : w.cell? ⟨P, 0, none⟩ = some (.string a)
  c1 : w.cell? ⟨P, 1, none⟩ = some (.string b)
  c2 : w.cell? ⟨P, 2, none⟩ = some (.bool c)
  f0 : w.frozen? ⟨P, 0, none⟩ = false
  f1 : w.frozen? ⟨P, 1, none⟩ = false
  f2 : w.frozen? ⟨P, 2, none⟩ = false
  lt : P < w.heap.size
theorem Bf.on {w w' : World} {P : Nat} {a b : ByteArray} {c : Bool} (h : Bf w P a b c) (hb : Below w.heap.size w w') : Bf w' P a b c :=
  ⟨(hb.cell (p := ⟨P, 0, none⟩) h.lt).trans h.c0, (hb.cell (p := ⟨P, 1, none⟩) h.lt).trans h.c1, (hb.cell (p := ⟨P, 2, none⟩) h.lt).trans h.c2,
    (hb.frozen (p := ⟨P, 0, none⟩) h.lt).trans h.f0, (hb.frozen (p := ⟨P, 1, none⟩) h.lt).trans h.f1, (hb.frozen (p := ⟨P, 2, none⟩) h.lt).trans h.f2, Nat.lt_of_lt_of_le h.lt hb.size⟩
theorem Bf.new (w : World) (a b : ByteArray) (c : Bool) : Bf (w.alloc (Obj.cells #[Value.string a, Value.string b, Value.bool c] 45)) w.heap.size a b c :=
  ⟨World.cell?_alloc_at _ _ _ _ rfl, World.cell?_alloc_at _ _ _ _ rfl, World.cell?_alloc_at _ _ _ _ rfl, frozen_new rfl rfl 0, frozen_new rfl rfl 1, frozen_new rfl rfl 2, by show _ < (w.heap.push _).size; rw [Array.size_push]; omega⟩
theorem box_mm (w : World) : ∃ W P, (w.alloc (Obj.cells #[Value.string ⟨#[]⟩, Value.string ⟨#[]⟩, Value.bool false] 45)).alloc (Obj.cells #[Value.string ⟨#[]⟩, Value.string ⟨#[]⟩, Value.bool false] 45) = W ∧ w.heap.size = P ∧ Below P w W ∧ Bf W P ⟨#[]⟩ ⟨#[]⟩ false ∧ Bf W (P + 1) ⟨#[]⟩ ⟨#[]⟩ false := by
  obtain ⟨W1, hW1⟩ : ∃ W1, w.alloc (Obj.cells #[Value.string ⟨#[]⟩, Value.string ⟨#[]⟩, Value.bool false] 45) = W1 := ⟨_, rfl⟩
  have hs : W1.heap.size = w.heap.size + 1 := by rw [← hW1]; show (w.heap.push _).size = _; rw [Array.size_push]
  have h1 : Bf W1 w.heap.size ⟨#[]⟩ ⟨#[]⟩ false := by rw [← hW1]; exact Bf.new w _ _ _
  have hb1 : Below w.heap.size w W1 := by rw [← hW1]; exact below_alloc w _
  have hb2 := below_alloc W1 (Obj.cells #[Value.string ⟨#[]⟩, Value.string ⟨#[]⟩, Value.bool false] 45)
  refine ⟨_, _, rfl, rfl, ?_, ?_, ?_⟩
  · rw [hW1]; exact below_on hb1 hb2
  · rw [hW1]; exact h1.on hb2
  · rw [hW1, ← hs]; exact Bf.new W1 _ _ _
theorem info_matsize : (Tryd.prog.info? 45).map (·.size) = some 3 := by kernel_rfl
theorem load_mat (w : World) (R : Nat) (a b : ByteArray) (c : Bool) (h0 : w.cell? ⟨R, 0, none⟩ = some (.string a)) (h1 : w.cell? ⟨R, 1, none⟩ = some (.string b)) (h2 : w.cell? ⟨R, 2, none⟩ = some (.bool c)) :
    (loadVar 45 ⟨R, 0, none⟩).run Tryd.prog w = .ok (.agg #[.string a, .string b, .bool c]) w := by
  refine run_loadVar_mid w R 0 45 [.string a, .string b, .bool c] _ ?_ Tryd.underlying45 rfl info_matsize
  intro j v hv
  match j, hv with
  | 0, hv => cases hv; exact h0
  | 1, hv => cases hv; exact h1
  | 2, hv => cases hv; exact h2
theorem results_cell2 {fn : Func} {p u x : Tmp} {ty : TypeId} (h : fn.results = #[.cell p ty, .tmp u, .tmp x]) (tmps : Array Value) (P : Program) (w : World) :
    (results fn tmps).run P w =
      ((asAddr (tmps.getD p undef)).run P w).andThen fun a w₁ => ((loadVar ty a).run P w₁).andThen fun v w₂ => .ok (.tuple #[v, tmps.getD u undef, tmps.getD x undef]) w₂ := by
  simp only [results, h]
  simp [Sem.run_bind, Result.andThen]
/-- Behind the three stores. -/
theorem set_three {w : World} {R : Nat} {x y z : Value} (a b c : Value) (h0 : w.cell? ⟨R, 0, none⟩ = some x) (h1 : w.cell? ⟨R, 1, none⟩ = some y) (h2 : w.cell? ⟨R, 2, none⟩ = some z) :
    (((w.setCell ⟨R, 0, none⟩ a).setCell ⟨R, 1, none⟩ b).setCell ⟨R, 2, none⟩ c).cell? ⟨R, 0, none⟩ = some a ∧ (((w.setCell ⟨R, 0, none⟩ a).setCell ⟨R, 1, none⟩ b).setCell ⟨R, 2, none⟩ c).cell? ⟨R, 1, none⟩ = some b ∧
      (((w.setCell ⟨R, 0, none⟩ a).setCell ⟨R, 1, none⟩ b).setCell ⟨R, 2, none⟩ c).cell? ⟨R, 2, none⟩ = some c ∧ Below R w (((w.setCell ⟨R, 0, none⟩ a).setCell ⟨R, 1, none⟩ b).setCell ⟨R, 2, none⟩ c) := by
  have n (i j : Nat) (h : i ≠ j) : (⟨R, i, none⟩ : Addr) ≠ ⟨R, j, none⟩ := fun e => h (by injection e)
  refine ⟨?_, ?_, ?_, (((Below.refl R w).setCell (p := ⟨R, 0, none⟩) (Nat.le_refl _) _).setCell (p := ⟨R, 1, none⟩) (Nat.le_refl _) _).setCell (p := ⟨R, 2, none⟩) (Nat.le_refl _) _⟩
  · exact (World.cell?_setCell_other _ _ _ _ (n 2 0 (by decide))).trans ((World.cell?_setCell_other _ _ _ _ (n 1 0 (by decide))).trans (World.cell?_setCell_same _ _ _ h0))
  · exact (World.cell?_setCell_other _ _ _ _ (n 2 1 (by decide))).trans (World.cell?_setCell_same _ _ _ ((World.cell?_setCell_other _ _ _ _ (n 0 1 (by decide))).trans h1))
  · exact World.cell?_setCell_same _ _ _ ((World.cell?_setCell_other _ _ _ _ (n 1 2 (by decide))).trans ((World.cell?_setCell_other _ _ _ _ (n 0 2 (by decide))).trans h2))
theorem far_three (w : World) {R Q : Nat} (a b c : Value) (d : Nat) (h : Q = R + 1) : (((w.setCell ⟨R, 0, none⟩ a).setCell ⟨R, 1, none⟩ b).setCell ⟨R, 2, none⟩ c).cell? ⟨Q, d, none⟩ = w.cell? ⟨Q, d, none⟩ := by
  have n (i : Nat) : (⟨R, i, none⟩ : Addr) ≠ ⟨Q, d, none⟩ := by intro e; injection e with e1; omega
  rw [World.cell?_setCell_other _ _ _ _ (n 2), World.cell?_setCell_other _ _ _ _ (n 1), World.cell?_setCell_other _ _ _ _ (n 0)]
set_option maxHeartbeats 6400000 in
set_option maxRecDepth 100000 in
theorem rmatch_of (B : Option Addr) (d q : Nat) (ts : List Tz) (j n : Nat) (m : Mt) (x : Nat) (z : Int) (hq : q = ts.length) (hj : j ≤ 1000000) (hn : n ≤ 1000000) (hm : Sl.matchAt (ts.map flatK) j n = (m, x, z)) (w : World) (hr : Rz w w.heap.size B ts) :
    Calls Tryd.prog 30 #[.slice B q d, .int .i64 (j : Int), .int .i64 (n : Int)] w fun e w' => e = .returned (.tuple #[.agg #[.string m.1, .string m.2.1, .bool m.2.2], .int .i64 (x : Int), .int .i64 z]) ∧ Below w.heap.size w w' := by
  have HQ := Lib.hid hq
  have HM := Lib.hid hm
  have HR := Lib.hid hr
  have hlen : q ≤ 9223372036854775807 := by rw [hq]; exact hr.len
  clear hq hm hr
  go_enter Tryd.func30, Tryd.ntmps30
  go_wp2_with fail
  obtain ⟨W, P, hW, hP, hb0, x1, x2⟩ := box_mm w
  rw [hW, hP]
  clear hW
  have X1 := Lib.hid x1
  have X2 := Lib.hid x2
  have HB0 : Hid (Below w.heap.size w W) := Lib.hid (hP ▸ hb0)
  have HRW := Lib.hid (HR.out.on HB0.out)
  have hPs : P ≤ W.heap.size := Nat.le_of_lt x1.lt
  clear hb0 HR x1 x2
  have KP : Hid (∀ (i : Int) (y : Nat) (V : World), (if i < 0 then 0 else min i.toNat q) = y → Calls Tryd.prog 28 #[.slice B q d, .int .i64 i] V fun e w' => e = .returned (.int .i64 (y : Int)) ∧ Below V.heap.size V w') := Lib.hid (fun i y V h => place_of B d q i y hlen h V)
  obtain ⟨e0, he0⟩ : ∃ z, Sl.nameAt (ts.map flatK) j = z := ⟨_, rfl⟩
  have HE0 := Lib.hid he0
  clear he0
  refine (rname_at B d q ts (j : Int) e0 HQ.out (by rw [nameI_at]; exact HE0.out) W HRW.out).mono ?_
  rintro e w1 ⟨rfl, hV1⟩
  have Y0 := Lib.hid (fun (V : World) (h : Below W.heap.size W V) => (X2.out.on h).c0)
  have Y1 := Lib.hid (fun (V : World) (h : Below W.heap.size W V) => (X2.out.on h).c1)
  have Y2 := Lib.hid (fun (V : World) (h : Below W.heap.size W V) => (X2.out.on h).c2)
  by_cases h0 : e0 = 0
  · subst h0
    obtain ⟨e1, he1⟩ : ∃ z, Sl.want (ts.map flatK) (j + 1) 4 (Sl.sg [33, 61]) = z := ⟨_, rfl⟩
    obtain ⟨e2, he2⟩ : ∃ z, Sl.want (ts.map flatK) (j + 1) 4 (Sl.sg [61]) = z := ⟨_, rfl⟩
    obtain ⟨e3, he3⟩ : ∃ z, Sl.want (ts.map flatK) (j + 2) 3 ⟨#[]⟩ = z := ⟨_, rfl⟩
    have hm := HM.out
    unfold Sl.matchAt at hm
    rw [HE0.out, if_neg (by simp), he1, he2, he3, List.length_map, ← HQ.out] at hm
    have HM2 := Lib.hid hm
    have HE1 : Hid (wantI (ts.map flatK) ((j : Int) + 1) 4 (Sl.sg [33, 61]) = e1) := Lib.hid (by rw [show (j : Int) + 1 = ((j + 1 : Nat) : Int) by omega, wantI_at]; exact he1)
    have HE2 : Hid (wantI (ts.map flatK) ((j : Int) + 1) 4 (Sl.sg [61]) = e2) := Lib.hid (by rw [show (j : Int) + 1 = ((j + 1 : Nat) : Int) by omega, wantI_at]; exact he2)
    have HE3 : Hid (wantI (ts.map flatK) ((j : Int) + 2) 3 ⟨#[]⟩ = e3) := Lib.hid (by rw [show (j : Int) + 2 = ((j + 2 : Nat) : Int) by omega, wantI_at]; exact he3)
    have HE3n := Lib.hid he3
    clear hm he1 he2 he3
    go_wp2_with fail
    refine (want_of B d q ts ((j : Int) + 1) 4 (Sl.sg [33, 61]) e1 HQ.out HE1.out w1 (HRW.out.on hV1)).mono ?_
    rintro e w2 ⟨rfl, hw2⟩
    have hV2 := below_on hV1 hw2
    clear hV1 hw2
    obtain ⟨nt, hnt⟩ : ∃ nt, decide (e1 = 0) = nt := ⟨_, rfl⟩
    have hnt1 : (e1 == 0) = nt := by rw [← hnt]; rfl
    go_upto_if 29 with fail
    have HNt := Lib.hid hnt
    clear hnt
    have hjw1 : IntKind.i64.wrap ((j : Int) + 1) = (j : Int) + 1 := IntWalk.i64_in _ (by omega)
    have hjw2 : IntKind.i64.wrap ((j : Int) + 2) = (j : Int) + 2 := IntWalk.i64_in _ (by omega)
    go_cut [10] (fun _ wx => Hid (nt = true ∨ e2 = 0) ∧ Below W.heap.size W wx)
    case first =>
      cases nt with
      | true =>
        go_wp2_with fail
        go_meet
        exact ⟨Lib.hid (by simp), hV2⟩
      | false =>
        have h1 : e1 ≠ 0 := by have := HNt.out; simpa using this
        go_wp2_with fail
        refine (want_of B d q ts ((j : Int) + 1) 4 (Sl.sg [61]) e2 HQ.out HE2.out w2 (HRW.out.on hV2)).mono ?_
        rintro e w3 ⟨rfl, hw3⟩
        have hV3 := below_on hV2 hw3
        clear hw3
        by_cases h2 : e2 = 0
        · subst h2
          go_wp2_with fail
          go_meet
          exact ⟨Lib.hid (by simp), hV3⟩
        · have hm := HM2.out
          rw [if_pos ⟨h1, h2⟩] at hm
          simp only [Prod.mk.injEq] at hm
          obtain ⟨rfl, hx, rfl⟩ := hm
          have HX : Hid ((if (j : Int) + 1 < 0 then 0 else min ((j : Int) + 1).toNat q) = x) := Lib.hid (by
            rw [if_neg (by omega), show ((j : Int) + 1).toNat = j + 1 by omega]; exact hx)
          have hb1 : (e2 != 0) = true := by simpa using h2
          have hb2 : (e2 == 0) = false := by simpa using h2
          have hcur : Below W.heap.size W w3.drew := hV3.drew
          clear hx h1 h2
          go_upto_region 9 with fail
          first | (go_region_held (fun V => V.cell? ⟨P + 1, 0, none⟩ = some (.string ⟨#[]⟩) ∧ V.cell? ⟨P + 1, 1, none⟩ = some (.string ⟨#[]⟩) ∧ V.cell? ⟨P + 1, 2, none⟩ = some (.bool false))
            (first | exact ⟨Y0.out _ hcur, Y1.out _ hcur, Y2.out _ hcur⟩ | exact ⟨(far_three _ _ _ _ 0 rfl).trans (Y0.out _ hcur), (far_three _ _ _ _ 1 rfl).trans (Y1.out _ hcur), (far_three _ _ _ _ 2 rfl).trans (Y2.out _ hcur)⟩)
            (first
              | (go_at_call 28; with_reducible refine (KP.out ((j : Int) + 1) x _ HX.out).mono ?_; rintro e w' ⟨rfl, hw'⟩; replace hcur := below_on hcur hw'; obtain ⟨r0, r1, r2, s0, s1, s2, _⟩ := X1.out.on hcur))) | fail
          all_goals
            go_wp2_with fail
            obtain ⟨u0, u1, u2, hbX⟩ := set_three (Value.string ⟨#[]⟩) (Value.string ⟨#[]⟩) (Value.bool false) r0 r1 r2
            generalize (((w'.setCell ⟨P, 0, none⟩ (Value.string ⟨#[]⟩)).setCell ⟨P, 1, none⟩ (Value.string ⟨#[]⟩)).setCell ⟨P, 2, none⟩ (Value.bool false)) = X at u0 u1 u2 hbX ⊢
            refine bodyPost_ret (v := .tuple #[.agg #[.string ⟨#[]⟩, .string ⟨#[]⟩, .bool false], .int .i64 (x : Int), .int .i64 e2]) ?_ rfl ⟨rfl, (below_on HB0.out hcur).trans (by rw [hP]; exact hbX)⟩
            rw [results_cell2 rfl]
            have hld := load_mat X P ⟨#[]⟩ ⟨#[]⟩ false u0 u1 u2
            simp [asAddr, Result.andThen, hld]
    case rest =>
      obtain ⟨hh, hVc⟩ := hcut
      have HM3 : Hid ((if e3 ≠ 0 then (Sl.noM, min (j + 2) q, e3) else if 64 < (Sl.txtAt (ts.map flatK) (j + 2)).size ∨ 8 ≤ n then (Sl.noM, min (j + 2) q, 4) else ((Sl.txtAt (ts.map flatK) j, Sl.txtAt (ts.map flatK) (j + 2), decide (e1 = 0)), j + 3, 0)) = (m, x, z)) := Lib.hid (by
        have h := HM2.out
        have hno : ¬ (e1 ≠ 0 ∧ e2 ≠ 0) := by
          rintro ⟨a, b⟩
          rcases hh.out with h1 | h1
          · rw [← HNt.out] at h1; exact a (by simpa using h1)
          · exact b h1
        rw [if_neg hno] at h
        exact h)
      go_wp2_with fail
      refine (want_of B d q ts ((j : Int) + 2) 3 ⟨#[]⟩ e3 HQ.out HE3.out wc (HRW.out.on hVc)).mono ?_
      rintro e w4 ⟨rfl, hw4⟩
      have hV4 := below_on hVc hw4
      clear hw4 hVc hh
      by_cases h3 : e3 = 0
      · subst h3
        have hm := HM3.out
        rw [if_neg (by simp)] at hm
        have hj2 : j + 2 < ts.length := by
          have := Sl.want_lt (l := ts.map flatK) (i := j + 2) (k := 3) (s := ⟨#[]⟩) (by rw [HE3n.out]; decide)
          rwa [List.length_map] at this
        obtain ⟨a1, a2, a3, ha⟩ := getZ (l := ts) (k := j) (by omega)
        obtain ⟨b1, b2, b3, hb⟩ := getZ hj2
        have ta : Sl.txtAt (ts.map flatK) j = a3 := by unfold Sl.txtAt; rw [List.getElem?_map, ha]; rfl
        have tb : Sl.txtAt (ts.map flatK) (j + 2) = b3 := by unfold Sl.txtAt; rw [List.getElem?_map, hb]; rfl
        rw [ta, tb, HNt.out] at hm
        obtain ⟨g, off, rfl, hg, c0, c1, c2⟩ := (HRW.out.on hV4).get ha
        obtain ⟨g', off', he, hg', k0, k1, k2⟩ := (HRW.out.on hV4).get hb
        injection he with he
        injection he with he1 he2
        subst he1 he2
        have hjz : (j : Int) < (q : Int) := by have := HQ.out; omega
        have hjz2 : (j : Int) + 2 < (q : Int) := by have := HQ.out; omega
        have HM4 := Lib.hid hm
        clear ta tb ha hb hm hj2 c0 c1 k0 k1 hg'
        by_cases hbig : 64 < b3.size ∨ 8 ≤ n
        · have hm := HM4.out
          rw [if_pos hbig] at hm
          simp only [Prod.mk.injEq] at hm
          obtain ⟨rfl, hx, rfl⟩ := hm
          have HX : Hid ((if (j : Int) + 2 < 0 then 0 else min ((j : Int) + 2).toNat q) = x) := Lib.hid (by
            rw [if_neg (by omega), show ((j : Int) + 2).toNat = j + 2 by omega]; exact hx)
          have hcur : Below W.heap.size W w4.drew := hV4.drew
          clear hx
          by_cases h64 : 64 < b3.size
          · have h64z : (64 : Int) < (b3.size : Int) := by omega
            clear hbig
            go_upto_region 14 with fail
            first | (go_region_held (fun V => V.cell? ⟨P + 1, 0, none⟩ = some (.string ⟨#[]⟩) ∧ V.cell? ⟨P + 1, 1, none⟩ = some (.string ⟨#[]⟩) ∧ V.cell? ⟨P + 1, 2, none⟩ = some (.bool false))
              (first | exact ⟨Y0.out _ hcur, Y1.out _ hcur, Y2.out _ hcur⟩ | exact ⟨(far_three _ _ _ _ 0 rfl).trans (Y0.out _ hcur), (far_three _ _ _ _ 1 rfl).trans (Y1.out _ hcur), (far_three _ _ _ _ 2 rfl).trans (Y2.out _ hcur)⟩)
              (first
                | (go_at_call 28; with_reducible refine (KP.out ((j : Int) + 2) x _ HX.out).mono ?_; rintro e w' ⟨rfl, hw'⟩; replace hcur := below_on hcur hw'; obtain ⟨r0, r1, r2, s0, s1, s2, _⟩ := X1.out.on hcur))) | fail
            all_goals
              go_wp2_with fail
              obtain ⟨u0, u1, u2, hbX⟩ := set_three (Value.string ⟨#[]⟩) (Value.string ⟨#[]⟩) (Value.bool false) r0 r1 r2
              generalize (((w'.setCell ⟨P, 0, none⟩ (Value.string ⟨#[]⟩)).setCell ⟨P, 1, none⟩ (Value.string ⟨#[]⟩)).setCell ⟨P, 2, none⟩ (Value.bool false)) = X at u0 u1 u2 hbX ⊢
              refine bodyPost_ret (v := .tuple #[.agg #[.string ⟨#[]⟩, .string ⟨#[]⟩, .bool false], .int .i64 (x : Int), .int .i64 4]) ?_ rfl ⟨rfl, (below_on HB0.out hcur).trans (by rw [hP]; exact hbX)⟩
              rw [results_cell2 rfl]
              have hld := load_mat X P ⟨#[]⟩ ⟨#[]⟩ false u0 u1 u2
              simp [asAddr, Result.andThen, hld]
          · have h64z : ¬ (64 : Int) < (b3.size : Int) := by omega
            have h8z : (8 : Int) ≤ (n : Int) := by omega
            clear hbig h64
            go_upto_region 14 with fail
            first | (go_region_held (fun V => V.cell? ⟨P + 1, 0, none⟩ = some (.string ⟨#[]⟩) ∧ V.cell? ⟨P + 1, 1, none⟩ = some (.string ⟨#[]⟩) ∧ V.cell? ⟨P + 1, 2, none⟩ = some (.bool false))
              (first | exact ⟨Y0.out _ hcur, Y1.out _ hcur, Y2.out _ hcur⟩ | exact ⟨(far_three _ _ _ _ 0 rfl).trans (Y0.out _ hcur), (far_three _ _ _ _ 1 rfl).trans (Y1.out _ hcur), (far_three _ _ _ _ 2 rfl).trans (Y2.out _ hcur)⟩)
              (first
                | (go_at_call 28; with_reducible refine (KP.out ((j : Int) + 2) x _ HX.out).mono ?_; rintro e w' ⟨rfl, hw'⟩; replace hcur := below_on hcur hw'; obtain ⟨r0, r1, r2, s0, s1, s2, _⟩ := X1.out.on hcur))) | fail
            all_goals
              go_wp2_with fail
              obtain ⟨u0, u1, u2, hbX⟩ := set_three (Value.string ⟨#[]⟩) (Value.string ⟨#[]⟩) (Value.bool false) r0 r1 r2
              generalize (((w'.setCell ⟨P, 0, none⟩ (Value.string ⟨#[]⟩)).setCell ⟨P, 1, none⟩ (Value.string ⟨#[]⟩)).setCell ⟨P, 2, none⟩ (Value.bool false)) = X at u0 u1 u2 hbX ⊢
              refine bodyPost_ret (v := .tuple #[.agg #[.string ⟨#[]⟩, .string ⟨#[]⟩, .bool false], .int .i64 (x : Int), .int .i64 4]) ?_ rfl ⟨rfl, (below_on HB0.out hcur).trans (by rw [hP]; exact hbX)⟩
              rw [results_cell2 rfl]
              have hld := load_mat X P ⟨#[]⟩ ⟨#[]⟩ false u0 u1 u2
              simp [asAddr, Result.andThen, hld]
        · have hm := HM4.out
          rw [if_neg hbig] at hm
          simp only [Prod.mk.injEq] at hm
          obtain ⟨rfl, rfl, rfl⟩ := hm
          have h64z : ¬ (64 : Int) < (b3.size : Int) := by omega
          have h8z : ¬ (8 : Int) ≤ (n : Int) := by omega
          obtain ⟨r0, r1, r2, s0, s1, s2, _⟩ := X1.out.on hV4
          clear hbig
          go_upto_region 15 with fail
          go_region
          go_wp2_with fail
          obtain ⟨u0, u1, u2, hbX⟩ := set_three (Value.string a3) (Value.string b3) (Value.bool nt) r0 r1 r2
          have hbX := hbX.drew
          have u0 : (((w4.setCell ⟨P, 0, none⟩ (Value.string a3)).setCell ⟨P, 1, none⟩ (Value.string b3)).setCell ⟨P, 2, none⟩ (Value.bool nt)).drew.cell? ⟨P, 0, none⟩ = some (Value.string a3) := u0
          have u1 : (((w4.setCell ⟨P, 0, none⟩ (Value.string a3)).setCell ⟨P, 1, none⟩ (Value.string b3)).setCell ⟨P, 2, none⟩ (Value.bool nt)).drew.cell? ⟨P, 1, none⟩ = some (Value.string b3) := u1
          have u2 : (((w4.setCell ⟨P, 0, none⟩ (Value.string a3)).setCell ⟨P, 1, none⟩ (Value.string b3)).setCell ⟨P, 2, none⟩ (Value.bool nt)).drew.cell? ⟨P, 2, none⟩ = some (Value.bool nt) := u2
          generalize (((w4.setCell ⟨P, 0, none⟩ (Value.string a3)).setCell ⟨P, 1, none⟩ (Value.string b3)).setCell ⟨P, 2, none⟩ (Value.bool nt)).drew = X at u0 u1 u2 hbX ⊢
          refine bodyPost_ret (v := .tuple #[.agg #[.string a3, .string b3, .bool nt], .int .i64 ((j : Int) + 3), .int .i64 0]) ?_ rfl ⟨rfl, by have h := below_on HB0.out hV4; rw [hP] at h; exact h.trans hbX⟩
          rw [results_cell2 rfl]
          have hld := load_mat X P a3 b3 nt u0 u1 u2
          simp [asAddr, Result.andThen, hld]
      · have hm := HM3.out
        rw [if_pos h3] at hm
        simp only [Prod.mk.injEq] at hm
        obtain ⟨rfl, hx, rfl⟩ := hm
        have HX : Hid ((if (j : Int) + 2 < 0 then 0 else min ((j : Int) + 2).toNat q) = x) := Lib.hid (by
          rw [if_neg (by omega), show ((j : Int) + 2).toNat = j + 2 by omega]; exact hx)
        have hb1 : (e3 != 0) = true := by simpa using h3
        have hb2 : (e3 == 0) = false := by simpa using h3
        have hcur : Below W.heap.size W w4.drew := hV4.drew
        clear hx h3
        go_upto_region 14 with fail
        first | (go_region_held (fun V => V.cell? ⟨P + 1, 0, none⟩ = some (.string ⟨#[]⟩) ∧ V.cell? ⟨P + 1, 1, none⟩ = some (.string ⟨#[]⟩) ∧ V.cell? ⟨P + 1, 2, none⟩ = some (.bool false))
          (first | exact ⟨Y0.out _ hcur, Y1.out _ hcur, Y2.out _ hcur⟩ | exact ⟨(far_three _ _ _ _ 0 rfl).trans (Y0.out _ hcur), (far_three _ _ _ _ 1 rfl).trans (Y1.out _ hcur), (far_three _ _ _ _ 2 rfl).trans (Y2.out _ hcur)⟩)
          (first
            | (go_at_call 28; with_reducible refine (KP.out ((j : Int) + 2) x _ HX.out).mono ?_; rintro e w' ⟨rfl, hw'⟩; replace hcur := below_on hcur hw'; obtain ⟨r0, r1, r2, s0, s1, s2, _⟩ := X1.out.on hcur))) | fail
        all_goals
          go_wp2_with fail
          obtain ⟨u0, u1, u2, hbX⟩ := set_three (Value.string ⟨#[]⟩) (Value.string ⟨#[]⟩) (Value.bool false) r0 r1 r2
          generalize (((w'.setCell ⟨P, 0, none⟩ (Value.string ⟨#[]⟩)).setCell ⟨P, 1, none⟩ (Value.string ⟨#[]⟩)).setCell ⟨P, 2, none⟩ (Value.bool false)) = X at u0 u1 u2 hbX ⊢
          refine bodyPost_ret (v := .tuple #[.agg #[.string ⟨#[]⟩, .string ⟨#[]⟩, .bool false], .int .i64 (x : Int), .int .i64 e3]) ?_ rfl ⟨rfl, (below_on HB0.out hcur).trans (by rw [hP]; exact hbX)⟩
          rw [results_cell2 rfl]
          have hld := load_mat X P ⟨#[]⟩ ⟨#[]⟩ false u0 u1 u2
          simp [asAddr, Result.andThen, hld]
  · have hm := HM.out
    unfold Sl.matchAt at hm
    rw [HE0.out, if_pos h0, List.length_map, ← HQ.out] at hm
    simp only [Prod.mk.injEq] at hm
    obtain ⟨rfl, hx, rfl⟩ := hm
    have HX : Hid ((if (j : Int) < 0 then 0 else min (j : Int).toNat q) = x) := Lib.hid (by rw [if_neg (by omega)]; exact hx)
    have hb1 : (e0 != 0) = true := by simpa using h0
    have hb2 : (e0 == 0) = false := by simpa using h0
    have hcur : Below W.heap.size W w1.drew := hV1.drew
    clear hx h0
    go_upto_region 4 with fail
    first | (go_region_held (fun V => V.cell? ⟨P + 1, 0, none⟩ = some (.string ⟨#[]⟩) ∧ V.cell? ⟨P + 1, 1, none⟩ = some (.string ⟨#[]⟩) ∧ V.cell? ⟨P + 1, 2, none⟩ = some (.bool false))
      (first | exact ⟨Y0.out _ hcur, Y1.out _ hcur, Y2.out _ hcur⟩ | exact ⟨(far_three _ _ _ _ 0 rfl).trans (Y0.out _ hcur), (far_three _ _ _ _ 1 rfl).trans (Y1.out _ hcur), (far_three _ _ _ _ 2 rfl).trans (Y2.out _ hcur)⟩)
      (first
        | (go_at_call 28; with_reducible refine (KP.out (j : Int) x _ HX.out).mono ?_; rintro e w' ⟨rfl, hw'⟩; replace hcur := below_on hcur hw'; obtain ⟨r0, r1, r2, s0, s1, s2, _⟩ := X1.out.on hcur))) | fail
    all_goals
      go_wp2_with fail
      obtain ⟨u0, u1, u2, hbX⟩ := set_three (Value.string ⟨#[]⟩) (Value.string ⟨#[]⟩) (Value.bool false) r0 r1 r2
      generalize (((w'.setCell ⟨P, 0, none⟩ (Value.string ⟨#[]⟩)).setCell ⟨P, 1, none⟩ (Value.string ⟨#[]⟩)).setCell ⟨P, 2, none⟩ (Value.bool false)) = X at u0 u1 u2 hbX ⊢
      refine bodyPost_ret (v := .tuple #[.agg #[.string ⟨#[]⟩, .string ⟨#[]⟩, .bool false], .int .i64 (x : Int), .int .i64 e0]) ?_ rfl ⟨rfl, (below_on HB0.out hcur).trans (by rw [hP]; exact hbX)⟩
      rw [results_cell2 rfl]
      have hld := load_mat X P ⟨#[]⟩ ⟨#[]⟩ false u0 u1 u2
      simp [asAddr, Result.andThen, hld]
end Go.Proofs.YtgahahichplpkaaDoor

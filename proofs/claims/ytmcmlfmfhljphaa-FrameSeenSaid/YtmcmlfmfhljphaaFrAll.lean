/-
  Layer frame: All: the range over the iterator.
-/
import Derived.Test.YtmcmlfmfhljphaaFrIter
namespace Go.Proofs.Ytmcmlfmfhljphaa
open Go.RowKit Go.Shelf
attribute [local go_sem] Oper.semAt_some

theorem records_seq (A : Option Addr) (n c : Nat) (w : World) :
    Calls Try.prog 14 #[.slice A n c] w fun e w' => e = .returned (.func (.func 20) #[] #[.pointer (some ⟨w.heap.size, 0, none⟩)]) ∧ w' = w.alloc (.cells #[.slice A n c] 25) := by
  go_enter Try.func14, Try.ntmps14
  go_wp2_with fail
  go_ret
  exact ⟨rfl, rfl⟩

theorem istI_own (w0 : World) (v0 : Value) : OwnFrom (w0.heap.size + 6) (IstI w0 v0) :=
  OwnFrom.and (Own.from (holdsRow_own (w0.heap.size + 6) (w0.heap.size + 3) 22 25 1 (fun s : Ist => s.vs.length) (fun s => s.vs) (fun _ _ => True)) _)
    (OwnFrom.and (Own.from (boxed_own _ _ (fun s : Ist => .int .i64 s.n)) _) (OwnFrom.and (Own.from (boxed_own _ _ (fun _ : Ist => _)) _) (OwnFrom.and (Own.from (boxed_own _ _ (fun _ : Ist => _)) _) (OwnFrom.and (Own.from (boxed_own _ _ (fun _ : Ist => _)) _) (OwnFrom.and (Own.from (boxed_own _ _ (fun _ : Ist => _)) _)
      (OwnFrom.and (ownFrom_below (Nat.le_refl _) (Nat.le_add_right _ _)) (ownFrom_pure _ _)))))))
theorem istX_own (w0 : World) (l0 : List Nat) (c : Code) : OwnFrom (w0.heap.size + 6) (IstX w0 l0 c) :=
  OwnFrom.and (ownFrom_pure _ (fun _ => c = .ret)) (OwnFrom.and (Own.from (holdsRow_own (w0.heap.size + 6) w0.heap.size 22 25 1 (fun s : Ist => s.vs.length) (fun s => s.vs) (fun _ _ => True)) _)
    (OwnFrom.and (Own.from (boxed_own _ _ (fun s : Ist => .int .i64 s.n)) _) (OwnFrom.and (Own.from (boxed_own _ _ (fun s : Ist => .int .i64 s.z)) _)
      (OwnFrom.and (ownFrom_below (Nat.le_refl _) (Nat.le_add_right _ _)) (ownFrom_pure _ _)))))
theorem istA_own (w0 : World) (v0 : Value) (f : Nat → Rin → Array Value) (x : Rin) (b : Act) : OwnFrom (w0.heap.size + 6) (IstA w0 v0 f x b) := by
  rintro s W W' row ⟨B, hB, hb, hI, hR⟩ hg hr
  exact ⟨B, hB, hb, istI_own w0 v0 s W W' row hI hg hr, boxd2_own B _ (fun _ : Ist => x.1) (fun _ => .int .i64 x.2.1) s W W' row hR hg (fun r e => (hr r e).2)⟩

theorem istI_start (w : World) (v : Value) :
    IstI w v ⟨[], 0, 0⟩ ((((((w.alloc (.cells #[.slice none 0 0] 22)).alloc (.cells #[.int .i64 0] 3)).alloc (.cells #[.int .i64 0] 27)).alloc (.cells #[.slice none 0 0] 22)).alloc (.cells #[.int .i64 0] 3)).alloc (.cells #[v] 25)) := by
  have b1 := Boxed.new w 22 (.slice none 0 0)
  have b2 := Boxed.new (w.alloc (.cells #[.slice none 0 0] 22)) 3 (.int .i64 0)
  have b3 := Boxed.new ((w.alloc (.cells #[.slice none 0 0] 22)).alloc (.cells #[.int .i64 0] 3)) 27 (.int .i64 0)
  have b4 := Boxed.new (((w.alloc (.cells #[.slice none 0 0] 22)).alloc (.cells #[.int .i64 0] 3)).alloc (.cells #[.int .i64 0] 27)) 22 (.slice none 0 0)
  have b5 := Boxed.new ((((w.alloc (.cells #[.slice none 0 0] 22)).alloc (.cells #[.int .i64 0] 3)).alloc (.cells #[.int .i64 0] 27)).alloc (.cells #[.slice none 0 0] 22)) 3 (.int .i64 0)
  have b6 := Boxed.new (((((w.alloc (.cells #[.slice none 0 0] 22)).alloc (.cells #[.int .i64 0] 3)).alloc (.cells #[.int .i64 0] 27)).alloc (.cells #[.slice none 0 0] 22)).alloc (.cells #[.int .i64 0] 3)) 25 v
  simp only [World.size_alloc] at b2 b3 b4 b5 b6
  exact ⟨⟨_, (b4.alloc _).alloc _, World.ownsRow_nil _ _ _ _, trivial⟩, b5.alloc _, b6, ((((b1.alloc _).alloc _).alloc _).alloc _).alloc _, (((b2.alloc _).alloc _).alloc _).alloc _, ((b3.alloc _).alloc _).alloc _,
    below_on (below_on (below_on (below_on (below_on (below_alloc _ _) (below_alloc _ _)) (below_alloc _ _)) (below_alloc _ _)) (below_alloc _ _)) (below_alloc _ _), rfl⟩

/-- The three results stored. -/
theorem res_set {w0 W : World} {vL u1 u2 u3 : Value} {vs : List Value} {n : Int} {z : Int} (r1 : Boxed W w0.heap.size 22 u1) (r2 : Boxed W (w0.heap.size + 1) 3 u2) (r3 : Boxed W (w0.heap.size + 2) 27 u3)
    (own : W.ownsRow (w0.heap.size + 6) 25 1 vL vs.length vs) (hB : Below w0.heap.size w0 W) {W' : World}
    (hW : W' = (((W.setCell ⟨w0.heap.size, 0, none⟩ vL).setCell ⟨w0.heap.size + 1, 0, none⟩ (.int .i64 n)).setCell ⟨w0.heap.size + 2, 0, none⟩ (.int .i64 z)).drew) :
    Boxed W' w0.heap.size 22 vL ∧ Boxed W' (w0.heap.size + 1) 3 (.int .i64 n) ∧ Boxed W' (w0.heap.size + 2) 27 (.int .i64 z) ∧ W'.ownsRow (w0.heap.size + 6) 25 1 vL vs.length vs ∧ Below w0.heap.size w0 W' ∧ KeepsOthers W W' := by
  subst hW
  refine ⟨((r1.set vL).other (by omega) _).other (by omega) _, ((r2.other (by omega) _).set _).other (by omega) _, ((r3.other (by omega) _).other (by omega) _).set _, ?_, ?_, ?_⟩
  · have h1 := own_keep own (fun g hg _ => Below.heap_setCell W ⟨w0.heap.size, 0, none⟩ vL g (by show g ≠ w0.heap.size; omega))
    have h2 := own_keep h1 (fun g hg _ => Below.heap_setCell _ ⟨w0.heap.size + 1, 0, none⟩ (.int .i64 n) g (by show g ≠ w0.heap.size + 1; omega))
    have h3 := own_keep h2 (fun g hg _ => Below.heap_setCell _ ⟨w0.heap.size + 2, 0, none⟩ (.int .i64 z) g (by show g ≠ w0.heap.size + 2; omega))
    exact own_keep h3 fun _ _ _ => rfl
  · exact (((hB.setCell (p := ⟨w0.heap.size, 0, none⟩) (Nat.le_refl _) _).setCell (p := ⟨w0.heap.size + 1, 0, none⟩) (Nat.le_add_right _ _) _).setCell (p := ⟨w0.heap.size + 2, 0, none⟩) (Nat.le_add_right _ _) _).drew
  · exact (((KeepsOthers.setCell _ _ _).trans (KeepsOthers.setCell _ _ _)).trans (KeepsOthers.setCell _ _ _)).trans (KeepsOthers.drew _)

theorem load_rows {w : World} {B : Nat} {v : Value} (h : w.cell? ⟨B, 0, none⟩ = some v) : (loadVar 22 ⟨B, 0, none⟩).run Try.prog w = .ok v w := by
  have hl : (load ⟨B, 0, none⟩).run Try.prog w = .ok v w := by rw [run_load]; simp [h]
  simp [loadVar, isAgg, run_underlying Try.underlying22, hl, Sem.run_bind, Result.andThen]
theorem load_int {w : World} {B : Nat} {v : Value} (h : w.cell? ⟨B, 0, none⟩ = some v) : (loadVar 3 ⟨B, 0, none⟩).run Try.prog w = .ok v w := by
  have hl : (load ⟨B, 0, none⟩).run Try.prog w = .ok v w := by rw [run_load]; simp [h]
  simp [loadVar, isAgg, run_underlying Try.underlying3, hl, Sem.run_bind, Result.andThen]
theorem load_errno {w : World} {B : Nat} {v : Value} (h : w.cell? ⟨B, 0, none⟩ = some v) : (loadVar 27 ⟨B, 0, none⟩).run Try.prog w = .ok v w := by
  have hl : (load ⟨B, 0, none⟩).run Try.prog w = .ok v w := by rw [run_load]; simp [h]
  simp [loadVar, isAgg, run_underlying Try.underlying27, hl, Sem.run_bind, Result.andThen]
theorem results_cell3 {fn : Func} {p u x : Tmp} (h : fn.results = #[.cell p 22, .cell u 3, .cell x 27]) (tmps : Array Value) (w : World) {B1 B2 B3 : Nat} {v1 v2 v3 : Value}
    (h1 : tmps.getD p undef = .pointer (some ⟨B1, 0, none⟩)) (h2 : tmps.getD u undef = .pointer (some ⟨B2, 0, none⟩)) (h3 : tmps.getD x undef = .pointer (some ⟨B3, 0, none⟩))
    (c1 : w.cell? ⟨B1, 0, none⟩ = some v1) (c2 : w.cell? ⟨B2, 0, none⟩ = some v2) (c3 : w.cell? ⟨B3, 0, none⟩ = some v3) :
    (results fn tmps).run Try.prog w = .ok (.tuple #[v1, v2, v3]) w := by
  have l1 := load_rows c1
  have l2 := load_int c2
  have l3 := load_errno c3
  simp only [results, h]
  simp only [Array.getD_eq_getD_getElem?] at h1 h2 h3
  simp [Sem.run_bind, Result.andThen, h1, h2, h3, asAddr, l1, l2, l3]
/-- The function's return: the results lie in their cells. -/
theorem all_end {w V : World} {D : Nat} {s : Ist} {l : List Nat} {L : List (List Nat)} {q x : Nat} {z : Int} {v : Value} (HA : Hid (Kf.all l = (L, x, z))) (HQ : Hid (q = L.length))
    (r1 : Boxed V w.heap.size 22 v) (r2 : Boxed V (w.heap.size + 1) 3 (.int .i64 s.n)) (r3 : Boxed V (w.heap.size + 2) 27 (.int .i64 s.z)) (ownL : V.ownsRow (w.heap.size + 6) 25 1 v s.vs.length s.vs) (hB : Below w.heap.size w V)
    (hF : IstFin w l s) (hD : w.heap.size + 6 ≤ D) (hK : V.heap[D]? = some (.deferred (some []))) (tmps : Array Value)
    (h1 : tmps.getD 2 undef = .pointer (some ⟨w.heap.size, 0, none⟩)) (h2 : tmps.getD 3 undef = .pointer (some ⟨w.heap.size + 1, 0, none⟩)) (h3 : tmps.getD 4 undef = .pointer (some ⟨w.heap.size + 2, 0, none⟩)) :
    ∃ u, (results Try.f10 tmps).run Try.prog (V.putObj D (.deferred none)) = .ok u (V.putObj D (.deferred none)) ∧
      ∃ B d, Ending.returned u = .returned (.tuple #[.slice B q d, .int .i64 (x : Int), .int .i64 z]) ∧ Hid (Rl (V.putObj D (.deferred none)) (V.putObj D (.deferred none)).heap.size B L) ∧ Hid (Cap q d) ∧ Below w.heap.size w (V.putObj D (.deferred none)) := by
  obtain ⟨L', hE, hall⟩ := hF
  have ha := HA.out
  rw [hall] at ha
  simp only [Prod.mk.injEq] at ha
  obtain ⟨rfl, rfl, rfl⟩ := ha
  obtain ⟨A', ca, rfl, hca⟩ := OwnV.slice (w := V) ownL
  have keep : ∀ {B : Nat} {t : TypeId} {u : Value}, Boxed V B t u → B < D → Boxed (V.putObj D (.deferred none)) B t u := fun h hlt => (World.putObj_heap_other (by omega)).trans h
  have hown := ownsRow_putObj ownL (.deferred none) hK rfl
  have hBf := hB.trans (belowK_b (w := w) (Nat.le_refl _) V D _ (.deferred none) (by omega) hK rfl rfl)
  have hlen : s.vs.length = q := by rw [hE.1, HQ.out]
  have hrl := OwnV.rl (vs := s.vs) hown (hE.on hBf) (by have := hca.1; have := hca.2; rw [← hE.1]; omega)
  rw [hlen] at hca
  refine ⟨_, results_cell3 rfl tmps _ h1 h2 h3 (keep r1 (by omega)).cell (keep r2 (by omega)).cell (keep r3 (by omega)).cell, A', ca, ?_, Lib.hid hrl, Lib.hid hca, hBf⟩
  rw [hlen]

set_option maxRecDepth 100000 in
set_option maxHeartbeats 4000000 in
theorem all_at (HG : GetAtC) : AllRC := by
  intro A m c l L q x z hm hl hc hall hq w hr
  have HR := Lib.hid hr
  have HM := Lib.hid hm
  have HA := Lib.hid hall
  have HQ := Lib.hid hq
  have hv0 : Reads w w.heap.size (.slice A m c) l := ⟨A, c, by rw [hm], by rw [← hm]; exact hc, hr⟩
  clear hm hall hq hr
  refine (callsIn_wide (n := 5)).1 (callsIn_of_wp_marks Try.func10 rfl trivial ?_ rfl)
  simp only [Try.ntmps10, List.size_toArray, List.length_cons, List.length_nil, Nat.reduceAdd, Nat.reduceSub, Array.replicate_succ, Array.replicate_zero, List.push_toArray, List.append_toArray, List.nil_append, List.cons_append]
  gi_wp2_with (refine ⟨trivial, ?_⟩; gi_at_call 14; refine (callsIn_wide.2 (records_seq _ _ _ _)).mono ?_; rintro e w' ⟨rfl, rfl⟩)
  have hst := istI_start w (.slice A m c)
  obtain ⟨W0, hW0⟩ : ∃ W0, ((((((w.alloc (.cells #[.slice none 0 0] 22)).alloc (.cells #[.int .i64 0] 3)).alloc (.cells #[.int .i64 0] 27)).alloc (.cells #[.slice none 0 0] 22)).alloc (.cells #[.int .i64 0] 3)).alloc (.cells #[.slice A m c] 25)) = W0 := ⟨_, rfl⟩
  have hsz : W0.heap.size = w.heap.size + 6 := by rw [← hW0]; simp
  rw [hW0] at hst ⊢
  refine wp_rgStateA (w := W0) (gf := 20) rfl (enters_of Try.func20 (by kernel_rfl) rfl) (encs := fun x : Rin => #[.agg #[x.1, .int .i64 x.2.1], .int .i64 x.2.2]) (fun _ => rfl) (IstI w (.slice A m c)) (IstX w l) (by rw [hsz]; exact istI_own w _) (by rw [hsz]; exact istX_own w l) ⟨[], 0, 0⟩ hst istNx (IstGn w l) (IstFin w l) (by rw [hsz]; exact iter_of HG _ w l hl _ hv0)
    (IstA w (.slice A m c) fun B x => #[.slice A m c, undef, .pointer (some ⟨w.heap.size, 0, none⟩), .pointer (some ⟨w.heap.size + 1, 0, none⟩), .pointer (some ⟨w.heap.size + 2, 0, none⟩), .pointer (some ⟨w.heap.size + 3, 0, none⟩), .pointer (some ⟨w.heap.size + 4, 0, none⟩), .pointer (some ⟨B, 0, none⟩), .int .i64 x.2.2, .slice A m c,
      .func (.func 20) #[] #[.pointer (some ⟨w.heap.size + 5, 0, none⟩)], .agg #[x.1, .int .i64 x.2.1], .int .i64 x.2.2, undef, undef, undef, undef, undef, undef, undef, undef, undef, undef, undef, undef, undef, undef, undef, undef]) (by rw [hsz]; exact istA_own w _ _) ?assign ?body ?done ?stop
  case assign =>
    rintro lo s ⟨v, k, e⟩ W K hI ⟨⟨p, X, d, e1, hd, hX⟩, hbd⟩ hK
    obtain ⟨pl, hpl⟩ : ∃ k, p.length = k := ⟨_, rfl⟩
    rw [hpl] at e1
    dsimp only at e1
    subst e1
    have hge : w.heap.size + 6 ≤ W.heap.size := hI.2.2.1.lt
    gi_wp2
    exact hK _ _ ((KeepsOthers.alloc _ _).from _) ⟨W.heap.size, hge, rfl, istI_on hI (below_alloc W _), World.alloc_heap_new W _⟩
  case body =>
    rintro lo s ⟨v, k, e⟩ b W ⟨B, hBB, rfl, hI, hR⟩ ⟨⟨p, X, d, e1, hd, hX⟩, hbd, hbn, hfin⟩
    obtain ⟨pl, hpl⟩ : ∃ k, p.length = k := ⟨_, rfl⟩
    rw [hpl] at e1
    dsimp only at e1
    subst e1
    obtain ⟨⟨v, bL, ownL, _⟩, bN, bB, r1, r2, r3, hB, hz⟩ := hI
    have hcL := bL.cell
    have hcN := bN.cell
    have hmx : Try.prog.follows .mixedOrders = true := by kernel_rfl
    by_cases he : e = 0
    · subst he
      obtain ⟨i0, hi, hz0, hz1, hz2⟩ := info_parts info_row
      have q0 := hR.cell0
      have q1 := hR.cell1
      dsimp only at hbn
      obtain ⟨nk, hnk⟩ : ∃ nk, s.n + k = nk := ⟨_, rfl⟩
      have hs : istNx s (Value.slice X pl d, k, (0 : Int)) = { s with vs := s.vs ++ [Value.slice X pl d], n := nk } := by unfold istNx; rw [if_pos rfl, hnk]
      rw [hs]
      clear hfin hs
      have hneB : ¬ B = w.heap.size + 3 := by omega
      have hneN : ¬ B = w.heap.size + 4 := by omega
      have hsumz : (s.n : Int) + (k : Int) = (nk : Int) := by omega
      have hwr : wrap64 (nk : Int) = (nk : Int) := IntWalk.wrap64_in _ (by omega)
      have key : ∀ C, C < w.heap.size + 6 → some C ≠ v.ownBlock := fun C hC e => by have := own_base ownL _ e.symm; omega
      have keyR := hR.not_row (by decide) ownL
      have hbL := bL.lt
      have hlv : (s.vs ++ [Value.slice X pl d]).length = s.vs.length + 1 := by simp
      have hbnd : s.vs.length + 1 ≤ 1000001 := by omega
      have hbB := bB.lt
      have HNK := Lib.hid hnk
      have HBN := Lib.hid hbn
      clear hnk hbn
      gi_wp2_with (gi_at_builtin; refine wpListIn_append_own _ rfl _ _ 22 rfl (w.heap.size + 6) 25 i0 _ 1 24 Try.underlying22 hi hz0 hz1 hz2 rfl (by decide) _ _ _ rfl (ownL.alloc _) ⟨W.heap.size, 0, none⟩ 1 1 [.slice X pl d] rfl rfl (cell_one_new _ _ _) (by simp [Value.oneCell']) (by unfold maxLen; omega) (by omega) (by simp; omega) ?_; intro v' w1 hown' hgrow _; obtain ⟨g', cap', rfl⟩ := ownsRow_succ hown'; have bL1 := (bL.alloc _).kept hgrow (key _ (by omega)); have hcL1 := bL1.cell; have hfL1 := bL1.frozen; have bN1 := (bN.alloc _).kept hgrow (key _ (by omega)); have hcN1 := bN1.cell; have hfN1 := bN1.frozen; have hR1 := (hR.kept (World.grownBy_alloc W _ none) (by simp)).kept hgrow keyR; have q10 := hR1.cell0; have q11 := hR1.cell1)
      have hb1 : Below w.heap.size W w1 := ((Below.refl _ W).alloc hB.size _).grown hgrow (by simp; omega) (fun j e => by have := own_base ownL _ e; omega)
      refine ⟨((KeepsOthers.alloc W _).trans ((KeepsOthers.of_grownBy hgrow (own_cells (ownL.alloc _))).trans ((KeepsOthers.setCell _ _ _).trans (KeepsOthers.setCell _ _ _)))).from _,
        ⟨_, (bL1.set _).other (by omega) _, ?_, trivial⟩, (bN1.other (by omega) _).set _, (((bB.alloc _).kept hgrow (key _ (by omega))).other (by omega) _).other (by omega) _, (((r1.alloc _).kept hgrow (key _ (by omega))).other (by omega) _).other (by omega) _,
        (((r2.alloc _).kept hgrow (key _ (by omega))).other (by omega) _).other (by omega) _, (((r3.alloc _).kept hgrow (key _ (by omega))).other (by omega) _).other (by omega) _,
        ((hB.trans hb1).setCell (p := ⟨w.heap.size + 3, 0, none⟩) (Nat.le_add_right _ _) _).setCell (p := ⟨w.heap.size + 4, 0, none⟩) (Nat.le_add_right _ _) _, rfl⟩
      show World.ownsRow _ _ _ _ _ (s.vs ++ [Value.slice X pl d]).length (s.vs ++ [Value.slice X pl d])
      rw [hlv]
      exact own_keep (own_keep hown' fun g hg _ => Below.heap_setCell w1 _ _ g (by show g ≠ w.heap.size + 3; omega)) fun g hg _ => Below.heap_setCell _ _ _ g (by show g ≠ w.heap.size + 4; omega)
    · have heb : (e != 0) = true := by simp [he]
      obtain ⟨A', ca, hv, hca⟩ := OwnV.slice (w := W) ownL
      obtain ⟨nv, hnv⟩ : ∃ k, s.vs.length = k := ⟨_, rfl⟩
      rw [hnv] at hv
      rw [hv] at hcL
      have f1 := r1.frozen
      have f2 := r2.frozen
      have f3 := r3.frozen
      have c1 := r1.cell
      have c2 := r2.cell
      have c3 := r3.cell
      have hs : istNx s (Value.slice X pl d, k, e) = { s with z := e } := by unfold istNx; rw [if_neg he]
      rw [hs] at hfin ⊢
      gi_wp2
      gi_region_with_o (fail)
      all_goals
        gi_wp2
        obtain ⟨k1, k2, k3, k4, k5, k6⟩ := res_set (n := (s.n : Int)) (z := e) r1 r2 r3 (hv ▸ ownL) hB rfl
        exact ⟨k6.from _, rfl, ⟨_, k1, k4, trivial⟩, k2, k3, k5, hfin he⟩
  case done =>
    rintro D s W hD ⟨L', hE, hall⟩ ⟨⟨v, bL, ownL, _⟩, bN, bB, r1, r2, r3, hB, hz⟩ hK
    have hcL := bL.cell
    have hcN := bN.cell
    have hmx : Try.prog.follows .mixedOrders = true := by kernel_rfl
    obtain ⟨A', ca, hv, hca⟩ := OwnV.slice (w := W) ownL
    obtain ⟨nv, hnv⟩ : ∃ k, s.vs.length = k := ⟨_, rfl⟩
    rw [hnv] at hv
    rw [hv] at hcL
    have f1 := r1.frozen
    have f2 := r2.frozen
    have f3 := r3.frozen
    have c1 := r1.cell
    have c2 := r2.cell
    have c3 := r3.cell
    gi_wp2
    gi_region_with_o (fail)
    all_goals
      gi_wp2
      obtain ⟨k1, k2, k3, k4, k5, k6⟩ := res_set (n := (s.n : Int)) (z := 0) r1 r2 r3 (hv ▸ ownL) hB rfl
      have hK' := k6.same D _ hK rfl
      refine ⟨by simp, .inl ⟨_, _, rfl, run_takeDeferred hK', ?_⟩⟩
      exact all_end HA HQ k1 k2 (hz.symm ▸ k3) k4 k5 ⟨L', hE, hall⟩ (by rw [hsz] at hD; exact hD) hK' _ rfl rfl rfl
  case stop =>
    rintro D c s W hD ⟨rfl, ⟨v, r1, ownL, _⟩, r2, r3, hB, hF⟩ hK
    gi_wp2
    refine ⟨by simp, .inl ⟨_, _, rfl, run_takeDeferred hK, ?_⟩⟩
    exact all_end HA HQ r1 r2 r3 ownL hB hF (by rw [hsz] at hD; exact hD) hK _ rfl rfl rfl
end Go.Proofs.Ytmcmlfmfhljphaa

/-
  Rows of texts of the call's own; the walks of layer codec's generic getEach at texts, and of getPair.
-/
import Derived.Test.YtnieojdlmanckaaCodGetT
import Derived.Test.YtnieojdlmanckaaLabBase
import Derived.Laws.ResultCell
import Derived.Deep.RegionHeld
import Derived.Deep.MidRow
namespace Go.Proofs.Ytnieojdlmanckaa
open Go.RowKit Go.Proofs.Ytnieojdlmanckaa.Lp

/-! ### texts, one behind the other -/
def svals (l : List ByteArray) : List Value := l.map Value.string
theorem svals_one' : ∀ (l : List ByteArray), ∀ u ∈ svals l, u.oneCell' = true := by
  intro l u hu
  obtain ⟨x, _, rfl⟩ := List.mem_map.1 hu
  rfl
/-- A row of the call's own that holds the texts l. -/
def OwnS (w : World) (base : Nat) (v : Value) (l : List ByteArray) : Prop := w.ownsRow base 9 1 v l.length (svals l)
theorem info_str : (Try.prog.info? 9).map (fun i => (i.zero, i.size, i.bytes)) = some (some (.string ⟨#[]⟩), 1, 16) := by kernel_rfl
theorem OwnS.nil (w : World) (base : Nat) : OwnS w base (.slice none 0 0) [] := ⟨rfl, .inl ⟨rfl, rfl⟩⟩
theorem OwnS.alloc {w : World} {base : Nat} {v : Value} {l : List ByteArray} (h : OwnS w base v l) (o : Obj) : OwnS (w.alloc o) base v l := World.ownsRow.alloc h o
theorem OwnS.below {w w' : World} {base : Nat} {v : Value} {l : List ByteArray} (h : OwnS w base v l) (hb : Below w.heap.size w w') : OwnS w' base v l := by
  refine ⟨h.1, ?_⟩
  rcases h.2 with h0 | ⟨g, cap, cur, hv, hbs, hg, hr⟩
  · exact .inl h0
  · exact .inr ⟨g, cap, cur, hv, hbs, (hb.block g (Array.getElem?_eq_some_iff.1 hg).1).trans hg, hr⟩
theorem OwnS.base {w : World} {base : Nat} {v : Value} {l : List ByteArray} (h : OwnS w base v l) : ∀ k, v.ownBlock = some k → base ≤ k := by
  intro k hk
  rcases h.2 with ⟨rfl, _⟩ | ⟨g, cap, cur, rfl, hb, _⟩
  · simp [Value.ownBlock] at hk
  · simp [Value.ownBlock] at hk
    omega
theorem OwnS.cells {w : World} {base : Nat} {v : Value} {l : List ByteArray} (h : OwnS w base v l) (h0 : l ≠ []) :
    ∃ g c, v = .slice (some ⟨g, 0, none⟩) l.length c ∧ g < w.heap.size ∧ base ≤ g ∧ ∀ (j : Nat) (S : ByteArray), l[j]? = some S → w.cell? ⟨g, j, none⟩ = some (.string S) := by
  rcases h.2 with ⟨_, hz⟩ | ⟨g, cap, cur, rfl, hb, hg, _⟩
  · exact absurd (List.length_eq_zero_iff.1 hz) h0
  · refine ⟨g, cap, rfl, (Array.getElem?_eq_some_iff.1 hg).1, hb, fun j S hS => ?_⟩
    have := World.ownsRow.cells h (g := g) rfl j (.string S) (by unfold svals; rw [List.getElem?_map, hS]; rfl)
    simpa [Addr.add_lit] using this
theorem wp_app1s (w : World) {ops : Array Oper} {rest : List Oper} {o : Oper} {a : Act} {Q : Exit → Act → World → Prop} (hgd : o.guard = none) (s x : Operand)
    (ho : o.op = .call { callee := .builtin .append, args := #[s, x], argTypes := #[53, 53] })
    (base : Nat) (v : Value) (l : List ByteArray) (S : ByteArray) (hs : a.eval s = v) (hown : OwnS w base v l) (b : Nat) (hx : a.eval x = .slice (some ⟨b, 0, none⟩) 1 1) (hc : w.cell? ⟨b, 0, none⟩ = some (.string S))
    (hlen : l.length + 1 ≤ 1000000) (hbase : base ≤ w.heap.size)
    (h : ∀ v' w', OwnS w' base v' (l ++ [S]) → Below base w w' → wpList Try.prog ops Q rest (a.put o.dst v') w') : wpList Try.prog ops Q (o :: rest) a w := by
  obtain ⟨i0, hi, hz0, hz1, hz2⟩ := info_parts info_str
  refine wpList_append_own _ hgd s x 53 ho base 9 i0 _ 1 16 Try.underlying53 hi hz0 hz1 hz2 rfl (by decide) v l.length (svals l) hs hown ⟨b, 0, none⟩ 1 1 (svals [S]) hx rfl ?_ (svals_one' [S]) (by unfold maxLen; omega) (by omega) hbase ?_
  · intro j u hj
    match j, hj with
    | 0, hj =>
      cases hj
      simpa [Addr.add_lit] using hc
  · intro v' w' ho' hg _
    refine h v' w' ?_ ((Below.refl base w).grown hg hbase (OwnS.base hown))
    unfold OwnS
    rw [List.length_append]
    unfold svals at ho' ⊢
    rw [List.map_append]
    exact ho'

/-! ### what is got one behind the other -/
def gts : Nat → List Nat → Kc.R (List (List Nat))
  | 0, l => ([], l, 0)
  | k + 1, l =>
    if (Kc.getT l).2.2 = 0 then
      if (gts k (Kc.getT l).2.1).2.2 = 0 then ((Kc.getT l).1 :: (gts k (Kc.getT l).2.1).1, (gts k (Kc.getT l).2.1).2.1, 0) else ([], [], (gts k (Kc.getT l).2.1).2.2)
    else ([], [], (Kc.getT l).2.2)
/-- The answer, where `out` is got already. -/
def comb {α : Type} (out : List α) (q : Kc.R (List α)) : Kc.R (List α) := if q.2.2 = 0 then (out ++ q.1, q.2.1, 0) else ([], [], q.2.2)
theorem comb_nil_gts : ∀ (k : Nat) (l : List Nat), comb [] (gts k l) = gts k l
  | 0, _ => rfl
  | k + 1, l => by
    unfold comb
    by_cases h : (gts (k + 1) l).2.2 = 0
    · rw [if_pos h, List.nil_append, ← h]
    · rw [if_neg h]
      unfold gts at h ⊢
      split
      · rename_i h1
        rw [if_pos h1] at h
        split
        · rename_i h2
          rw [if_pos h2] at h
          exact absurd rfl h
        · rfl
      · rfl
theorem comb_gts_no {out : List (List Nat)} {k : Nat} {l a r : List Nat} {z : Int} (h : Kc.getT l = (a, r, z)) (hz : z ≠ 0) : comb out (gts (k + 1) l) = ([], [], z) := by
  have e : gts (k + 1) l = ([], [], z) := by unfold gts; rw [h]; exact if_neg hz
  rw [e]
  exact if_neg hz
theorem comb_gts_ok {out : List (List Nat)} {k : Nat} {l a r : List Nat} (h : Kc.getT l = (a, r, 0)) : comb out (gts (k + 1) l) = comb (out ++ [a]) (gts k r) := by
  have e : gts (k + 1) l = if (gts k r).2.2 = 0 then (a :: (gts k r).1, (gts k r).2.1, 0) else ([], [], (gts k r).2.2) := by
    rw [gts, h]; exact if_pos rfl
  rw [e]
  by_cases h2 : (gts k r).2.2 = 0
  · rw [if_pos h2]
    unfold comb
    rw [if_pos rfl, if_pos h2]
    simp
  · rw [if_neg h2]
    unfold comb
    rw [if_neg h2, if_neg h2]
theorem comb_zero {out : List (List Nat)} {l : List Nat} : comb out (gts 0 l) = (out, l, 0) := by
  unfold comb gts
  rw [if_pos rfl]
  simp

set_option maxHeartbeats 3200000 in
theorem eachS_of (A : Option Addr) (n c : Nat) (l r : List Nat) (ss : List (List Nat)) (q k : Nat) (z : Int) (hn : n = l.length) (hc : Cap n c) (hg : gts q l = (ss, r, z)) (hq : q ≤ 1000) (hk : k = r.length) (w : World) (B : Nat) (hB : B ≤ w.heap.size) (hr : Rb w B A l) :
    Calls Try.prog 31 #[.slice A n c, .int .i64 (q : Int), .func (.func 17) #[] #[]] w fun e w' => ∃ v A' c', e = .returned (.tuple #[v, .slice A' k c', .int .i64 z]) ∧ Hid (OwnS w' w.heap.size v (ss.map Kc.tx)) ∧ Hid (Rb w' B A' r) ∧ Hid (Cap k c') ∧ Below w.heap.size w w' := by
  have HN := Lib.hid hn
  have HC := Lib.hid hc
  have HG : Hid (comb [] (gts q l) = (ss, r, z)) := Lib.hid (by rw [comb_nil_gts]; exact hg)
  have HK := Lib.hid hk
  have HR := Lib.hid hr
  clear hn hc hg hk hr
  go_enter Try.func31, Try.ntmps31
  go_wp2_with fail
  go_loopg [0, 9, 10, 11, 12, 14] q (fun g s0 s9 _ _ _ s14 wx => ∃ (i : Nat) (A1 : Option Addr) (n1 c1 : Nat) (l1 : List Nat) (out : List (List Nat)), i + g = q ∧ s14 = .int .i64 i ∧ s0 = .slice A1 n1 c1 ∧ Hid (n1 = l1.length) ∧ Hid (Cap n1 c1) ∧ Hid (Rb wx B A1 l1) ∧ Hid (out.length = i) ∧ Hid (OwnS wx w.heap.size s9 (out.map Kc.tx)) ∧ Hid (comb out (gts g l1) = (ss, r, z)) ∧ Below w.heap.size w wx)
  case atStart => exact ⟨0, A, n, c, l, [], by omega, rfl, rfl, HN, HC, HR, Lib.hid rfl, Lib.hid (OwnS.nil _ _), HG, Below.refl _ _⟩
  case round =>
    obtain ⟨i, A1, n1, c1, l1, out, hi, rfl, rfl, HN1, HC1, HR1, HO, HS, HI, hwx⟩ := hrel
    cases gk with
    | zero =>
      obtain rfl : i = q := by omega
      have h := HI.out
      rw [comb_zero] at h
      simp only [Prod.mk.injEq] at h
      obtain ⟨rfl, rfl, rfl⟩ := h
      have hkn : k = n1 := by rw [HK.out, HN1.out]
      subst hkn
      go_wp2_with fail
      go_ret3
      exact ⟨_, A1, c1, rfl, HS, HR1, HC1, hwx⟩
    | succ g =>
      have hiz : (i : Int) < (q : Int) := by omega
      have hiq : i < q := by omega
      rcases h : Kc.getT l1 with ⟨a, r1, y⟩
      have H := Lib.hid h
      clear h
      obtain ⟨S, hS⟩ : ∃ S, Kc.tx a = S := ⟨_, rfl⟩
      have HSa := Lib.hid hS
      clear hS
      obtain ⟨k1, hk1⟩ : ∃ k1, k1 = r1.length := ⟨_, rfl⟩
      have HK1 := Lib.hid hk1
      clear hk1
      go_wp2_with fail
      refine (getT_at A1 n1 c1 l1 a r1 S k1 y HN1.out HC1.out H.out HSa.out HK1.out wr B (Nat.le_trans hB hwx.size) HR1.out).mono ?_
      rintro e w2 ⟨A2, c2, rfl, HR2, HC2, hw2⟩
      have HS2 := Lib.hid (OwnS.below HS.out hw2)
      have hb2 : Below w.heap.size w w2 := below_on hwx hw2
      have hb2r : Below w.heap.size wr w2 := hw2.mono hwx.size
      have hlen : (out.map Kc.tx).length + 1 ≤ 1000000 := by rw [List.length_map, HO.out]; omega
      have hsz := hb2.size
      by_cases hy : y = 0
      · subst hy
        have HI2 : Hid (comb (out ++ [a]) (gts g r1) = (ss, r, z)) := Lib.hid (by rw [← comb_gts_ok H.out]; exact HI.out)
        go_wp2_with (at_builtin; refine wp_app1s _ rfl _ _ rfl w.heap.size _ (out.map Kc.tx) S rfl (OwnS.alloc HS2.out _) w2.heap.size rfl (World.cell?_alloc_at _ _ _ _ rfl) hlen (by show _ ≤ (w2.heap.push _).size; rw [Array.size_push]; omega) ?_; intro v3 w3 hown3 hb3)
        have hb3' := (hb2.alloc hsz _).trans hb3
        have hb3r := (hb2r.alloc hsz _).trans hb3
        go_roundg g
        case measure => omega
        case rel =>
          refine ⟨i + 1, A2, k1, c2, r1, out ++ [a], by omega, by simp, rfl, HK1, HC2, Lib.hid (HR2.out.below (hb3r.mono hB)), Lib.hid (by rw [List.length_append, HO.out]; rfl), Lib.hid ?_, HI2, hb3'⟩
          rw [List.map_append]
          show OwnS w3 w.heap.size v3 (out.map Kc.tx ++ [Kc.tx a])
          rw [HSa.out]
          exact hown3
      · have h := HI.out
        rw [comb_gts_no H.out hy] at h
        simp only [Prod.mk.injEq] at h
        obtain ⟨rfl, rfl, rfl⟩ := h
        obtain rfl : k = 0 := HK.out
        have hyb : (y != 0) = true := by simpa using hy
        have hyb2 : (y == 0) = false := by simpa using hy
        clear hy
        go_wp2_with fail
        go_ret3
        exact ⟨_, none, 0, rfl, Lib.hid (OwnS.nil _ _), Lib.hid (Rb.none_ _ _ _), Lib.hid cap0, hb2⟩

theorem gp_two (l : List Nat) : (∃ a b r, gts 2 l = ([a, b], r, 0) ∧ Kc.gp l = ((Kc.tx a, Kc.tx b), r, 0)) ∨ (∃ z, z ≠ 0 ∧ gts 2 l = ([], [], z) ∧ Kc.gp l = ((⟨#[]⟩, ⟨#[]⟩), [], z)) := by
  rcases h1 : Kc.getT l with ⟨a, r1, z1⟩
  rcases h2 : Kc.getT r1 with ⟨b, r2, z2⟩
  unfold Kc.gp
  simp only [gts, h1, h2]
  by_cases e1 : z1 = 0
  · by_cases e2 : z2 = 0
    · subst e1 e2
      exact .inl ⟨a, b, r2, by simp, by simp⟩
    · subst e1
      exact .inr ⟨z2, e2, by simp [e2], by rw [if_pos rfl, if_neg e2]; rfl⟩
  · exact .inr ⟨z1, e1, by simp [e1], by rw [if_neg e1]; rfl⟩
theorem cell_of {w : World} {P : Nat} {C : Array Value} {e : TypeId} {fr : Nat × Nat} (h : w.heap[P]? = some (.cells C e fr)) (d : Nat) : w.cell? ⟨P, d, none⟩ = C[d]? := by simp [World.cell?, h]
theorem frozen_of {w : World} {P : Nat} {C : Array Value} {e : TypeId} (h : w.heap[P]? = some (.cells C e (0, 0))) (d : Nat) : w.frozen? ⟨P, d, none⟩ = false := by simp [World.frozen?, h]
theorem info_pairsize : (Try.prog.info? 44).map (·.size) = some 2 := by kernel_rfl
theorem load_pair (w : World) (R : Nat) (N V : ByteArray) (h0 : w.cell? ⟨R, 0, none⟩ = some (.string N)) (h1 : w.cell? ⟨R, 1, none⟩ = some (.string V)) :
    (loadVar 44 ⟨R, 0, none⟩).run Try.prog w = .ok (.agg #[.string N, .string V]) w := by
  refine run_loadVar_mid w R 0 44 [.string N, .string V] _ ?_ Try.underlying44 rfl info_pairsize
  intro j v hv
  match j, hv with
  | 0, hv => cases hv; exact h0
  | 1, hv => cases hv; exact h1
theorem set_two {w : World} {R : Nat} {a b : Value} (x y : Value) (h0 : w.cell? ⟨R, 0, none⟩ = some a) (h1 : w.cell? ⟨R, 1, none⟩ = some b) :
    ((w.setCell ⟨R, 0, none⟩ x).setCell ⟨R, 1, none⟩ y).drew.cell? ⟨R, 0, none⟩ = some x ∧ ((w.setCell ⟨R, 0, none⟩ x).setCell ⟨R, 1, none⟩ y).drew.cell? ⟨R, 1, none⟩ = some y := by
  have n1 : (⟨R, 0, none⟩ : Addr) ≠ ⟨R, 1, none⟩ := by simp
  have n2 : (⟨R, 1, none⟩ : Addr) ≠ ⟨R, 0, none⟩ := by simp
  exact ⟨(World.cell?_setCell_other _ _ _ _ n2).trans (World.cell?_setCell_same _ _ _ h0), World.cell?_setCell_same _ _ _ ((World.cell?_setCell_other _ _ _ _ n1).trans h1)⟩
theorem results_cell2 {fn : Func} {p u x : Tmp} {ty : TypeId} (h : fn.results = #[.cell p ty, .tmp u, .tmp x]) (tmps : Array Value) (P : Program) (w : World) :
    (results fn tmps).run P w =
      ((asAddr (tmps.getD p undef)).run P w).andThen fun a w₁ => ((loadVar ty a).run P w₁).andThen fun v w₂ => .ok (.tuple #[v, tmps.getD u undef, tmps.getD x undef]) w₂ := by
  simp only [results, h]
  simp [Sem.run_bind, Result.andThen]
set_option maxHeartbeats 3200000 in
set_option maxRecDepth 100000 in
theorem pair_of (A : Option Addr) (n c : Nat) (l r : List Nat) (p : Pr) (k : Nat) (z : Int) (hn : n = l.length) (hc : Cap n c) (hg : Kc.gp l = (p, r, z)) (hk : k = r.length) (w : World) (B : Nat) (hB : B ≤ w.heap.size) (hr : Rb w B A l) :
    Calls Try.prog 26 #[.slice A n c] w fun e w' => ∃ A' c', e = .returned (.tuple #[.agg #[.string p.1, .string p.2], .slice A' k c', .int .i64 z]) ∧ Hid (Rb w' B A' r) ∧ Hid (Cap k c') ∧ Below w.heap.size w w' := by
  have HN := Lib.hid hn
  have HC := Lib.hid hc
  have HK := Lib.hid hk
  have HR := Lib.hid hr
  have HG := Lib.hid hg
  have H2 := Lib.hid (gp_two l)
  clear hn hc hg hk hr
  go_enter Try.func26, Try.ntmps26
  obtain ⟨W, hW⟩ : ∃ W, w.alloc (Obj.cells #[Value.string ⟨#[]⟩, Value.string ⟨#[]⟩] 44) = W := ⟨_, rfl⟩
  have hb0 : Below w.heap.size w W := by rw [← hW]; exact below_alloc w _
  have hWR : W.heap[w.heap.size]? = some (.cells #[Value.string ⟨#[]⟩, Value.string ⟨#[]⟩] 44 (0, 0)) := by rw [← hW]; exact heap_alloc_new w _
  have hsz0 : W.heap.size = w.heap.size + 1 := by rw [← hW]; show (w.heap.push _).size = _; rw [Array.size_push]
  obtain ⟨R, hR⟩ : ∃ R, w.heap.size = R := ⟨_, rfl⟩
  rcases H2.out with ⟨a, b, r2, e1, e2⟩ | ⟨y, hy, e1, e2⟩
  · have h := HG.out
    rw [e2] at h
    simp only [Prod.mk.injEq] at h
    obtain ⟨rfl, rfl, rfl⟩ := h
    have HE := Lib.hid e1
    clear e1 e2 H2 HG
    go_wp2_with fail
    refine (eachS_of A n c l r2 [a, b] 2 k 0 HN.out HC.out HE.out (by decide) HK.out W B (by omega) (HR.out.below (hb0.mono hB))).mono ?_
    rintro e w1 ⟨v, A1, c1, rfl, HS1, HR1, HC1, hw1⟩
    obtain ⟨g, cv, rfl, hg1, hgb, hcell⟩ := OwnS.cells HS1.out (by simp)
    obtain ⟨SA, hSA⟩ : ∃ SA, Kc.tx a = SA := ⟨_, rfl⟩
    obtain ⟨SB, hSB⟩ : ∃ SB, Kc.tx b = SB := ⟨_, rfl⟩
    have c0 : w1.drew.cell? ⟨g, 0, none⟩ = some (.string SA) := hcell 0 SA (by rw [← hSA]; rfl)
    have c1' : w1.drew.cell? ⟨g, 1, none⟩ = some (.string SB) := hcell 1 SB (by rw [← hSB]; rfl)
    have hgR : R < g := by omega
    have hR1 : R < W.heap.size := by omega
    have hw1R : w1.heap[R]? = some (.cells #[Value.string ⟨#[]⟩, Value.string ⟨#[]⟩] 44 (0, 0)) := by
      rw [hw1.block R hR1, ← hR]; exact hWR
    have hc0 := cell_of hw1R 0
    have hc1 := cell_of hw1R 1
    have hf0 := frozen_of hw1R 0
    have hf1 := frozen_of hw1R 1
    have hW1 := (hb0.trans (hw1.mono (by omega)))
    have HS1' := HS1
    clear HS1 hcell
    go_upto_region 4 with fail
    have d0 : w1.cell? ⟨g, 0, none⟩ = some (.string SA) := c0
    have d1 : w1.cell? ⟨g, 1, none⟩ = some (.string SB) := c1'
    go_region
    go_wp2_with fail
    obtain ⟨hX0, hX1⟩ := set_two (Value.string SA) (Value.string SB) hc0 hc1
    have hbX : Below R w1 (((w1.setCell ⟨R, 0, none⟩ (Value.string SA)).setCell ⟨R, 1, none⟩ (Value.string SB)).drew) := (((Below.refl R w1).setCell (p := ⟨R, 0, none⟩) (Nat.le_refl _) _).setCell (p := ⟨R, 1, none⟩) (Nat.le_refl _) _).drew
    generalize (((w1.setCell ⟨R, 0, none⟩ (Value.string SA)).setCell ⟨R, 1, none⟩ (Value.string SB)).drew) = X at hX0 hX1 hbX ⊢
    rw [hR] at hW1
    refine bodyPost_ret (v := .tuple #[.agg #[.string SA, .string SB], .slice A1 k c1, .int .i64 0]) ?_ rfl ⟨A1, c1, ?_, Lib.hid (HR1.out.below (hbX.mono (by omega))), HC1, hW1.trans hbX⟩
    · rw [results_cell2 rfl]
      have hld := load_pair X R SA SB hX0 hX1
      simp [asAddr, Result.andThen, hld]
    · subst hSA hSB; rfl
  · have h := HG.out
    rw [e2] at h
    simp only [Prod.mk.injEq] at h
    obtain ⟨rfl, rfl, rfl⟩ := h
    have HE := Lib.hid e1
    obtain rfl : k = 0 := HK.out
    have hyb : (y != 0) = true := by simpa using hy
    have hyb2 : (y == 0) = false := by simpa using hy
    clear e1 e2 H2 HG hy
    go_wp2_with fail
    refine (eachS_of A n c l [] [] 2 0 y HN.out HC.out HE.out (by decide) rfl W B (by omega) (HR.out.below (hb0.mono hB))).mono ?_
    rintro e w1 ⟨v, A1, c1, rfl, HS1, HR1, HC1, hw1⟩
    have hR1 : R < W.heap.size := by omega
    have hw1R : w1.heap[R]? = some (.cells #[Value.string ⟨#[]⟩, Value.string ⟨#[]⟩] 44 (0, 0)) := by
      rw [hw1.block R hR1, ← hR]; exact hWR
    have hc0 := cell_of hw1R 0
    have hc1 := cell_of hw1R 1
    have hf0 := frozen_of hw1R 0
    have hf1 := frozen_of hw1R 1
    have hW1 := (hb0.trans (hw1.mono (by omega)))
    go_wp2_with fail
    rw [hR] at hW1
    obtain ⟨hX0, hX1⟩ := set_two (Value.string ⟨#[]⟩) (Value.string ⟨#[]⟩) hc0 hc1
    have hbX : Below R w1 (((w1.setCell ⟨R, 0, none⟩ (Value.string ⟨#[]⟩)).setCell ⟨R, 1, none⟩ (Value.string ⟨#[]⟩))) := ((Below.refl R w1).setCell (p := ⟨R, 0, none⟩) (Nat.le_refl _) _).setCell (p := ⟨R, 1, none⟩) (Nat.le_refl _) _
    generalize (((w1.setCell ⟨R, 0, none⟩ (Value.string ⟨#[]⟩)).setCell ⟨R, 1, none⟩ (Value.string ⟨#[]⟩))) = X at hX0 hX1 hbX ⊢
    refine bodyPost_ret (v := .tuple #[.agg #[.string ⟨#[]⟩, .string ⟨#[]⟩], .slice none 0 0, .int .i64 y]) ?_ rfl ⟨none, 0, rfl, Lib.hid (Rb.none_ _ _ _), Lib.hid cap0, hW1.trans hbX⟩
    rw [results_cell2 rfl]
    have hld := load_pair X R ⟨#[]⟩ ⟨#[]⟩ hX0 hX1
    simp [asAddr, Result.andThen, hld]
end Go.Proofs.Ytnieojdlmanckaa

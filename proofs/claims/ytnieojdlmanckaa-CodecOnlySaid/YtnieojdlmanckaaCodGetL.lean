/-
  Layer codec's generic getEach at pairs, GetLabels; the eight contracts of what landed.
-/
import Derived.Test.YtnieojdlmanckaaCodGetP
import Derived.Test.YtnieojdlmanckaaCodPutL
namespace Go.Proofs.Ytnieojdlmanckaa
open Go.RowKit Go.Proofs.Ytnieojdlmanckaa.Lp

/-! ### a row of pairs -/
theorem info_pair : (Try.prog.info? 44).map (fun i => (i.zero, i.size, i.bytes)) = some (some (.agg #[.string ⟨#[]⟩, .string ⟨#[]⟩]), 2, 32) := by kernel_rfl
theorem Own.base {w : World} {base : Nat} {v : Value} {l : List Pr} (h : Own w base v l) : ∀ k, v.ownBlock = some k → base ≤ k := by
  intro k hk
  rcases h.2 with ⟨rfl, _⟩ | ⟨g, cap, cur, rfl, hb, _⟩
  · simp [Value.ownBlock] at hk
  · simp [Value.ownBlock] at hk
    omega
theorem Own.nil (w : World) (base : Nat) : Own w base (.slice none 0 0) [] := ⟨rfl, .inl ⟨rfl, rfl⟩⟩
theorem Own.alloc {w : World} {base : Nat} {v : Value} {l : List Pr} (h : Own w base v l) (o : Obj) : Own (w.alloc o) base v l := World.ownsRow.alloc h o
theorem Own.below {w w' : World} {base : Nat} {v : Value} {l : List Pr} (h : Own w base v l) (hb : Below w.heap.size w w') : Own w' base v l := by
  refine ⟨h.1, ?_⟩
  rcases h.2 with h0 | ⟨g, cap, cur, hv, hbs, hg, hr⟩
  · exact .inl h0
  · exact .inr ⟨g, cap, cur, hv, hbs, (hb.block g (Array.getElem?_eq_some_iff.1 hg).1).trans hg, hr⟩
theorem Own.cap {w : World} {base : Nat} {A : Option Addr} {n c : Nat} {l : List Pr} (h : Own w base (.slice A n c) l) : n ≤ c ∧ c ≤ 9223372036854775807 := by
  rcases h.2 with ⟨hv, _⟩ | ⟨g, cap, cur, hv, _, _, hn, hm, _⟩
  · cases hv; omega
  · cases hv
    unfold maxLen at hm
    obtain ⟨h1, _⟩ := h
    omega
theorem wp_app1p (w : World) {ops : Array Oper} {rest : List Oper} {o : Oper} {a : Act} {Q : Exit → Act → World → Prop} (hgd : o.guard = none) (s x : Operand)
    (ho : o.op = .call { callee := .builtin .append, args := #[s, x], argTypes := #[22, 22] })
    (base : Nat) (v : Value) (l : List Pr) (p : Pr) (hs : a.eval s = v) (hown : Own w base v l) (b : Nat) (hx : a.eval x = .slice (some ⟨b, 0, none⟩) 1 1)
    (h0 : w.cell? ⟨b, 0, none⟩ = some (.string p.1)) (h1 : w.cell? ⟨b, 1, none⟩ = some (.string p.2))
    (hlen : l.length + 1 ≤ 1000000) (hbase : base ≤ w.heap.size)
    (h : ∀ v' w', Own w' base v' (l ++ [p]) → Below base w w' → wpList Try.prog ops Q rest (a.put o.dst v') w') : wpList Try.prog ops Q (o :: rest) a w := by
  obtain ⟨i0, hi, hz0, hz1, hz2⟩ := info_parts info_pair
  refine wpList_append_own _ hgd s x 22 ho base 44 i0 _ 2 32 Try.underlying22 hi hz0 hz1 hz2 rfl (by decide) v l.length (cells l) hs hown ⟨b, 0, none⟩ 1 1 (cells [p]) hx (cells_len [p]) ?_ (cells_one' [p]) (by unfold maxLen; omega) (by omega) hbase ?_
  · intro j u hj
    match j, hj with
    | 0, hj => cases hj; simpa [Addr.add_lit] using h0
    | 1, hj => cases hj; simpa [Addr.add_lit] using h1
  · intro v' w' ho' hg _
    refine h v' w' ?_ ((Below.refl base w).grown hg hbase (Own.base hown))
    unfold Own
    rw [cells_app, List.length_append]
    exact ho'

/-! ### what is got one behind the other -/
theorem comb_nil_gps : ∀ (k : Nat) (l : List Nat), comb [] (Kc.gps k l) = Kc.gps k l
  | 0, _ => rfl
  | k + 1, l => by
    unfold comb
    by_cases h : (Kc.gps (k + 1) l).2.2 = 0
    · rw [if_pos h, List.nil_append, ← h]
    · rw [if_neg h]
      unfold Kc.gps at h ⊢
      split
      · rename_i h1
        rw [if_pos h1] at h
        split
        · rename_i h2
          rw [if_pos h2] at h
          exact absurd rfl h
        · rfl
      · rfl
theorem comb_gps_no {out : List Pr} {k : Nat} {l r : List Nat} {p : Pr} {z : Int} (h : Kc.gp l = (p, r, z)) (hz : z ≠ 0) : comb out (Kc.gps (k + 1) l) = ([], [], z) := by
  have e : Kc.gps (k + 1) l = ([], [], z) := by unfold Kc.gps; rw [h]; exact if_neg hz
  rw [e]
  exact if_neg hz
theorem comb_gps_ok {out : List Pr} {k : Nat} {l r : List Nat} {p : Pr} (h : Kc.gp l = (p, r, 0)) : comb out (Kc.gps (k + 1) l) = comb (out ++ [p]) (Kc.gps k r) := by
  have e : Kc.gps (k + 1) l = if (Kc.gps k r).2.2 = 0 then (p :: (Kc.gps k r).1, (Kc.gps k r).2.1, 0) else ([], [], (Kc.gps k r).2.2) := by
    rw [Kc.gps, h]; exact if_pos rfl
  rw [e]
  by_cases h2 : (Kc.gps k r).2.2 = 0
  · rw [if_pos h2]
    unfold comb
    rw [if_pos rfl, if_pos h2]
    simp
  · rw [if_neg h2]
    unfold comb
    rw [if_neg h2, if_neg h2]
theorem comb_zero_p {out : List Pr} {l : List Nat} : comb out (Kc.gps 0 l) = (out, l, 0) := by
  unfold comb Kc.gps
  rw [if_pos rfl]
  simp
theorem getT_size (l : List Nat) : (Kc.getT l).1.length ≤ 65536 := by
  unfold Kc.getT
  split
  · split
    · simp
    · split
      · simp
      · show ((Kc.getU l).2.1.take _).length ≤ _
        rw [List.length_take]; omega
  · simp
theorem gp_sizes (l : List Nat) : (Kc.gp l).1.1.size ≤ 65536 ∧ (Kc.gp l).1.2.size ≤ 65536 := by
  unfold Kc.gp
  split
  · split
    · exact ⟨by show (Kc.tx _).size ≤ _; rw [Kc.tx_size]; exact getT_size l, by show (Kc.tx _).size ≤ _; rw [Kc.tx_size]; exact getT_size _⟩
    · exact ⟨by show (0 : Nat) ≤ _; omega, by show (0 : Nat) ≤ _; omega⟩
  · exact ⟨by show (0 : Nat) ≤ _; omega, by show (0 : Nat) ≤ _; omega⟩
theorem gps_sizes : ∀ (k : Nat) (l : List Nat), ∀ p ∈ (Kc.gps k l).1, p.1.size ≤ 65536 ∧ p.2.size ≤ 65536
  | 0, _, p, hp => by simp [Kc.gps] at hp
  | k + 1, l, p, hp => by
    unfold Kc.gps at hp
    split at hp
    · split at hp
      · rcases List.mem_cons.1 hp with rfl | hp
        · exact gp_sizes l
        · exact gps_sizes k _ p hp
      · simp at hp
    · simp at hp

theorem gps_len : ∀ (k : Nat) (l : List Nat), (Kc.gps k l).1.length ≤ k
  | 0, _ => by simp [Kc.gps]
  | k + 1, l => by
    unfold Kc.gps
    split
    · split
      · rw [List.length_cons]
        have := gps_len k (Kc.gp l).2.1
        omega
      · simp
    · simp
set_option maxHeartbeats 3200000 in
theorem eachP_of (A : Option Addr) (n c : Nat) (l r : List Nat) (ps : List Pr) (q k : Nat) (z : Int) (hn : n = l.length) (hc : Cap n c) (hg : Kc.gps q l = (ps, r, z)) (hq : q ≤ 1000) (hk : k = r.length) (w : World) (B : Nat) (hB : B ≤ w.heap.size) (hr : Rb w B A l) :
    Calls Try.prog 25 #[.slice A n c, .int .i64 (q : Int), .func (.func 26) #[] #[]] w fun e w' => ∃ v A' c', e = .returned (.tuple #[v, .slice A' k c', .int .i64 z]) ∧ Hid (Own w' w.heap.size v ps) ∧ Hid (Rb w' B A' r) ∧ Hid (Cap k c') ∧ Below w.heap.size w w' := by
  have HN := Lib.hid hn
  have HC := Lib.hid hc
  have HG : Hid (comb [] (Kc.gps q l) = (ps, r, z)) := Lib.hid (by rw [comb_nil_gps]; exact hg)
  have HK := Lib.hid hk
  have HR := Lib.hid hr
  clear hn hc hg hk hr
  go_enter Try.func25, Try.ntmps25
  go_wp2_with fail
  go_loopg [0, 9, 10, 11, 12, 14] q (fun g s0 s9 _ _ _ s14 wx => ∃ (i : Nat) (A1 : Option Addr) (n1 c1 : Nat) (l1 : List Nat) (out : List Pr), i + g = q ∧ s14 = .int .i64 i ∧ s0 = .slice A1 n1 c1 ∧ Hid (n1 = l1.length) ∧ Hid (Cap n1 c1) ∧ Hid (Rb wx B A1 l1) ∧ Hid (out.length = i) ∧ Hid (Own wx w.heap.size s9 out) ∧ Hid (comb out (Kc.gps g l1) = (ps, r, z)) ∧ Below w.heap.size w wx)
  case atStart => exact ⟨0, A, n, c, l, [], by omega, rfl, rfl, HN, HC, HR, Lib.hid rfl, Lib.hid (Own.nil _ _), HG, Below.refl _ _⟩
  case round =>
    obtain ⟨i, A1, n1, c1, l1, out, hi, rfl, rfl, HN1, HC1, HR1, HO, HS, HI, hwx⟩ := hrel
    cases gk with
    | zero =>
      obtain rfl : i = q := by omega
      have h := HI.out
      rw [comb_zero_p] at h
      simp only [Prod.mk.injEq] at h
      obtain ⟨rfl, rfl, rfl⟩ := h
      have hkn : k = n1 := by rw [HK.out, HN1.out]
      subst hkn
      go_wp2_with fail
      go_ret3
      exact ⟨_, A1, c1, rfl, HS, HR1, HC1, hwx⟩
    | succ g =>
      have hiz : (i : Int) < (q : Int) := by omega
      have hiq : i < q := by omega
      rcases h : Kc.gp l1 with ⟨⟨N, V⟩, r1, y⟩
      have H := Lib.hid h
      clear h
      obtain ⟨k1, hk1⟩ : ∃ k1, k1 = r1.length := ⟨_, rfl⟩
      have HK1 := Lib.hid hk1
      clear hk1
      go_wp2_with fail
      refine (pair_of A1 n1 c1 l1 r1 (N, V) k1 y HN1.out HC1.out H.out HK1.out wr B (Nat.le_trans hB hwx.size) HR1.out).mono ?_
      rintro e w2 ⟨A2, c2, rfl, HR2, HC2, hw2⟩
      have HS2 := Lib.hid (Own.below HS.out hw2)
      have hb2 : Below w.heap.size w w2 := below_on hwx hw2
      have hb2r : Below w.heap.size w2 w2 := Below.refl _ _
      have hlen : out.length + 1 ≤ 1000000 := by rw [HO.out]; omega
      have hsz := hb2.size
      by_cases hy : y = 0
      · subst hy
        have HI2 : Hid (comb (out ++ [(N, V)]) (Kc.gps g r1) = (ps, r, z)) := Lib.hid (by rw [← comb_gps_ok H.out]; exact HI.out)
        have hs1 : w2.heap.size + 1 = (w2.alloc (Obj.cells #[Value.string N, Value.string V] 44)).heap.size := by show _ = (w2.heap.push _).size; rw [Array.size_push]
        have hs2 : w.heap.size ≤ ((w2.alloc (Obj.cells #[Value.string N, Value.string V] 44)).alloc (Obj.cells #[Value.string N, Value.string V] 44)).heap.size := by
          show _ ≤ ((w2.heap.push _).push _).size
          rw [Array.size_push, Array.size_push]; omega
        have hba := (hb2.alloc hsz (Obj.cells #[Value.string N, Value.string V] 44)).alloc (by rw [← hs1]; omega) (Obj.cells #[Value.string N, Value.string V] 44)
        have hbar := (hb2r.alloc hsz (Obj.cells #[Value.string N, Value.string V] 44)).alloc (by rw [← hs1]; omega) (Obj.cells #[Value.string N, Value.string V] 44)
        have hk0 : ((w2.alloc (Obj.cells #[Value.string N, Value.string V] 44)).alloc (Obj.cells #[Value.string N, Value.string V] 44)).cell? ⟨w2.heap.size + 1, 0, none⟩ = some (.string N) := World.cell?_alloc_at _ _ _ _ hs1
        have hk1 : ((w2.alloc (Obj.cells #[Value.string N, Value.string V] 44)).alloc (Obj.cells #[Value.string N, Value.string V] 44)).cell? ⟨w2.heap.size + 1, 1, none⟩ = some (.string V) := World.cell?_alloc_at _ _ _ _ hs1
        have K0 := Lib.hid hk0
        have K1 := Lib.hid hk1
        have S2 := Lib.hid hs2
        have BA := Lib.hid hba
        have BR := Lib.hid hbar
        clear hs1 hs2 hk0 hk1 hba hbar
        go_wp2_with (at_builtin; refine wp_app1p _ rfl _ _ rfl w.heap.size _ out (N, V) rfl (Own.alloc (Own.alloc HS2.out _) _) (w2.heap.size + 1) rfl K0.out K1.out hlen S2.out ?_; intro v3 w3 hown3 hb3)
        have hb3' := BA.out.trans hb3
        have hb3r := BR.out.trans hb3
        go_roundg g
        case measure => omega
        case rel => exact ⟨i + 1, A2, k1, c2, r1, out ++ [(N, V)], by omega, by simp, rfl, HK1, HC2, Lib.hid (HR2.out.below (hb3r.mono hB)), Lib.hid (by rw [List.length_append, HO.out]; rfl), Lib.hid hown3, HI2, hb3'⟩
      · have h := HI.out
        rw [comb_gps_no H.out hy] at h
        simp only [Prod.mk.injEq] at h
        obtain ⟨rfl, rfl, rfl⟩ := h
        obtain rfl : k = 0 := HK.out
        have hyb : (y != 0) = true := by simpa using hy
        have hyb2 : (y == 0) = false := by simpa using hy
        clear hy
        go_wp2_with fail
        go_ret3
        exact ⟨_, none, 0, rfl, Lib.hid (Own.nil _ _), Lib.hid (Rb.none_ _ _ _), Lib.hid cap0, hb2.alloc hsz _⟩

set_option maxHeartbeats 3200000 in
theorem getL_of : GetLC := by
  intro A n c l r ps q k z hn hc hg hq hk w hr
  rcases h : Kc.getU l with ⟨u, rr, y⟩
  have HG := Lib.hid hg
  have HQ := Lib.hid hq
  have HK := Lib.hid hk
  have HN := Lib.hid hn
  have HC := Lib.hid hc
  have HR := Lib.hid hr
  have HU := Lib.hid h
  obtain ⟨n1, hn1⟩ : ∃ n1, n1 = rr.length := ⟨_, rfl⟩
  have HN1 := Lib.hid hn1
  clear hg hq hk hn hc hr h hn1
  have hgt := HG.out
  unfold Kc.getL at hgt
  rw [HU.out] at hgt
  simp only at hgt
  go_enter Try.func18, Try.ntmps18
  go_wp2_with fail
  refine (getU_of A n c l rr u n1 y HN.out HC.out HU.out HN1.out w HR.out).mono ?_
  rintro e w1 ⟨A1, c1, rfl, HR1, HC1, hw1⟩
  by_cases hy : y = 0
  · subst hy
    rw [if_pos rfl] at hgt
    by_cases h4 : 16 < u
    · have h4z : (16 : Int) < (u : Int) := by omega
      rw [if_pos h4] at hgt
      simp only [Prod.mk.injEq] at hgt
      obtain ⟨rfl, rfl, rfl⟩ := hgt
      obtain rfl : k = 0 := HK.out
      obtain rfl : q = 0 := HQ.out
      go_wp2_with fail
      go_ret3
      exact ⟨none, 0, none, 0, rfl, Lib.hid (Rd.none_ _ _ _), Lib.hid cap0, Lib.hid (Rb.none_ _ _ _), Lib.hid cap0, hw1⟩
    · have h4z : ¬ (16 : Int) < (u : Int) := by omega
      rw [if_neg h4] at hgt
      rcases hg : Kc.gps u rr with ⟨qs, r2, x⟩
      have hsz := gps_sizes u rr
      rw [hg] at hgt hsz
      simp only at hgt hsz
      have HGp := Lib.hid hg
      obtain ⟨k2, hk2⟩ : ∃ k2, k2 = r2.length := ⟨_, rfl⟩
      have HK2 := Lib.hid hk2
      have HSZ := Lib.hid hsz
      clear hg hk2 hsz
      have hu1000 : u ≤ 1000 := by omega
      go_wp2_with fail
      refine (eachP_of A1 n1 c1 rr r2 qs u k2 x HN1.out HC1.out HGp.out hu1000 HK2.out w1 w1.heap.size (Nat.le_refl _) HR1.out).mono ?_
      rintro e w2 ⟨v, A2, c2, rfl, HO2, HR2, HC2, hw2⟩
      have hb2 := below_on hw1 hw2
      by_cases hx : x = 0
      · subst hx
        rw [if_pos rfl] at hgt
        obtain ⟨B2, d2, rfl⟩ := Own.slice HO2.out
        have hlq : qs.length ≤ 1000000 := by
          have := gps_len u rr
          rw [HGp.out] at this
          exact Nat.le_trans this (by omega)
        have HRd := Lib.hid (Own.rd HO2.out (by omega) (fun p hp => by have := HSZ.out p hp; omega))
        have HCp := Lib.hid (Own.cap HO2.out)
        obtain ⟨q2, hq2⟩ : ∃ q2, qs.length = q2 := ⟨_, rfl⟩
        rw [hq2] at HO2 HCp ⊢
        have HQ2 := Lib.hid hq2.symm
        clear hq2
        obtain ⟨b, hb⟩ : ∃ b, saneB qs = b := ⟨_, rfl⟩
        have HB := Lib.hid hb
        clear hb
        go_wp2_with fail
        refine (sane_of B2 d2 q2 qs HQ2.out b HB.out w2 HRd.out).mono ?_
        rintro e w3 ⟨rfl, hw3⟩
        have hb3 := below_on hb2 hw3
        cases b with
        | true =>
          rw [if_pos HB.out] at hgt
          simp only [Prod.mk.injEq] at hgt
          obtain ⟨rfl, rfl, rfl⟩ := hgt
          have e1 : q = q2 := by rw [HQ.out, HQ2.out]
          have e2 : k = k2 := by rw [HK.out, HK2.out]
          subst e1 e2
          go_wp2_with fail
          go_ret3
          exact ⟨B2, d2, A2, c2, rfl, Lib.hid (HRd.out.on hw3), HCp, Lib.hid ((HR2.out.more (hw2.size)).on hw3), HC2, hb3⟩
        | false =>
          rw [if_neg (by rw [HB.out]; decide)] at hgt
          simp only [Prod.mk.injEq] at hgt
          obtain ⟨rfl, rfl, rfl⟩ := hgt
          obtain rfl : k = 0 := HK.out
          obtain rfl : q = 0 := HQ.out
          go_wp2_with fail
          go_ret3
          exact ⟨none, 0, none, 0, rfl, Lib.hid (Rd.none_ _ _ _), Lib.hid cap0, Lib.hid (Rb.none_ _ _ _), Lib.hid cap0, hb3⟩
      · rw [if_neg hx] at hgt
        simp only [Prod.mk.injEq] at hgt
        obtain ⟨rfl, rfl, rfl⟩ := hgt
        obtain rfl : k = 0 := HK.out
        obtain rfl : q = 0 := HQ.out
        have hyb : (x != 0) = true := by simpa using hx
        have hyb2 : (x == 0) = false := by simpa using hx
        clear hx
        go_wp2_with fail
        go_ret3
        exact ⟨none, 0, none, 0, rfl, Lib.hid (Rd.none_ _ _ _), Lib.hid cap0, Lib.hid (Rb.none_ _ _ _), Lib.hid cap0, hb2⟩
  · rw [if_neg hy] at hgt
    simp only [Prod.mk.injEq] at hgt
    obtain ⟨rfl, rfl, rfl⟩ := hgt
    obtain rfl : k = 0 := HK.out
    obtain rfl : q = 0 := HQ.out
    have hyb : (y != 0) = true := by simpa using hy
    have hyb2 : (y == 0) = false := by simpa using hy
    clear hy
    go_wp2_with fail
    go_ret3
    exact ⟨none, 0, none, 0, rfl, Lib.hid (Rd.none_ _ _ _), Lib.hid cap0, Lib.hid (Rb.none_ _ _ _), Lib.hid cap0, hw1⟩
/-- What landed keeps all eight. -/
theorem cod : Cod := ⟨putU_of, putI_of, putT_of, putL_of, getU_of, getI_of, getT_of, getL_of⟩
end Go.Proofs.Ytnieojdlmanckaa

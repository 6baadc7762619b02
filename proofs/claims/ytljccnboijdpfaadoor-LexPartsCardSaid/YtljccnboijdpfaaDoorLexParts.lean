/-
  The walk of layer lex's law LexParts: it answers true.
-/
import Derived.Test.YtljccnboijdpfaaDoorLexQuote
namespace Go.Proofs.YtljccnboijdpfaaDoor
open Go.RowKit

theorem ch_le : ∀ (ts : List Lx.Tok) (l e : Lx.T), Lx.Ch l ts e → ∀ t ∈ ts, t.2.1 ≤ l.length
  | [], _, _, _ => by simp
  | t :: r, l, e, h => by
    obtain ⟨p, u, rfl, h2, _, h⟩ := h
    have ih := ch_le r u e h
    intro x hx
    rcases List.mem_cons.1 hx with hx | hx
    · rw [hx, h2]; rw [List.length_append (bs := Lx.txt t.1 t.2.2 ++ u)]; omega
    · have := ih x hx
      simp only [List.length_append]
      omega
theorem lex_le (m : Nat) (l : Lx.T) : ∀ t ∈ (Lx.lex m l).1, t.2.1 ≤ l.length := ch_le _ _ _ (Lx.lex_ch m l)
theorem lex_end_le (m : Nat) (l : Lx.T) : (Lx.lex m l).2.1.length ≤ l.length := by
  have := (ch_sum _ _ _ (Lx.lex_ch m l)).2
  omega
def further (n : Nat) (t : Tk) : Tk := (t.1, t.2.1 + n + 1, t.2.2)
theorem allT_line {A B : Lx.T} {ta tb : List Tk} {xa xb : Nat} {zb : Int} (ha : A.length ≤ 2000) (hb : B.length ≤ 2000) (h1 : allT A = (ta, xa, 0)) (h2 : allT B = (tb, xb, zb)) :
    allT (A ++ 10 :: B) = (ta ++ tb.map (further A.length), xb + A.length + 1, zb) := by
  unfold allT at h1 h2
  simp only [Prod.mk.injEq] at h1 h2
  obtain ⟨rfl, rfl, e1⟩ := h1
  obtain ⟨rfl, rfl, rfl⟩ := h2
  have hk := (ch_sum _ _ _ (Lx.lex_ch 65536 A)).2
  have hl := Lx.lex_line B 65536 A e1 (Lx.lex_count 65536 A)
  rw [Lx.lex_room (65536 - (Lx.lex 65536 A).1.length) 65536 B (by omega) (by omega)] at hl
  unfold allT
  rw [hl]
  have hel := lex_end_le 65536 B
  simp only [List.map_append, List.length_append, List.length_cons]
  refine Prod.ext ?_ (Prod.ext ?_ rfl)
  · show _ ++ _ = _ ++ _
    congr 1
    · rw [List.map_map]
      refine List.map_congr_left fun t _ => ?_
      show (t.1, A.length + (B.length + 1) - (t.2.1 + (B.length + 1)), str t.2.2) = (t.1, A.length - t.2.1, str t.2.2)
      congr 2
      omega
    · rw [List.map_map]
      refine List.map_congr_left fun t ht => ?_
      have := lex_le 65536 B t ht
      show (t.1, A.length + (B.length + 1) - t.2.1, str t.2.2) = (t.1, B.length - t.2.1 + A.length + 1, str t.2.2)
      congr 2
      omega
  · show A.length + (B.length + 1) - _ = B.length - _ + A.length + 1
    omega
theorem allT_count (l : Lx.T) : (allT l).1.length ≤ l.length ∧ (∀ t ∈ (allT l).1, t.2.1 ≤ l.length) ∧ (allT l).2.1 ≤ l.length := by
  refine ⟨?_, ?_, Nat.sub_le _ _⟩
  · show ((Lx.lex 65536 l).1.map _).length ≤ _
    rw [List.length_map]
    exact (lex_small 65536 l).1
  · intro t ht
    obtain ⟨u, _, rfl⟩ := List.mem_map.1 ht
    exact Nat.sub_le _ _
set_option maxHeartbeats 6400000 in
set_option maxRecDepth 100000 in
theorem lexParts_any (H : LexC) (a b : ByteArray) (w : World) :
    Calls Tryd.prog 6 #[.string a, .string b] w fun e w' => e = .returned (.bool true) ∧ Below w.heap.size w w' := by
  go_enter Tryd.func6, Tryd.ntmps6
  go_wp2_with fail
  refine (awake_any H _).mono ?_
  rintro e w1 ⟨rfl, hb1⟩
  by_cases h0 : (2000 : Int) < (a.size : Int)
  · go_wp2_with fail
    go_ret
    exact ⟨rfl, hb1⟩
  by_cases h00 : (2000 : Int) < (b.size : Int)
  · go_wp2_with fail
    go_ret
    exact ⟨rfl, hb1⟩
  obtain ⟨la, hla⟩ : ∃ l, a.data.toList = l := ⟨_, rfl⟩
  obtain ⟨lb, hlb⟩ : ∃ l, b.data.toList = l := ⟨_, rfl⟩
  have hsa : a.size = la.length := by rw [Lib.size_eq, hla]
  have hsb : b.size = lb.length := by rw [Lib.size_eq, hlb]
  have e1 := add_str (b := ⟨#[10]⟩) (m := [10]) hla rfl (by simp; omega)
  obtain ⟨Q1, hQ1⟩ : ∃ Q, str (la ++ [10]) = Q := ⟨_, rfl⟩
  rw [hQ1] at e1
  have e2 := add_str (a := Q1) (l := la ++ [10]) (by rw [← hQ1]; rfl) hlb (by simp; omega)
  have e3 : la ++ [10] ++ lb = la ++ 10 :: lb := by simp
  rw [e3] at e2
  obtain ⟨Q2, hQ2⟩ : ∃ Q, str (la ++ 10 :: lb) = Q := ⟨_, rfl⟩
  rw [hQ2] at e2
  have hQ2s : Q2.size ≤ 1000000 := by rw [← hQ2, str_len]; simp; omega
  have HQ2 : Hid (Q2.data.toList = la ++ 10 :: lb) := Lib.hid (by rw [← hQ2]; rfl)
  obtain ⟨⟨ta, xa, za⟩, ga⟩ : ∃ g, allT la = g := ⟨_, rfl⟩
  obtain ⟨⟨tb, xb, zb⟩, gb⟩ : ∃ g, allT lb = g := ⟨_, rfl⟩
  obtain ⟨⟨tc, xc, zc⟩, gc⟩ : ∃ g, allT (la ++ 10 :: lb) = g := ⟨_, rfl⟩
  obtain ⟨na1, na2, na3⟩ := allT_count la
  obtain ⟨nb1, nb2, nb3⟩ := allT_count lb
  rw [ga] at na1 na2 na3
  rw [gb] at nb1 nb2 nb3
  simp only at na1 na2 na3 nb1 nb2 nb3
  obtain ⟨qa, hqa⟩ : ∃ q, ta.length = q := ⟨_, rfl⟩
  obtain ⟨qb, hqb⟩ : ∃ q, tb.length = q := ⟨_, rfl⟩
  obtain ⟨qc, hqc⟩ : ∃ q, tc.length = q := ⟨_, rfl⟩
  have HGA := Lib.hid ga
  have HGB := Lib.hid gb
  have HGC := Lib.hid gc
  have HQA := Lib.hid hqa.symm
  have HQB := Lib.hid hqb.symm
  have HQC := Lib.hid hqc.symm
  have HLA := Lib.hid hla
  have HLB := Lib.hid hlb
  have hqa2 : qa ≤ 2000 := by omega
  have hqb2 : qb ≤ 2000 := by omega
  have hxb2 : xb ≤ 2000 := by omega
  have NB2 : Hid (∀ t ∈ tb, t.2.1 ≤ 2000) := Lib.hid (fun t ht => by have := nb2 t ht; omega)
  have HSA : Hid (a.size = la.length) := Lib.hid hsa
  have HL2 : Hid (la.length ≤ 2000 ∧ lb.length ≤ 2000) := Lib.hid (by omega)
  have ha1 : a.size ≤ 1000000 := by omega
  have hb11 : b.size ≤ 1000000 := by omega
  obtain ⟨na, hna⟩ : ∃ n, a.size = n := ⟨_, rfl⟩
  have hnaz : (a.size : Int) = (na : Int) := by omega
  have hna2 : na ≤ 2000 := by omega
  have HNA : Hid (na = la.length) := Lib.hid (by omega)
  clear hla hlb hsa hsb hQ1 hQ2 e3 ga gb gc na1 na2 na3 nb1 nb2 nb3 hqa hqb hqc hna
  go_wp2_with fail
  refine (H.all a la ta qa xa za ha1 HLA.out HGA.out HQA.out _).mono ?_
  rintro e w2 ⟨B2, d2, rfl, HR2, HC2, hw2⟩
  have hb2 := below_on hb1 hw2
  clear hw2 hb1
  go_wp2_with fail
  refine (H.all b lb tb qb xb zb hb11 HLB.out HGB.out HQB.out _).mono ?_
  rintro e w3 ⟨B3, d3, rfl, HR3, HC3, hw3⟩
  have hb3 := below_on hb2 hw3
  have HR2' := Lib.hid (HR2.out.on hw3)
  clear hw3 hb2 HR2
  go_wp2_with fail
  refine (H.all Q2 _ tc qc xc zc hQ2s HQ2.out HGC.out HQC.out _).mono ?_
  rintro e w4 ⟨B4, d4, rfl, HR4, HC4, hw4⟩
  have hb4 := below_on hb3 hw4
  have HR2 := Lib.hid (HR2'.out.on hw4)
  have HR3' := Lib.hid (HR3.out.on hw4)
  clear hw4 hb3 HR2' HR3
  by_cases hz : za = 0
  · subst hz
    have hline := allT_line HL2.out.1 HL2.out.2 HGA.out HGB.out
    rw [HGC.out] at hline
    simp only [Prod.mk.injEq] at hline
    obtain ⟨ht, hx, rfl⟩ := hline
    have HTC : Hid (ta ++ tb.map (further na) = tc) := Lib.hid (by rw [HNA.out]; exact ht.symm)
    have hxz : (xb : Int) + (na : Int) + 1 = (xc : Int) := by have := HNA.out; omega
    have hxx : ((xc : Int) == (xc : Int)) = true := by simp
    have hzz : (zc == zc) = true := by simp
    have hl1 : ([] : List Tk).length + ta.length ≤ 1000000 := by have := HQA.out; rw [List.length_nil]; omega
    have hqcb : qc = qa + qb := by rw [HQC.out, ← HTC.out, List.length_append, List.length_map]; have := HQA.out; have := HQB.out; omega
    clear ht hx
    go_wp2_with (at_builtin; refine wp_appt _ rfl _ _ rfl w4.heap.size _ [] ta rfl (ownT_made w4) B2 qa d2 HQA.out rfl (HR2.out.on (below_alloc w4 _)) hl1 (by simp) ?_; intro v5 w5 hown5 hb5)
    rw [List.nil_append] at hown5
    have hbA : Below w4.heap.size w4 w5 := (below_alloc w4 (.cells #[] 32)).trans hb5
    have HO5 := Lib.hid hown5
    clear hown5 hb5
    go_loopg [15, 16] qb (fun g s15 s16 wx => ∃ i : Nat, i + g = qb ∧ s16 = .int .i64 i ∧ Hid (OwnT wx w4.heap.size s15 (ta ++ (tb.take i).map (further na))) ∧ Below w4.heap.size w4 wx)
    case atStart => exact ⟨0, by omega, rfl, Lib.hid (by rw [List.take_zero, List.map_nil, List.append_nil]; exact HO5.out), hbA⟩
    case round =>
      obtain ⟨i, hi, rfl, HO, hwx⟩ := hrel
      have hil0 : (ta ++ (tb.take i).map (further na)).length = qa + i := by rw [List.length_append, List.length_map, List.length_take]; have := HQA.out; have := HQB.out; omega
      obtain ⟨X, cx, rfl, hcx⟩ := OwnT.slice HO.out
      rw [hil0] at hcx HO ⊢
      cases gk with
      | zero =>
        obtain rfl : i = qb := by omega
        have ht : ta ++ (tb.take i).map (further na) = tc := by rw [List.take_of_length_le (by have := HQB.out; omega)]; exact HTC.out
        have HO' := HO.out
        rw [ht] at HO'
        have hrt := OwnT.rt HO' (by have := HQC.out; omega) HR4.out.size
        rw [← hqcb]
        have HRT := Lib.hid hrt
        have hb6 := below_on hb4 hwx
        have HR6 := Lib.hid (HR4.out.on hwx)
        clear HO' hrt HO ht hcx hqcb hil0
        go_wp2_with fail
        refine (same_of X B4 cx d4 qc tc HQC.out _ HRT.out HR6.out).mono ?_
        rintro e w7 ⟨rfl, hw7⟩
        go_wp2_with fail
        go_ret
        exact ⟨rfl, below_on hb6 hw7⟩
      | succ g =>
        have hlt : i < qb := by omega
        have hltz : (i : Int) < (qb : Int) := by omega
        have hil : i < tb.length := by have := HQB.out; omega
        obtain ⟨bk, off, rfl, hbk0, c0', c1', c2'⟩ := HR3'.out.at_ hil
        have c0 := (hwx.cell (p := ⟨bk, off + i * 3, none⟩) hbk0).trans c0'
        have c1 := (hwx.cell (p := ⟨bk, off + i * 3 + 1, none⟩) hbk0).trans c1'
        have c2 := (hwx.cell (p := ⟨bk, off + i * 3 + 2, none⟩) hbk0).trans c2'
        have hbk : bk < wr.heap.size := by have := hwx.size; omega
        clear c0' c1' c2'
        obtain ⟨k, hk⟩ : ∃ k, tb[i].1 = k := ⟨_, rfl⟩
        obtain ⟨p, hp⟩ : ∃ k, tb[i].2.1 = k := ⟨_, rfl⟩
        obtain ⟨s, hs⟩ : ∃ k, tb[i].2.2 = k := ⟨_, rfl⟩
        have hss : s.size ≤ 9223372036854775807 := by rw [← hs]; exact HR3'.out.size _ (List.getElem_mem hil)
        have hp2 : p ≤ 2000 := by rw [← hp]; exact NB2.out _ (List.getElem_mem hil)
        obtain ⟨p', hp'⟩ : ∃ p', p + na + 1 = p' := ⟨_, rfl⟩
        obtain ⟨u, hu⟩ : ∃ u, p + na = u := ⟨_, rfl⟩
        have hw1 : IntKind.i64.wrap ((p : Int) + (na : Int)) = (u : Int) := by rw [IntWalk.i64_in _ (by omega)]; omega
        have hw2 : IntKind.i64.wrap ((u : Int) + 1) = (p' : Int) := by rw [IntWalk.i64_in _ (by omega)]; omega
        have HT : Hid (ta ++ (tb.take (i + 1)).map (further na) = (ta ++ (tb.take i).map (further na)) ++ [(k, p', s)]) := Lib.hid (by rw [List.take_succ_eq_append_getElem hil, List.map_append, ← hk, ← hs, ← hp', ← hp, List.append_assoc]; rfl)
        rw [hk] at c0
        rw [hp] at c1
        rw [hs] at c2
        clear hk hs hp hp' hu hqcb
        have e0 : wr.drew.cell? ⟨bk, off + i * 3, none⟩ = some (.int .i64 (k : Int)) := c0
        have e1 : wr.drew.cell? ⟨bk, off + i * 3 + 1, none⟩ = some (.int .i64 (p : Int)) := c1
        have e2 : wr.drew.cell? ⟨bk, off + i * 3 + 2, none⟩ = some (.string s) := c2
        have f0 : (wr.drew.alloc (.cells #[.int .i64 (k : Int), .int .i64 (p' : Int), .string s] 32)).cell? ⟨bk, off + i * 3, none⟩ = some (.int .i64 (k : Int)) := by rw [World.cell?_alloc_lt _ _ _ hbk]; exact c0
        have f1 : (wr.drew.alloc (.cells #[.int .i64 (k : Int), .int .i64 (p' : Int), .string s] 32)).cell? ⟨bk, off + i * 3 + 1, none⟩ = some (.int .i64 (p : Int)) := by rw [World.cell?_alloc_lt _ _ _ hbk]; exact c1
        have f2 : (wr.drew.alloc (.cells #[.int .i64 (k : Int), .int .i64 (p' : Int), .string s] 32)).cell? ⟨bk, off + i * 3 + 2, none⟩ = some (.string s) := by rw [World.cell?_alloc_lt _ _ _ hbk]; exact c2
        have h0 : (wr.alloc (.cells #[.int .i64 (k : Int), .int .i64 (p' : Int), .string s] 32)).drew.cell? ⟨bk, off + i * 3, none⟩ = some (.int .i64 (k : Int)) := f0
        have h1 : (wr.alloc (.cells #[.int .i64 (k : Int), .int .i64 (p' : Int), .string s] 32)).drew.cell? ⟨bk, off + i * 3 + 1, none⟩ = some (.int .i64 (p : Int)) := f1
        have h2 : (wr.alloc (.cells #[.int .i64 (k : Int), .int .i64 (p' : Int), .string s] 32)).drew.cell? ⟨bk, off + i * 3 + 2, none⟩ = some (.string s) := f2
        have HOw : Hid (OwnT (wr.drew.alloc (.cells #[.int .i64 (k : Int), .int .i64 (p' : Int), .string s] 32)) w4.heap.size (.slice X (qa + i) cx) (ta ++ (tb.take i).map (further na))) := Lib.hid (HO.out.below ((Below.refl _ _).drew.alloc (Nat.le_refl _) _))
        have HRn := Lib.hid (rt_new wr.drew k p' s hss)
        have hbs : w4.heap.size ≤ (wr.drew.alloc (.cells #[.int .i64 (k : Int), .int .i64 (p' : Int), .string s] 32)).heap.size := by
          have := hwx.size
          show _ ≤ (wr.heap.push _).size
          rw [Array.size_push]; omega
        have hbw2 : Below w4.heap.size w4 (wr.drew.alloc (.cells #[.int .i64 (k : Int), .int .i64 (p' : Int), .string s] 32)) := hwx.drew.alloc hwx.size _
        have hle : (ta ++ (tb.take i).map (further na)).length ≤ 1000000 := by omega
        go_wp2_with fail
        go_region_held_law (fun w' => w'.cell? ⟨bk, off + i * 3, none⟩ = some (.int .i64 (k : Int)) ∧ w'.cell? ⟨bk, off + i * 3 + 1, none⟩ = some (.int .i64 (p : Int)) ∧ w'.cell? ⟨bk, off + i * 3 + 2, none⟩ = some (.string s))
          (first
            | with_reducible exact ⟨e0, e1, e2⟩
            | with_reducible exact ⟨h0, h1, h2⟩
            | exact ⟨(hb7.cell (p := ⟨bk, off + i * 3, none⟩) hbk0).trans f0, (hb7.cell (p := ⟨bk, off + i * 3 + 1, none⟩) hbk0).trans f1, (hb7.cell (p := ⟨bk, off + i * 3 + 2, none⟩) hbk0).trans f2⟩)
          ((refine step_tok (by rfl) _ _ (by rfl) w4.heap.size _ (ta ++ (tb.take i).map (further na)) (k, p', s) (by rfl) HOw.out ⟨wr.heap.size, 0, none⟩ (by rfl) HRn.out hle hbs ?_; intro v7 w7 hown7 hb7))
        all_goals
          have HO7 : Hid (OwnT w7 w4.heap.size v7 (ta ++ (tb.take (i + 1)).map (further na))) := Lib.hid (HT.out ▸ hown7)
          have hb8 := hbw2.trans hb7
          clear hown7 hb7
          go_wp2_with fail
          go_roundg g
          case measure => omega
          case rel => exact ⟨i + 1, by omega, by simp, HO7, hb8⟩
  · have hz1 : (za == 0) = false := by simpa using hz
    have hz2 : (za != 0) = true := by simpa using hz
    clear hz
    go_wp2_with fail
    go_ret
    exact ⟨rfl, hb4⟩
end Go.Proofs.YtljccnboijdpfaaDoor

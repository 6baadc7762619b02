/-
  The walk of layer lex's law LexJoined: it answers true; how much there is.
-/
import Derived.Test.YtljccnboijdpfaaDoorLexLaw
namespace Go.Proofs.YtljccnboijdpfaaDoor
open Go.RowKit

theorem ch_sum : ∀ (ts : List Lx.Tok) (l e : Lx.T), Lx.Ch l ts e → (ts.map fun t => (Lx.txt t.1 t.2.2).length).sum + e.length ≤ l.length ∧ ts.length + e.length ≤ l.length
  | [], l, e, h => by
    obtain ⟨p, rfl⟩ := h
    simp
  | t :: r, l, e, h => by
    obtain ⟨p, u, rfl, _, hg, h⟩ := h
    have ih := ch_sum r u e h
    have hp := Lx.good_pos hg
    simp only [List.map_cons, List.sum_cons, List.length_append, List.length_cons]
    omega
theorem joinP_len : ∀ (L : List (Nat × Lx.T)), (Lx.joinP L).length ≤ (L.map fun p => (Lx.txt p.1 p.2).length).sum + L.length
  | [] => by simp [Lx.joinP]
  | [p] => by simp [Lx.joinP]
  | p :: q :: r => by
    have ih := joinP_len (q :: r)
    rw [Lx.joinP, List.length_append, List.length_cons]
    simp only [List.map_cons, List.sum_cons, List.length_cons] at ih ⊢
    omega
theorem lex_small (m : Nat) (l : Lx.T) : (Lx.lex m l).1.length ≤ l.length ∧ (Lx.joinP ((Lx.lex m l).1.map Lx.flat)).length ≤ 2 * l.length := by
  obtain ⟨h1, h2⟩ := ch_sum _ _ _ (Lx.lex_ch m l)
  have h3 := joinP_len ((Lx.lex m l).1.map Lx.flat)
  rw [List.map_map, List.length_map] at h3
  have e : (fun p : Nat × Lx.T => (Lx.txt p.1 p.2).length) ∘ Lx.flat = fun t : Lx.Tok => (Lx.txt t.1 t.2.2).length := rfl
  rw [e] at h3
  omega
theorem bare_place (n : Nat) (l : List Lx.Tok) : (l.map (place n)).map bare = (l.map Lx.flat).map fun p => (p.1, 0, str p.2) := by
  rw [List.map_map, List.map_map]; rfl
/-- All of what is joined. -/
theorem allT_join {L : List (Nat × Lx.T)} (h1 : L.length ≤ 65536) (h2 : ∀ p ∈ L, Lx.Good p.1 p.2) : ∃ ts, allT (Lx.joinP L) = (ts, (Lx.joinP L).length, 0) ∧ ts.map flatT = L ∧ ts.map bare = L.map fun p => (p.1, 0, str p.2) := by
  obtain ⟨a, b, c⟩ := Lx.lex_join h1 h2
  refine ⟨(Lx.lex 65536 (Lx.joinP L)).1.map (place (Lx.joinP L).length), ?_, ?_, ?_⟩
  · unfold allT
    rw [b, c]; rfl
  · rw [flat_place]; exact a
  · rw [bare_place, a]
theorem lex_goodP (m : Nat) (l : Lx.T) : ∀ p ∈ (Lx.lex m l).1.map Lx.flat, Lx.Good p.1 p.2 := by
  intro p hp
  obtain ⟨t, ht, rfl⟩ := List.mem_map.1 hp
  exact Lx.lex_good m l t ht
set_option maxHeartbeats 3200000 in
theorem lexJoined_any (H : LexC) (s : ByteArray) (hs : s.size ≤ 9223372036854775807) (w : World) :
    Calls Tryd.prog 3 #[.string s] w fun e w' => e = .returned (.bool true) ∧ Below w.heap.size w w' := by
  go_enter Tryd.func3, Tryd.ntmps3
  go_wp2_with fail
  refine (awake_any H _).mono ?_
  rintro e w1 ⟨rfl, hb1⟩
  by_cases h0 : (5000 : Int) < (s.size : Int)
  · go_wp2_with fail
    go_ret
    exact ⟨rfl, hb1⟩
  have hsl : s.data.toList.length = s.size := (Lib.size_eq s).symm
  obtain ⟨l, hl⟩ : ∃ l, s.data.toList = l := ⟨_, rfl⟩
  rw [hl] at hsl
  obtain ⟨hc1, hc2⟩ := lex_small 65536 l
  obtain ⟨⟨ts, x, z⟩, hall⟩ : ∃ g, allT l = g := ⟨_, rfl⟩
  obtain ⟨L, hL⟩ : ∃ L, (Lx.lex 65536 l).1.map Lx.flat = L := ⟨_, rfl⟩
  have hts : ts.map flatT = L := by rw [← hL, ← flat_place l.length]; unfold allT at hall; rw [Prod.mk.injEq] at hall; rw [← hall.1]
  have htb : ts.map bare = L.map fun p => (p.1, 0, str p.2) := by rw [← hL, ← bare_place l.length]; unfold allT at hall; rw [Prod.mk.injEq] at hall; rw [← hall.1]
  have hLl : L.length = (Lx.lex 65536 l).1.length := by rw [← hL, List.length_map]
  have htl : ts.length = L.length := by rw [← hts, List.length_map]
  obtain ⟨ts2, hj1, hj2, hj3⟩ := allT_join (L := L) (by omega) (by rw [← hL]; exact lex_goodP 65536 l)
  have ht2l : ts2.length = L.length := by rw [← hj2, List.length_map]
  rw [hL] at hc2
  obtain ⟨J, hJ⟩ : ∃ J, Lx.joinP L = J := ⟨_, rfl⟩
  rw [hJ] at hj1 hc2
  obtain ⟨S, hS⟩ : ∃ S, str J = S := ⟨_, rfl⟩
  have hSl : S.size = J.length := by rw [← hS, str_len]
  have HS1 : Hid (S.data.toList = J) := Lib.hid (by rw [← hS]; rfl)
  have HJ1 : Hid (S.data.toList = Lx.joinP (ts.map flatT)) := Lib.hid (by rw [hts, hJ]; exact HS1.out)
  have HJ2 : Hid (S.data.toList = Lx.joinP (ts2.map flatT)) := Lib.hid (by rw [hj2, hJ]; exact HS1.out)
  have HA1 := Lib.hid hall
  have HA2 : Hid (allT J = (ts2, S.size, 0)) := Lib.hid (by rw [hSl]; exact hj1)
  obtain ⟨q, hq⟩ : ∃ q, ts.length = q := ⟨_, rfl⟩
  have HQ := Lib.hid hq.symm
  have HQ2 : Hid (q = ts2.length) := Lib.hid (by omega)
  obtain ⟨M, hM⟩ : ∃ M, ts.map bare = M := ⟨_, rfl⟩
  have HM := Lib.hid hM
  have HM2 : Hid (ts2.map bare = M) := Lib.hid (by rw [← hM, htb, hj3])
  have HML : Hid (q = M.length) := Lib.hid (by rw [← hM, List.length_map]; omega)
  have HL := Lib.hid hl
  have hq5 : q ≤ 100000 := by omega
  have hs1 : s.size ≤ 1000000 := by omega
  have hS1 : S.size ≤ 1000000 := by omega
  have hzz : ((S.size : Int) == (S.size : Int)) = true := by simp
  have hSS : (S.toList == S.toList) = true := by simp
  clear hsl hc1 hc2 hall hL hts htb hLl htl hj1 hj2 hj3 ht2l hJ hS hSl hq hM hl
  go_wp2_with fail
  refine (H.all s l ts q x z hs1 HL.out HA1.out HQ.out _).mono ?_
  rintro e w2 ⟨B2, d2, rfl, HR2, HC2, hw2⟩
  have hb2 := below_on hb1 hw2
  clear hw2 hb1
  go_wp2_with fail
  refine (H.join B2 d2 q ts S HQ.out HC2.out hS1 HJ1.out _ HR2.out).mono ?_
  rintro e w3 ⟨rfl, hw3⟩
  have hb3 := below_on hb2 hw3
  have HR3 := Lib.hid (HR2.out.on hw3)
  clear hw3 hb2 HR2
  go_wp2_with fail
  refine (H.all S J ts2 q S.size 0 hS1 HS1.out HA2.out HQ2.out _).mono ?_
  rintro e w4 ⟨B4, d4, rfl, HR4, HC4, hw4⟩
  have hb4 := below_on hb3 hw4
  have HR3' := Lib.hid (HR3.out.on hw4)
  clear hw4 hb3 HR3
  go_wp2_with fail
  refine (plain_of B2 d2 q ts M HQ.out HM.out hq5 _ HR3'.out).mono ?_
  rintro e w5 ⟨B5, d5, rfl, HR5, _, hw5⟩
  have hb5 := below_on hb4 hw5
  have HR4' := Lib.hid (HR4.out.on hw5)
  clear hw5 hb4 HR4 HR3'
  go_wp2_with fail
  refine (plain_of B4 d4 q ts2 M HQ2.out HM2.out hq5 _ HR4'.out).mono ?_
  rintro e w6 ⟨B6, d6, rfl, HR6, _, hw6⟩
  have hb6 := below_on hb5 hw6
  have HR4 := Lib.hid (HR4'.out.on hw6)
  have HR5' := Lib.hid (HR5.out.on hw6)
  clear hw6 hb5 HR4' HR5
  go_wp2_with fail
  refine (same_of B5 B6 d5 d6 q M HML.out _ HR5'.out HR6.out).mono ?_
  rintro e w7 ⟨rfl, hw7⟩
  have hb7 := below_on hb6 hw7
  have HR4' := Lib.hid (HR4.out.on hw7)
  clear hw7 hb6 HR4 HR5' HR6
  go_wp2_with fail
  refine (H.join B4 d4 q ts2 S HQ2.out HC4.out hS1 HJ2.out _ HR4'.out).mono ?_
  rintro e w8 ⟨rfl, hw8⟩
  go_wp2_with fail
  go_ret
  exact ⟨rfl, below_on hb7 hw8⟩
end Go.Proofs.YtljccnboijdpfaaDoor

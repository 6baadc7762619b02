/-
  The walk of PutLabels of layer codec: what counts, how many, the pairs one behind the other.
-/
import Derived.Test.YtnieojdlmanckaaCodPut
import Derived.Test.YtnieojdlmanckaaCdSane
import Derived.Deep.DeepCutAuto
import Derived.Deep.RegionHeld
namespace Go.Proofs.Ytnieojdlmanckaa
open Go.RowKit Go.Proofs.Ytnieojdlmanckaa.Lp

theorem cell_of {w : World} {P : Nat} {C : Array Value} {e : TypeId} {fr : Nat × Nat} (h : w.heap[P]? = some (.cells C e fr)) (d : Nat) : w.cell? ⟨P, d, none⟩ = C[d]? := by simp [World.cell?, h]
set_option maxHeartbeats 3200000 in
theorem putL_of : PutLC := by
  intro A B n c q d l m ps k hn hl hc hq hqd hm hk w hr hrp
  have HN := Lib.hid hn
  have HM := Lib.hid hm
  have HK := Lib.hid hk
  have HS := Lib.hid hr.small
  have HQ := Lib.hid hq
  have HR := Lib.hid hr
  have HRp := Lib.hid hrp
  clear hn hm hk hc hq hqd hr hrp
  go_enter Try.func11, Try.ntmps11
  obtain ⟨b, hb⟩ : ∃ b, saneB ps = b := ⟨_, rfl⟩
  go_wp2_with fail
  refine (sane_of B d q ps HQ.out b hb w HRp.out).mono ?_
  rintro e w1 ⟨rfl, hw1⟩
  have HB := Lib.hid hb
  clear hb
  have HR1 := Lib.hid (HR.out.on hw1)
  have HRp1 := Lib.hid (HRp.out.on hw1)
  clear HRp HR
  go_upto_if 9 with fail
  go_cut [1] (fun s1 wx => ∃ (B' : Option Addr) (q' d' : Nat), s1 = .slice B' q' d' ∧ Hid (q' = (asL ps).length) ∧ Hid (Rd w1 w1.heap.size B' (asL ps)) ∧ wx = w1)
  case first =>
    cases b with
    | true =>
      go_wp2_with fail
      go_meet
      exact ⟨_, _, _, rfl, Lib.hid (by rw [asL_sane HB.out]; exact HQ.out), Lib.hid (by rw [asL_sane HB.out]; exact HRp1.out), rfl⟩
    | false =>
      go_wp2_with fail
      go_meet
      have e : asL ps = [] := by unfold asL; rw [if_neg (by rw [HB.out]; decide)]
      exact ⟨_, _, _, rfl, Lib.hid (by rw [e]; rfl), Lib.hid (by rw [e]; exact Rd.none_ _ _ _), rfl⟩
  case rest =>
    obtain ⟨B', q', d', rfl, HQ', HRp', rfl⟩ := hcut
    obtain ⟨L, hL⟩ : ∃ L, asL ps = L := ⟨_, rfl⟩
    have hsan : saneB L = true := hL ▸ asL_is ps
    have HM2 : Hid (l ++ Kc.encL L = m) := Lib.hid (by rw [← HM.out]; unfold Kc.putL; rw [hL])
    rw [hL] at HQ' HRp'
    have h16 := sane_len hsan
    have hq16 : q' ≤ 16 := by rw [HQ'.out]; exact h16
    have HMs : Hid (m.length ≤ 1002400 ∧ ∀ y ∈ m, y < 256) := Lib.hid (by
      rw [← HM2.out]
      have := (Kc.encL_len hsan).2
      refine ⟨by rw [List.length_append]; omega, fun y hy => ?_⟩
      rcases List.mem_append.1 hy with hy | hy
      · exact HS.out y hy
      · exact Kc.encL_small L y hy)
    have HSz := Lib.hid (Kc.sane_sizes hsan)
    clear h16 hL HB HRp1 HM
    go_wp2_with fail
    refine (clone_of A n c l HN.out (by omega) wc HR1.out).mono ?_
    rintro e w2 ⟨v2, rfl, HO2, hw2⟩
    have HRp2 := Lib.hid (HRp'.out.on hw2)
    have hb2 := below_on hw1 hw2
    obtain ⟨l1, h1⟩ : ∃ l1, l ++ Kc.enc q' = l1 := ⟨_, rfl⟩
    have HE : Hid (l1 ++ Kc.encPs (L.drop 0) = m) := Lib.hid (by rw [← h1, HQ'.out, List.drop_zero, ← HM2.out]; unfold Kc.encL; rw [List.append_assoc])
    have H1 := Lib.hid h1
    clear h1
    have hw1s := hw1.size
    have hw2s := hw2.size
    go_wp2_with fail
    refine (appU_of wc.heap.size v2 q' l l1 (by omega) H1.out (by omega) w2 HO2.out hw2s).mono ?_
    rintro e w3 ⟨v3, rfl, HO3, hw3, _⟩
    have HRp3 := Lib.hid (HRp'.out.below (hw2.trans hw3))
    have hb3 := hb2.trans (hw3.mono hw1s)
    have hw23 := hw2.trans hw3
    have hw3s := hw3.size
    go_wp2_with fail
    go_loopg [0, 6, 17] q' (fun g s0 _ s17 wx => ∃ (i : Nat) (o : List Nat), i + g = q' ∧ s17 = .int .i64 i ∧ Hid (o ++ Kc.encPs (L.drop i) = m) ∧ Hid (OwnB wx wc.heap.size s0 o) ∧ Below wc.heap.size wc wx)
    case atStart => exact ⟨0, l1, by omega, rfl, HE, HO3, hw23⟩
    case round =>
      obtain ⟨i, o, hi, rfl, HI, HOo, hwx⟩ := hrel
      cases gk with
      | zero =>
        obtain rfl : i = q' := by omega
        have e : o = m := by
          have := HI.out
          rw [List.drop_eq_nil_of_le (by rw [HQ'.out]; exact Nat.le_refl _)] at this
          rw [← this]; simp [Kc.encPs]
        go_wp2_with fail
        go_ret
        exact put_end HK.out (e ▸ HOo.out) (by have := HMs.out.1; omega) HMs.out.2 (below_on hw1 hwx)
      | succ g =>
        have hiq : i < q' := by omega
        have hiz : (i : Int) < (q' : Int) := by omega
        have hil : i < L.length := by rw [← HQ'.out]; exact hiq
        obtain ⟨bk, off, rfl, hbk, c0, c1⟩ := HRp'.out.pair hil
        have HSp := HSz.out _ (List.getElem_mem hil)
        have HI2 := HI.out
        rw [List.drop_eq_getElem_cons hil] at HI2
        obtain ⟨⟨N, V⟩, hp⟩ : ∃ p, L[i] = p := ⟨_, rfl⟩
        rw [hp] at c0 c1 HSp HI2
        have c0' := (hwx.cell hbk).trans c0
        have c1' := (hwx.cell hbk).trans c1
        obtain ⟨o1, h1⟩ : ∃ o1, o ++ Kc.encT (Kc.bs N) = o1 := ⟨_, rfl⟩
        obtain ⟨o2, h2⟩ : ∃ o2, o1 ++ Kc.encT (Kc.bs V) = o2 := ⟨_, rfl⟩
        have HI3 : Hid (o2 ++ Kc.encPs (L.drop (i + 1)) = m) := Lib.hid (by
          rw [← HI2, ← h2, ← h1]
          show _ = o ++ ((Kc.encT (Kc.bs N) ++ Kc.encT (Kc.bs V)) ++ Kc.encPs _)
          simp [List.append_assoc])
        have hlen : o2.length ≤ 1002400 := by
          have := congrArg List.length HI3.out
          rw [List.length_append] at this
          have := HMs.out.1
          omega
        have hlen1 : o1.length ≤ o2.length := by rw [← h2, List.length_append]; omega
        have hlen0 : o.length ≤ o1.length := by rw [← h1, List.length_append]; omega
        have H1' := Lib.hid h1
        have H2' := Lib.hid h2
        obtain ⟨hsN, hsV⟩ : N.size ≤ 64 ∧ V.size ≤ 64 := HSp
        clear h1 h2 HI2 c0 c1 hp
        go_upto_region 7 with fail
        obtain ⟨P, hP⟩ : ∃ P, wr.heap.size = P := ⟨_, rfl⟩
        obtain ⟨U, hU⟩ : ∃ U, wr.alloc (Obj.cells #[Value.string N, Value.string V] 44) = U := ⟨_, rfl⟩
        have hUP : U.heap[P]? = some (.cells #[Value.string N, Value.string V] 44 (0, 0)) := by rw [← hU, ← hP]; exact heap_alloc_new wr _
        have HOU : Hid (OwnB U.drew wc.heap.size u0 o) := Lib.hid (by rw [← hU]; exact OwnB.alloc HOo.out _)
        have hbU : Below wc.heap.size wc U := by rw [← hU]; exact hwx.alloc hwx.size _
        have hszU : wc.heap.size ≤ U.drew.heap.size := hbU.size
        have hUPd : U.drew.heap[P]? = some (.cells #[Value.string N, Value.string V] 44 (0, 0)) := hUP
        have d0 : U.drew.cell? ⟨P, 0, none⟩ = some (.string N) := cell_of hUPd 0
        have d1 : U.drew.cell? ⟨P, 1, none⟩ = some (.string V) := cell_of hUPd 1
        rw [hU, hP]
        have HUP := Lib.hid hUPd
        have hsN' : N.size ≤ 65536 := by omega
        have hsV' : V.size ≤ 65536 := by omega
        have ho : o.length ≤ 4000000 := by omega
        have ho1 : o1.length ≤ 4000000 := by omega
        clear hUP hUPd hU hP
        first | ((go_region_held (fun W => W.cell? ⟨P, 0, none⟩ = some (.string N) ∧ W.cell? ⟨P, 1, none⟩ = some (.string V))
            (first
              | with_reducible exact ⟨d0, d1⟩
              | with_reducible exact ⟨e0, e1⟩
              | with_reducible exact ⟨f0, f1⟩)
            (first
              | (go_at_call 24; have h := hkN; refine (appT_of wc.heap.size _ V o1 o2 hsV' H2'.out ho1 _ HO4.out (by have := hb4.size; omega)).mono ?_; rintro e w5 ⟨v5, rfl, HO5, hb5, hk5⟩; have f0 := ((hkN.out.trans hk5.out).cell (d := 0) HUP.out (by decide)).trans d0; have f1 := ((hkN.out.trans hk5.out).cell (d := 1) HUP.out (by decide)).trans d1)
              | (go_at_call 24; refine (appT_of wc.heap.size _ N o o1 hsN' H1'.out ho _ HOU.out hszU).mono ?_; rintro e w4 ⟨v4, rfl, HO4, hb4, hkN⟩; have e0 := (hkN.out.cell (d := 0) HUP.out (by decide)).trans d0; have e1 := (hkN.out.cell (d := 1) HUP.out (by decide)).trans d1)))) | fail
        have hbU2 : Below wc.heap.size wc U.drew := hbU.drew
        go_wp2_with fail
        go_roundg g
        case measure => omega
        case rel => exact ⟨i + 1, o2, by omega, by simp, HI3, HO5, hbU2.trans (hb4.trans hb5)⟩
end Go.Proofs.Ytnieojdlmanckaa

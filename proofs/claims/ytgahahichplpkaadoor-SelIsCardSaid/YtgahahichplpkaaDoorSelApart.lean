/-
  The walk of SelApart: unlike selectors have unlike texts; without matches the text is the name.
-/
import Derived.Test.YtgahahichplpkaaDoorSelParsed
import Derived.Deep.RegionHeld
import Derived.Deep.DeepCutAuto
namespace Go.Proofs.YtgahahichplpkaaDoor
open Go.RowKit Go.Proofs.YtgahahichplpkaaDoor.Lp
open Go.Proofs.YtgahahichplpkaaDoor.Sl (Mt Sel Tf)

theorem sane_name {N : ByteArray} {l : List Mt} (h : Sl.saneS (N, l) = true) : Sl.saneS (N, []) = true := by
  unfold Sl.saneS at h ⊢
  simp only [Bool.and_eq_true] at h
  simp [h.1.1]
theorem print_name {N : ByteArray} {l : List Mt} (h : Sl.saneS (N, l) = true) : Sl.prS (N, []) = N.data.toList := by
  unfold Sl.prS
  rw [if_pos (sane_name h)]
  simp
set_option maxHeartbeats 6400000 in
theorem selApart_any (H : SelC) (N M : ByteArray) (A B : Option Addr) (c d n k : Nat) (l m : List Mt) (w : World) (hNs : N.size ≤ 9223372036854775807) (hMs : M.size ≤ 9223372036854775807) (hn : n = l.length) (hr : Rq w w.heap.size A l) (hnc : n ≤ c ∧ c ≤ 9223372036854775807) (hk : k = m.length) (hs : Rq w w.heap.size B m) (hkd : k ≤ d ∧ d ≤ 9223372036854775807) :
    Calls Tryd.prog 7 #[sv N A n c, sv M B k d] w fun e w' => e = .returned (.bool true) ∧ Below w.heap.size w w' := by
  have HN := Lib.hid hn
  have HK := Lib.hid hk
  have HNC := Lib.hid hnc
  have HKD := Lib.hid hkd
  have HR := Lib.hid hr
  have HS := Lib.hid hs
  clear hn hk hnc hkd hr hs
  obtain ⟨b1, hb1⟩ : ∃ b, Sl.saneS (N, l) = b := ⟨_, rfl⟩
  obtain ⟨b2, hb2⟩ : ∃ b, Sl.saneS (M, m) = b := ⟨_, rfl⟩
  have H1 := Lib.hid hb1
  have H2 := Lib.hid hb2
  clear hb1 hb2
  go_enter Tryd.func7, Tryd.ntmps7
  obtain ⟨W, P, hW, hP, hb0, g0, g1, f0, f1, hQW⟩ := box_two w N M A B n c k d
  have HB0 : Hid (Below w.heap.size w W) := Lib.hid (hP ▸ hb0)
  have X1 : Hid (Bx W P N A n c) := Lib.hid ⟨g0, g1, by omega⟩
  have X2 : Hid (Bx W (P + 1) M B k d) := Lib.hid ⟨f0, f1, hQW⟩
  have HRW := Lib.hid (HR.out.on HB0.out)
  have HSW := Lib.hid (HS.out.on HB0.out)
  clear g0 g1 f0 f1 hQW hb0 HR HS
  go_wp2_with fail
  refine (awake_any H W).mono ?_
  rintro e w1 ⟨rfl, hw1⟩
  obtain ⟨c0, c1, _⟩ := X1.out.on hw1
  obtain ⟨f0, f1, _⟩ := X2.out.on hw1
  go_wp2_with fail
  refine (fewS_of N A c n l HN.out w1 (HRW.out.on hw1)).mono ?_
  rintro e w2 ⟨q1, rfl, HQ1, hw2⟩
  have hV2 : Below W.heap.size W w2 := below_on hw1 hw2
  clear c0 c1 f0 f1 hw1 hw2 HQ1
  obtain ⟨c0, c1, _⟩ := X1.out.on hV2
  obtain ⟨f0, f1, _⟩ := X2.out.on hV2
  cases q1 with
  | false =>
    go_wp2_with fail
    go_ret
    exact ⟨rfl, below_on HB0.out hV2⟩
  | true =>
    go_wp2_with fail
    refine (fewS_of M B d k m HK.out w2 (HSW.out.on hV2)).mono ?_
    rintro e w3 ⟨q2, rfl, HQ2, hw3⟩
    have hV3 := below_on hV2 hw3
    clear c0 c1 f0 f1 hV2 hw3 HQ2
    obtain ⟨c0, c1, _⟩ := X1.out.on hV3
    obtain ⟨f0, f1, _⟩ := X2.out.on hV3
    cases q2 with
    | false =>
      go_wp2_with fail
      go_ret
      exact ⟨rfl, below_on HB0.out hV3⟩
    | true =>
      go_wp2_with fail
      refine (H.sane N A n c l b1 hNs HN.out HNC.out H1.out w3 (HRW.out.on hV3)).mono ?_
      rintro e w4 ⟨rfl, hw4⟩
      have hV4 := below_on hV3 hw4
      clear c0 c1 f0 f1 hV3 hw4
      obtain ⟨c0, c1, _⟩ := X1.out.on hV4
      obtain ⟨f0, f1, _⟩ := X2.out.on hV4
      cases b1 with
      | false =>
        go_wp2_with fail
        go_ret
        exact ⟨rfl, below_on HB0.out hV4⟩
      | true =>
        go_wp2_with fail
        refine (H.sane M B k d m b2 hMs HK.out HKD.out H2.out w4 (HSW.out.on hV4)).mono ?_
        rintro e w5 ⟨rfl, hw5⟩
        have hV5 := below_on hV4 hw5
        clear c0 c1 f0 f1 hV4 hw5
        obtain ⟨c0, c1, _⟩ := X1.out.on hV5
        obtain ⟨f0, f1, _⟩ := X2.out.on hV5
        cases b2 with
        | false =>
          go_wp2_with fail
          go_ret
          exact ⟨rfl, below_on HB0.out hV5⟩
        | true =>
          obtain ⟨S, hS⟩ : ∃ S : ByteArray, S.data.toList = Sl.prS (N, l) := ⟨str (Sl.prS (N, l)), rfl⟩
          obtain ⟨T, hT⟩ : ∃ S : ByteArray, S.data.toList = Sl.prS (M, m) := ⟨str (Sl.prS (M, m)), rfl⟩
          obtain ⟨b, hb⟩ : ∃ b, decide ((N, l) = (M, m)) = b := ⟨_, rfl⟩
          have hSTb : (S.toList == T.toList) = b := by
            rw [Lp.beq_tl, ← hb]
            congr 1
            rw [eq_iff_iff, ← Sl.print_apart H1.out H2.out, ← hS, ← hT]
            exact ⟨fun h => by rw [h], fun h => Lp.ext (by rw [Lp.tl, Lp.tl, h])⟩
          have hnm : N.data.toList = Sl.prS (N, []) := (print_name H1.out).symm
          have K1 : Hid (∀ V, Below W.heap.size W V → Calls Tryd.prog 16 #[sv N A n c] V fun e w' => e = .returned (.string S) ∧ Below V.heap.size V w') := Lib.hid (fun V h => H.print N A n c l S hNs HN.out HNC.out hS V (HRW.out.on h))
          have K2 : Hid (∀ V, Below W.heap.size W V → Calls Tryd.prog 16 #[sv M B k d] V fun e w' => e = .returned (.string T) ∧ Below V.heap.size V w') := Lib.hid (fun V h => H.print M B k d m T hMs HK.out HKD.out hT V (HSW.out.on h))
          have K3 : Hid (∀ V, Below W.heap.size W V → Calls Tryd.prog 18 #[sv N A n c, sv M B k d] V fun e w' => e = .returned (.bool b) ∧ Below V.heap.size V w') := Lib.hid (fun V h => sameS_of N M A B c d n k l m HN.out HK.out b hb V (HRW.out.on h) (HSW.out.on h))
          have K4 : Hid (∀ V, Below W.heap.size W V → Calls Tryd.prog 16 #[sv N none 0 0] V fun e w' => e = .returned (.string N) ∧ Below V.heap.size V w') := Lib.hid (fun V h => H.print N none 0 0 [] N hNs rfl (by decide) hnm V (Rq.none_ _ _ _))
          have Y1 := Lib.hid (fun (V : World) (h : Below W.heap.size W V) => (X1.out.on h).c0)
          have Y2 := Lib.hid (fun (V : World) (h : Below W.heap.size W V) => (X1.out.on h).c1)
          have Y3 := Lib.hid (fun (V : World) (h : Below W.heap.size W V) => (X2.out.on h).c0)
          have Y4 := Lib.hid (fun (V : World) (h : Below W.heap.size W V) => (X2.out.on h).c1)
          have hcur : Below W.heap.size W w5.drew := hV5.drew
          have hbb : (b == b) = true := by simp
          clear c0 c1 f0 f1 hS hT hb hnm X1 X2
          go_upto_region 4 with fail
          first | (go_region_held (fun V => V.cell? ⟨P, 0, none⟩ = some (.string N) ∧ V.cell? ⟨P, 1, none⟩ = some (.slice A n c) ∧ V.cell? ⟨P + 1, 0, none⟩ = some (.string M) ∧ V.cell? ⟨P + 1, 1, none⟩ = some (.slice B k d))
            (first | exact ⟨Y1.out _ hcur, Y2.out _ hcur, Y3.out _ hcur, Y4.out _ hcur⟩)
            (first
              | (go_at_call 16; with_reducible refine (K1.out _ hcur).mono ?_; rintro e w' ⟨rfl, hw'⟩; replace hcur := below_on hcur hw')
              | (go_at_call 16; with_reducible refine (K2.out _ hcur).mono ?_; rintro e w' ⟨rfl, hw'⟩; replace hcur := below_on hcur hw')
              | (go_at_call 16; with_reducible refine (K4.out _ hcur).mono ?_; rintro e w' ⟨rfl, hw'⟩; replace hcur := below_on hcur hw')
              | (go_at_call 18; with_reducible refine (K3.out _ hcur).mono ?_; rintro e w' ⟨rfl, hw'⟩; replace hcur := below_on hcur hw'))) | fail
          all_goals
            go_wp2_with fail
            go_ret
            exact ⟨rfl, below_on HB0.out hcur⟩
end Go.Proofs.YtgahahichplpkaaDoor

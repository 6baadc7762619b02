/-
  The document's within and Parse of layer cond.
-/
import Derived.Test.YtkoeggjfdcpokaaGreatDoorCondRefN
namespace Go.Proofs.YtkoeggjfdcpokaaGreatDoor
open Go.RowKit
open Go.Proofs.YtkoeggjfdcpokaaGreatDoor.Sl (Mt Sel Tf)

def withinI (f : Nat) (l : List Tf) (i : Int) : Cd.Rx := if i < 0 then (Cd.noX, 0, 3) else Cd.within f l i.toNat
theorem within_plain {f : Nat} {l : List Tf} {i : Int} (h : wantI l i 4 (Sl.sg [40]) ≠ 0) : withinI f l i = plainI l i := by
  unfold withinI plainI
  by_cases hi : i < 0
  · rw [if_pos hi, if_pos hi]
  · rw [if_neg hi, if_neg hi]
    unfold wantI at h
    rw [if_neg hi] at h
    cases f with
    | zero => unfold Cd.within; rw [if_pos h]
    | succ f => unfold Cd.within; rw [if_pos h]
theorem want_nat {l : List Tf} {i : Int} {s : ByteArray} (h : wantI l i 4 s = 0) : ∃ j : Nat, i = j ∧ Sl.want l j 4 s = 0 ∧ j < l.length := by
  unfold wantI at h
  by_cases hi : i < 0
  · rw [if_pos hi] at h; exact absurd h (by decide)
  · rw [if_neg hi] at h
    exact ⟨i.toNat, by omega, h, Sl.want_lt (by rw [h]; decide)⟩
set_option maxHeartbeats 12800000 in
set_option maxRecDepth 100000 in
theorem rwithin_of (B : Option Addr) (d q : Nat) (ts : List Tz) (hq : q = ts.length) (hq2 : q ≤ 1500) (hts : ∀ t ∈ ts, t.2.2.size ≤ 1048576) : ∀ (f : Nat), f ≤ 32 → ∀ (i : Int) (M : ByteArray) (m : List Mt) (o v : Int) (k x : Nat) (z : Int), -9223372036854775808 ≤ i → i ≤ 9223372036854775807 → withinI f (ts.map flatK) i = (((M, m), o, v), x, z) → k = m.length → ∀ w : World, Rz w w.heap.size B ts →
    Calls Tryz.prog 25 #[.slice B q d, .int .i64 i, .int .i64 ((32 : Int) - (f : Int))] w fun e w' => ∃ A c, e = .returned (.tuple #[xv M A k c o v, .int .i64 (x : Int), .int .i64 z]) ∧ Hid (Rq w' w'.heap.size A m) ∧ Hid (Cap k c) ∧ Below w.heap.size w w'
  | f, hf, i, M, m, o, v, k, x, z, hi1, hi2, hm, hk, w, hr => by
    have hlen : q ≤ 9223372036854775807 := by omega
    have HQ := Lib.hid hq
    have HM := Lib.hid hm
    have HK := Lib.hid hk
    obtain ⟨R, hRe⟩ : ∃ R, w.heap.size = R := ⟨_, rfl⟩
    obtain ⟨W, hW⟩ : ∃ W, w.alloc (.cells #[.string ⟨#[]⟩, .slice none 0 0, .int .i64 0, .int .i64 0] 26) = W := ⟨_, rfl⟩
    have hb0 : Below w.heap.size w W := by rw [← hW]; exact below_alloc w _
    have hz0 : Xz W R := by rw [← hW, ← hRe]; exact cx_new w _
    have hrW := hr.on hb0
    have hbR : Below R w W := by rw [← hRe]; exact hb0
    have KW := Lib.hid (fun (X : World) (h : Below W.heap.size W X) => hbR.trans (h.mono (Nat.le_of_lt hz0.lt)))
    have KZ := Lib.hid (fun (X : World) (h : Below W.heap.size W X) => hz0.on h)
    have KR := Lib.hid (fun (X : World) (h : Below W.heap.size W X) => hrW.on h)
    have CF : Hid (∀ (X : World) (_ : Below W.heap.size W X), X.cell? ⟨R, 0, none⟩ = some (.string ⟨#[]⟩) ∧ X.cell? ⟨R, 1, none⟩ = some (.slice none 0 0) ∧ X.cell? ⟨R, 2, none⟩ = some (.int .i64 0) ∧ X.cell? ⟨R, 3, none⟩ = some (.int .i64 0) ∧ X.frozen? ⟨R, 0, none⟩ = false ∧ X.frozen? ⟨R, 1, none⟩ = false ∧ X.frozen? ⟨R, 2, none⟩ = false ∧ X.frozen? ⟨R, 3, none⟩ = false) := Lib.hid (fun X h => by
      have z := hz0.on h
      exact ⟨cx_cell z 0, cx_cell z 1, cx_cell z 2, cx_cell z 3, cx_frozen z 0, cx_frozen z 1, cx_frozen z 2, cx_frozen z 3⟩)
    have REC : Hid (∀ (g : Nat), f = g + 1 → ∀ (i : Int) (M : ByteArray) (m : List Mt) (o v : Int) (k x : Nat) (z : Int), -9223372036854775808 ≤ i → i ≤ 9223372036854775807 → withinI g (ts.map flatK) i = (((M, m), o, v), x, z) → k = m.length → ∀ w : World, Rz w w.heap.size B ts →
        Calls Tryz.prog 25 #[.slice B q d, .int .i64 i, .int .i64 ((32 : Int) - (g : Int))] w fun e w' => ∃ A c, e = .returned (.tuple #[xv M A k c o v, .int .i64 (x : Int), .int .i64 z]) ∧ Hid (Rq w' w'.heap.size A m) ∧ Hid (Cap k c) ∧ Below w.heap.size w w') :=
      Lib.hid (fun g hg => by subst hg; exact rwithin_of B d q ts hq hq2 hts g (by omega))
    have HTS := Lib.hid hts
    obtain ⟨e0, he0⟩ : ∃ e, wantI (ts.map flatK) i 4 (Sl.sg [40]) = e := ⟨_, rfl⟩
    have HE0 := Lib.hid he0
    clear hq hm hk hr hb0 hz0 hrW hbR hts he0
    obtain ⟨D, hD⟩ : ∃ D : Int, (32 : Int) - (f : Int) = D := ⟨_, rfl⟩
    rw [hRe, hD]
    go_enter Tryz.func25, Tryz.ntmps25
    go_wp2_with fail
    try rw [hW]
    refine (want_of B d q ts i 4 (Sl.sg [40]) e0 HQ.out HE0.out W (KR.out W (Below.refl _ _))).mono ?_
    rintro e w1 ⟨rfl, hw1⟩
    by_cases h0 : e0 = 0
    · subst h0
      obtain ⟨j, rfl, hj, hjl⟩ := want_nat HE0.out
      rw [List.length_map] at hjl
      have hjq : j < q := by rw [HQ.out]; exact hjl
      cases f with
      | zero =>
        have hDb : (D == 32) = true := by rw [← hD]; rfl
        have hm := HM.out
        unfold withinI at hm
        rw [if_neg (by omega), Int.toNat_natCast] at hm
        unfold Cd.within at hm
        rw [if_neg (by rw [hj]; decide)] at hm
        simp only [Cd.noX, Sl.none_, Prod.mk.injEq] at hm
        obtain ⟨⟨⟨rfl, rfl⟩, rfl, rfl⟩, rfl, rfl⟩ := hm
        obtain rfl : k = 0 := HK.out
        obtain ⟨r0, r1, r2, r3, s0, s1, s2, s3⟩ := CF.out w1 hw1
        clear hD
        go_wp2_with fail
        exact x_end rfl (KW.out _ hw1) (KZ.out _ hw1) ⟨#[]⟩ none 0 0 0 0 (Rq.none_ _ _ _) cap00 _ _ _ rfl rfl rfl rfl
      | succ g =>
        have hDb : (D == 32) = false := by rw [beq_eq_false_iff_ne]; omega
        obtain ⟨E, hE⟩ : ∃ E : Int, (32 : Int) - (g : Int) = E := ⟨_, rfl⟩
        have hDE : D + 1 = E := by omega
        have hEw : IntKind.i64.wrap E = E := IntWalk.i64_in _ (by omega)
        have hjw : IntKind.i64.wrap ((j : Int) + 1) = (j : Int) + 1 := IntWalk.i64_in _ (by omega)
        have REC2 := REC.out g rfl
        rw [hE] at REC2
        have HREC := Lib.hid REC2
        rcases hin : Cd.within g (ts.map flatK) (j + 1) with ⟨⟨⟨M1, m1⟩, o1, v1⟩, x1, z1⟩
        have hinI : withinI g (ts.map flatK) ((j : Int) + 1) = (((M1, m1), o1, v1), x1, z1) := by
          unfold withinI
          rw [if_neg (by omega), show ((j : Int) + 1).toNat = j + 1 by omega]
          exact hin
        have HIN := Lib.hid hinI
        have HOK := Lib.hid (Cd.within_ok g (ts.map flatK) (j + 1))
        have hm := HM.out
        unfold withinI at hm
        rw [if_neg (by omega), Int.toNat_natCast] at hm
        unfold Cd.within at hm
        rw [if_neg (by rw [hj]; decide), hin] at hm
        rw [hin] at HOK
        have HM2 := Lib.hid hm
        obtain ⟨k1, hk1⟩ : ∃ k1, k1 = m1.length := ⟨_, rfl⟩
        have HK1 := Lib.hid hk1
        clear hD hE hm hin hinI hk1 REC2 REC HM
        go_wp2_with fail
        refine (HREC.out ((j : Int) + 1) M1 m1 o1 v1 k1 x1 z1 (by omega) (by omega) HIN.out HK1.out w1 (KR.out w1 hw1)).mono ?_
        rintro e w2 ⟨A2, c2, rfl, HN2, HC2, hw2⟩
        have hb2 := below_on hw1 hw2
        obtain ⟨V, hV⟩ : ∃ V, w2.alloc (.cells #[.string M1, .slice A2 k1 c2, .int .i64 o1, .int .i64 v1] 26) = V := ⟨_, rfl⟩
        obtain ⟨Q0, hQ0⟩ : ∃ Q0, w2.heap.size = Q0 := ⟨_, rfl⟩
        have hbV2 : Below w2.heap.size w2 V := by rw [← hV]; exact below_alloc w2 _
        have hbV : Below W.heap.size W V := below_on hb2 hbV2
        have hVs : V.heap[Q0]? = some (.cells #[.string M1, .slice A2 k1 c2, .int .i64 o1, .int .i64 v1] 26 (0, 0)) := by rw [← hV, ← hQ0]; exact cx_new w2 _
        have HNV := Lib.hid (HN2.out.on hbV2)
        by_cases hz1 : z1 = 0
        · subst hz1
          have hok := HOK.out rfl
          have hx1 : x1 ≤ 1500 := by
            have h := hok.2.2
            rw [List.length_map] at h
            have := HQ.out
            have h : x1 ≤ ts.length := h
            omega
          have hm := HM2.out
          rw [if_neg (by simp)] at hm
          obtain ⟨e1, he1⟩ : ∃ z, Sl.want (ts.map flatK) x1 4 (Sl.sg [41]) = z := ⟨_, rfl⟩
          have HE1 : Hid (wantI (ts.map flatK) (x1 : Int) 4 (Sl.sg [41]) = e1) := Lib.hid (by rw [wantI_at]; exact he1)
          simp only [he1] at hm
          have HM3 := Lib.hid hm
          have hxw : IntKind.i64.wrap ((x1 : Int) + 1) = (x1 : Int) + 1 := IntWalk.i64_in _ (by omega)
          clear hm he1 HM2 HOK hok
          go_wp2_with fail
          refine (want_of B d q ts (x1 : Int) 4 (Sl.sg [41]) e1 HQ.out HE1.out V (KR.out V hbV)).mono ?_
          rintro e w3 ⟨rfl, hw3⟩
          have hb3 := below_on hbV hw3
          have hs3 := (hw3.block Q0 (Array.getElem?_eq_some_iff.1 hVs).1).trans hVs
          by_cases h1 : e1 = 0
          · subst h1
            have hm := HM3.out
            rw [if_neg (by simp)] at hm
            simp only [Prod.mk.injEq] at hm
            obtain ⟨⟨⟨rfl, rfl⟩, rfl, rfl⟩, rfl, rfl⟩ := hm
            obtain rfl : k = k1 := by rw [HK.out, HK1.out]
            have q0 := cx_cell hs3 0
            have q1 := cx_cell hs3 1
            have q2 := cx_cell hs3 2
            have q3 := cx_cell hs3 3
            obtain ⟨r0, r1, r2, r3, s0, s1, s2, s3⟩ := CF.out w3 hb3
            go_wp2_with fail
            exact x_end rfl (KW.out _ hb3) (KZ.out _ hb3) M1 A2 k c2 o1 v1 (HNV.out.on hw3) HC2.out _ _ _ rfl rfl rfl rfl
          · have h1b : (e1 != 0) = true := by simpa using h1
            have hm := HM3.out
            rw [if_pos h1] at hm
            simp only [Cd.noX, Sl.none_, Prod.mk.injEq] at hm
            obtain ⟨⟨⟨rfl, rfl⟩, rfl, rfl⟩, hx, rfl⟩ := hm
            obtain rfl : k = 0 := HK.out
            have HX : Hid ((if (x1 : Int) < 0 then 0 else min ((x1 : Int)).toNat q) = x) := Lib.hid (by
              rw [if_neg (by omega), Int.toNat_natCast, HQ.out]; rw [List.length_map] at hx; exact hx)
            clear hx HM3
            go_wp2_with fail
            refine (place_of B d q (x1 : Int) x hlen HX.out w3).mono ?_
            rintro e w4 ⟨rfl, hw4⟩
            have hb4 := below_on hb3 hw4
            obtain ⟨r0, r1, r2, r3, s0, s1, s2, s3⟩ := CF.out w4 hb4
            go_wp2_with fail
            exact x_end rfl (KW.out _ hb4) (KZ.out _ hb4) ⟨#[]⟩ none 0 0 0 0 (Rq.none_ _ _ _) cap00 _ _ _ rfl rfl rfl rfl
        · have hzb : (z1 != 0) = true := by simpa using hz1
          have hm := HM2.out
          rw [if_pos hz1] at hm
          simp only [Cd.noX, Sl.none_, Prod.mk.injEq] at hm
          obtain ⟨⟨⟨rfl, rfl⟩, rfl, rfl⟩, rfl, rfl⟩ := hm
          obtain rfl : k = 0 := HK.out
          obtain ⟨r0, r1, r2, r3, s0, s1, s2, s3⟩ := CF.out V hbV
          go_wp2_with fail
          exact x_end rfl (KW.out _ hbV) (KZ.out _ hbV) ⟨#[]⟩ none 0 0 0 0 (Rq.none_ _ _ _) cap00 _ _ _ rfl rfl rfl rfl
    · have h0b : (e0 != 0) = true := by simpa using h0
      have hm := HM.out
      rw [within_plain (by rw [HE0.out]; exact h0)] at hm
      have HM2 := Lib.hid hm
      clear hm
      go_wp2_with fail
      refine (rplain_of B d q ts i M m o v k x z HQ.out hq2 HTS.out hi1 hi2 HM2.out HK.out w1 (KR.out w1 hw1)).mono ?_
      rintro e w2 ⟨A2, c2, rfl, HN2, HC2, hw2⟩
      have hb2 := below_on hw1 hw2
      obtain ⟨r0, r1, r2, r3, s0, s1, s2, s3⟩ := CF.out w2 hb2
      go_wp2_with fail
      exact x_end rfl (KW.out _ hb2) (KZ.out _ hb2) M A2 k c2 o v HN2.out HC2.out _ _ _ rfl rfl rfl rfl
theorem rparseX_of (B : Option Addr) (d q : Nat) (ts : List Tz) (i : Int) (M : ByteArray) (m : List Mt) (o v : Int) (k x : Nat) (z : Int) (hq : q = ts.length) (hq2 : q ≤ 1500) (hts : ∀ t ∈ ts, t.2.2.size ≤ 1048576) (hi1 : -9223372036854775808 ≤ i) (hi2 : i ≤ 9223372036854775807) (hm : Cd.parse (ts.map flatK) i = (((M, m), o, v), x, z)) (hk : k = m.length) (w : World) (hr : Rz w w.heap.size B ts) :
    Calls Tryz.prog 12 #[.slice B q d, .int .i64 i] w fun e w' => ∃ A c, e = .returned (.tuple #[xv M A k c o v, .int .i64 (x : Int), .int .i64 z]) ∧ Hid (Rq w' w'.heap.size A m) ∧ Hid (Cap k c) ∧ Below w.heap.size w w' := by
  have h := rwithin_of B d q ts hq hq2 hts 32 (Nat.le_refl _) i M m o v k x z hi1 hi2 hm hk
  have e32 : (32 : Int) - ((32 : Nat) : Int) = 0 := rfl
  rw [e32] at h
  have HR := Lib.hid hr
  have H := Lib.hid h
  clear hm hk hr h hq hts
  obtain ⟨R, hRe⟩ : ∃ R, w.heap.size = R := ⟨_, rfl⟩
  obtain ⟨W, hW⟩ : ∃ W, w.alloc (.cells #[.string ⟨#[]⟩, .slice none 0 0, .int .i64 0, .int .i64 0] 26) = W := ⟨_, rfl⟩
  have hb0 : Below w.heap.size w W := by rw [← hW]; exact below_alloc w _
  have hz0 : Xz W R := by rw [← hW, ← hRe]; exact cx_new w _
  have hbR : Below R w W := by rw [← hRe]; exact hb0
  have HRW := Lib.hid (HR.out.on hb0)
  rw [hRe]
  go_enter Tryz.func12, Tryz.ntmps12
  go_wp2_with fail
  try rw [hW]
  refine (H.out W HRW.out).mono ?_
  rintro e w2 ⟨A2, c2, rfl, HN2, HC2, hw2⟩
  have zz := hz0.on hw2
  have r0 := cx_cell zz 0
  have r1 := cx_cell zz 1
  have r2 := cx_cell zz 2
  have r3 := cx_cell zz 3
  have s0 := cx_frozen zz 0
  have s1 := cx_frozen zz 1
  have s2 := cx_frozen zz 2
  have s3 := cx_frozen zz 3
  go_wp2_with fail
  exact x_end rfl (hbR.trans (hw2.mono (Nat.le_of_lt hz0.lt))) zz M A2 k c2 o v HN2.out HC2.out _ _ _ rfl rfl rfl rfl
end Go.Proofs.YtkoeggjfdcpokaaGreatDoor

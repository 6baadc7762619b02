/-
  The document's Print of layer cond.
-/
import Derived.Test.YtkoeggjfdcpokaaGreatDoorCondOp
import Derived.Test.YtkoeggjfdcpokaaGreatDoorRefB
import Derived.Test.YtkoeggjfdcpokaaGreatDoorNumR
import Derived.Deep.RegionHeld
import Derived.Deep.Cut
import Derived.IntWalk
namespace Go.Proofs.YtkoeggjfdcpokaaGreatDoor
open Go.RowKit
open Go.Proofs.YtkoeggjfdcpokaaGreatDoor.Sl (Mt Sel Tf)

theorem rprintV_of (v : Int) (w : World) : Calls Tryz.prog 35 #[.int .i64 v] w fun e w' => e = .returned (.string (str (Np.printS v))) ∧ Below w.heap.size w w' := by
  refine (refPrint_any v w).mono ?_
  rintro e w' ⟨S, rfl, HS, hb⟩
  exact ⟨by rw [str_of HS.out], hb⟩
/-- A stronger condition on the worlds of a held region may be taken up in its middle. -/
theorem held_weak {P : Program} {ops : Array Oper} {Q : Exit → Act → World → Prop} {md : Region.Mode} {S S' : World → Prop} (h : ∀ V, S' V → S V) :
    ∀ {fuel : Nat} {listed : Array Bool} {a : Act} {w : World}, wpAnyH P md ops Q S' fuel listed a w → wpAnyH P md ops Q S fuel listed a w
  | 0, _, _, _, H => H
  | _ + 1, _, _, _, H => ⟨H.1, fun i hi => wpOp_mono (fun _ _ h' => ⟨h _ h'.1, held_weak h h'.2⟩) (H.2 i hi)⟩
theorem held_takeR {P : Program} {ops : Array Oper} {Q : Exit → Act → World → Prop} {md : Region.Mode} {S : World → Prop} {i d : Nat} {oi : Oper} {v : Value} {fuel : Nat} {listed : Array Bool} {T : Array Value} {D : _} {w : World} (hi : ops[i]? = some oi) (hd : oi.dst = some d)
    (hs : Region.noSelect ops = true) (hf : Region.free md ops listed i = true) (hr : (Region.ready md ops listed).contains i = true)
    (hQ : ∀ c a w, Q (.panic c) (a.put oi.dst v) w → Q (.panic c) a w) (hy : YieldsIf P ops S oi v ⟨T, D⟩) (hS : S w)
    (h : wpAnyH P md ops Q S fuel (listed.setIfInBounds i true) ⟨T.setIfInBounds d v, D⟩ w) : wpAnyH P md ops Q S (fuel + 1) listed ⟨T, D⟩ w :=
  wpAnyH_take hi hs hf hr hQ hy hS (by rw [hd]; exact h)
set_option maxHeartbeats 6400000 in
theorem rprintX_of (N : ByteArray) (A : Option Addr) (c n : Nat) (l : List Mt) (k v : Int) (S : ByteArray) (hNs : N.size ≤ 9223372036854775807) (hn : n = l.length) (hS : S.data.toList = Cd.pr ((N, l), k, v)) (w : World) (hr : Rq w w.heap.size A l) :
    Calls Tryz.prog 20 #[xv N A n c k v] w fun e w' => e = .returned (.string S) ∧ Below w.heap.size w w' := by
  have HN := Lib.hid hn
  have HS := Lib.hid hS
  have HR := Lib.hid hr
  clear hn hS hr
  obtain ⟨b, hb⟩ : ∃ b, Cd.sane ((N, l), k, v) = b := ⟨_, rfl⟩
  have HB := Lib.hid hb
  clear hb
  go_enter Tryz.func20, Tryz.ntmps20
  obtain ⟨W, P, hW, hP, hb0, X⟩ := box_x w N A n c k v
  have HX := Lib.hid X
  have HB0 := Lib.hid hb0
  have HRW := Lib.hid (HR.out.on hb0)
  obtain ⟨c0, c1, c2, c3, _⟩ := X
  clear hb0 HR
  go_wp2_with fail
  refine (rsaneX_of N A c n l k v b hNs HN.out HB.out W HRW.out).mono ?_
  rintro e w1 ⟨rfl, hw1⟩
  clear c0 c1 c2 c3
  have hb1 := below_on HB0.out hw1
  cases b with
  | false =>
    have : S = str [] := by
      apply str_of
      rw [HS.out]; unfold Cd.pr; rw [HB.out]; rfl
    subst this
    go_wp2_with fail
    go_ret
    exact ⟨rfl, hb1⟩
  | true =>
    obtain ⟨hs1, hs2⟩ := Cd.sane_parts HB.out
    have hk : 1 ≤ k ∧ k ≤ 6 := hs2.1
    obtain ⟨j, rfl⟩ : ∃ j : Nat, k = (j : Int) + 1 := ⟨(k - 1).toNat, by omega⟩
    have hj6 : j < 6 := by omega
    have hj6z : (j : Int) < 6 := by omega
    have hpr : S.data.toList = Sl.prS (N, l) ++ 32 :: (Cd.sign ((j : Int) + 1) ++ 32 :: Np.printS v) := by
      rw [HS.out]; unfold Cd.pr; rw [HB.out]; rfl
    have HPR := Lib.hid hpr
    obtain ⟨SA, hSA⟩ : ∃ SA, str (Sl.prS (N, l)) = SA := ⟨_, rfl⟩
    obtain ⟨SV, hSV⟩ : ∃ SV, str (Np.printS v) = SV := ⟨_, rfl⟩
    obtain ⟨SO, hSO⟩ : ∃ SO, sgn j = SO := ⟨_, rfl⟩
    have K1 : Hid (∀ V, Below W.heap.size W V → Calls Tryz.prog 33 #[sv N A n c] V fun e w' => e = .returned (.string SA) ∧ Below V.heap.size V w') := Lib.hid (fun V h => rprintS_of N A c n l SA hNs HN.out (by rw [← hSA]; rfl) V (HRW.out.on h))
    have K3 : Hid (∀ V, Below W.heap.size W V → Calls Tryz.prog 35 #[.int .i64 v] V fun e w' => e = .returned (.string SV) ∧ Below V.heap.size V w') := Lib.hid (fun V _ => by rw [← hSV]; exact rprintV_of v V)
    have K2 : Hid (∀ V, Below W.heap.size W V → Calls Tryz.prog 34 #[] V fun e w' => ∃ b, e = .returned (.slice (some ⟨b, 0, none⟩) 6 6) ∧ b < w'.heap.size ∧ w'.cell? ⟨b, j, none⟩ = some (.string SO) ∧ Below V.heap.size V w') := Lib.hid (fun V _ => (signs_of V).mono fun e w' ⟨b, h1, h2, h3, h4⟩ => ⟨b, h1, h2, by rw [← hSO]; exact h3.out j hj6, h4⟩)
    have Y0 := Lib.hid (fun (V : World) (h : Below W.heap.size W V) => (HX.out.on h).c0)
    have Y1 := Lib.hid (fun (V : World) (h : Below W.heap.size W V) => (HX.out.on h).c1)
    have Y2 := Lib.hid (fun (V : World) (h : Below W.heap.size W V) => (HX.out.on h).c2)
    have Y3 := Lib.hid (fun (V : World) (h : Below W.heap.size W V) => (HX.out.on h).c3)
    have hz1 : SA.size ≤ 100000 := by rw [← hSA, str_len]; exact print_len
    have hz2 : SO.size ≤ 2 := by
      rw [← hSO]
      match j, hj6 with
      | 0, _ => decide
      | 1, _ => decide
      | 2, _ => decide
      | 3, _ => decide
      | 4, _ => decide
      | 5, _ => decide
    have hz3 : SV.size ≤ 40 := by rw [← hSV, str_len]; exact num_len hs2.2
    obtain ⟨T1, hT1⟩ : ∃ T, SA ++ (⟨#[32]⟩ : ByteArray) = T := ⟨_, rfl⟩
    obtain ⟨T2, hT2⟩ : ∃ T, T1 ++ SO = T := ⟨_, rfl⟩
    obtain ⟨T3, hT3⟩ : ∃ T, T2 ++ (⟨#[32]⟩ : ByteArray) = T := ⟨_, rfl⟩
    obtain ⟨T4, hT4⟩ : ∃ T, T3 ++ SV = T := ⟨_, rfl⟩
    have s1 : T1.size = SA.size + 1 := by rw [← hT1, ByteArray.size_append]; rfl
    have s2 : T2.size = T1.size + SO.size := by rw [← hT2, ByteArray.size_append]
    have s3 : T3.size = T2.size + 1 := by rw [← hT3, ByteArray.size_append]; rfl
    have A1 : ∀ V : World, (Op.stringOp .add SA ⟨#[32]⟩).run Tryz.prog V = .ok (.string T1) V := fun V => by rw [← hT1]; exact run_string_add_sum V SA _ (by show _ + 1 ≤ _; omega)
    have A2 : ∀ V : World, (Op.stringOp .add T1 SO).run Tryz.prog V = .ok (.string T2) V := fun V => by rw [← hT2]; exact run_string_add_sum V T1 SO (by omega)
    have A3 : ∀ V : World, (Op.stringOp .add T2 ⟨#[32]⟩).run Tryz.prog V = .ok (.string T3) V := fun V => by rw [← hT3]; exact run_string_add_sum V T2 _ (by show _ + 1 ≤ _; omega)
    have A4 : ∀ V : World, (Op.stringOp .add T3 SV).run Tryz.prog V = .ok (.string T4) V := fun V => by rw [← hT4]; exact run_string_add_sum V T3 SV (by omega)
    have hfin : S = T4 := by
      apply Lp.ext
      rw [Lp.tl, Lp.tl, ← hT4, ← hT3, ← hT2, ← hT1, HPR.out, ← hSA, ← hSV, ← hSO]
      simp [str, sgn, Sl.sg]
    have HFIN := Lib.hid hfin
    have hje : (j : Int) + 1 - 1 = (j : Int) := by omega
    have hjn : ((j : Int)).toNat = j := Int.toNat_natCast j
    have hj0 : (0 : Int) ≤ (j : Int) := by omega
    have hjw : IntKind.i64.wrap (j : Int) = (j : Int) := IntWalk.i64_in _ (by omega)
    have hcur : Below W.heap.size W w1.drew := hw1.drew
    clear hT1 hT2 hT3 hT4 hSA hSV hSO hfin
    clear hpr hs1 hs2 hk
    go_upto_region 3 with fail
    --R3-
    refine wp_region_held_drew (S := (fun V => (V.cell? ⟨P, 0, none⟩ = some (.string N) ∧ V.cell? ⟨P, 1, none⟩ = some (.slice A n c) ∧ V.cell? ⟨P, 2, none⟩ = some (.int .i64 ((j : Int) + 1)) ∧ V.cell? ⟨P, 3, none⟩ = some (.int .i64 v)))) (by kernel_rfl) ⟨Y0.out _ hcur, Y1.out _ hcur, Y2.out _ hcur, Y3.out _ hcur⟩ (fun hHeld => ?_)
    refine held_takeR (i := 0) (d := 6) (v := ?v0) rfl rfl (by kernel_rfl) (by kernel_rfl) (by kernel_rfl) (fun _ _ _ h => h) (Or.inl ⟨by rfl, ?y0⟩) (by assumption) ?r0
    case y0 => (intro w hSw; (try dsimp only at hSw); go_simp <;> with_reducible rfl)
    (try simp only [List.setIfInBounds_toArray, List.set_cons_zero, List.set_cons_succ])
    refine held_takeR (i := 1) (d := 7) (v := ?v1) rfl rfl (by kernel_rfl) (by kernel_rfl) (by kernel_rfl) (fun _ _ _ h => h) (Or.inl ⟨by rfl, ?y1⟩) (by assumption) ?r1
    case y1 => (intro w hSw; (try dsimp only at hSw); go_simp <;> with_reducible rfl)
    (try simp only [List.setIfInBounds_toArray, List.set_cons_zero, List.set_cons_succ])
    refine held_takeR (i := 5) (d := 11) (v := ?v5) rfl rfl (by kernel_rfl) (by kernel_rfl) (by kernel_rfl) (fun _ _ _ h => h) (Or.inl ⟨by rfl, ?y5⟩) (by assumption) ?r5
    case y5 => (intro w hSw; (try dsimp only at hSw); go_simp <;> with_reducible rfl)
    (try simp only [List.setIfInBounds_toArray, List.set_cons_zero, List.set_cons_succ])
    refine held_takeR (i := 6) (d := 12) (v := ?v6) rfl rfl (by kernel_rfl) (by kernel_rfl) (by kernel_rfl) (fun _ _ _ h => h) (Or.inl ⟨by rfl, ?y6⟩) (by assumption) ?r6
    case y6 => (intro w hSw; (try dsimp only at hSw); go_simp <;> with_reducible rfl)
    (try simp only [List.setIfInBounds_toArray, List.set_cons_zero, List.set_cons_succ])
    refine held_takeR (i := 7) (d := 13) (v := ?v7) rfl rfl (by kernel_rfl) (by kernel_rfl) (by kernel_rfl) (fun _ _ _ h => h) (Or.inl ⟨by rfl, ?y7⟩) (by assumption) ?r7
    case y7 => (intro w hSw; (try dsimp only at hSw); go_simp <;> with_reducible rfl)
    (try simp only [List.setIfInBounds_toArray, List.set_cons_zero, List.set_cons_succ])
    refine held_takeR (i := 12) (d := 18) (v := ?v12) rfl rfl (by kernel_rfl) (by kernel_rfl) (by kernel_rfl) (fun _ _ _ h => h) (Or.inl ⟨by rfl, ?y12⟩) (by assumption) ?r12
    case y12 => (intro w hSw; (try dsimp only at hSw); go_simp <;> with_reducible rfl)
    (try simp only [List.setIfInBounds_toArray, List.set_cons_zero, List.set_cons_succ])
    refine held_takeR (i := 13) (d := 19) (v := ?v13) rfl rfl (by kernel_rfl) (by kernel_rfl) (by kernel_rfl) (fun _ _ _ h => h) (Or.inl ⟨by rfl, ?y13⟩) (by assumption) ?r13
    case y13 => (intro w hSw; (try dsimp only at hSw); go_simp <;> with_reducible rfl)
    (try simp only [List.setIfInBounds_toArray, List.set_cons_zero, List.set_cons_succ])
    refine wpAnyH_ready (rs := [2]) (by kernel_rfl) (by simp) ?_
    refine AllReadyH.cons rfl (fun K hK => ?_) AllReadyH.nil
    go_simp
    go_wp2_with (go_at_call 33; refine (K1.out _ hcur).mono ?_; rintro e w2 ⟨rfl, hw2⟩; replace hcur := below_on hcur hw2)
    refine hK.out _ _ ⟨Y0.out _ hcur, Y1.out _ hcur, Y2.out _ hcur, Y3.out _ hcur⟩ (fun hHeld => ?_)
    clear hK K
    refine held_takeR (i := 3) (d := 9) (v := ?v3) rfl rfl (by kernel_rfl) (by kernel_rfl) (by kernel_rfl) (fun _ _ _ h => h) (Or.inl ⟨by rfl, ?y3⟩) (by assumption) ?r3
    case y3 => (intro w hSw; (try dsimp only at hSw); go_simp <;> with_reducible rfl)
    (try simp only [List.setIfInBounds_toArray, List.set_cons_zero, List.set_cons_succ])
    refine wpAnyH_ready (rs := [4]) (by kernel_rfl) (by simp) ?_
    refine AllReadyH.cons rfl (fun K hK => ?_) AllReadyH.nil
    go_simp
    go_wp2_with (go_at_call 34; refine (K2.out _ hcur).mono ?_; rintro e w4 ⟨bs, rfl, hbs, hcb, hw4⟩; replace hcur := below_on hcur hw4)
    refine hK.out _ _ ⟨Y0.out _ hcur, Y1.out _ hcur, Y2.out _ hcur, Y3.out _ hcur⟩ (fun hHeld => ?_)
    clear hK K
    refine held_weak (S' := (fun V => (V.cell? ⟨P, 0, none⟩ = some (.string N) ∧ V.cell? ⟨P, 1, none⟩ = some (.slice A n c) ∧ V.cell? ⟨P, 2, none⟩ = some (.int .i64 ((j : Int) + 1)) ∧ V.cell? ⟨P, 3, none⟩ = some (.int .i64 v)) ∧ V.cell? ⟨bs, j, none⟩ = some (.string SO))) (fun V h => h.1) ?_
    have hHeld2 : (fun V => (V.cell? ⟨P, 0, none⟩ = some (.string N) ∧ V.cell? ⟨P, 1, none⟩ = some (.slice A n c) ∧ V.cell? ⟨P, 2, none⟩ = some (.int .i64 ((j : Int) + 1)) ∧ V.cell? ⟨P, 3, none⟩ = some (.int .i64 v)) ∧ V.cell? ⟨bs, j, none⟩ = some (.string SO)) w4 := ⟨hHeld, hcb⟩
    clear hHeld
    refine held_takeR (i := 8) (d := 14) (v := ?v8) rfl rfl (by kernel_rfl) (by kernel_rfl) (by kernel_rfl) (fun _ _ _ h => h) (Or.inl ⟨by rfl, ?y8⟩) (by assumption) ?r8
    case y8 => (intro w hSw; (try dsimp only at hSw); go_simp <;> with_reducible rfl)
    (try simp only [List.setIfInBounds_toArray, List.set_cons_zero, List.set_cons_succ])
    refine held_takeR (i := 9) (d := 15) (v := ?v9) rfl rfl (by kernel_rfl) (by kernel_rfl) (by kernel_rfl) (fun _ _ _ h => h) (Or.inl ⟨by rfl, ?y9⟩) (by assumption) ?r9
    case y9 => (intro w hSw; (try dsimp only at hSw); go_simp <;> with_reducible rfl)
    (try simp only [List.setIfInBounds_toArray, List.set_cons_zero, List.set_cons_succ])
    refine held_takeR (i := 10) (d := 16) (v := ?v10) rfl rfl (by kernel_rfl) (by kernel_rfl) (by kernel_rfl) (fun _ _ _ h => h) (Or.inl ⟨by rfl, ?y10⟩) (by assumption) ?r10
    case y10 => (intro w hSw; (try dsimp only at hSw); go_simp <;> with_reducible rfl)
    (try simp only [List.setIfInBounds_toArray, List.set_cons_zero, List.set_cons_succ])
    refine held_takeR (i := 11) (d := 17) (v := ?v11) rfl rfl (by kernel_rfl) (by kernel_rfl) (by kernel_rfl) (fun _ _ _ h => h) (Or.inl ⟨by rfl, ?y11⟩) (by assumption) ?r11
    case y11 => (intro w hSw; (try dsimp only at hSw); go_simp <;> with_reducible rfl)
    (try simp only [List.setIfInBounds_toArray, List.set_cons_zero, List.set_cons_succ])
    refine wpAnyH_ready (rs := [14]) (by kernel_rfl) (by simp) ?_
    refine AllReadyH.cons rfl (fun K hK => ?_) AllReadyH.nil
    go_simp
    go_wp2_with (go_at_call 35; refine (K3.out _ hcur).mono ?_; rintro e w14 ⟨rfl, hw14⟩; replace hcur := below_on hcur hw14; replace hcb := (hw14.cell (p := ⟨bs, j, none⟩) hbs).trans hcb)
    refine hK.out _ _ ⟨⟨Y0.out _ hcur, Y1.out _ hcur, Y2.out _ hcur, Y3.out _ hcur⟩, hcb⟩ (fun hHeld => ?_)
    clear hK K
    refine held_takeR (i := 15) (d := 21) (v := ?v15) rfl rfl (by kernel_rfl) (by kernel_rfl) (by kernel_rfl) (fun _ _ _ h => h) (Or.inl ⟨by rfl, ?y15⟩) (by assumption) ?r15
    case y15 => (intro w hSw; (try dsimp only at hSw); go_simp <;> with_reducible rfl)
    (try simp only [List.setIfInBounds_toArray, List.set_cons_zero, List.set_cons_succ])
    refine held_takeR (i := 16) (d := 2) (v := ?v16) rfl rfl (by kernel_rfl) (by kernel_rfl) (by kernel_rfl) (fun _ _ _ h => h) (Or.inl ⟨by rfl, ?y16⟩) (by assumption) ?r16
    case y16 => (intro w hSw; (try dsimp only at hSw); go_simp <;> with_reducible rfl)
    (try simp only [List.setIfInBounds_toArray, List.set_cons_zero, List.set_cons_succ])
    refine wpAnyH_done (by kernel_rfl) ?_ _
    --R3+
    go_wp2_with fail
    go_ret
    exact ⟨by rw [HFIN.out]; rfl, below_on HB0.out hcur⟩
end Go.Proofs.YtkoeggjfdcpokaaGreatDoor

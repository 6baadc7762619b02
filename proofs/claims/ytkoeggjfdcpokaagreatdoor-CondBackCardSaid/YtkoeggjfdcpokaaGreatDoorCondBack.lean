/-
  The walk of CondBack: what is printed is parsed, within up to thirty-two signs; within one more it is too deep.
-/
import Derived.Test.YtkoeggjfdcpokaaGreatDoorCondBase
import Derived.Laws.IdiomStrings
namespace Go.Proofs.YtkoeggjfdcpokaaGreatDoor
open Go.RowKit Go.Proofs.YtkoeggjfdcpokaaGreatDoor.Lp
open Go.Proofs.YtkoeggjfdcpokaaGreatDoor.Sl (Mt Sel Tf)

theorem depth_at (k : Int) : ∃ t : Nat, (bits .and .i64 k 65535).tmod 35 = (t : Int) ∧ t ≤ 34 := by
  have h1 : (BitVec.ofInt 64 65535).toNat = 65535 := by decide
  have h2 : (BitVec.ofInt 64 k &&& BitVec.ofInt 64 65535).toNat ≤ 65535 := by
    rw [BitVec.toNat_and, h1]
    exact Nat.and_le_right
  have e : bits .and .i64 k 65535 = (((BitVec.ofInt 64 k &&& BitVec.ofInt 64 65535).toNat : Nat) : Int) := by
    show IntKind.i64.wrap ((BitVec.ofInt 64 k &&& BitVec.ofInt 64 65535).toNat : Int) = _
    exact IntWalk.i64_in _ (by omega)
  rw [e]
  generalize (BitVec.ofInt 64 k &&& BitVec.ofInt 64 65535).toNat = b
  have h3 := Int.tmod_nonneg (35 : Int) (Int.natCast_nonneg b)
  have h4 := Int.tmod_lt_of_pos (b : Int) (show (0 : Int) < 35 by omega)
  exact ⟨((b : Int).tmod 35).toNat, by omega, by omega⟩
theorem add_strX {a b : ByteArray} {l m : Lx.T} (ha : a.data.toList = l) (hb : b.data.toList = m) (h : l.length + m.length ≤ 1000000) : ∀ w : World, (Op.stringOp .add a b).run Tryz.prog w = .ok (.string (str (l ++ m))) w := by
  intro w
  have h1 : a.size = l.length := by rw [Lib.size_eq, ha]
  have h2 : b.size = m.length := by rw [Lib.size_eq, hb]
  have e : str (l ++ m) = a ++ b := by
    rw [← ha, ← hb]
    apply ByteArray.ext
    rw [ByteArray.data_append]
    unfold str
    simp
  rw [e]
  exact run_string_add_sum w a b (by omega)
set_option maxHeartbeats 6400000 in
set_option maxRecDepth 100000 in
theorem condBack_any {Ok : World → Prop} (H : CondC Ok) (N : ByteArray) (A : Option Addr) (c n : Nat) (l : List Mt) (k v dp : Int) (w : World) (hok : Ok w) (hNs : N.size ≤ 9223372036854775807) (hn : n = l.length) (hr : Rq w w.heap.size A l) (hnc : n ≤ c ∧ c ≤ 9223372036854775807) :
    Calls Tryz.prog 5 #[xv N A n c k v, .int .i64 dp] w fun e w' => e = .returned (.bool true) ∧ Below w.heap.size w w' := by
  have HOK := Lib.hid hok
  have HN := Lib.hid hn
  have HR := Lib.hid hr
  have HNC := Lib.hid hnc
  clear hok hn hr hnc
  go_enter Tryz.func5, Tryz.ntmps5
  obtain ⟨W, P, hW, hP, hb0, X⟩ := box_x w N A n c k v
  have HB0 := Lib.hid hb0
  have HX := Lib.hid X
  have HRW := Lib.hid (HR.out.on hb0)
  have HOKW : Hid (Ok W) := Lib.hid (H.on _ _ HOK.out hb0)
  clear X hb0 HR
  go_wp2_with fail
  refine (awakeX_any H W HOKW.out).mono ?_
  rintro e w1 ⟨rfl, hV1⟩
  obtain ⟨c0, c1, _⟩ := HX.out.on hV1
  go_wp2_with fail
  refine (fewS_of N A c n l HN.out w1 (HRW.out.on hV1)).mono ?_
  rintro e w2 ⟨q1, rfl, _, hw2⟩
  have hV2 := below_on hV1 hw2
  clear c0 c1 hV1 hw2
  cases q1 with
  | false =>
    go_wp2_with fail
    go_ret
    exact ⟨rfl, by first | exact below_on HB0.out hV2 | (rw [← hP]; exact below_on HB0.out hV2)⟩
  | true =>
    obtain ⟨c0, c1, c2, c3, _⟩ := HX.out.on hV2
    by_cases hs : Cd.sane ((N, l), k, v) = true
    · obtain ⟨S, hS⟩ : ∃ S : ByteArray, S.data.toList = Cd.pr ((N, l), k, v) := ⟨str (Cd.pr ((N, l), k, v)), rfl⟩
      have HSan := Lib.hid hs
      have HSt := Lib.hid hS
      clear hs hS
      go_wp2_with fail
      refine (H.print N A n c l k v S hNs HN.out HNC.out HSt.out w2 (H.on _ _ HOKW.out hV2) (HRW.out.on hV2)).mono ?_
      rintro e w3 ⟨rfl, hw3⟩
      have hV3 := below_on hV2 hw3
      clear c0 c1 c2 c3 hV2 hw3
      obtain ⟨c0, c1, c2, c3, _⟩ := HX.out.on hV3
      go_wp2_with fail
      refine (H.sane N A n c l k v true hNs HN.out HNC.out HSan.out w3 (HRW.out.on hV3)).mono ?_
      rintro e w4 ⟨rfl, hw4⟩
      have hV4 := below_on hV3 hw4
      clear c0 c1 c2 c3 hV3 hw4
      obtain ⟨dd, hdd, hd34⟩ := depth_at dp
      have hz35 : ¬ ((35 : Int) = 0) := by omega
      go_wp2_with fail
      go_loopg [8, 9, 10] dd (fun g s8 s9 s10 wx => ∃ i : Nat, i + g = dd ∧ s8 = .string (str (List.replicate i 40)) ∧ s9 = .string (str (List.replicate i 41)) ∧ s10 = .int .i64 i ∧ wx = w4)
      case atStart => exact ⟨0, by omega, rfl, rfl, rfl, rfl⟩
      case round =>
        obtain ⟨i, hi, rfl, rfl, rfl, rfl⟩ := hrel
        cases gk with
        | zero =>
          obtain rfl : i = dd := by omega
          have hrep : ∀ x : UInt8, (List.replicate i x).length ≤ 34 := fun x => by rw [List.length_replicate]; exact hd34
          have hpl := prX_len (x := ((N, l), k, v))
          have g1 := add_strX (a := str (List.replicate i 40)) (b := S) (l := List.replicate i 40) (m := Cd.pr ((N, l), k, v)) rfl HSt.out (by have := hrep 40; omega)
          have g2 := add_strX (a := str (List.replicate i 40 ++ Cd.pr ((N, l), k, v))) (b := str (List.replicate i 41)) (l := List.replicate i 40 ++ Cd.pr ((N, l), k, v)) (m := List.replicate i 41) rfl rfl (by have := hrep 40; have := hrep 41; rw [List.length_append]; omega)
          rw [List.append_assoc] at g2
          have hW2 : List.replicate i 40 ++ (Cd.pr ((N, l), k, v) ++ List.replicate i 41) = Cd.prW i ((N, l), k, v) := rfl
          rw [hW2] at g2
          have hsz : (str (Cd.prW i ((N, l), k, v))).size ≤ 1000000 := by
            rw [Lib.size_eq]
            show (Cd.prW i ((N, l), k, v)).length ≤ _
            have := hrep 40
            have := hrep 41
            rw [← hW2, List.length_append, List.length_append]
            omega
          rcases ha : allZ (Cd.prW i ((N, l), k, v)) with ⟨ts, y, z⟩
          obtain ⟨rfl, hlen, hfl⟩ := again_w HSan.out (by omega) ha
          obtain ⟨q, hq⟩ : ∃ q, q = ts.length := ⟨_, rfl⟩
          have HQ := Lib.hid hq
          have HAll := Lib.hid ha
          have HFl := Lib.hid hfl
          have HLen := Lib.hid hlen
          have HSz := Lib.hid hsz
          clear hq ha hfl hlen hsz hW2 hpl hrep
          go_wp2_with fail
          refine (H.all (str (Cd.prW i ((N, l), k, v))) (Cd.prW i ((N, l), k, v)) ts q y 0 HSz.out rfl HAll.out HQ.out wr).mono ?_
          rintro e w5 ⟨B5, d5, rfl, HR5, HC5, hw5⟩
          have hV5 := below_on hV4 hw5
          clear hw5 g1 g2
          by_cases hdeep : i ≤ 32
          · have hdz : ¬ (32 : Int) < (i : Int) := by omega
            have hp : Cd.parse (ts.map flatK) 0 = (((N, l), k, v), q, 0) := by rw [HFl.out, Cd.parse_within HSan.out hdeep, HQ.out, HLen.out]
            have HP := Lib.hid hp
            clear hp
            go_wp2_with fail
            refine (H.parse B5 d5 q ts 0 N l k v n q 0 HQ.out HC5.out (toks_size HAll.out (by have := HSz.out; rw [str_len] at this; omega)) (by decide) (by decide) HP.out HN.out w5 (H.on _ _ HOKW.out hV5) HR5.out).mono ?_
            rintro e w6 ⟨A6, c6, rfl, HM6, HC6, hw6⟩
            have hV6 := below_on hV5 hw6
            obtain ⟨W2, P2, hW2, hPe2, hb02, Y⟩ := box_x w6 N A6 n c6 k v
            have hVW := below_on hV6 hb02
            have HM7 := Lib.hid (HM6.out.on hb02)
            obtain ⟨f0, f1, f2, f3, _⟩ := Y
            obtain ⟨c0, c1, c2, c3, _⟩ := HX.out.on hVW
            have hqq : ((q : Int) == (q : Int)) = true := by simp
            clear hV5 hV6 hw6 hb02 HM6
            go_wp2_with fail
            refine (sameX_of N A A6 c c6 n l k v HN.out W2 (HRW.out.on hVW) HM7.out).mono ?_
            rintro e w7 ⟨rfl, hw7⟩
            have hV7 := below_on hVW hw7
            go_wp2_with fail
            go_ret
            exact ⟨rfl, by first | exact below_on HB0.out hV7 | (rw [← hP]; exact below_on HB0.out hV7)⟩
          · have hdz : (32 : Int) < (i : Int) := by omega
            have hp : Cd.parse (ts.map flatK) 0 = (((⟨#[]⟩, []), 0, 0), 32, 8) := by rw [HFl.out]; exact Cd.parse_deep (by omega)
            have HP := Lib.hid hp
            clear hp
            go_wp2_with fail
            refine (H.parse B5 d5 q ts 0 ⟨#[]⟩ [] 0 0 0 32 8 HQ.out HC5.out (toks_size HAll.out (by have := HSz.out; rw [str_len] at this; omega)) (by decide) (by decide) HP.out rfl w5 (H.on _ _ HOKW.out hV5) HR5.out).mono ?_
            rintro e w6 ⟨A6, c6, rfl, HM6, HC6, hw6⟩
            have hV6 := below_on hV5 hw6
            obtain ⟨W2, P2, hW2, hPe2, hb02, _⟩ := box_x w6 ⟨#[]⟩ A6 0 c6 0 0
            have hVW := below_on hV6 hb02
            have HM7 := Lib.hid (HM6.out.on hb02)
            have HW2 := Lib.hid hW2
            clear hV5 hV6 hw6 hb02 HM6 hW2 hPe2
            go_wp2_with fail
            rw [HW2.out]
            refine (sameX_of ⟨#[]⟩ A6 none c6 0 0 [] 0 0 rfl W2 HM7.out (Rq.none_ _ _ _)).mono ?_
            rintro e w7 ⟨rfl, hw7⟩
            have hV7 := below_on hVW hw7
            go_wp2_with fail
            go_ret
            exact ⟨rfl, by first | exact below_on HB0.out hV7 | (rw [← hP]; exact below_on HB0.out hV7)⟩
        | succ g =>
          have hlt : (i : Int) < (dd : Int) := by omega
          have e1 : List.replicate (i + 1) (40 : UInt8) = List.replicate i 40 ++ [40] := by rw [List.replicate_succ']
          have e2 : List.replicate (i + 1) (41 : UInt8) = List.replicate i 41 ++ [41] := by rw [List.replicate_succ']
          have g1 := add_strX (a := str (List.replicate i 40)) (b := ⟨#[40]⟩) (l := List.replicate i 40) (m := [40]) rfl rfl (by simp; omega)
          have g2 := add_strX (a := str (List.replicate i 41)) (b := ⟨#[41]⟩) (l := List.replicate i 41) (m := [41]) rfl rfl (by simp; omega)
          rw [← e1] at g1
          rw [← e2] at g2
          clear e1 e2
          have hwr : wrap64 ((i : Int) + 1) = (i : Int) + 1 := IntWalk.wrap64_in _ (by omega)
          go_wp2_with fail
          go_roundg g
          case measure => omega
          case rel => exact ⟨i + 1, by omega, rfl, rfl, by simp [hwr], rfl⟩
    · have hpr : (⟨#[]⟩ : ByteArray).data.toList = Cd.pr ((N, l), k, v) := by unfold Cd.pr; rw [if_neg hs]
      have HPr := Lib.hid hpr
      have HSf : Hid (Cd.sane ((N, l), k, v) = false) := Lib.hid (by simpa using hs)
      clear hpr hs
      go_wp2_with fail
      refine (H.print N A n c l k v ⟨#[]⟩ hNs HN.out HNC.out HPr.out w2 (H.on _ _ HOKW.out hV2) (HRW.out.on hV2)).mono ?_
      rintro e w3 ⟨rfl, hw3⟩
      have hV3 := below_on hV2 hw3
      clear c0 c1 c2 c3 hV2 hw3
      obtain ⟨c0, c1, c2, c3, _⟩ := HX.out.on hV3
      go_wp2_with fail
      refine (H.sane N A n c l k v false hNs HN.out HNC.out HSf.out w3 (HRW.out.on hV3)).mono ?_
      rintro e w4 ⟨rfl, hw4⟩
      have hV4 := below_on hV3 hw4
      go_wp2_with fail
      go_ret
      exact ⟨rfl, by first | exact below_on HB0.out hV4 | (rw [← hP]; exact below_on HB0.out hV4)⟩
end Go.Proofs.YtkoeggjfdcpokaaGreatDoor

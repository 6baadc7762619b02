/-
  The walk of layer lex's law LexPlaces: it answers true.
-/
import Derived.Test.YtljccnboijdpfaaDoorLexParts
namespace Go.Proofs.YtljccnboijdpfaaDoor
open Go.RowKit

/-- The tokens stand in S from b on, one behind the other, the end at x. -/
def Pl (S : Lx.T) (x : Nat) : Nat → List Lx.Tok → Prop
  | b, [] => b ≤ x
  | b, t :: r => b ≤ S.length - t.2.1 ∧ S.length - t.2.1 < S.length ∧ S.drop (S.length - t.2.1) = Lx.txt t.1 t.2.2 ++ S.drop (S.length - t.2.1 + (Lx.txt t.1 t.2.2).length) ∧ Lx.Good t.1 t.2.2 ∧ Pl S x (S.length - t.2.1 + (Lx.txt t.1 t.2.2).length) r
theorem pl_of : ∀ (ts : List Lx.Tok) (l e : Lx.T), Lx.Ch l ts e → ∀ (S pre : Lx.T), S = pre ++ l → Pl S (S.length - e.length) pre.length ts
  | [], l, e, h, S, pre, hS => by
    obtain ⟨p, rfl⟩ := h
    have := congrArg List.length hS
    rw [List.length_append, List.length_append] at this
    show pre.length ≤ S.length - e.length
    omega
  | t :: r, l, e, h, S, pre, hS => by
    obtain ⟨p, u, rfl, h2, hg, h⟩ := h
    have hp := Lx.good_pos hg
    have hS2 : S = (pre ++ p) ++ (Lx.txt t.1 t.2.2 ++ u) := by rw [hS, List.append_assoc]
    have hl := congrArg List.length hS2
    rw [List.length_append, List.length_append, List.length_append] at hl
    rw [List.length_append] at h2
    have hpl : S.length - t.2.1 = (pre ++ p).length := by rw [List.length_append]; omega
    have hd1 : S.drop (S.length - t.2.1) = Lx.txt t.1 t.2.2 ++ u := by rw [hpl]; conv => lhs; rw [hS2]
                                                                       exact List.drop_left
    have hd2 : S.drop (S.length - t.2.1 + (Lx.txt t.1 t.2.2).length) = u := by rw [← List.drop_drop, hd1, List.drop_left]
    have ih := pl_of r u e h S (pre ++ p ++ Lx.txt t.1 t.2.2) (by rw [hS2, List.append_assoc, List.append_assoc, List.append_assoc])
    refine ⟨?_, ?_, by rw [hd1, hd2], hg, ?_⟩
    · rw [hpl, List.length_append]; omega
    · omega
    · rw [List.length_append (bs := Lx.txt t.1 t.2.2)] at ih
      rw [hpl]
      exact ih
theorem good_kind {k : Nat} {s : Lx.T} (h : Lx.Good k s) : 1 ≤ k ∧ k ≤ 4 ∧ (k ≠ 3 → s ≠ []) := by
  rcases h with ⟨rfl, c, w, rfl, _⟩ | ⟨rfl, c, w, rfl, _⟩ | rfl | ⟨rfl, ⟨c, d, rfl, _⟩ | ⟨c, rfl, _⟩⟩ <;> simp
theorem extract_str {s : ByteArray} {l v r : Lx.T} (hl : s.data.toList = l) {p : Nat} (h : l.drop p = v ++ r) : s.extract p (p + v.length) = str v := by
  apply ByteArray.ext
  rw [ByteArray.data_extract]
  unfold str
  apply Array.toList_inj.1
  rw [Array.toList_extract, hl]
  rw [show l.extract p (p + v.length) = (l.drop p).take (p + v.length - p) from rfl, h, show p + v.length - p = v.length by omega, List.take_left]
theorem byte_at {s : ByteArray} {l r : Lx.T} {c : UInt8} (hl : s.data.toList = l) {p : Nat} (hp : p < s.size) (h : l.drop p = c :: r) : s[p]'hp = c := by
  have h1 : l[p]? = some c := by
    have := congrArg (fun x => x[0]?) h
    simpa using this
  have h2 : s.data.toList[p]? = some (s[p]'hp) := by
    have : p < s.data.size := hp
    rw [Array.getElem?_toList, Array.getElem?_eq_getElem this]
    rfl
  rw [hl, h1] at h2
  exact (Option.some.inj h2).symm
set_option maxHeartbeats 6400000 in
set_option maxRecDepth 100000 in
theorem lexPlaces_any (H : LexC) (s : ByteArray) (w : World) :
    Calls Tryd.prog 4 #[.string s] w fun e w' => e = .returned (.bool true) ∧ Below w.heap.size w w' := by
  go_enter Tryd.func4, Tryd.ntmps4
  go_wp2_with fail
  refine (awake_any H _).mono ?_
  rintro e w1 ⟨rfl, hb1⟩
  by_cases h0 : (5000 : Int) < (s.size : Int)
  · go_wp2_with fail
    go_ret
    exact ⟨rfl, hb1⟩
  have hsl : s.data.toList.length = s.size := (Lib.size_eq s).symm
  obtain ⟨l, hl⟩ : ∃ l, s.data.toList = l := ⟨_, rfl⟩
  rw [hl] at hsl
  obtain ⟨L, hL⟩ : ∃ L, (Lx.lex 65536 l).1 = L := ⟨_, rfl⟩
  obtain ⟨E, hE⟩ : ∃ E, (Lx.lex 65536 l).2.1 = E := ⟨_, rfl⟩
  obtain ⟨z, hz⟩ : ∃ z, (Lx.lex 65536 l).2.2 = z := ⟨_, rfl⟩
  obtain ⟨x, hx⟩ : ∃ x, l.length - E.length = x := ⟨_, rfl⟩
  have hall : allT l = (L.map (place l.length), x, z) := by unfold allT; rw [hL, hE, hz, hx]
  have hpl := pl_of _ _ _ (Lx.lex_ch 65536 l) l [] rfl
  have hend := Lx.lex_end 65536 l
  have hEl := lex_end_le 65536 l
  have hcnt := (lex_small 65536 l).1
  rw [hL] at hcnt
  rw [hE] at hEl
  rw [hL, hE, hx] at hpl
  rw [hE, hz] at hend
  have HZ : Hid ((z = 0 ∧ x = s.size) ∨ (z ≠ 0 ∧ x < s.size)) := Lib.hid (by
    by_cases h : z = 0
    · have := hend.1 h
      rw [this] at hx
      exact .inl ⟨h, by rw [← hx, ← hsl]; rfl⟩
    · have := (hend.2 h).1
      have h2 := List.length_pos_iff.2 this
      exact .inr ⟨h, by omega⟩)
  have hxs : x ≤ s.size := by omega
  obtain ⟨q, hq⟩ : ∃ q, L.length = q := ⟨_, rfl⟩
  obtain ⟨ts, hts⟩ : ∃ ts, L.map (place l.length) = ts := ⟨_, rfl⟩
  rw [hts] at hall
  have HQ : Hid (q = ts.length) := Lib.hid (by rw [← hts, List.length_map]; exact hq.symm)
  have HQL : Hid (q = L.length) := Lib.hid hq.symm
  have HTS := Lib.hid hts
  have HP : Hid (Pl l x 0 L) := Lib.hid hpl
  have HA := Lib.hid hall
  have HL := Lib.hid hl
  have HSL := Lib.hid hsl
  have hq5 : q ≤ 5000 := by omega
  have hs1 : s.size ≤ 1000000 := by omega
  clear hsl hl hL hE hz hx hall hpl hend hEl hcnt hq hts
  go_wp2_with fail
  refine (H.all s l ts q x z hs1 HL.out HA.out HQ.out _).mono ?_
  rintro e w2 ⟨B2, d2, rfl, HR2, HC2, hw2⟩
  have hb2 := below_on hb1 hw2
  clear hw2 hb1
  go_wp2_with fail
  go_loopg [7, 8] q (fun g s7 s8 wx => ∃ (i b : Nat) (v : Int), i + g = q ∧ s8 = .int .i64 i ∧ s7 = .int .i64 v ∧ v < (b : Int) ∧ -1 ≤ v ∧ Hid (Pl l x b (L.drop i)) ∧ Below w2.heap.size w2 wx)
  case atStart => exact ⟨0, 0, -1, by omega, rfl, rfl, by omega, by omega, by rw [List.drop_zero]; exact HP, Below.refl _ _⟩
  case round =>
    obtain ⟨i, b, v, hi, rfl, rfl, hvb, hv1, HPi, hwx⟩ := hrel
    have hbx := below_on hb2 hwx
    cases gk with
    | zero =>
      obtain rfl : i = q := by omega
      have hbe := HPi.out
      rw [List.drop_eq_nil_of_le (by have := HQL.out; omega)] at hbe
      have hbx2 : b ≤ x := hbe
      have hvx : v < (x : Int) := by omega
      have hvx1 : v ≤ (x : Int) := by omega
      have hxz : (x : Int) ≤ (s.size : Int) := by omega
      have d1 : decide (v ≤ (x : Int)) = true := by simpa using hvx1
      have d2 : decide ((x : Int) ≤ (s.size : Int)) = true := by simpa using hxz
      have d3 : decide (v < (x : Int)) = true := by simpa using hvx
      clear hbe
      rcases HZ.out with ⟨rfl, rfl⟩ | ⟨hz, hlt⟩
      · have hnn : ((s.size : Int) == (s.size : Int)) = true := by simp
        go_wp2_with fail
        go_ret
        exact ⟨rfl, hbx⟩
      · have hz1 : (z == 0) = false := by simpa using hz
        have hz2 : (z != 0) = true := by simpa using hz
        have hnn : ((x : Int) == (s.size : Int)) = false := by simp; omega
        have d4 : decide ((x : Int) < (s.size : Int)) = true := by simp; omega
        clear hz
        go_wp2_with fail
        go_ret
        exact ⟨rfl, hbx⟩
    | succ g =>
      have hlt : i < q := by omega
      have hltz : (i : Int) < (q : Int) := by omega
      have hil : i < ts.length := by have := HQ.out; omega
      have hiL : i < L.length := by have := HQL.out; omega
      obtain ⟨bk, off, rfl, hbk, c0, c1, c2⟩ := (HR2.out.on hwx).at_ hil
      obtain ⟨t, ht⟩ : ∃ t, L[i] = t := ⟨_, rfl⟩
      have hti : ts[i] = place l.length t := by
        have := HTS.out
        have h2 : (L.map (place l.length))[i]'(by rw [List.length_map]; exact hiL) = ts[i] := by simp only [this]
        rw [← h2, List.getElem_map, ht]
      rw [hti] at c0 c1 c2
      have hP := HPi.out
      rw [List.drop_eq_getElem_cons hiL, ht] at hP
      obtain ⟨p1, p2, p3, p4, p5⟩ := hP
      obtain ⟨k, u, tx⟩ := t
      obtain ⟨p, hp⟩ : ∃ p, l.length - u = p := ⟨_, rfl⟩
      replace c0 : wr.cell? ⟨bk, off + i * 3, none⟩ = some (.int .i64 (k : Int)) := c0
      replace c1 : wr.cell? ⟨bk, off + i * 3 + 1, none⟩ = some (.int .i64 ((l.length - u : Nat) : Int)) := c1
      obtain ⟨S, hS⟩ : ∃ S, str tx = S := ⟨_, rfl⟩
      replace c2 : wr.cell? ⟨bk, off + i * 3 + 2, none⟩ = some (.string (str tx)) := c2
      simp only at p1 p2 p3 p4 p5
      rw [hp] at c1 p1 p2 p3 p5
      rw [hS] at c2
      obtain ⟨k1, k2, k3⟩ := good_kind p4
      have hps : p < s.size := by have := HSL.out; omega
      have hvp : v < (p : Int) := by omega
      have g1 : decide ((p : Int) ≤ v) = false := by simp; omega
      have g2 : decide ((s.size : Int) ≤ (p : Int)) = false := by simp; omega
      have g2n : decide (s.size ≤ p) = false := by simp; omega
      have g3 : decide ((k : Int) < 1) = false := by simp; omega
      have g4 : decide ((4 : Int) < (k : Int)) = false := by simp; omega
      have hp0 : (0 : Int) ≤ (p : Int) := by omega
      have hpz : (p : Int) < (s.size : Int) := by omega
      have hpos := Lx.good_pos p4
      have HN : Hid (Pl l x (p + (Lx.txt k tx).length) (L.drop (i + 1))) := Lib.hid p5
      obtain ⟨b', hb'⟩ : ∃ b', p + (Lx.txt k tx).length = b' := ⟨_, rfl⟩
      rw [hb'] at HN
      have hpb : (p : Int) < (b' : Int) := by omega
      by_cases h3 : k = 3
      · subst h3
        have p3' : l.drop p = 34 :: ((Lx.body tx ++ [34]) ++ l.drop (p + (Lx.txt 3 tx).length)) := p3
        have hby : s[p]'hps = 34 := byte_at HL.out hps p3'
        clear p1 p2 p3 p3' p4 p5 hp ht hti hS hb' hpos k3 hil hiL
        go_wp2_with fail
        go_quiet (fail)
        go_wp2_with fail
        go_roundg g
        case measure => omega
        case rel => exact ⟨i + 1, b', p, by omega, by simp, rfl, hpb, by omega, HN, below_on hwx (below_on (below_alloc _ _) (below_drewN _ _))⟩
      · have htx : Lx.txt k tx = tx := by unfold Lx.txt; rw [if_neg h3]
        rw [htx] at p3 hb'
        have hSs : S.size = tx.length := by rw [← hS, str_len]
        obtain ⟨m, hm⟩ : ∃ m, S.size = m := ⟨_, rfl⟩
        obtain ⟨ee, hee⟩ : ∃ ee, p + m = ee := ⟨_, rfl⟩
        have hex : s.extract p ee = S := by rw [← hee, ← hm, hSs, ← hS]; exact extract_str HL.out p3
        have hne0 : S.toList = tx := by rw [Lp.tl, ← hS]; rfl
        have hne1 : ¬ S.toList = [] := by rw [hne0]; exact k3 h3
        have hne2 : S.toList.isEmpty = false := by rw [hne0]; cases tx with | nil => exact absurd rfl (k3 h3) | cons _ _ => rfl
        have hne3 : (S.toList == []) = false := by simpa using hne1
        have hk1 : ((k : Int) == 3) = false := by simp; omega
        have hk2 : ((k : Int) != 3) = true := by simp; omega
        have hes : ee ≤ s.size := by
          have h := congrArg List.length p3
          rw [List.length_drop, List.length_append] at h
          have := HSL.out
          omega
        have hmz : (S.size : Int) = (m : Int) := by omega
        have hw1 : IntKind.i64.wrap ((p : Int) + (m : Int)) = (ee : Int) := by rw [IntWalk.i64_in _ (by omega)]; omega
        have g5n : decide (s.size < ee) = false := by simp; omega
        have g5 : decide ((s.size : Int) < (ee : Int)) = false := by simp; omega
        have q1 : (p : Int) ≤ (ee : Int) := by omega
        have q2 : (ee : Int) ≤ (s.size : Int) := by omega
        have hSS : (S.toList == S.toList) = true := by simp
        clear p1 p2 p3 p4 p5 hp ht hti hS hb' hpos k3 hil hiL htx hSs hm hee hne0 h3
        go_wp2_with fail
        go_quiet (fail)
        go_wp2_with fail
        go_roundg g
        case measure => omega
        case rel => exact ⟨i + 1, b', p, by omega, by simp, rfl, hpb, by omega, HN, below_on hwx (below_on (below_alloc _ _) (below_drewN _ _))⟩
end Go.Proofs.YtljccnboijdpfaaDoor

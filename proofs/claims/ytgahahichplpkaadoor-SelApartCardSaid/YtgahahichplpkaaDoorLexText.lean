/-
  The walk of layer lex's firstText as landed: a text between quotes.
-/
import Derived.Test.YtgahahichplpkaaDoorLexBase
import Derived.Laws.ResultCell
import Derived.Deep.MidRow
namespace Go.Proofs.YtgahahichplpkaaDoor
open Go.RowKit

/-! ### the first result's cell: a token -/
theorem lx_cell {w : World} {P : Nat} {C : Array Value} {e : TypeId} {fr : Nat × Nat} (h : w.heap[P]? = some (.cells C e fr)) (d : Nat) : w.cell? ⟨P, d, none⟩ = C[d]? := by simp [World.cell?, h]
theorem lx_frozen {w : World} {P : Nat} {C : Array Value} {e : TypeId} (h : w.heap[P]? = some (.cells C e (0, 0))) (d : Nat) : w.frozen? ⟨P, d, none⟩ = false := by simp [World.frozen?, h]
theorem lx_new (w : World) (o : Obj) : (w.alloc o).heap[w.heap.size]? = some o := by
  show (w.heap.push o)[w.heap.size]? = _
  simp
theorem info_toksize : (Tryd.prog.info? 39).map (·.size) = some 3 := by kernel_rfl
theorem load_tok (w : World) (R : Nat) (k a : Int) (S : ByteArray) (h0 : w.cell? ⟨R, 0, none⟩ = some (.int .i64 k)) (h1 : w.cell? ⟨R, 1, none⟩ = some (.int .i64 a)) (h2 : w.cell? ⟨R, 2, none⟩ = some (.string S)) :
    (loadVar 39 ⟨R, 0, none⟩).run Tryd.prog w = .ok (.agg #[.int .i64 k, .int .i64 a, .string S]) w := by
  refine run_loadVar_mid w R 0 39 [.int .i64 k, .int .i64 a, .string S] _ ?_ Tryd.underlying39 rfl info_toksize
  intro j v hv
  match j, hv with
  | 0, hv => cases hv; exact h0
  | 1, hv => cases hv; exact h1
  | 2, hv => cases hv; exact h2
theorem set_tok {w : World} {R : Nat} {a b c : Value} (x y z : Value) (h0 : w.cell? ⟨R, 0, none⟩ = some a) (h1 : w.cell? ⟨R, 1, none⟩ = some b) (h2 : w.cell? ⟨R, 2, none⟩ = some c) :
    (((w.setCell ⟨R, 0, none⟩ x).setCell ⟨R, 1, none⟩ y).setCell ⟨R, 2, none⟩ z).cell? ⟨R, 0, none⟩ = some x ∧ (((w.setCell ⟨R, 0, none⟩ x).setCell ⟨R, 1, none⟩ y).setCell ⟨R, 2, none⟩ z).cell? ⟨R, 1, none⟩ = some y ∧ (((w.setCell ⟨R, 0, none⟩ x).setCell ⟨R, 1, none⟩ y).setCell ⟨R, 2, none⟩ z).cell? ⟨R, 2, none⟩ = some z := by
  have n01 : (⟨R, 0, none⟩ : Addr) ≠ ⟨R, 1, none⟩ := by simp
  have n10 : (⟨R, 1, none⟩ : Addr) ≠ ⟨R, 0, none⟩ := by simp
  have n02 : (⟨R, 0, none⟩ : Addr) ≠ ⟨R, 2, none⟩ := by simp
  have n20 : (⟨R, 2, none⟩ : Addr) ≠ ⟨R, 0, none⟩ := by simp
  have n12 : (⟨R, 1, none⟩ : Addr) ≠ ⟨R, 2, none⟩ := by simp
  have n21 : (⟨R, 2, none⟩ : Addr) ≠ ⟨R, 1, none⟩ := by simp
  have k0 := World.cell?_setCell_same _ _ x h0
  have k1 := (World.cell?_setCell_other w _ _ x n01).trans h1
  have k2 := (World.cell?_setCell_other w _ _ x n02).trans h2
  have m0 := (World.cell?_setCell_other (w.setCell ⟨R, 0, none⟩ x) _ _ y n10).trans k0
  have m1 := World.cell?_setCell_same _ _ y k1
  have m2 := (World.cell?_setCell_other (w.setCell ⟨R, 0, none⟩ x) _ _ y n12).trans k2
  exact ⟨(World.cell?_setCell_other _ _ _ z n20).trans m0, (World.cell?_setCell_other _ _ _ z n21).trans m1, World.cell?_setCell_same _ _ z m2⟩
theorem lx_results2 {fn : Func} {p u x : Tmp} {ty : TypeId} (h : fn.results = #[.cell p ty, .tmp u, .tmp x]) (tmps : Array Value) (P : Program) (w : World) :
    (results fn tmps).run P w =
      ((asAddr (tmps.getD p undef)).run P w).andThen fun a w₁ => ((loadVar ty a).run P w₁).andThen fun v w₂ => .ok (.tuple #[v, tmps.getD u undef, tmps.getD x undef]) w₂ := by
  simp only [results, h]
  simp [Sem.run_bind, Result.andThen]

theorem tok_end {fn : Func} (hfn : fn.results = #[.cell 2 39, .tmp 3, .tmp 4]) {R : Nat} {V w : World} (hb : Below R V w) {a b c : Value} (h0 : w.cell? ⟨R, 0, none⟩ = some a) (h1 : w.cell? ⟨R, 1, none⟩ = some b) (h2 : w.cell? ⟨R, 2, none⟩ = some c)
    (k p x z : Int) (S : ByteArray) (act : Act) (t2 : act.tmps.getD 2 undef = .pointer (some ⟨R, 0, none⟩)) (t3 : act.tmps.getD 3 undef = .int .i64 x) (t4 : act.tmps.getD 4 undef = .int .i64 z) (hd : act.defers = []) :
    bodyPost Tryd.prog fn (fun e w' => e = .returned (.tuple #[.agg #[.int .i64 k, .int .i64 p, .string S], .int .i64 x, .int .i64 z]) ∧ Below R V w') Exit.ret act
      (((w.setCell ⟨R, 0, none⟩ (.int .i64 k)).setCell ⟨R, 1, none⟩ (.int .i64 p)).setCell ⟨R, 2, none⟩ (.string S)) := by
  obtain ⟨X0, X1, X2⟩ := set_tok (.int .i64 k) (.int .i64 p) (.string S) h0 h1 h2
  have hbX : Below R V (((w.setCell ⟨R, 0, none⟩ (.int .i64 k)).setCell ⟨R, 1, none⟩ (.int .i64 p)).setCell ⟨R, 2, none⟩ (.string S)) := ((hb.setCell (p := ⟨R, 0, none⟩) (Nat.le_refl _) _).setCell (p := ⟨R, 1, none⟩) (Nat.le_refl _) _).setCell (p := ⟨R, 2, none⟩) (Nat.le_refl _) _
  generalize (((w.setCell ⟨R, 0, none⟩ (.int .i64 k)).setCell ⟨R, 1, none⟩ (.int .i64 p)).setCell ⟨R, 2, none⟩ (.string S)) = X at X0 X1 X2 hbX ⊢
  refine bodyPost_ret (v := .tuple #[.agg #[.int .i64 k, .int .i64 p, .string S], .int .i64 x, .int .i64 z]) ?_ hd ⟨rfl, hbX⟩
  rw [lx_results2 hfn, t2, t3, t4]
  have hld := load_tok X R k p S X0 X1 X2
  simp [asAddr, Result.andThen, hld]

/-- A text's answer as a token's. -/
def finT (l : Lx.T) (q : Lx.T × Lx.T × Int) : Nat × Lx.T × Lx.T × Int := if q.2.2 = 0 then (3, q.1, q.2.1, 0) else if q.2.2 = 1 then (0, [], q.2.1, 1) else (0, [], l, 12)
theorem one_text (r : Lx.T) : Lx.one (34 :: r) = finT (34 :: r) (Lx.tq r) := by
  obtain ⟨q1, q2, q3⟩ := Lx.quote_not
  rw [Lx.one, if_neg (by rw [q1]; decide), if_neg (by rw [q2]; simp), if_pos (by decide)]
  rfl
theorem tail_at {l rest : Lx.T} {i : Nat} (h : l.drop i = rest) {c : UInt8} {r : Lx.T} (hr : rest = c :: r) : i < l.length ∧ l[i]? = some c ∧ l.drop (i + 1) = r := by
  subst hr
  have h1 : i < l.length := by
    rcases Nat.lt_or_ge i l.length with h' | h'
    · exact h'
    · rw [List.drop_of_length_le h'] at h; cases h
  refine ⟨h1, ?_, ?_⟩
  · have := congrArg List.head? h
    rw [List.head?_drop] at this
    exact this
  · have := congrArg List.tail h
    rw [List.tail_drop] at this
    exact this

theorem isBuilder_below {T e : TypeId} {B b : Nat} {bs : List Value} {W W' : World} (h : Lib.IsBuilder T e B b bs W) (hb : Below W.heap.size W W') : Lib.IsBuilder T e B b bs W' := by
  have one : ∀ p, Lib.BuilderAt T e B b p bs W → Lib.BuilderAt T e B b p bs W' := by
    rintro p ⟨hB, v, hbk, hown, hne⟩
    refine ⟨hB, v, (hb.block b (Array.getElem?_eq_some_iff.1 hbk).1).trans hbk, ⟨hown.1, ?_⟩, hne⟩
    rcases hown.2 with h0 | ⟨g, cap, cur, hv, hbs, hg, hr⟩
    · exact .inl h0
    · exact .inr ⟨g, cap, cur, hv, hbs, (hb.block g (Array.getElem?_eq_some_iff.1 hg).1).trans hg, hr⟩
  exact h.elim (fun x => .inl (one _ x)) (fun x => .inr (one _ x))
set_option maxHeartbeats 3200000 in
theorem text_of (s : ByteArray) (r t r' : Lx.T) (k x : Nat) (z : Int) (hl : s.data.toList = 34 :: r) (hs : r.length < 1000000) (ho : Lx.one (34 :: r) = (k, t, r', z)) (hx : x = r.length + 1 - r'.length) (w : World) :
    Calls Tryd.prog 63 #[.string s] w fun e w' => e = .returned (.tuple #[.agg #[.int .i64 (k : Int), .int .i64 0, .string (str t)], .int .i64 (x : Int), .int .i64 z]) ∧ Below w.heap.size w w' := by
  obtain rfl : s = str (34 :: r) := str_of hl
  clear hl
  rw [one_text, ← Lx.comb_nil] at ho
  have HO := Lib.hid ho
  have HX := Lib.hid hx
  clear ho hx
  have hsz : (str (34 :: r)).size = r.length + 1 := by rw [str_len]; rfl
  obtain ⟨n, hn⟩ : ∃ n, r.length = n := ⟨_, rfl⟩
  rw [hn] at hsz hs
  have HN := Lib.hid hn
  clear hn
  obtain ⟨U, hU⟩ : ∃ U, w.alloc (Obj.cells #[Value.int .i64 0, Value.int .i64 0, Value.string ⟨#[]⟩] 39) = U := ⟨_, rfl⟩
  obtain ⟨R, hR⟩ : ∃ R, w.heap.size = R := ⟨_, rfl⟩
  have hb0 : Below R w U := by rw [← hU, ← hR]; exact below_alloc w _
  have hUR : U.heap[R]? = some (.cells #[Value.int .i64 0, Value.int .i64 0, Value.string ⟨#[]⟩] 39 (0, 0)) := by rw [← hU, ← hR]; exact lx_new w _
  have hsz0 : U.heap.size = R + 1 := by rw [← hU, ← hR]; show (w.heap.push _).size = _; rw [Array.size_push]
  have hbl0 : Tryd.Bld (R + 1) (R + 1) [] (U.alloc (.cells #[.pointer none, .slice none 0 0] 81)) := by
    rw [← hsz0]
    exact Lib.fresh_isBuilder _ _ U
  have hbU0 : Below (R + 1) U (U.alloc (.cells #[.pointer none, .slice none 0 0] 81)) := by rw [← hsz0]; exact below_alloc U _
  have HB0 := Lib.hid hbl0
  clear hbl0
  rw [hR]
  go_enter Tryd.func63, Tryd.ntmps63
  go_wp2_with fail
  try rw [hU]
  go_loopg [6, 7, 8, 9] n (fun g s6 s7 s8 s9 wx => ∃ (i : Nat) (out rest : Lx.T), s6 = .int .i64 i ∧ i + g = n + 1 ∧ g = rest.length ∧ out.length ≤ i ∧ Hid ((34 :: r).drop i = rest) ∧ Hid (finT (34 :: r) (Lx.comb out (Lx.tq rest)) = (k, t, r', z)) ∧ Hid (Tryd.Bld (R + 1) (R + 1) out wx) ∧ Below (R + 1) U wx)
  case atStart => exact ⟨1, [], r, rfl, by omega, HN.out.symm, by simp, Lib.hid rfl, HO, HB0, hbU0⟩
  case round =>
    obtain ⟨i, out, rest, rfl, hi, hg, hol, HD, HI, HB, hwx⟩ := hrel
    have hszx := hwx.size
    have hxR : wr.heap[R]? = some (.cells #[Value.int .i64 0, Value.int .i64 0, Value.string ⟨#[]⟩] 39 (0, 0)) := by
      rw [hwx.block R (by omega)]; exact hUR
    have hc0 := lx_cell hxR 0
    have hc1 := lx_cell hxR 1
    have hc2 := lx_cell hxR 2
    have hf0 := lx_frozen hxR 0
    have hf1 := lx_frozen hxR 1
    have hf2 := lx_frozen hxR 2
    cases rest with
    | nil =>
      obtain rfl : gk = 0 := hg
      obtain rfl : i = n + 1 := by omega
      have h := HI.out
      rw [Lx.comb_out] at h
      have h : (0, [], 34 :: r, (12 : Int)) = (k, t, r', z) := h
      simp only [Prod.mk.injEq] at h
      obtain ⟨rfl, rfl, rfl, rfl⟩ := h
      obtain rfl : x = 0 := by have := HX.out; simp only [List.length_cons] at this; omega
      go_wp2_with fail
      exact tok_end rfl (hb0.trans (hwx.mono (Nat.le_succ _))) hc0 hc1 hc2 0 0 0 12 ⟨#[]⟩ _ rfl rfl rfl rfl
    | cons c rs =>
      obtain ⟨hlt0, hci, hdr⟩ := tail_at HD.out rfl
      have hlt : i < n + 1 := by simp only [List.length_cons] at hg; omega
      have hltz : (i : Int) < (n : Int) + 1 := by omega
      have hlts : i < (str (34 :: r)).size := by rw [hsz]; exact hlt
      have hc : (str (34 :: r))[i]'hlts = c := by
        have : (34 :: r : Lx.T)[i]'hlt0 = c := by
          rw [List.getElem?_eq_getElem hlt0] at hci
          exact Option.some.inj hci
        exact this
      have hgl : gk = rs.length + 1 := hg
      have HDR := Lib.hid hdr
      have hlr := HN.out
      clear hdr hci hg
      by_cases h34 : c.toNat = 34
      · obtain rfl : c = 34 := UInt8.toNat_inj.1 h34
        have h := HI.out
        rw [Lx.comb_end] at h
        have h : (3, out, rs, (0 : Int)) = (k, t, r', z) := h
        simp only [Prod.mk.injEq] at h
        obtain ⟨rfl, rfl, rfl, rfl⟩ := h
        have hxi : (i : Int) + 1 = (x : Int) := by have := HX.out; rw [hlr] at this; omega
        go_wp2_with fail
        refine (Tryd.Builder_String_any (R + 1) (R + 1) out _ HB.out (by omega)).mono ?_
        rintro e w2 ⟨rfl, hw2⟩
        have hx2 : w2.heap[R]? = some (.cells #[Value.int .i64 0, Value.int .i64 0, Value.string ⟨#[]⟩] 39 (0, 0)) := by
          rw [hw2.block R (by omega)]; exact hxR
        have hc0' := lx_cell hx2 0
        have hc1' := lx_cell hx2 1
        have hc2' := lx_cell hx2 2
        have hf0' := lx_frozen hx2 0
        have hf1' := lx_frozen hx2 1
        have hf2' := lx_frozen hx2 2
        have hb2 := hb0.trans ((hwx.trans hw2).mono (Nat.le_succ _))
        clear hc0 hc1 hc2 hf0 hf1 hf2
        go_wp2_with fail
        exact tok_end rfl hb2 hc0' hc1' hc2' 3 0 x 0 (str out) _ rfl rfl rfl rfl
      · by_cases h10 : c.toNat = 10
        · obtain rfl : c = 10 := UInt8.toNat_inj.1 h10
          have h := HI.out
          rw [Lx.comb_lf] at h
          have h : (0, [], 34 :: r, (12 : Int)) = (k, t, r', z) := h
          simp only [Prod.mk.injEq] at h
          obtain ⟨rfl, rfl, rfl, rfl⟩ := h
          obtain rfl : x = 0 := by have := HX.out; simp only [List.length_cons] at this; omega
          go_wp2_with fail
          exact tok_end rfl (hb0.trans (hwx.mono (Nat.le_succ _))) hc0 hc1 hc2 0 0 0 12 ⟨#[]⟩ _ rfl rfl rfl rfl
        · by_cases h92 : c.toNat = 92
          · obtain rfl : c = 92 := UInt8.toNat_inj.1 h92
            cases rs with
            | nil =>
              have h := HI.out
              rw [Lx.comb_last] at h
              have h : (0, [], 34 :: r, (12 : Int)) = (k, t, r', z) := h
              simp only [Prod.mk.injEq] at h
              obtain ⟨rfl, rfl, rfl, rfl⟩ := h
              obtain rfl : x = 0 := by have := HX.out; simp only [List.length_cons] at this; omega
              obtain rfl : gk = 1 := hgl
              obtain rfl : i = n := by omega
              go_wp2_with fail
              exact tok_end rfl (hb0.trans (hwx.mono (Nat.le_succ _))) hc0 hc1 hc2 0 0 0 12 ⟨#[]⟩ _ rfl rfl rfl rfl
            | cons d rt =>
              obtain ⟨hlt1, hdi, hdt⟩ := tail_at HDR.out rfl
              have HDT := Lib.hid hdt
              have hltd : i + 1 < n + 1 := by simp only [List.length_cons] at hgl; omega
              have hltdz : (i : Int) + 1 < (n : Int) + 1 := by omega
              have hned : ¬ ((i : Int) + 1 = (n : Int) + 1) := by omega
              have hltsd : i + 1 < (str (34 :: r)).size := by rw [hsz]; exact hltd
              have hd : (str (34 :: r))[i + 1]'hltsd = d := by
                have : (34 :: r : Lx.T)[i + 1]'hlt1 = d := by
                  rw [List.getElem?_eq_getElem hlt1] at hdi
                  exact Option.some.inj hdi
                exact this
              clear hdi hdt
              have HB3 := Lx.comb_back out d rt
              cases hmd : (Lx.mean d).2 with
              | false =>
                have h := HI.out
                rw [HB3, hmd, if_neg (by decide)] at h
                have h : (0, [], 92 :: d :: rt, (1 : Int)) = (k, t, r', z) := h
                simp only [Prod.mk.injEq] at h
                obtain ⟨rfl, rfl, rfl, rfl⟩ := h
                obtain rfl : x = i := by have := HX.out; rw [hlr] at this; simp only [List.length_cons] at this hgl; omega
                go_wp2_with fail
                refine (meant_of d _).mono ?_
                rintro e w2 ⟨rfl, hw2⟩
                rw [hmd]
                have hx2 : w2.heap[R]? = some (.cells #[Value.int .i64 0, Value.int .i64 0, Value.string ⟨#[]⟩] 39 (0, 0)) := by
                  rw [hw2.block R (by omega)]; exact hxR
                have hc0' := lx_cell hx2 0
                have hc1' := lx_cell hx2 1
                have hc2' := lx_cell hx2 2
                have hf0' := lx_frozen hx2 0
                have hf1' := lx_frozen hx2 1
                have hf2' := lx_frozen hx2 2
                have hb2 := hb0.trans ((hwx.trans (hw2.mono (by omega))).mono (Nat.le_succ _))
                clear hc0 hc1 hc2 hf0 hf1 hf2
                go_wp2_with fail
                exact tok_end rfl hb2 hc0' hc1' hc2' 0 0 x 1 ⟨#[]⟩ _ rfl rfl rfl rfl
              | true =>
                have HI2 : Hid (finT (34 :: r) (Lx.comb (out ++ [(Lx.mean d).1]) (Lx.tq rt)) = (k, t, r', z)) := Lib.hid (by have h := HI.out; rw [HB3, hmd, if_pos rfl] at h; exact h)
                obtain ⟨m, hm⟩ : ∃ m, (Lx.mean d).1 = m := ⟨_, rfl⟩
                rw [hm] at HI2
                go_wp2_with fail
                refine (meant_of d _).mono ?_
                rintro e w2 ⟨rfl, hw2⟩
                rw [hmd, hm]
                have HBL := HB.out
                clear hc0 hc1 hc2 hf0 hf1 hf2
                have hszw := hw2.size
                go_wp2_with fail
                refine (Tryd.Builder_WriteByte (R + 1) (R + 1) out m w2 ?_ (by omega) (by omega)).mono ?_
                · exact isBuilder_below HBL hw2
                rintro e w3 ⟨rfl, hbl3, hw3⟩
                have HB3' := Lib.hid hbl3
                have hb3 := (hwx.trans (hw2.mono (by omega))).trans hw3
                clear hbl3 HBL
                go_wp2_with fail
                go_roundg rt.length
                case measure => simp only [List.length_cons] at hgl; omega
                case rel =>
                  exact ⟨i + 1 + 1, out ++ [m], rt, by simp, by simp only [List.length_cons] at hgl; omega, rfl, by rw [List.length_append]; simp only [List.length_singleton]; omega, HDT, HI2, HB3', hb3⟩
          · have HI2 : Hid (finT (34 :: r) (Lx.comb (out ++ [c]) (Lx.tq rs)) = (k, t, r', z)) := Lib.hid (by rw [← Lx.comb_plain out c rs h34 h10 h92]; exact HI.out)
            go_wp2_with fail
            refine (Tryd.Builder_WriteByte (R + 1) (R + 1) out c _ HB.out (by omega) (by omega)).mono ?_
            rintro e w2 ⟨rfl, hbl2, hw2⟩
            have HB2 := Lib.hid hbl2
            clear hbl2
            go_wp2_with fail
            go_roundg rs.length
            case measure => omega
            case rel =>
              exact ⟨i + 1, out ++ [c], rs, by simp, by omega, rfl, by rw [List.length_append]; simp only [List.length_singleton]; omega, HDR, HI2, HB2, hwx.trans hw2⟩
end Go.Proofs.YtgahahichplpkaaDoor

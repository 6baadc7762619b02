/-
  The walks of layer lex's Quote and Join as landed; all three calls' contracts.
-/
import Derived.Test.YtljccnboijdpfaaDoorLexAll
import Derived.Test.YtljccnboijdpfaaDoorLexLaw
import Derived.Deep.OwnRows
namespace Go.Proofs.YtljccnboijdpfaaDoor
open Go.RowKit

theorem body_cons (c : UInt8) (r : Lx.T) : Lx.body (c :: r) = Lx.esc c ++ Lx.body r := rfl
theorem body_le2 : ∀ s : Lx.T, (Lx.body s).length ≤ 2 * s.length
  | [] => Nat.le_refl _
  | c :: s => by
    have ih := body_le2 s
    have h1 : (Lx.esc c).length ≤ 2 := by
      unfold Lx.esc
      split
      · simp
      · split <;> simp
    rw [body_cons, List.length_append, List.length_cons]
    omega
set_option maxHeartbeats 3200000 in
theorem quote_of : QuoteC := by
  intro s S hs hS w
  obtain ⟨l, hl⟩ : ∃ l, s.data.toList = l := ⟨_, rfl⟩
  rw [hl] at hS
  obtain rfl : s = str l := str_of hl
  clear hl
  obtain ⟨n, hn⟩ : ∃ n, l.length = n := ⟨_, rfl⟩
  have hsz : (str l).size = n := by rw [str_len, hn]
  rw [hsz] at hs
  have HS := Lib.hid hS
  have HN := Lib.hid hn
  clear hS hn
  have hbl0 := Lib.fresh_isBuilder 43 5 w
  have hbB : Below w.heap.size w (w.alloc (.cells #[.pointer none, .slice none 0 0] 43)) := below_alloc w _
  obtain ⟨B, hB⟩ : ∃ B, w.heap.size = B := ⟨_, rfl⟩
  rw [hB] at hbl0 hbB ⊢
  obtain ⟨V, hV⟩ : ∃ V, w.alloc (.cells #[.pointer none, .slice none 0 0] 43) = V := ⟨_, rfl⟩
  rw [hV] at hbl0 hbB
  have hVs := hbB.size
  have HB0 := Lib.hid hbl0
  clear hbl0
  go_enter Tryd.func13, Tryd.ntmps13
  go_wp2_with fail
  try rw [hV]
  refine (Tryd.Builder_WriteByte B B [] 34 V HB0.out (by simp) (by omega)).mono ?_
  rintro e w1 ⟨rfl, hbl1, hw1⟩
  have HB1 := Lib.hid hbl1
  have hb1 := hbB.trans hw1
  clear hbl1 hw1
  go_wp2_with fail
  go_loopg [4, 5, 9] n (fun g s4 s5 s9 wx => ∃ (i : Nat) (out rest : Lx.T), s9 = .int .i64 i ∧ i + g = n ∧ g = rest.length ∧ out.length ≤ 2 * i + 1 ∧ Hid (l.drop i = rest) ∧ Hid (out ++ (Lx.body rest ++ [34]) = Lx.quote l) ∧ Hid (Tryd.Bld B B out wx) ∧ Below B w wx)
  case atStart => exact ⟨0, [34], l, rfl, by omega, HN.out.symm, by simp, Lib.hid rfl, Lib.hid rfl, HB1, hb1⟩
  case round =>
    obtain ⟨i, out, rest, rfl, hi, hg, hol, HD, HI, HB, hwx⟩ := hrel
    have hszx := hwx.size
    cases rest with
    | nil =>
      obtain rfl : gk = 0 := hg
      obtain rfl : i = n := by omega
      go_wp2_with fail
      refine (Tryd.Builder_WriteByte B B out 34 _ HB.out (by omega) (by omega)).mono ?_
      rintro e w2 ⟨rfl, hbl2, hw2⟩
      have HB2 := Lib.hid hbl2
      have hb2 := hwx.trans hw2
      clear hbl2
      go_wp2_with fail
      refine (Tryd.Builder_String_any B B (out ++ [34]) _ HB2.out (by have := hb2.size; omega)).mono ?_
      rintro e w3 ⟨rfl, hw3⟩
      go_wp2_with fail
      go_ret
      refine ⟨?_, hb2.trans hw3⟩
      have h := HI.out
      rw [show Lx.body [] = [] from rfl, List.nil_append, ← HS.out] at h
      have e : S = ⟨(out ++ [34]).toArray⟩ := str_of h.symm
      rw [e]
      rfl
    | cons c rs =>
      obtain ⟨hlt0, hci, hdr⟩ := tail_at HD.out rfl
      have hlt : i < n := by simp only [List.length_cons] at hg; omega
      have hltz : (i : Int) < (n : Int) := by omega
      have hlts : i < (str l).size := by rw [hsz]; exact hlt
      have hc : (str l)[i]'hlts = c := by
        have : l[i]'hlt0 = c := by
          rw [List.getElem?_eq_getElem hlt0] at hci
          exact Option.some.inj hci
        exact this
      have hgl : gk = rs.length + 1 := hg
      have HDR := Lib.hid hdr
      clear hdr hci hg
      by_cases h10 : c.toNat = 10
      · obtain rfl : c = 10 := UInt8.toNat_inj.1 h10
        have HI2 : Hid ((out ++ [92, 110]) ++ (Lx.body rs ++ [34]) = Lx.quote l) := Lib.hid (by rw [← HI.out, body_cons]; simp [Lx.esc])
        go_wp2_with fail
        refine (Tryd.Builder_WriteString B B out [92, 110] _ rfl _ HB.out (by simp only [List.length_cons, List.length_nil]; omega) (by omega)).mono ?_
        rintro e w2 ⟨rfl, hbl2, hw2⟩
        have HB2 := Lib.hid hbl2
        have hb2 := hwx.trans hw2
        clear hbl2
        go_wp2_with fail
        go_roundg rs.length
        case measure => omega
        case rel => exact ⟨i + 1, out ++ [92, 110], rs, by simp, by omega, rfl, by simp only [List.length_append, List.length_cons, List.length_nil]; omega, HDR, HI2, HB2, hb2⟩
      · by_cases h2 : c.toNat = 92 ∨ c.toNat = 34
        · have HI2 : Hid (((out ++ [92]) ++ [c]) ++ (Lx.body rs ++ [34]) = Lx.quote l) := Lib.hid (by rw [← HI.out, body_cons, Lx.esc, if_pos h2]; simp)
          have h2' : c = 92 ∨ c = 34 := h2.imp (fun h => UInt8.toNat_inj.1 h) (fun h => UInt8.toNat_inj.1 h)
          rcases h2' with rfl | rfl
          · go_wp2_with fail
            refine (Tryd.Builder_WriteByte B B out 92 _ HB.out (by omega) (by omega)).mono ?_
            rintro e w2 ⟨rfl, hbl2, hw2⟩
            have HB2 := Lib.hid hbl2
            have hb2 := hwx.trans hw2
            have hs2 := hb2.size
            clear hbl2
            go_wp2_with fail
            refine (Tryd.Builder_WriteByte B B (out ++ [92]) 92 _ HB2.out (by simp only [List.length_append, List.length_cons, List.length_nil]; omega) (by omega)).mono ?_
            rintro e w3 ⟨rfl, hbl3, hw3⟩
            have HB3 := Lib.hid hbl3
            have hb3 := hb2.trans hw3
            clear hbl3
            go_wp2_with fail
            go_roundg rs.length
            case measure => omega
            case rel => exact ⟨i + 1, _, rs, by simp, by omega, rfl, by simp only [List.length_append, List.length_cons, List.length_nil]; omega, HDR, HI2, HB3, hb3⟩
          · go_wp2_with fail
            refine (Tryd.Builder_WriteByte B B out 92 _ HB.out (by omega) (by omega)).mono ?_
            rintro e w2 ⟨rfl, hbl2, hw2⟩
            have HB2 := Lib.hid hbl2
            have hb2 := hwx.trans hw2
            have hs2 := hb2.size
            clear hbl2
            go_wp2_with fail
            refine (Tryd.Builder_WriteByte B B (out ++ [92]) 34 _ HB2.out (by simp only [List.length_append, List.length_cons, List.length_nil]; omega) (by omega)).mono ?_
            rintro e w3 ⟨rfl, hbl3, hw3⟩
            have HB3 := Lib.hid hbl3
            have hb3 := hb2.trans hw3
            clear hbl3
            go_wp2_with fail
            go_roundg rs.length
            case measure => omega
            case rel => exact ⟨i + 1, _, rs, by simp, by omega, rfl, by simp only [List.length_append, List.length_cons, List.length_nil]; omega, HDR, HI2, HB3, hb3⟩
        · have HI2 : Hid ((out ++ [c]) ++ (Lx.body rs ++ [34]) = Lx.quote l) := Lib.hid (by rw [← HI.out, body_cons, Lx.esc, if_neg h2, if_neg h10]; simp)
          have n92 : c.toNat ≠ 92 := fun h => h2 (.inl h)
          have n34 : c.toNat ≠ 34 := fun h => h2 (.inr h)
          clear h2
          go_wp2_with fail
          refine (Tryd.Builder_WriteByte B B out c _ HB.out (by omega) (by omega)).mono ?_
          rintro e w2 ⟨rfl, hbl2, hw2⟩
          have HB2 := Lib.hid hbl2
          have hb2 := hwx.trans hw2
          clear hbl2
          go_wp2_with fail
          go_roundg rs.length
          case measure => omega
          case rel => exact ⟨i + 1, out ++ [c], rs, by simp, by omega, rfl, by simp only [List.length_append, List.length_cons, List.length_nil]; omega, HDR, HI2, HB2, hb2⟩

/-! ### Join -/
theorem joinQ_len : ∀ L : List (Nat × Lx.T), L.length ≤ (Lx.joinP L).length + 1
  | [] => Nat.le_succ _
  | [p] => by simp
  | p :: q :: r => by
    have ih := joinQ_len (q :: r)
    rw [Lx.joinP]
    simp only [List.length_append, List.length_cons] at ih ⊢
    omega
theorem joinQ_mem : ∀ (L : List (Nat × Lx.T)) (p : Nat × Lx.T), p ∈ L → (Lx.txt p.1 p.2).length ≤ (Lx.joinP L).length
  | [], _, h => by cases h
  | [q], p, h => by
    rw [List.mem_singleton] at h
    subst h
    exact Nat.le_refl _
  | q :: u :: r, p, h => by
    have ih := joinQ_mem (u :: r) p
    rw [Lx.joinP]
    simp only [List.length_append, List.length_cons]
    rcases List.mem_cons.1 h with rfl | h
    · omega
    · have := ih h
      omega
def txtB (t : Tk) : ByteArray := str (Lx.txt t.1 t.2.2.data.toList)
/-- What the row holds ahead of round i. -/
def rowT (L : List Tk) (i : Nat) (j : Nat) : Value := .string (if j < i then (L[j]?.map txtB).getD ⟨#[]⟩ else ⟨#[]⟩)
theorem row_step (L : List Tk) (i : Nat) (h : i < L.length) (j : Nat) : (if j = i then Value.string (txtB L[i]) else rowT L i j) = rowT L (i + 1) j := by
  unfold rowT
  by_cases e : j = i
  · subst e
    rw [if_pos rfl, if_pos (by omega), List.getElem?_eq_getElem h]
    rfl
  · rw [if_neg e]
    by_cases hl : j < i
    · rw [if_pos hl, if_pos (by omega)]
    · rw [if_neg hl, if_neg (by omega)]
theorem info_strW : (Tryd.prog.info? 9).map (fun i => (i.zero, i.size, i.bytes)) = some (some (.string ⟨#[]⟩), 1, 16) := by kernel_rfl
set_option maxHeartbeats 3200000 in
theorem join_of : JoinC := by
  intro A d q ts S hq hc hs hS w hr
  have hq6 : q ≤ 1000001 := by
    have h1 := joinQ_len (ts.map flatT)
    rw [List.length_map, ← hS] at h1
    have := Lib.size_eq S
    omega
  have HQ := Lib.hid hq
  have HS := Lib.hid hS
  have HR := Lib.hid hr
  have hlen : q ≤ 9223372036854775807 := by omega
  have hmk := run_make_row' (P := Tryd.prog) 36 9 (.string ⟨#[]⟩) 16 Tryd.underlying36 info_strW rfl .i64 .i64 q (by omega) (by omega)
  have hrow0 := World.rowIs_made w (.string ⟨#[]⟩) q 9
  have hbB : Below w.heap.size w (w.alloc (.cells (madeCells #[.string ⟨#[]⟩] q) 9)) := below_alloc w _
  obtain ⟨V, hV⟩ : ∃ V, w.alloc (.cells (madeCells #[.string ⟨#[]⟩] q) 9) = V := ⟨_, rfl⟩
  rw [hV] at hrow0 hbB
  have hrow1 : V.rowIs w.heap.size 9 q (rowT ts 0) := hrow0.congr (fun i _ => by simp [rowT])
  have HW0 := Lib.hid hrow1
  obtain ⟨B, hB⟩ : ∃ B, w.heap.size = B := ⟨_, rfl⟩
  rw [hB] at hbB HW0
  clear hq hr hS hrow0 hrow1
  go_enter Tryd.func10, Tryd.ntmps10
  go_wp2_with fail
  try rw [hV]
  go_loopg [4, 5, 11] q (fun g s4 s5 s11 wx => ∃ i : Nat, s11 = .int .i64 i ∧ i + g = q ∧ Hid (wx.rowIs B 9 q (rowT ts i)) ∧ Below B w wx)
  case atStart => exact ⟨0, rfl, by omega, HW0, hbB⟩
  case round =>
    obtain ⟨i, rfl, hi, HW, hwx⟩ := hrel
    have hszx := hwx.size
    have hszB : B ≤ wr.heap.size := by omega
    cases gk with
    | zero =>
      obtain rfl : i = q := by omega
      go_wp2_with fail
      have hrow := HW.out
      have hxl : (ts.map txtB).length = i := by rw [List.length_map]; exact HQ.out.symm
      have hcells : ∀ (j : Nat) (x : ByteArray), (ts.map txtB)[j]? = some x → wr.cell? ⟨B, 0 + j, none⟩ = some (.string x) := by
        intro j x hx
        have hj : j < i := by rw [← hxl]; exact (List.getElem?_eq_some_iff.1 hx).1
        rw [Nat.zero_add, hrow.cell hj]
        rw [List.getElem?_map] at hx
        rw [rowT, if_pos hj, hx]
        rfl
      have hmm : (ts.map txtB).map (fun b => b.data.toList) = (ts.map flatT).map (fun p => Lx.txt p.1 p.2) := by
        rw [List.map_map, List.map_map]
        rfl
      have hj := Lx.join_is (ts.map flatT)
      have hjl : (Lib.join ((ts.map txtB).map (fun b => b.data.toList)) (⟨#[32]⟩ : ByteArray).data.toList).length ≤ 140737488355328 := by
        rw [hmm, show (⟨#[32]⟩ : ByteArray).data.toList = [32] from rfl, hj, ← HS.out, ← Lib.size_eq]
        omega
      have hcall := Tryd.strings_Join B 0 i (ts.map txtB) ⟨#[32]⟩ wr hcells hrow.lt (by rw [hxl]; omega) (by rw [hxl]; exact Nat.le_refl _) hjl
      rw [hxl, hmm, show (⟨#[32]⟩ : ByteArray).data.toList = [32] from rfl, hj, ← HS.out, Lib.mk_data] at hcall
      refine hcall.mono ?_
      rintro e w2 ⟨rfl, hw2⟩
      go_wp2_with fail
      go_ret
      exact ⟨rfl, by rw [hB]; exact hwx.trans (hw2.mono hszB)⟩
    | succ g =>
      have hlt : i < q := by omega
      have hltz : (i : Int) < (q : Int) := by omega
      have hil : i < ts.length := by have := HQ.out; omega
      obtain ⟨bk, off, rfl, hbk0, c0', c1', c2'⟩ := HR.out.at_ hil
      have hbk0' : bk < B := by rw [← hB]; exact hbk0
      have c0 := (hwx.cell (p := ⟨bk, off + i * 3, none⟩) hbk0').trans c0'
      have c1 := (hwx.cell (p := ⟨bk, off + i * 3 + 1, none⟩) hbk0').trans c1'
      have c2 := (hwx.cell (p := ⟨bk, off + i * 3 + 2, none⟩) hbk0').trans c2'
      clear c0' c1' c2'
      obtain ⟨k, hk⟩ : ∃ k, ts[i].1 = k := ⟨_, rfl⟩
      obtain ⟨a, ha⟩ : ∃ k, ts[i].2.1 = k := ⟨_, rfl⟩
      obtain ⟨x, hx⟩ : ∃ k, ts[i].2.2 = k := ⟨_, rfl⟩
      rw [hk] at c0
      rw [ha] at c1
      rw [hx] at c2
      have hbkx : bk < wr.heap.size := by have := hwx.size; omega
      have htxt : txtB ts[i] = str (Lx.txt k x.data.toList) := by unfold txtB; rw [hk, hx]
      have hxs : (Lx.txt k x.data.toList).length ≤ 1000000 := by
        have h1 := joinQ_mem (ts.map flatT) (flatT ts[i]) (List.mem_map_of_mem (List.getElem_mem hil))
        rw [← HS.out, ← Lib.size_eq] at h1
        have e : Lx.txt (flatT ts[i]).1 (flatT ts[i]).2 = Lx.txt k x.data.toList := by
          show Lx.txt ts[i].1 ts[i].2.2.data.toList = _
          rw [hk, hx]
        rw [e] at h1
        omega
      have hxx : x.size ≤ 1000000 := by
        have := txt_ge k x.data.toList
        rw [Lib.size_eq]
        omega
      have HST := Lib.hid (row_step ts i hil)
      clear hk ha hx
      have hC : Below wr.heap.size wr (wr.alloc (.cells #[.int .i64 (k : Int), .int .i64 (a : Int), .string x] 32)) := below_alloc wr _
      have hrw := HW.out.alloc (.cells #[.int .i64 (k : Int), .int .i64 (a : Int), .string x] 32)
      have hCn : (wr.alloc (.cells #[.int .i64 (k : Int), .int .i64 (a : Int), .string x] 32)).heap[wr.heap.size]? = some (.cells #[.int .i64 (k : Int), .int .i64 (a : Int), .string x] 32 (0, 0)) := heap_new wr _
      have hBlt := HW.out.lt
      obtain ⟨Y, hY⟩ : ∃ Y, wr.alloc (.cells #[.int .i64 (k : Int), .int .i64 (a : Int), .string x] 32) = Y := ⟨_, rfl⟩
      rw [hY] at hC hrw hCn
      have hcB := hrw.cell hlt
      have hfB := hrw.frozen i
      have y0 : Y.cell? ⟨wr.heap.size, 0, none⟩ = some (.int .i64 (k : Int)) := cell_of hCn 0
      have y2 : Y.cell? ⟨wr.heap.size, 2, none⟩ = some (.string x) := cell_of hCn 2
      obtain ⟨Z, hZ⟩ : ∃ Z, Y.setCell ⟨B, i, none⟩ (.string x) = Z := ⟨_, rfl⟩
      have hne : ∀ o, (⟨B, i, none⟩ : Addr) ≠ ⟨wr.heap.size, o, none⟩ := by
        intro o h
        have := congrArg Addr.block h
        simp only at this
        omega
      have e0 : Z.cell? ⟨wr.heap.size, 0, none⟩ = some (.int .i64 (k : Int)) := by
        rw [← hZ]
        exact (World.cell?_setCell_other _ _ _ _ (hne 0)).trans (cell_of hCn 0)
      have e2 : Z.cell? ⟨wr.heap.size, 2, none⟩ = some (.string x) := by
        rw [← hZ]
        exact (World.cell?_setCell_other _ _ _ _ (hne 2)).trans (cell_of hCn 2)
      have hZr : Z.rowIs B 9 q (fun j => if j = i then .string x else rowT ts i j) := by rw [← hZ]; exact hrw.set i _
      have hZb : Below B w Z := by
        rw [← hZ]
        exact (hwx.trans (hC.mono hszB)).setCell (p := ⟨B, i, none⟩) (Nat.le_refl _) _
      have HZR := Lib.hid hZr
      clear hZr hrw hCn hne
      by_cases hk3 : k = 3
      · have hk3b : ((k : Int) == 3) = true := by rw [hk3]; rfl
        have HST3 : Hid (∀ j, (if j = i then Value.string (str (Lx.quote x.data.toList)) else rowT ts i j) = rowT ts (i + 1) j) := Lib.hid (by
          intro j
          rw [← HST.out j, htxt, hk3]
          rfl)
        clear hk3
        go_wp2_with fail
        refine (quote_of x (str (Lx.quote x.data.toList)) hxx rfl _).mono ?_
        rintro e w2 ⟨rfl, hw2⟩
        have hr2 := HZR.out.of_block (hw2.block B HZR.out.lt)
        have hb2 := hZb.trans (hw2.mono (by have := hZb.size; omega))
        have hcB2 := hr2.cell hlt
        have hfB2 := hr2.frozen i
        have hr3 := (hr2.set i (.string (str (Lx.quote x.data.toList)))).congr (g := rowT ts (i + 1)) (fun j _ => by
          show (if j = i then Value.string (str (Lx.quote x.data.toList)) else if j = i then Value.string x else rowT ts i j) = _
          rw [← HST3.out j]
          split <;> rfl)
        have HR3 := Lib.hid hr3
        have hb3 := hb2.setCell (p := ⟨B, i, none⟩) (Nat.le_refl _) (.string (str (Lx.quote x.data.toList)))
        clear hr2 hr3 e0 e2 hcB hfB
        go_wp2_with fail
        go_roundg g
        case measure => omega
        case rel => exact ⟨i + 1, by simp, by omega, HR3, hb3⟩
      · have hk3b : ((k : Int) == 3) = false := by rw [beq_eq_false_iff_ne]; omega
        have hr3 := HZR.out.congr (g := rowT ts (i + 1)) (fun j _ => by
          show (if j = i then Value.string x else rowT ts i j) = _
          rw [← HST.out j, htxt]
          have : str (Lx.txt k x.data.toList) = x := by
            unfold Lx.txt
            rw [if_neg hk3]
            exact (str_of rfl).symm
          rw [this])
        have HR3 := Lib.hid hr3
        clear hr3 hk3
        go_wp2_with fail
        go_roundg g
        case measure => omega
        case rel => exact ⟨i + 1, by simp, by omega, HR3, hZb⟩
theorem lexC : LexC := ⟨all_of, quote_of, join_of⟩
end Go.Proofs.YtljccnboijdpfaaDoor

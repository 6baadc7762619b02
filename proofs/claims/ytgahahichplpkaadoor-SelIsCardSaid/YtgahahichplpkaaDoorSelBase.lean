/-
  The walks of the document's Few, Short and Same of layer sel.
-/
import Derived.Test.YtgahahichplpkaaDoorMatMem
import Derived.Test.YtgahahichplpkaaDoorLexCon
import Derived.Test.YtgahahichplpkaaDoorTokInt
import Derived.Test.YtgahahichplpkaaDoorSelFacts
namespace Go.Proofs.YtgahahichplpkaaDoor
open Go.RowKit
open Go.Proofs.YtgahahichplpkaaDoor.Sl (Mt Sel Tf)

/-- A selector as a value. -/
abbrev sv (N : ByteArray) (A : Option Addr) (n c : Nat) : Value := .agg #[.string N, .slice A n c]
theorem box_sel (w : World) (N : ByteArray) (A : Option Addr) (n c : Nat) : ∃ W P, w.alloc (Obj.cells #[Value.string N, Value.slice A n c] 24) = W ∧ w.heap.size = P ∧ Below P w W ∧ W.cell? ⟨P, 0, none⟩ = some (.string N) ∧ W.cell? ⟨P, 1, none⟩ = some (.slice A n c) ∧ P < W.heap.size :=
  ⟨_, _, rfl, rfl, below_alloc w _, World.cell?_alloc_at _ _ _ _ rfl, World.cell?_alloc_at _ _ _ _ rfl, by show _ < (w.heap.push _).size; rw [Array.size_push]; omega⟩
set_option maxHeartbeats 1600000 in
theorem fewS_of (N : ByteArray) (A : Option Addr) (c n : Nat) (l : List Mt) (hn : n = l.length) (w : World) (hr : Rq w w.heap.size A l) :
    Calls Tryd.prog 9 #[sv N A n c] w fun e w' => ∃ b : Bool, e = .returned (.bool b) ∧ (b = true → n ≤ 40) ∧ Below w.heap.size w w' := by
  have HN := Lib.hid hn
  have HR := Lib.hid hr
  have hlen : n ≤ 9223372036854775807 := by rw [hn]; exact hr.len
  clear hn hr
  go_enter Tryd.func9, Tryd.ntmps9
  obtain ⟨W, P, hW, hP, hb0, d0, d1, hPW⟩ := box_sel w N A n c
  go_wp2_with fail
  go_loopg [3, 4] n (fun g s3 s4 wx => ∃ (i : Nat) (z : Int), i + g = n ∧ s4 = .int .i64 i ∧ s3 = .int .i64 z ∧ Below W.heap.size W wx)
  case atStart => exact ⟨0, _, by omega, rfl, rfl, Below.refl _ _⟩
  case round =>
    obtain ⟨i, z, hi, rfl, rfl, hwx⟩ := hrel
    have e0 := (hwx.cell (p := ⟨P, 0, none⟩) hPW).trans d0
    have e1 := (hwx.cell (p := ⟨P, 1, none⟩) hPW).trans d1
    have hwp : Below P w wr := hb0.trans (hwx.mono (by omega))
    cases gk with
    | zero =>
      obtain rfl : i = n := by omega
      by_cases h40 : i ≤ 40
      · have hz : decide ((i : Int) ≤ 40) = true := by simp; omega
        go_wp2_with fail
        go_ret
        exact ⟨_, rfl, fun _ => h40, hP ▸ hwp⟩
      · have hz : decide ((i : Int) ≤ 40) = false := by simp; omega
        go_wp2_with fail
        go_ret
        exact ⟨false, rfl, fun h => (by cases h), hP ▸ hwp⟩
    | succ g =>
      have hlt : i < n := by omega
      have hltz : (i : Int) < (n : Int) := by omega
      obtain ⟨bk, off, rfl, hbk, k0, k1, _⟩ := HR.out.at_ (k := i) (by have := HN.out; omega)
      have hbk' : bk < P := by omega
      have c0 := (hwp.cell (p := ⟨bk, off + i * 3, none⟩) hbk').trans k0
      have c1 := (hwp.cell (p := ⟨bk, off + i * 3 + 1, none⟩) hbk').trans k1
      clear k0 k1
      go_wp2_with fail
      go_quiet (fail)
      go_wp2_with fail
      go_roundg g
      case measure => omega
      case rel => exact ⟨i + 1, _, by omega, by simp, rfl, below_on hwx (below_drewN _ _)⟩
set_option maxHeartbeats 1600000 in
theorem short_of (A : Option Addr) (c n : Nat) (l : List Tz) (hn : n = l.length) (w : World) (hr : Rz w w.heap.size A l) :
    Calls Tryd.prog 10 #[.slice A n c] w fun e w' => ∃ b : Bool, e = .returned (.bool b) ∧ (b = true → n ≤ 1500) ∧ Below w.heap.size w w' := by
  have HN := Lib.hid hn
  have HR := Lib.hid hr
  have hlen : n ≤ 9223372036854775807 := by rw [hn]; exact hr.len
  clear hn hr
  go_enter Tryd.func10, Tryd.ntmps10
  go_wp2_with fail
  go_loopg [3, 4] n (fun g s3 s4 wx => ∃ (i : Nat) (z : Int), i + g = n ∧ s4 = .int .i64 i ∧ s3 = .int .i64 z ∧ Below w.heap.size w wx)
  case atStart => exact ⟨0, 0, by omega, rfl, rfl, Below.refl _ _⟩
  case round =>
    obtain ⟨i, z, hi, rfl, rfl, hwx⟩ := hrel
    cases gk with
    | zero =>
      obtain rfl : i = n := by omega
      by_cases h40 : i ≤ 1500
      · have hz : decide ((i : Int) ≤ 1500) = true := by simp; omega
        go_wp2_with fail
        go_ret
        exact ⟨_, rfl, fun _ => h40, hwx⟩
      · have hz : decide ((i : Int) ≤ 1500) = false := by simp; omega
        go_wp2_with fail
        go_ret
        exact ⟨false, rfl, fun h => (by cases h), hwx⟩
    | succ g =>
      have hlt : i < n := by omega
      have hltz : (i : Int) < (n : Int) := by omega
      obtain ⟨bk, off, rfl, hbk, _, _, k2⟩ := HR.out.at_ (k := i) (by have := HN.out; omega)
      have c2 := (hwx.cell (p := ⟨bk, off + i * 3 + 2, none⟩) hbk).trans k2
      clear k2
      go_wp2_with fail
      go_roundg g
      case measure => omega
      case rel => exact ⟨i + 1, _, by omega, by simp, rfl, hwx⟩
theorem box_two (w : World) (N M : ByteArray) (A B : Option Addr) (n c k d : Nat) : ∃ W P, (w.alloc (Obj.cells #[Value.string N, Value.slice A n c] 24)).alloc (Obj.cells #[Value.string M, Value.slice B k d] 24) = W ∧ w.heap.size = P ∧ Below P w W ∧
    W.cell? ⟨P, 0, none⟩ = some (.string N) ∧ W.cell? ⟨P, 1, none⟩ = some (.slice A n c) ∧ W.cell? ⟨P + 1, 0, none⟩ = some (.string M) ∧ W.cell? ⟨P + 1, 1, none⟩ = some (.slice B k d) ∧ P + 1 < W.heap.size := by
  obtain ⟨W1, P, hW1, hP, hb1, d0, d1, hPW1⟩ := box_sel w N A n c
  have hs : W1.heap.size = P + 1 := by rw [← hW1, ← hP]; show (w.heap.push _).size = _; rw [Array.size_push]
  have hb2 := below_alloc W1 (Obj.cells #[Value.string M, Value.slice B k d] 24)
  refine ⟨_, P, rfl, hP, ?_, ?_, ?_, ?_, ?_, ?_⟩
  · rw [hW1]; exact hb1.trans (hb2.mono (by omega))
  · rw [hW1]; exact (hb2.cell (p := ⟨P, 0, none⟩) hPW1).trans d0
  · rw [hW1]; exact (hb2.cell (p := ⟨P, 1, none⟩) hPW1).trans d1
  · rw [hW1]; exact World.cell?_alloc_at _ _ _ _ hs.symm
  · rw [hW1]; exact World.cell?_alloc_at _ _ _ _ hs.symm
  · rw [hW1]; show _ < (W1.heap.push _).size; rw [Array.size_push]; omega
theorem getM {l : List Mt} {k : Nat} (h : k < l.length) : ∃ a b c, l[k]? = some (a, b, c) := ⟨_, _, _, List.getElem?_eq_getElem h⟩
theorem Rq.get {w : World} {B : Nat} {A : Option Addr} {l : List Mt} (h : Rq w B A l) {k : Nat} {a b : ByteArray} {c : Bool} (hk : l[k]? = some (a, b, c)) :
    ∃ g off, A = some ⟨g, off, none⟩ ∧ g < B ∧ w.cell? ⟨g, off + k * 3, none⟩ = some (.string a) ∧ w.cell? ⟨g, off + k * 3 + 1, none⟩ = some (.string b) ∧ w.cell? ⟨g, off + k * 3 + 2, none⟩ = some (.bool c) := by
  obtain ⟨hlt, e⟩ := List.getElem?_eq_some_iff.1 hk
  obtain ⟨g, off, e1, e2, e3, e4, e5⟩ := h.at_ hlt
  rw [e] at e3 e4 e5
  exact ⟨g, off, e1, e2, e3, e4, e5⟩
set_option maxHeartbeats 3200000 in
theorem sameS_of (N M : ByteArray) (A B : Option Addr) (c d n k : Nat) (l m : List Mt) (hn : n = l.length) (hk : k = m.length) (b : Bool) (hb : decide ((N, l) = (M, m)) = b) (w : World) (hr : Rq w w.heap.size A l) (hs : Rq w w.heap.size B m) :
    Calls Tryd.prog 18 #[sv N A n c, sv M B k d] w fun e w' => e = .returned (.bool b) ∧ Below w.heap.size w w' := by
  have HN := Lib.hid hn
  have HK := Lib.hid hk
  have HB := Lib.hid hb
  have HR := Lib.hid hr
  have HS := Lib.hid hs
  have hlen : n ≤ 9223372036854775807 := by rw [hn]; exact hr.len
  have hlen' : k ≤ 9223372036854775807 := by rw [hk]; exact hs.len
  clear hn hk hb hr hs
  go_enter Tryd.func18, Tryd.ntmps18
  obtain ⟨W, P, hW, hP, hb0, g0, g1, f0, f1, hQW⟩ := box_two w N M A B n c k d
  by_cases hNM : N = M
  · subst hNM
    by_cases hnk : n = k
    · subst hnk
      have hnn : ((n : Int) == (n : Int)) = true := by simp
      go_wp2_with fail
      go_loopg [5] n (fun g s5 wx => ∃ i : Nat, i + g = n ∧ s5 = .int .i64 i ∧ Hid (∀ j, j < i → l[j]? = m[j]?) ∧ Below W.heap.size W wx)
      case atStart => exact ⟨0, by omega, rfl, Lib.hid (fun j hj => by omega), Below.refl _ _⟩
      case round =>
        obtain ⟨i, hi, rfl, HA, hwx⟩ := hrel
        have hwp : Below P w wr := hb0.trans (hwx.mono (by omega))
        have e1 := (hwx.cell (p := ⟨P, 1, none⟩) (by show P < _; omega)).trans g1
        have e2 := (hwx.cell (p := ⟨P + 1, 1, none⟩) hQW).trans f1
        cases gk with
        | zero =>
          obtain rfl : i = n := by omega
          have hb : b = true := by
            rw [← HB.out, decide_eq_true_eq]
            congr 1
            refine List.ext_getElem? fun j => ?_
            by_cases hj : j < i
            · exact HA.out j hj
            · rw [List.getElem?_eq_none (by have := HN.out; omega), List.getElem?_eq_none (by have := HK.out; omega)]
          subst hb
          go_wp2_with fail
          go_ret
          exact ⟨rfl, hP ▸ hwp⟩
        | succ g =>
          have hlt : i < n := by omega
          have hltz : (i : Int) < (n : Int) := by omega
          obtain ⟨a1, a2, a3, hp⟩ := getM (l := l) (k := i) (by have := HN.out; omega)
          obtain ⟨b1, b2, b3, hq⟩ := getM (l := m) (k := i) (by have := HK.out; omega)
          obtain ⟨bk, off, rfl, hbk, k0, k1, k2⟩ := HR.out.get hp
          obtain ⟨bk2, off2, rfl, hbk2, j0, j1, j2⟩ := HS.out.get hq
          have hbk' : bk < P := by omega
          have hbk2' : bk2 < P := by omega
          have c0 := (hwp.cell (p := ⟨bk, off + i * 3, none⟩) hbk').trans k0
          have c1 := (hwp.cell (p := ⟨bk, off + i * 3 + 1, none⟩) hbk').trans k1
          have c2 := (hwp.cell (p := ⟨bk, off + i * 3 + 2, none⟩) hbk').trans k2
          have r0 := (hwp.cell (p := ⟨bk2, off2 + i * 3, none⟩) hbk2').trans j0
          have r1 := (hwp.cell (p := ⟨bk2, off2 + i * 3 + 1, none⟩) hbk2').trans j1
          have r2 := (hwp.cell (p := ⟨bk2, off2 + i * 3 + 2, none⟩) hbk2').trans j2
          have HPl := Lib.hid hp
          have HQl := Lib.hid hq
          clear k0 k1 k2 j0 j1 j2 hp hq
          have hgp := guard_mat
          by_cases he : a1 = b1 ∧ a2 = b2 ∧ a3 = b3
          · have hne : ∀ w, (binOp .neq 45 (.agg #[.string a1, .string a2, .bool a3]) (.agg #[.string b1, .string b2, .bool b3])).run Tryd.prog w = .ok (.bool false) w := fun w => by
              rw [neq_mat]; simp [he]
            have HA' : Hid (∀ j, j < i + 1 → l[j]? = m[j]?) := Lib.hid (fun j hj => by
              by_cases e : j = i
              · subst e; rw [HPl.out, HQl.out, he.1, he.2.1, he.2.2]
              · exact HA.out j (by omega))
            clear he
            go_wp2_with fail
            go_quiet (fail)
            go_wp2_with fail
            go_roundg g
            case measure => omega
            case rel => exact ⟨i + 1, by omega, by simp, HA', below_on hwx (below_drewN _ _)⟩
          · have hne : ∀ w, (binOp .neq 45 (.agg #[.string a1, .string a2, .bool a3]) (.agg #[.string b1, .string b2, .bool b3])).run Tryd.prog w = .ok (.bool true) w := fun w => by
              rw [neq_mat]; simp [he]
            have hb : b = false := by
              rw [← HB.out]
              simp only [decide_eq_false_iff_not]
              intro e
              have e' : l = m := congrArg Prod.snd e
              have := HPl.out
              rw [e', HQl.out] at this
              cases this
              exact he ⟨rfl, rfl, rfl⟩
            subst hb
            clear he
            go_wp2_with fail
            go_quiet (fail)
            go_wp2_with fail
            go_ret
            exact ⟨rfl, below_on (hP ▸ hwp) (below_drewN wr _)⟩
    · have hnz : ((n : Int) == (k : Int)) = false := by simp; omega
      have hb : b = false := by
        rw [← HB.out]
        simp only [decide_eq_false_iff_not]
        intro e
        have e' : l = m := congrArg Prod.snd e
        rw [HN.out, HK.out, e'] at hnk
        exact hnk rfl
      subst hb
      clear hnk
      go_wp2_with fail
      go_ret
      exact ⟨rfl, hP ▸ hb0⟩
  · have hnm : (N.toList == M.toList) = false := by rw [Lp.beq_tl]; simpa using hNM
    have hnm2 : ¬ N.toList = M.toList := fun h => hNM (Lp.ext h)
    have hb : b = false := by
      rw [← HB.out]
      simp only [decide_eq_false_iff_not]
      intro e
      exact hNM (congrArg Prod.fst e)
    subst hb
    clear hNM
    go_wp2_with fail
    go_ret
    exact ⟨rfl, hP ▸ hb0⟩
/-- A selector's variable. -/
structure Bx (w : World) (P : Nat) (N : ByteArray) (A : Option Addr) (n c : Nat) : Prop where
  c0 : w.cell? ⟨P, 0, none⟩ = some (.string N)
  c1 : w.cell? ⟨P, 1, none⟩ = some (.slice A n c)
  lt : P < w.heap.size
theorem Bx.on {w w' : World} {P : Nat} {N : ByteArray} {A : Option Addr} {n c : Nat} (h : Bx w P N A n c) (hb : Below w.heap.size w w') : Bx w' P N A n c :=
  ⟨(hb.cell (p := ⟨P, 0, none⟩) h.lt).trans h.c0, (hb.cell (p := ⟨P, 1, none⟩) h.lt).trans h.c1, Nat.lt_of_lt_of_le h.lt hb.size⟩
theorem frozen_new {w V : World} {P : Nat} {C : Array Value} {t : TypeId} (hV : w.alloc (.cells C t) = V) (hP : w.heap.size = P) (d : Nat) : V.frozen? ⟨P, d, none⟩ = false := by
  have h : V.heap[P]? = some (.cells C t (0, 0)) := by rw [← hV, ← hP]; exact heap_alloc_new w _
  simp [World.frozen?, h]
theorem Bx.set {w : World} {P : Nat} {M : ByteArray} {B : Option Addr} {k d : Nat} (h : Bx w P M B k d) (N : ByteArray) (A : Option Addr) (n c : Nat) : Bx ((w.setCell ⟨P, 0, none⟩ (.string N)).setCell ⟨P, 1, none⟩ (.slice A n c)) P N A n c := by
  have n1 : (⟨P, 0, none⟩ : Addr) ≠ ⟨P, 1, none⟩ := by simp
  have n2 : (⟨P, 1, none⟩ : Addr) ≠ ⟨P, 0, none⟩ := by simp
  have hb : Below P w ((w.setCell ⟨P, 0, none⟩ (.string N)).setCell ⟨P, 1, none⟩ (.slice A n c)) := ((Below.refl P w).setCell (p := ⟨P, 0, none⟩) (Nat.le_refl _) _).setCell (p := ⟨P, 1, none⟩) (Nat.le_refl _) _
  exact ⟨(World.cell?_setCell_other _ _ _ _ n2).trans (World.cell?_setCell_same _ _ _ h.c0), World.cell?_setCell_same _ _ _ ((World.cell?_setCell_other _ _ _ _ n1).trans h.c1), Nat.lt_of_lt_of_le h.lt hb.size⟩
end Go.Proofs.YtgahahichplpkaaDoor

/-
  The reader of the landed sel in memory; what each of its methods does with a token.
  The walks of the landed sel's readOn and Parse.
  The walk of the landed sel's Parse.
  The walk of the landed sel's Sane: its matches asked by slices.ContainsFunc.
  The walk of the landed sel's Print: a row of its matches' texts, joined.
-/
import Derived.Test.YtkoeggjfdcpokaaGreatDoorMemA
import Derived.Test.YtkoeggjfdcpokaaGreatDoorLabA
import Derived.Test.YtkoeggjfdcpokaaGreatDoorPlnA
import Derived.Deep.RegionLaw
import Derived.Test.YtkoeggjfdcpokaaGreatDoorLexA
import Derived.Deep.OwnRows
import Derived.Deep.RegionHeldLaw
namespace Go.Proofs.YtkoeggjfdcpokaaGreatDoor
open Go.RowKit Go.Proofs.YtkoeggjfdcpokaaGreatDoor.Lp
open Go.Proofs.YtkoeggjfdcpokaaGreatDoor.Sl (Mt Sel Tf Rs)

/-- A reader in block P; its row of matches lies above it. -/
structure Rr (w : World) (P : Nat) (v : Value) (R : Rs) : Prop where
  c0 : w.cell? ⟨P, 0, none⟩ = some (.string R.N)
  c1 : w.cell? ⟨P, 1, none⟩ = some v
  c2 : w.cell? ⟨P, 2, none⟩ = some (.string R.mn)
  c3 : w.cell? ⟨P, 3, none⟩ = some (.string R.mv)
  c4 : w.cell? ⟨P, 4, none⟩ = some (.bool R.no)
  fz : ∀ o, w.frozen? ⟨P, o, none⟩ = false
  lt : P < w.heap.size
  own : OwnQ w (P + 1) v R.ms
  few : R.ms.length ≤ 8
  mz : R.mn.size ≤ 9223372036854775807
theorem OwnQ.set {w : World} {P : Nat} {v : Value} {l : List Mt} (h : OwnQ w (P + 1) v l) (o : Nat) (x : Value) : OwnQ (w.setCell ⟨P, o, none⟩ x) (P + 1) v l := by
  refine ⟨h.1, ?_⟩
  rcases h.2 with h0 | ⟨g, cap, cur, hv, hbs, hg, hr⟩
  · exact .inl h0
  · exact .inr ⟨g, cap, cur, hv, hbs, (Below.heap_setCell w ⟨P, o, none⟩ x g (by show g ≠ P; omega)).trans hg, hr⟩
theorem cell_far {w : World} {P i j : Nat} (v : Value) (hne : i ≠ j) : (w.setCell ⟨P, i, none⟩ v).cell? ⟨P, j, none⟩ = w.cell? ⟨P, j, none⟩ := World.cell?_setCell_other _ _ _ _ (fun e => hne (congrArg Addr.off e))
section
variable {w w' : World} {P : Nat} {v : Value} {R : Rs}
theorem Rr.on (h : Rr w P v R) (hb : Below w.heap.size w w') : Rr w' P v R :=
  ⟨(hb.cell (p := ⟨P, 0, none⟩) h.lt).trans h.c0, (hb.cell (p := ⟨P, 1, none⟩) h.lt).trans h.c1, (hb.cell (p := ⟨P, 2, none⟩) h.lt).trans h.c2, (hb.cell (p := ⟨P, 3, none⟩) h.lt).trans h.c3, (hb.cell (p := ⟨P, 4, none⟩) h.lt).trans h.c4,
    fun o => (hb.frozen (p := ⟨P, o, none⟩) h.lt).trans (h.fz o), Nat.lt_of_lt_of_le h.lt hb.size, h.own.below hb, h.few, h.mz⟩
theorem Rr.setN (h : Rr w P v R) (s : ByteArray) : Rr (w.setCell ⟨P, 0, none⟩ (.string s)) P v { R with N := s } :=
  ⟨World.cell?_setCell_same _ _ _ h.c0, (cell_far _ (by decide)).trans h.c1, (cell_far _ (by decide)).trans h.c2, (cell_far _ (by decide)).trans h.c3, (cell_far _ (by decide)).trans h.c4,
    fun o => (World.frozen?_setCell _ _ _ _).trans (h.fz o), by rw [World.size_setCell]; exact h.lt, h.own.set _ _, h.few, h.mz⟩
theorem Rr.setMn (h : Rr w P v R) (s : ByteArray) (hs : s.size ≤ 9223372036854775807) : Rr (w.setCell ⟨P, 2, none⟩ (.string s)) P v { R with mn := s } :=
  ⟨(cell_far _ (by decide)).trans h.c0, (cell_far _ (by decide)).trans h.c1, World.cell?_setCell_same _ _ _ h.c2, (cell_far _ (by decide)).trans h.c3, (cell_far _ (by decide)).trans h.c4,
    fun o => (World.frozen?_setCell _ _ _ _).trans (h.fz o), by rw [World.size_setCell]; exact h.lt, h.own.set _ _, h.few, hs⟩
theorem Rr.setMv (h : Rr w P v R) (s : ByteArray) : Rr (w.setCell ⟨P, 3, none⟩ (.string s)) P v { R with mv := s } :=
  ⟨(cell_far _ (by decide)).trans h.c0, (cell_far _ (by decide)).trans h.c1, (cell_far _ (by decide)).trans h.c2, World.cell?_setCell_same _ _ _ h.c3, (cell_far _ (by decide)).trans h.c4,
    fun o => (World.frozen?_setCell _ _ _ _).trans (h.fz o), by rw [World.size_setCell]; exact h.lt, h.own.set _ _, h.few, h.mz⟩
theorem Rr.setNo (h : Rr w P v R) (b : Bool) : Rr (w.setCell ⟨P, 4, none⟩ (.bool b)) P v { R with no := b } :=
  ⟨(cell_far _ (by decide)).trans h.c0, (cell_far _ (by decide)).trans h.c1, (cell_far _ (by decide)).trans h.c2, (cell_far _ (by decide)).trans h.c3, World.cell?_setCell_same _ _ _ h.c4,
    fun o => (World.frozen?_setCell _ _ _ _).trans (h.fz o), by rw [World.size_setCell]; exact h.lt, h.own.set _ _, h.few, h.mz⟩
/-- The row has grown; it is laid in the reader's cell. -/
theorem Rr.setMs {v' : Value} {m : List Mt} (h : Rr w P v R) (hb : Below (P + 1) w w') (ho : OwnQ w' (P + 1) v' m) (hm : m.length ≤ 8) : Rr (w'.setCell ⟨P, 1, none⟩ v') P v' { R with ms := m } :=
  have hp : ∀ o, w'.cell? ⟨P, o, none⟩ = w.cell? ⟨P, o, none⟩ := fun o => hb.cell (p := ⟨P, o, none⟩) (by show P < P + 1; omega)
  ⟨(cell_far _ (by decide)).trans ((hp 0).trans h.c0), World.cell?_setCell_same _ _ _ ((hp 1).trans h.c1), (cell_far _ (by decide)).trans ((hp 2).trans h.c2), (cell_far _ (by decide)).trans ((hp 3).trans h.c3), (cell_far _ (by decide)).trans ((hp 4).trans h.c4),
    fun o => (World.frozen?_setCell _ _ _ _).trans ((hb.frozen (p := ⟨P, o, none⟩) (by show P < P + 1; omega)).trans (h.fz o)), by rw [World.size_setCell]; exact Nat.lt_of_lt_of_le h.lt hb.size, ho.set _ _, hm, h.mz⟩
end
/-- A token as a value. -/
abbrev tokv (k a : Int) (s : ByteArray) : Value := .agg #[.int .i64 k, .int .i64 a, .string s]
/-- Who is asked next. -/
def nxt (P : Nat) : Nat → Value
  | 0 => .func (.func 63) #[.pointer (some ⟨P, 0, none⟩)] #[]
  | 1 => .func (.func 65) #[.pointer (some ⟨P, 0, none⟩)] #[]
  | 2 => .func (.func 92) #[.pointer (some ⟨P, 0, none⟩)] #[]
  | 3 => .func (.func 113) #[.pointer (some ⟨P, 0, none⟩)] #[]
  | 4 => .func (.func 127) #[.pointer (some ⟨P, 0, none⟩)] #[]
  | 5 => .func (.func 135) #[.pointer (some ⟨P, 0, none⟩)] #[]
  | _ => .nilFunc
set_option maxHeartbeats 1600000 in
theorem isSign_of (k a : Int) (s t : ByteArray) (b : Bool) (hb : Sl.isT (k, s) t = b) (w : World) :
    Calls Tryz.prog 64 #[tokv k a s, .string t] w fun e w' => e = .returned (.bool b) ∧ Below w.heap.size w w' := by
  have HB := Lib.hid hb
  clear hb
  have hA := below_alloc w (.cells #[.int .i64 k, .int .i64 a, .string s] 47)
  by_cases hk : k = 4
  · have hkb : (k == 4) = true := by rw [hk]; rfl
    by_cases ht : s = t
    · have hne : (s.toList == t.toList) = true := by rw [ht]; simp
      obtain rfl : b = true := by rw [← HB.out]; exact decide_eq_true ⟨hk, ht⟩
      clear hk ht
      go_enter Tryz.func64, Tryz.ntmps64
      go_wp2_with fail
      go_ret
      exact ⟨rfl, hA⟩
    · have hne : (s.toList == t.toList) = false := by rw [Lp.beq_tl]; exact decide_eq_false ht
      obtain rfl : b = false := by rw [← HB.out]; exact decide_eq_false (fun h => ht h.2)
      clear hk ht
      go_enter Tryz.func64, Tryz.ntmps64
      go_wp2_with fail
      go_ret
      exact ⟨rfl, hA⟩
  · have hkb : (k == 4) = false := by simpa using hk
    obtain rfl : b = false := by rw [← HB.out]; exact decide_eq_false (fun h => hk h.1)
    clear hk
    go_enter Tryz.func64, Tryz.ntmps64
    go_wp2_with fail
    go_ret
    exact ⟨rfl, hA⟩
set_option maxHeartbeats 1600000 in
theorem nameError_of (k a : Int) (s : ByteArray) (z : Int) (hz : Sl.nmErr (k, s) = z) (w : World) :
    Calls Tryz.prog 91 #[tokv k a s] w fun e w' => e = .returned (.int .i64 z) ∧ Below w.heap.size w w' := by
  have HZ := Lib.hid hz
  clear hz
  have hA := below_alloc w (.cells #[.int .i64 k, .int .i64 a, .string s] 47)
  by_cases hk : k = 1
  · have hkb : (k != 1) = false := by rw [hk]; rfl
    obtain ⟨bn, hbn⟩ : ∃ bn, nameB s = bn := ⟨_, rfl⟩
    have HBN := Lib.hid hbn
    have hz2 := HZ.out
    unfold Sl.nmErr at hz2
    rw [if_pos hk] at hz2
    simp only at hz2
    rw [hbn] at hz2
    clear hk hbn
    go_enter Tryz.func91, Tryz.ntmps91
    go_wp2_with fail
    refine (name_of s bn HBN.out _).mono ?_
    rintro e w1 ⟨rfl, rfl⟩
    cases bn with
    | false =>
      obtain rfl : z = 7 := hz2.symm
      go_wp2_with fail
      go_ret
      exact ⟨rfl, hA⟩
    | true =>
      obtain rfl : z = 0 := hz2.symm
      go_wp2_with fail
      go_ret
      exact ⟨rfl, hA⟩
  · have hkb : (k != 1) = true := by simpa using hk
    obtain rfl : z = 1 := by rw [← HZ.out]; exact if_neg hk
    clear hk
    go_enter Tryz.func91, Tryz.ntmps91
    go_wp2_with fail
    go_ret
    exact ⟨rfl, hA⟩
/-- What a method does with a token. -/
def StepC (f st : Nat) : Prop := ∀ (P : Nat) (v : Value) (R : Rs) (k a : Int) (s : ByteArray) (nx : Nat) (R' : Rs) (z : Int), Sl.stp st R (k, s) = (nx, R', z) → s.size ≤ 9223372036854775807 → ∀ w : World, Rr w P v R →
  Calls Tryz.prog f #[.pointer (some ⟨P, 0, none⟩), tokv k a s] w fun e w' => ∃ v', e = .returned (.tuple #[nxt P nx, .int .i64 z]) ∧ Hid (Rr w' P v' R') ∧ Below P w w'
/-- A token in a box, behind which the reader stands. -/
theorem box_tok (w : World) (P : Nat) (v : Value) (R : Rs) (h : Rr w P v R) (k a : Int) (s : ByteArray) : ∃ W T, w.alloc (.cells #[.int .i64 k, .int .i64 a, .string s] 47) = W ∧ w.heap.size = T ∧ P < T ∧ T < W.heap.size ∧ Below T w W ∧ Rr W P v R ∧
    W.cell? ⟨T, 0, none⟩ = some (.int .i64 k) ∧ W.cell? ⟨T, 1, none⟩ = some (.int .i64 a) ∧ W.cell? ⟨T, 2, none⟩ = some (.string s) :=
  ⟨_, _, rfl, rfl, h.lt, by show _ < (w.heap.push _).size; rw [Array.size_push]; omega, below_alloc w _, h.on (below_alloc w _), World.cell?_alloc_at _ _ _ _ rfl, World.cell?_alloc_at _ _ _ _ rfl, World.cell?_alloc_at _ _ _ _ rfl⟩
set_option maxHeartbeats 3200000 in
theorem stName : StepC 63 0 := by
  intro P v R k a s nx R' z hst hs w hR
  have h1 : nx = 6 := (congrArg Prod.fst hst).symm
  have h2 : R' = { R with N := s } := (congrArg (fun x => x.2.1) hst).symm
  have h3 : Sl.nmErr (k, s) = z := congrArg (fun x => x.2.2) hst
  have HZ := Lib.hid h3
  clear hst h3
  subst h1 h2
  obtain ⟨W, T, hW, hT, hPT, hTW, hbW, hRW, t0, t1, t2⟩ := box_tok w P v R hR k a s
  have HRS := Lib.hid (hRW.setN s)
  have hbS : Below P w (W.setCell ⟨P, 0, none⟩ (.string s)) := (hbW.mono (show P ≤ T by omega)).setCell (p := ⟨P, 0, none⟩) (Nat.le_refl _) _
  have hne : ∀ o, (⟨P, 0, none⟩ : Addr) ≠ ⟨T, o, none⟩ := by intro o h; have := congrArg Addr.block h; simp only at this; omega
  have u0 := (World.cell?_setCell_other W _ _ (.string s) (hne 0)).trans t0
  have u1 := (World.cell?_setCell_other W _ _ (.string s) (hne 1)).trans t1
  have u2 := (World.cell?_setCell_other W _ _ (.string s) (hne 2)).trans t2
  have c0 := hRW.c0
  have f0 := hRW.fz 0
  obtain ⟨V, hV⟩ : ∃ V, W.setCell ⟨P, 0, none⟩ (.string s) = V := ⟨_, rfl⟩
  rw [hV] at HRS hbS u0 u1 u2
  clear hRW hR hne
  go_enter Tryz.func63, Tryz.ntmps63
  go_wp2_with fail
  refine (nameError_of k a s z HZ.out _).mono ?_
  rintro e w2 ⟨rfl, hw2⟩
  go_wp2_with fail
  go_ret2
  first | exact ⟨v, rfl, Lib.hid (HRS.out.on hw2), hbS.trans (hw2.mono (Nat.le_of_lt HRS.out.lt))⟩ | exact ⟨v, trivial, Lib.hid (HRS.out.on hw2), hbS.trans (hw2.mono (Nat.le_of_lt HRS.out.lt))⟩ | exact ⟨rfl, ⟨v, Lib.hid (HRS.out.on hw2)⟩, hbS.trans (hw2.mono (Nat.le_of_lt HRS.out.lt))⟩
set_option maxHeartbeats 3200000 in
theorem stLabel : StepC 92 2 := by
  intro P v R k a s nx R' z hst hs w hR
  have h1 : nx = 3 := (congrArg Prod.fst hst).symm
  have h2 : R' = { R with mn := s } := (congrArg (fun x => x.2.1) hst).symm
  have h3 : Sl.nmErr (k, s) = z := congrArg (fun x => x.2.2) hst
  have HZ := Lib.hid h3
  clear hst h3
  subst h1 h2
  obtain ⟨W, T, hW, hT, hPT, hTW, hbW, hRW, t0, t1, t2⟩ := box_tok w P v R hR k a s
  have HRS := Lib.hid (hRW.setMn s hs)
  have hbS : Below P w (W.setCell ⟨P, 2, none⟩ (.string s)) := (hbW.mono (show P ≤ T by omega)).setCell (p := ⟨P, 2, none⟩) (Nat.le_refl _) _
  have hne : ∀ o, (⟨P, 2, none⟩ : Addr) ≠ ⟨T, o, none⟩ := by intro o h; have := congrArg Addr.block h; simp only at this; omega
  have u0 := (World.cell?_setCell_other W _ _ (.string s) (hne 0)).trans t0
  have u1 := (World.cell?_setCell_other W _ _ (.string s) (hne 1)).trans t1
  have u2 := (World.cell?_setCell_other W _ _ (.string s) (hne 2)).trans t2
  have c2 := hRW.c2
  have f2 := hRW.fz 2
  obtain ⟨V, hV⟩ : ∃ V, W.setCell ⟨P, 2, none⟩ (.string s) = V := ⟨_, rfl⟩
  rw [hV] at HRS hbS u0 u1 u2
  clear hRW hR hne
  go_enter Tryz.func92, Tryz.ntmps92
  go_wp2_with fail
  refine (nameError_of k a s z HZ.out _).mono ?_
  rintro e w2 ⟨rfl, hw2⟩
  go_wp2_with fail
  go_ret2
  first | exact ⟨v, rfl, Lib.hid (HRS.out.on hw2), hbS.trans (hw2.mono (Nat.le_of_lt HRS.out.lt))⟩ | exact ⟨v, trivial, Lib.hid (HRS.out.on hw2), hbS.trans (hw2.mono (Nat.le_of_lt HRS.out.lt))⟩ | exact ⟨rfl, ⟨v, Lib.hid (HRS.out.on hw2)⟩, hbS.trans (hw2.mono (Nat.le_of_lt HRS.out.lt))⟩
set_option maxHeartbeats 3200000 in
theorem stBegin : StepC 65 1 := by
  intro P v R k a s nx R' z hst hs w hR
  obtain ⟨b, hb⟩ : ∃ b, Sl.isT (k, s) (Sl.sg [125]) = b := ⟨_, rfl⟩
  have HB := Lib.hid hb
  obtain ⟨W, T, hW, hT, hPT, hTW, hbW, hRW, t0, t1, t2⟩ := box_tok w P v R hR k a s
  have HRW := Lib.hid hRW
  have hbP : Below P w W := hbW.mono (by omega)
  cases b with
  | true =>
    have he : Sl.stp 1 R (k, s) = (6, R, 0) := if_pos hb
    rw [he] at hst
    cases hst
    clear he hb hRW hR
    go_enter Tryz.func65, Tryz.ntmps65
    go_wp2_with fail
    refine (isSign_of k a s (Sl.sg [125]) true HB.out _).mono ?_
    rintro e w2 ⟨rfl, hw2⟩
    go_wp2_with fail
    go_ret2
    first | exact ⟨v, rfl, Lib.hid (HRW.out.on hw2), hbP.trans (hw2.mono (by omega))⟩ | exact ⟨v, trivial, Lib.hid (HRW.out.on hw2), hbP.trans (hw2.mono (by omega))⟩ | exact ⟨rfl, ⟨v, Lib.hid (HRW.out.on hw2)⟩, hbP.trans (hw2.mono (by omega))⟩
  | false =>
    have he : Sl.stp 1 R (k, s) = Sl.stp 2 R (k, s) := if_neg (by rw [hb]; exact Bool.false_ne_true)
    rw [he] at hst
    have HST := Lib.hid hst
    clear he hst hb hRW hR
    go_enter Tryz.func65, Tryz.ntmps65
    go_wp2_with fail
    refine (isSign_of k a s (Sl.sg [125]) false HB.out _).mono ?_
    rintro e w2 ⟨rfl, hw2⟩
    have u0 := (hw2.cell (p := ⟨T, 0, none⟩) hTW).trans t0
    have u1 := (hw2.cell (p := ⟨T, 1, none⟩) hTW).trans t1
    have u2 := (hw2.cell (p := ⟨T, 2, none⟩) hTW).trans t2
    have hb2 : Below P w w2 := hbP.trans (hw2.mono (by omega))
    have HR2 := Lib.hid (HRW.out.on hw2)
    clear t0 t1 t2 hw2
    go_wp2_with fail
    refine (stLabel P v R k a s nx R' z HST.out hs w2 HR2.out).mono ?_
    rintro e w3 ⟨v', rfl, HR3, hw3⟩
    go_wp2_with fail
    go_ret2
    first | exact ⟨v', rfl, HR3, hb2.trans hw3⟩ | exact ⟨v', trivial, HR3, hb2.trans hw3⟩ | exact ⟨rfl, ⟨v', HR3⟩, hb2.trans hw3⟩
set_option maxHeartbeats 3200000 in
theorem stEnd : StepC 135 5 := by
  intro P v R k a s nx R' z hst hs w hR
  obtain ⟨b1, hb1⟩ : ∃ b, Sl.isT (k, s) (Sl.sg [44]) = b := ⟨_, rfl⟩
  obtain ⟨b2, hb2⟩ : ∃ b, Sl.isT (k, s) (Sl.sg [125]) = b := ⟨_, rfl⟩
  have H1 := Lib.hid hb1
  have H2 := Lib.hid hb2
  obtain ⟨W, T, hW, hT, hPT, hTW, hbW, hRW, t0, t1, t2⟩ := box_tok w P v R hR k a s
  have HRW := Lib.hid hRW
  have hbP : Below P w W := hbW.mono (by omega)
  cases b1 with
  | true =>
    have he : Sl.stp 5 R (k, s) = (2, R, 0) := if_pos hb1
    rw [he] at hst
    cases hst
    clear he hb1 hb2 hRW hR
    go_enter Tryz.func135, Tryz.ntmps135
    go_wp2_with fail
    refine (isSign_of k a s (Sl.sg [44]) true H1.out _).mono ?_
    rintro e w2 ⟨rfl, hw2⟩
    go_wp2_with fail
    go_ret2
    first | exact ⟨v, rfl, Lib.hid (HRW.out.on hw2), hbP.trans (hw2.mono (by omega))⟩ | exact ⟨v, trivial, Lib.hid (HRW.out.on hw2), hbP.trans (hw2.mono (by omega))⟩ | exact ⟨rfl, ⟨v, Lib.hid (HRW.out.on hw2)⟩, hbP.trans (hw2.mono (by omega))⟩
  | false =>
    have hn1 : ¬ Sl.isT (k, s) (Sl.sg [44]) = true := by rw [hb1]; exact Bool.false_ne_true
    have he : Sl.stp 5 R (k, s) = if b2 then (6, R, 0) else (6, R, 1) := by
      rw [← hb2]
      exact if_neg hn1
    rw [he] at hst
    clear he hb1 hb2 hRW hR hn1
    go_enter Tryz.func135, Tryz.ntmps135
    go_wp2_with fail
    refine (isSign_of k a s (Sl.sg [44]) false H1.out _).mono ?_
    rintro e w2 ⟨rfl, hw2⟩
    have u0 := (hw2.cell (p := ⟨T, 0, none⟩) hTW).trans t0
    have u1 := (hw2.cell (p := ⟨T, 1, none⟩) hTW).trans t1
    have u2 := (hw2.cell (p := ⟨T, 2, none⟩) hTW).trans t2
    have hb2 : Below P w w2 := hbP.trans (hw2.mono (by omega))
    have HR2 := Lib.hid (HRW.out.on hw2)
    clear t0 t1 t2 hw2
    go_wp2_with fail
    refine (isSign_of k a s (Sl.sg [125]) b2 H2.out _).mono ?_
    rintro e w3 ⟨rfl, hw3⟩
    have hb3 : Below P w w3 := hb2.trans (hw3.mono (Nat.le_of_lt HR2.out.lt))
    cases b2 with
    | true =>
      cases hst
      go_wp2_with fail
      go_ret2
      first | exact ⟨v, rfl, Lib.hid (HR2.out.on hw3), hb3⟩ | exact ⟨v, trivial, Lib.hid (HR2.out.on hw3), hb3⟩ | exact ⟨rfl, ⟨v, Lib.hid (HR2.out.on hw3)⟩, hb3⟩
    | false =>
      cases hst
      go_wp2_with fail
      go_ret2
      first | exact ⟨v, rfl, Lib.hid (HR2.out.on hw3), hb3⟩ | exact ⟨v, trivial, Lib.hid (HR2.out.on hw3), hb3⟩ | exact ⟨rfl, ⟨v, Lib.hid (HR2.out.on hw3)⟩, hb3⟩
set_option maxHeartbeats 3200000 in
theorem stSign : StepC 113 3 := by
  intro P v R k a s nx R' z hst hs w hR
  obtain ⟨b1, hb1⟩ : ∃ b, Sl.isT (k, s) (Sl.sg [33, 61]) = b := ⟨_, rfl⟩
  obtain ⟨b2, hb2⟩ : ∃ b, Sl.isT (k, s) (Sl.sg [61]) = b := ⟨_, rfl⟩
  have H1 := Lib.hid hb1
  have H2 := Lib.hid hb2
  have he : Sl.stp 3 R (k, s) = if b1 = false ∧ b2 = false then (6, { R with no := b1 }, 1) else (4, { R with no := b1 }, 0) := by
    unfold Sl.stp
    simp only [hb1, hb2]
  rw [he] at hst
  clear he hb1 hb2
  obtain ⟨W, T, hW, hT, hPT, hTW, hbW, hRW, t0, t1, t2⟩ := box_tok w P v R hR k a s
  have HRW := Lib.hid hRW
  have hbP : Below P w W := hbW.mono (by omega)
  clear hRW hR
  go_enter Tryz.func113, Tryz.ntmps113
  go_wp2_with fail
  refine (isSign_of k a s (Sl.sg [33, 61]) b1 H1.out _).mono ?_
  rintro e w2 ⟨rfl, hw2⟩
  have hR2 := HRW.out.on hw2
  have c4 := hR2.c4
  have f4 := hR2.fz 4
  have hne : ∀ o, (⟨P, 4, none⟩ : Addr) ≠ ⟨T, o, none⟩ := by intro o h; have := congrArg Addr.block h; simp only at this; omega
  have u0 := (World.cell?_setCell_other w2 _ _ (.bool b1) (hne 0)).trans ((hw2.cell (p := ⟨T, 0, none⟩) hTW).trans t0)
  have u1 := (World.cell?_setCell_other w2 _ _ (.bool b1) (hne 1)).trans ((hw2.cell (p := ⟨T, 1, none⟩) hTW).trans t1)
  have u2 := (World.cell?_setCell_other w2 _ _ (.bool b1) (hne 2)).trans ((hw2.cell (p := ⟨T, 2, none⟩) hTW).trans t2)
  have hR3 := hR2.setNo b1
  have hb3 : Below P w (w2.setCell ⟨P, 4, none⟩ (.bool b1)) := (hbP.trans (hw2.mono (by omega))).setCell (p := ⟨P, 4, none⟩) (Nat.le_refl _) _
  obtain ⟨V, hV⟩ : ∃ V, w2.setCell ⟨P, 4, none⟩ (.bool b1) = V := ⟨_, rfl⟩
  rw [hV] at hR3 hb3 u0 u1 u2
  have y4 := hR3.c4
  have HR3 := Lib.hid hR3
  clear hR2 hR3 hne t0 t1 t2 hw2
  cases b1 with
  | true =>
    rw [if_neg (fun h => by cases h.1)] at hst
    cases hst
    go_wp2_with fail
    go_ret2
    first | exact ⟨v, rfl, HR3, hb3⟩ | exact ⟨v, trivial, HR3, hb3⟩ | exact ⟨rfl, ⟨v, HR3⟩, hb3⟩
  | false =>
    go_wp2_with fail
    refine (isSign_of k a s (Sl.sg [61]) b2 H2.out _).mono ?_
    rintro e w4 ⟨rfl, hw4⟩
    have hb4 : Below P w w4 := hb3.trans (hw4.mono (Nat.le_of_lt HR3.out.lt))
    have HR4 := Lib.hid (HR3.out.on hw4)
    cases b2 with
    | true =>
      rw [if_neg (fun h => by cases h.2)] at hst
      cases hst
      go_wp2_with fail
      go_ret2
      first | exact ⟨v, rfl, HR4, hb4⟩ | exact ⟨v, trivial, HR4, hb4⟩ | exact ⟨rfl, ⟨v, HR4⟩, hb4⟩
    | false =>
      rw [if_pos (by simp)] at hst
      cases hst
      go_wp2_with fail
      go_ret2
      first | exact ⟨v, rfl, HR4, hb4⟩ | exact ⟨v, trivial, HR4, hb4⟩ | exact ⟨rfl, ⟨v, HR4⟩, hb4⟩
theorem OwnQ.sliceOf {w : World} {base : Nat} {v : Value} {l : List Mt} {n : Nat} (h : OwnQ w base v l) (hn : l.length = n) : ∃ A c, v = .slice A n c := by
  obtain ⟨A, c, e, _⟩ := h.slice
  exact ⟨A, c, by rw [e, hn]⟩
set_option maxHeartbeats 6400000 in
theorem stValue : StepC 127 4 := by
  intro P v R k a s nx R' z hst hs w hR
  obtain ⟨n, hn⟩ : ∃ n, R.ms.length = n := ⟨_, rfl⟩
  obtain ⟨A, c, rfl⟩ := hR.own.sliceOf hn
  have hn8 : n ≤ 8 := by rw [← hn]; exact hR.few
  have he : Sl.stp 4 R (k, s) = if k ≠ 3 then (6, R, 1) else if 64 < s.size ∨ n = 8 then (6, R, 4) else (5, { R with mv := s, ms := R.ms ++ [(R.mn, s, R.no)] }, 0) := by rw [← hn]; rfl
  rw [he] at hst
  have HN := Lib.hid hn
  clear he hn
  obtain ⟨W, T, hW, hT, hPT, hTW, hbW, hRW, t0, t1, t2⟩ := box_tok w P (.slice A n c) R hR k a s
  have HRW := Lib.hid hRW
  have hbP : Below P w W := hbW.mono (by omega)
  have c1 := hRW.c1
  clear hR
  by_cases hk : k = 3
  case neg =>
    have hkb : (k != 3) = true := by simpa using hk
    rw [if_pos hk] at hst
    cases hst
    clear hk hRW c1
    go_enter Tryz.func127, Tryz.ntmps127
    go_wp2_with fail
    go_ret2
    first | exact ⟨_, rfl, HRW, hbP⟩ | exact ⟨_, trivial, HRW, hbP⟩ | exact ⟨rfl, ⟨_, HRW⟩, hbP⟩
  have hkb : (k != 3) = false := by rw [hk]; rfl
  rw [if_neg (fun h => h hk)] at hst
  clear hk
  by_cases h64 : 64 < s.size
  case pos =>
    have h64z : (64 : Int) < (s.size : Int) := by omega
    rw [if_pos (.inl h64)] at hst
    cases hst
    clear hRW c1 h64
    go_enter Tryz.func127, Tryz.ntmps127
    go_wp2_with fail
    go_ret2
    first | exact ⟨_, rfl, HRW, hbP⟩ | exact ⟨_, trivial, HRW, hbP⟩ | exact ⟨rfl, ⟨_, HRW⟩, hbP⟩
  have h64z : ¬ (64 : Int) < (s.size : Int) := by omega
  by_cases h8 : n = 8
  case pos =>
    have h8b : ((n : Int) == 8) = true := by rw [h8]; rfl
    rw [if_pos (.inr h8)] at hst
    cases hst
    clear hRW h64 h8
    go_enter Tryz.func127, Tryz.ntmps127
    go_wp2_with fail
    go_ret2
    first | exact ⟨_, rfl, HRW, hbP⟩ | exact ⟨_, trivial, HRW, hbP⟩ | exact ⟨rfl, ⟨_, HRW⟩, hbP⟩
  have h8b : ((n : Int) == 8) = false := by rw [beq_eq_false_iff_ne]; omega
  rw [if_neg (by omega)] at hst
  cases hst
  have hR2 := hRW.setMv s
  have hb2 : Below P w (W.setCell ⟨P, 3, none⟩ (.string s)) := hbP.setCell (p := ⟨P, 3, none⟩) (Nat.le_refl _) _
  have c3 := hRW.c3
  have f3 := hRW.fz 3
  obtain ⟨V, hV⟩ : ∃ V, W.setCell ⟨P, 3, none⟩ (.string s) = V := ⟨_, rfl⟩
  rw [hV] at hR2 hb2
  have hPV : P < V.heap.size := hR2.lt
  obtain ⟨mn, hmn⟩ : ∃ x, R.mn = x := ⟨_, rfl⟩
  obtain ⟨no, hno⟩ : ∃ x, R.no = x := ⟨_, rfl⟩
  have y1 := hR2.c1
  have y2 : V.cell? ⟨P, 2, none⟩ = some (.string mn) := by rw [← hmn]; exact hR2.c2
  have y3 : V.cell? ⟨P, 3, none⟩ = some (.string s) := hR2.c3
  have y4 : V.cell? ⟨P, 4, none⟩ = some (.bool no) := by rw [← hno]; exact hR2.c4
  have g1 := hR2.fz 1
  have HR2 := Lib.hid hR2
  have HE : Hid (({ R with mv := s, ms := R.ms ++ [(R.mn, s, R.no)] } : Rs) = { ({ R with mv := s } : Rs) with ms := R.ms ++ [(mn, s, no)] }) := Lib.hid (by rw [hmn, hno])
  have hmns : mn.size ≤ 9223372036854775807 := by rw [← hmn]; exact hR2.mz
  clear hmn hno hR2 hRW
  have hRn := Lib.hid (rq_new V.drew mn s no hmns hs)
  have HOw : Hid (OwnQ (V.drew.alloc (.cells #[.string mn, .string s, .bool no] 45)) (P + 1) (.slice A n c) R.ms) := Lib.hid (HR2.out.own.below ((Below.refl _ _).drew.alloc (Nat.le_refl _) _))
  have hbs : P + 1 ≤ (V.drew.alloc (.cells #[.string mn, .string s, .bool no] 45)).heap.size := by show _ ≤ (V.heap.push _).size; rw [Array.size_push]; omega
  have hbV : Below (P + 1) V (V.drew.alloc (.cells #[.string mn, .string s, .bool no] 45)) := ((Below.refl (P + 1) V).drew).alloc (by show P + 1 ≤ V.heap.size; omega) _
  have hle : R.ms.length ≤ 1000000 := by rw [HN.out]; omega
  have hLL : (R.ms ++ [(mn, s, no)]).length = n + 1 := by rw [List.length_append, HN.out]; rfl
  have hP1 : P < P + 1 := Nat.lt_succ_self P
  have e1 : V.drew.cell? ⟨P, 1, none⟩ = some (.slice A n c) := y1
  have e2 : V.drew.cell? ⟨P, 2, none⟩ = some (.string mn) := y2
  have e3 : V.drew.cell? ⟨P, 3, none⟩ = some (.string s) := y3
  have e4 : V.drew.cell? ⟨P, 4, none⟩ = some (.bool no) := y4
  have d1 : (V.alloc (.cells #[.string mn, .string s, .bool no] 45)).drew.cell? ⟨P, 1, none⟩ = some (.slice A n c) := (hbV.cell (p := ⟨P, 1, none⟩) hP1).trans y1
  have d2 : (V.alloc (.cells #[.string mn, .string s, .bool no] 45)).drew.cell? ⟨P, 2, none⟩ = some (.string mn) := (hbV.cell (p := ⟨P, 2, none⟩) hP1).trans y2
  have d3 : (V.alloc (.cells #[.string mn, .string s, .bool no] 45)).drew.cell? ⟨P, 3, none⟩ = some (.string s) := (hbV.cell (p := ⟨P, 3, none⟩) hP1).trans y3
  have d4 : (V.alloc (.cells #[.string mn, .string s, .bool no] 45)).drew.cell? ⟨P, 4, none⟩ = some (.bool no) := (hbV.cell (p := ⟨P, 4, none⟩) hP1).trans y4
  have d5 : (V.alloc (.cells #[.string mn, .string s, .bool no] 45)).drew.frozen? ⟨P, 1, none⟩ = false := (hbV.frozen (p := ⟨P, 1, none⟩) hP1).trans g1
  go_enter Tryz.func127, Tryz.ntmps127
  go_wp2_with fail
  go_region_law (refine step_mat (by rfl) _ _ (by rfl) (P + 1) _ R.ms (mn, s, no) (by rfl) HOw.out ⟨V.heap.size, 0, none⟩ (by rfl) hRn.out hle hbs ?_; intro v4 w4 hown4 hb4; obtain ⟨A4, n4, rfl⟩ := hown4.sliceOf hLL; have q1 := (hb4.cell (p := ⟨P, 1, none⟩) hP1).trans d1; have g4 := (hb4.frozen (p := ⟨P, 1, none⟩) hP1).trans d5)
  all_goals
    have hR4 := HR2.out.setMs (hbV.trans hb4) hown4 (by rw [hLL]; omega)
    rw [← HE.out] at hR4
    have HR4 := Lib.hid hR4
    have hb5 : Below P w (w4.setCell ⟨P, 1, none⟩ (.slice A4 (n + 1) n4)) := (hb2.trans ((hbV.trans hb4).mono (by omega))).setCell (p := ⟨P, 1, none⟩) (Nat.le_refl _) _
    clear hR4 hown4 hb4
    go_wp2_with fail
    go_ret2
    exact ⟨_, rfl, HR4, hb5⟩
end Go.Proofs.YtkoeggjfdcpokaaGreatDoor
namespace Go.Proofs.YtkoeggjfdcpokaaGreatDoor
open Go.RowKit Go.Proofs.YtkoeggjfdcpokaaGreatDoor.Lp
open Go.Proofs.YtkoeggjfdcpokaaGreatDoor.Sl (Mt Sel Tf Rs)

theorem equalIn_fn (k : Nat) (w : World) (fn : Fn) (a b : Array Value) : (Op.equalIn (k + 1) 112 (.func fn a b) .nilFunc).run Tryz.prog w = .ok false w := by
  simp [Op.equalIn, run_underlying Tryz.underlying112]
theorem equalIn_nofn (k : Nat) (w : World) : (Op.equalIn (k + 1) 112 .nilFunc .nilFunc).run Tryz.prog w = .ok true w := by
  simp [Op.equalIn, run_underlying Tryz.underlying112]
theorem equal_fn (w : World) (fn : Fn) (a b : Array Value) : (Op.equal 112 (.func fn a b) .nilFunc).run Tryz.prog w = .ok false w := equalIn_fn 9999 w fn a b
theorem equal_nofn (w : World) : (Op.equal 112 .nilFunc .nilFunc).run Tryz.prog w = .ok true w := equalIn_nofn 9999 w
theorem neq_fn (fn : Fn) (a b : Array Value) (w : World) : (binOp .neq 112 (.func fn a b) .nilFunc).run Tryz.prog w = .ok (.bool true) w := by
  simp only [binOp]
  simp [equal_fn]
theorem neq_nofn (w : World) : (binOp .neq 112 .nilFunc .nilFunc).run Tryz.prog w = .ok (.bool false) w := by
  simp only [binOp]
  simp [equal_nofn]
def fnOf : Nat → Nat
  | 0 => 63
  | 1 => 65
  | 2 => 92
  | 3 => 113
  | 4 => 127
  | _ => 135
theorem step_of : ∀ st, st < 6 → StepC (fnOf st) st
  | 0, _ => stName
  | 1, _ => stBegin
  | 2, _ => stLabel
  | 3, _ => stSign
  | 4, _ => stValue
  | 5, _ => stEnd
  | n + 6, h => absurd h (by omega)
theorem enters_fn : ∀ st, st < 6 → ∀ args w, (callFunc (fnOf st) args).run Tryz.prog w = .ok (.enter (fnOf st) args) w
  | 0, _ => enters_of Tryz.func63 (by kernel_rfl) rfl
  | 1, _ => enters_of Tryz.func65 (by kernel_rfl) rfl
  | 2, _ => enters_of Tryz.func92 (by kernel_rfl) rfl
  | 3, _ => enters_of Tryz.func113 (by kernel_rfl) rfl
  | 4, _ => enters_of Tryz.func127 (by kernel_rfl) rfl
  | 5, _ => enters_of Tryz.func135 (by kernel_rfl) rfl
  | n + 6, h => absurd h (by omega)
theorem stp_le (st : Nat) (R : Rs) (t : Tf) : (Sl.stp st R t).1 ≤ 6 := by
  unfold Sl.stp
  split
  · exact Nat.le_refl _
  · split
    · exact Nat.le_refl _
    · show 3 ≤ 6; decide
  · show 3 ≤ 6; decide
  · split
    · exact Nat.le_refl _
    · show 4 ≤ 6; decide
  · split
    · exact Nat.le_refl _
    · split
      · exact Nat.le_refl _
      · show 5 ≤ 6; decide
  · split
    · show 2 ≤ 6; decide
    · split <;> exact Nat.le_refl _
  · exact Nat.le_refl _
set_option maxRecDepth 100000 in
set_option maxHeartbeats 3200000 in
/-- A place at which there is no token. -/
theorem readOut_of (B : Option Addr) (d q : Nat) (i : Int) (x P : Nat) (hlen : q ≤ 9223372036854775807) (hx : (i < 0 ∧ x = 0) ∨ ((q : Int) ≤ i ∧ x = q)) (w : World) :
    Calls Tryz.prog 62 #[.slice B q d, .int .i64 i, nxt P 0] w fun e w' => e = .returned (.tuple #[.int .i64 (x : Int), .int .i64 3]) ∧ w' = w := by
  have hmm : min (max i 0) (q : Int) = (x : Int) := by omega
  simp only [nxt]
  have hfn := neq_fn (.func 63) #[.pointer (some ⟨P, 0, none⟩)] #[]
  by_cases h0 : i < 0
  · have hmx : max i 0 = 0 := by omega
    have hx0 : x = 0 := by omega
    subst hx0
    clear hmm hx
    go_enter Tryz.func62, Tryz.ntmps62
    go_wp2_with fail
    go_loopg [1, 2, 8] 1 (fun _ s1 s2 _ wx => s1 = .int .i64 i ∧ s2 = .func (.func 63) #[.pointer (some ⟨P, 0, none⟩)] #[] ∧ wx = w)
    case atStart => exact ⟨rfl, rfl, rfl⟩
    case round =>
      obtain ⟨rfl, rfl, rfl⟩ := hrel
      go_wp2_with fail
      all_goals
        go_ret2
        exact ⟨rfl, rfl⟩
  · have hge : (q : Int) ≤ i := by omega
    have hx0 : x = q := by omega
    have hmx : max i 0 = i := by omega
    have hmn : min i (q : Int) = (q : Int) := by omega
    subst hx0
    clear hmm hx
    go_enter Tryz.func62, Tryz.ntmps62
    go_wp2_with fail
    go_loopg [1, 2, 8] 1 (fun _ s1 s2 _ wx => s1 = .int .i64 i ∧ s2 = .func (.func 63) #[.pointer (some ⟨P, 0, none⟩)] #[] ∧ wx = w)
    case atStart => exact ⟨rfl, rfl, rfl⟩
    case round =>
      obtain ⟨rfl, rfl, rfl⟩ := hrel
      go_wp2_with fail
      all_goals
        go_ret2
        exact ⟨rfl, rfl⟩
set_option maxRecDepth 100000 in
set_option maxHeartbeats 6400000 in
theorem readOn_of (B : Option Addr) (d q : Nat) (ts : List Tz) (i st : Nat) (P : Nat) (v : Value) (R : Rs) (X : Nat × Int × Rs) (hq : q = ts.length) (hi : i ≤ q) (hst : st ≤ 6) (hX : Sl.run ((ts.map flatK).drop i) i st R = X) (w : World) (hR : Rr w P v R) (hr : Rz w P B ts) :
    Calls Tryz.prog 62 #[.slice B q d, .int .i64 i, nxt P st] w fun e w' => ∃ v', e = .returned (.tuple #[.int .i64 (X.1 : Int), .int .i64 X.2.1]) ∧ Hid (Rr w' P v' X.2.2) ∧ Below P w w' := by
  have hlen : q ≤ 9223372036854775807 := by rw [hq]; exact hr.len
  have HQ := Lib.hid hq
  have HX := Lib.hid hX
  have HR := Lib.hid hR
  have HS := Lib.hid hr
  obtain ⟨n, hn⟩ : ∃ n, i + n = q := ⟨q - i, by omega⟩
  have HN := Lib.hid hn
  clear hq hX hR hr hn
  go_enter Tryz.func62, Tryz.ntmps62
  go_wp2_with fail
  go_loopg [1, 2, 8] n (fun g s1 s2 _ wx => ∃ (j sj : Nat) (u : Value) (Rj : Rs) (nv : Value), j + g = q ∧ sj ≤ 6 ∧ s1 = .int .i64 j ∧ nv = s2 ∧ Hid (nxt P sj = nv) ∧ Hid (Sl.run ((ts.map flatK).drop j) j sj Rj = X) ∧ Hid (Rr wx P u Rj) ∧ Below P w wx)
  case atStart => exact ⟨i, st, v, R, nxt P st, HN.out, hst, rfl, rfl, Lib.hid rfl, HX, HR, Below.refl _ _⟩
  case round =>
    obtain ⟨j, sj, u, Rj, nv, hj, hsj, rfl, rfl, HNV, HXJ, HRJ, hwx⟩ := hrel
    by_cases h6 : sj = 6
    · have hnv := HNV.out
      rw [h6] at hnv
      simp only [nxt] at hnv
      subst hnv
      have hx := HXJ.out
      rw [h6, Sl.run_six] at hx
      obtain ⟨x1, x2, x3⟩ := X
      simp only [Prod.mk.injEq] at hx
      obtain ⟨rfl, rfl, rfl⟩ := hx
      clear HX HXJ HNV
      have hfn := neq_nofn
      go_wp2_with fail
      go_ret2
      first | exact ⟨_, rfl, HRJ, hwx⟩ | exact ⟨rfl, ⟨_, HRJ⟩, hwx⟩
    · have hs6 : sj < 6 := by omega
      have hstep := Lib.hid (step_of sj hs6)
      have heg := enters_fn sj hs6
      have hfn := neq_fn (.func (fnOf sj)) #[.pointer (some ⟨P, 0, none⟩)] #[]
      have hnv : nv = .func (.func (fnOf sj)) #[.pointer (some ⟨P, 0, none⟩)] #[] := by
        rw [← HNV.out]
        obtain rfl | rfl | rfl | rfl | rfl | rfl : sj = 0 ∨ sj = 1 ∨ sj = 2 ∨ sj = 3 ∨ sj = 4 ∨ sj = 5 := by omega
        all_goals rfl
      cases gk with
      | zero =>
        have hjq : j = q := by omega
        have hx := HXJ.out
        rw [Sl.run_end (by rw [List.length_map, ← HQ.out]; exact hjq) h6, List.length_map, ← HQ.out] at hx
        obtain ⟨x1, x2, x3⟩ := X
        simp only [Prod.mk.injEq] at hx
        obtain ⟨rfl, rfl, rfl⟩ := hx
        clear HX HXJ HNV
        subst hnv
        have hmx : max (j : Int) 0 = (j : Int) := by omega
        have hj0 : ¬ (j : Int) < 0 := by omega
        go_wp2_with fail
        go_ret2
        first | exact ⟨_, rfl, HRJ, hwx⟩ | exact ⟨rfl, ⟨_, HRJ⟩, hwx⟩
      | succ g =>
        have hjq : j < q := by omega
        have hjz : (j : Int) < (q : Int) := by omega
        have hj0 : ¬ (j : Int) < 0 := by omega
        have hge : ¬ (q : Int) ≤ (j : Int) := by omega
        have hw1 : IntKind.i64.wrap ((j : Int) + 1) = ((j + 1 : Nat) : Int) := IntWalk.i64_in _ (by omega)
        obtain ⟨k, a, s, ht⟩ := getZ (l := ts) (k := j) (by have := HQ.out; omega)
        have hss : s.size ≤ 9223372036854775807 := HS.out.size _ (List.mem_of_getElem? ht)
        obtain ⟨bk, off, rfl, hbk, e0, e1, e2⟩ := HS.out.get ht
        have c0 := (hwx.cell (p := ⟨bk, off + j * 3, none⟩) hbk).trans e0
        have c1 := (hwx.cell (p := ⟨bk, off + j * 3 + 1, none⟩) hbk).trans e1
        have c2 := (hwx.cell (p := ⟨bk, off + j * 3 + 2, none⟩) hbk).trans e2
        have hmap : (ts.map flatK)[j]? = some (k, s) := by rw [List.getElem?_map, ht]; rfl
        have hx := HXJ.out
        rw [Sl.run_at hmap h6] at hx
        have hle := stp_le sj Rj (k, s)
        obtain ⟨nx, R1, z1, hs1⟩ : ∃ nx R1 z1, Sl.stp sj Rj (k, s) = (nx, R1, z1) := ⟨_, _, _, rfl⟩
        rw [hs1] at hx hle
        have HS1 := Lib.hid hs1
        have HLE : nx ≤ 6 := hle
        clear hs1 hmap ht e0 e1 e2 hle HXJ HNV h6 hs6
        subst hnv
        by_cases hz : z1 = 0
        · subst hz
          rw [if_neg (fun h => h rfl)] at hx
          have HX1 : Hid (Sl.run ((ts.map flatK).drop (j + 1)) (j + 1) nx R1 = X) := Lib.hid hx
          clear hx
          go_wp2_with fail
          refine (hstep.out P u Rj k a s nx R1 0 HS1.out hss _ HRJ.out).mono ?_
          rintro e w2 ⟨v', rfl, HR2, hw2⟩
          have hb2 := hwx.trans hw2
          go_wp2_with fail
          go_roundg g
          case measure => omega
          case rel => exact ⟨j + 1, nx, v', R1, nxt P nx, by omega, HLE, by simp, rfl, Lib.hid rfl, HX1, HR2, hb2⟩
        · have hzb : (z1 != 0) = true := by simpa using hz
          rw [if_pos hz] at hx
          obtain ⟨x1, x2, x3⟩ := X
          simp only [Prod.mk.injEq] at hx
          obtain ⟨rfl, rfl, rfl⟩ := hx
          clear HX
          go_wp2_with fail
          refine (hstep.out P u Rj k a s nx _ _ HS1.out hss _ HRJ.out).mono ?_
          rintro e w2 ⟨v', rfl, HR2, hw2⟩
          have hb2 := hwx.trans hw2
          go_wp2_with fail
          go_ret2
          first | exact ⟨_, rfl, HR2, hb2⟩ | exact ⟨rfl, ⟨_, HR2⟩, hb2⟩
end Go.Proofs.YtkoeggjfdcpokaaGreatDoor
namespace Go.Proofs.YtkoeggjfdcpokaaGreatDoor
open Go.RowKit Go.Proofs.YtkoeggjfdcpokaaGreatDoor.Lp
open Go.Proofs.YtkoeggjfdcpokaaGreatDoor.Sl (Mt Sel Tf Rs)

theorem info_selsz : (Tryz.prog.info? 24).map (·.size) = some 2 := by kernel_rfl
theorem load_selp (w : World) (R : Nat) (N : ByteArray) (A : Option Addr) (n c : Nat) (h0 : w.cell? ⟨R, 0, none⟩ = some (.string N)) (h1 : w.cell? ⟨R, 1, none⟩ = some (.slice A n c)) :
    (loadVar 24 ⟨R, 0, none⟩).run Tryz.prog w = .ok (sv N A n c) w := by
  refine run_loadVar_mid w R 0 24 [.string N, .slice A n c] _ ?_ Tryz.underlying24 rfl info_selsz
  intro j v hv
  match j, hv with
  | 0, hv => cases hv; exact h0
  | 1, hv => cases hv; exact h1
theorem box_prs (w : World) : ∃ W R0, (w.alloc (.cells #[.string ⟨#[]⟩, .slice none 0 0] 24)).alloc (.cells #[.string ⟨#[]⟩, .slice none 0 0, .string ⟨#[]⟩, .string ⟨#[]⟩, .bool false] 83) = W ∧ w.heap.size = R0 ∧ Below R0 w W ∧
    W.heap[R0]? = some (.cells #[.string ⟨#[]⟩, .slice none 0 0] 24 (0, 0)) ∧ Rr W (R0 + 1) (.slice none 0 0) Sl.rs0 := by
  have hs : (w.alloc (.cells #[.string ⟨#[]⟩, .slice none 0 0] 24)).heap.size = w.heap.size + 1 := by show (w.heap.push _).size = _; rw [Array.size_push]
  have hb1 := below_alloc w (.cells #[.string ⟨#[]⟩, .slice none 0 0] 24)
  have h1 : (w.alloc (.cells #[.string ⟨#[]⟩, .slice none 0 0] 24)).heap[w.heap.size]? = some (.cells #[.string ⟨#[]⟩, .slice none 0 0] 24 (0, 0)) := lx_new w _
  obtain ⟨V, hV⟩ : ∃ V, w.alloc (.cells #[.string ⟨#[]⟩, .slice none 0 0] 24) = V := ⟨_, rfl⟩
  rw [hV] at hs hb1 h1
  rw [hV]
  have hb2 := below_alloc V (.cells #[.string ⟨#[]⟩, .slice none 0 0, .string ⟨#[]⟩, .string ⟨#[]⟩, .bool false] 83)
  have h2 : (V.alloc (.cells #[.string ⟨#[]⟩, .slice none 0 0, .string ⟨#[]⟩, .string ⟨#[]⟩, .bool false] 83)).heap[V.heap.size]? = some (.cells #[.string ⟨#[]⟩, .slice none 0 0, .string ⟨#[]⟩, .string ⟨#[]⟩, .bool false] 83 (0, 0)) := lx_new V _
  refine ⟨_, _, rfl, rfl, hb1.trans (hb2.mono (by omega)), (hb2.block _ (by omega)).trans h1, ?_⟩
  rw [hs] at h2
  have hlt : w.heap.size + 1 < (V.alloc (.cells #[.string ⟨#[]⟩, .slice none 0 0, .string ⟨#[]⟩, .string ⟨#[]⟩, .bool false] 83)).heap.size := (Array.getElem?_eq_some_iff.1 h2).1
  exact ⟨lx_cell h2 0, lx_cell h2 1, lx_cell h2 2, lx_cell h2 3, lx_cell h2 4, fun o => lx_frozen h2 o, hlt, OwnQ.nil _ _, by show 0 ≤ 8; decide, by show 0 ≤ _; decide⟩
theorem OwnQ.setB {w : World} {base : Nat} {v : Value} {l : List Mt} (h : OwnQ w base v l) (B o : Nat) (hB : B < base) (x : Value) : OwnQ (w.setCell ⟨B, o, none⟩ x) base v l := by
  refine ⟨h.1, ?_⟩
  rcases h.2 with h0 | ⟨g, cap, cur, hv, hbs, hg, hr⟩
  · exact .inl h0
  · exact .inr ⟨g, cap, cur, hv, hbs, (Below.heap_setCell w ⟨B, o, none⟩ x g (by show g ≠ B; omega)).trans hg, hr⟩
theorem sane_small {N : ByteArray} {l : List Mt} (h : Sl.saneS (N, l) = true) : l.length ≤ 8 ∧ ∀ m ∈ l, m.1.size ≤ 9223372036854775807 ∧ m.2.1.size ≤ 9223372036854775807 := by
  unfold Sl.saneS at h
  simp only [Bool.and_eq_true, decide_eq_true_eq] at h
  refine ⟨h.1.2, fun m hm => ?_⟩
  have := List.all_eq_true.1 h.2 m hm
  unfold Sl.mOk at this
  simp only [Bool.and_eq_true, decide_eq_true_eq] at this
  have h1 := ((nameB_iff m.1).1 this.1).2.1
  exact ⟨by omega, by omega⟩
/-- The end: the first result's cell is written. -/
theorem selp_end {fn : Func} (hfn : fn.results = #[.cell 4 24, .tmp 5, .tmp 6]) {R : Nat} {V w : World} (hR : V.heap.size = R) (hb : Below R V w) {a b : Value} (h0 : w.cell? ⟨R, 0, none⟩ = some a) (h1 : w.cell? ⟨R, 1, none⟩ = some b)
    (N : ByteArray) (A : Option Addr) (n c : Nat) (m : List Mt) (hn : n = m.length) (hown : OwnQ w (R + 2) (.slice A n c) m) (hm : n ≤ 8 ∧ ∀ t ∈ m, t.1.size ≤ 9223372036854775807 ∧ t.2.1.size ≤ 9223372036854775807)
    (x z : Int) (act : Act) (t4 : act.tmps.getD 4 undef = .pointer (some ⟨R, 0, none⟩)) (t5 : act.tmps.getD 5 undef = .int .i64 x) (t6 : act.tmps.getD 6 undef = .int .i64 z) (hd : act.defers = []) :
    bodyPost Tryz.prog fn (fun e w' => ∃ A c, e = .returned (.tuple #[sv N A n c, .int .i64 x, .int .i64 z]) ∧ Hid (Rq w' w'.heap.size A m) ∧ Hid (Cap n c) ∧ Below V.heap.size V w') Exit.ret act
      ((w.setCell ⟨R, 0, none⟩ (.string N)).setCell ⟨R, 1, none⟩ (.slice A n c)) := by
  have k0 := (cell_far (w := w.setCell ⟨R, 0, none⟩ (.string N)) (P := R) (i := 1) (j := 0) (.slice A n c) (by decide)).trans (World.cell?_setCell_same _ _ (.string N) h0)
  have k1 := World.cell?_setCell_same _ _ (.slice A n c) ((cell_far (P := R) (i := 0) (j := 1) (.string N) (by decide)).trans h1)
  have hbX : Below R V ((w.setCell ⟨R, 0, none⟩ (.string N)).setCell ⟨R, 1, none⟩ (.slice A n c)) := (hb.setCell (p := ⟨R, 0, none⟩) (Nat.le_refl _) _).setCell (p := ⟨R, 1, none⟩) (Nat.le_refl _) _
  have ho := (hown.setB R 0 (by omega) (.string N)).setB R 1 (by omega) (.slice A n c)
  have hcap : Cap n c := by
    obtain ⟨A', c', e, hc⟩ := hown.slice
    cases e
    rw [← hn] at hc
    exact hc
  generalize ((w.setCell ⟨R, 0, none⟩ (.string N)).setCell ⟨R, 1, none⟩ (.slice A n c)) = X at k0 k1 hbX ho ⊢
  have hrq := ho.rq (by omega) hm.2
  refine bodyPost_ret (v := .tuple #[sv N A n c, .int .i64 x, .int .i64 z]) ?_ hd ⟨A, c, rfl, Lib.hid hrq, Lib.hid hcap, hR ▸ hbX⟩
  rw [lx_results2 hfn, t4, t5, t6]
  have hld := load_selp X R N A n c k0 k1
  simp [asAddr, Result.andThen, hld]
set_option maxRecDepth 100000 in
set_option maxHeartbeats 6400000 in
theorem parse_of : ParseC := by
  intro B d q ts i M m k x z hq hd hlo hhi hp hk w hr
  have HQ := Lib.hid hq
  have HP := Lib.hid hp
  have HK := Lib.hid hk
  have hlen : q ≤ 9223372036854775807 := by rw [hq]; exact hr.len
  obtain ⟨W, R0, hW, hR0, hb0, hz0, hRr⟩ := box_prs w
  rw [hR0] at hr
  have hrW := (hr.below hb0).more (Nat.le_succ R0)
  have HR := Lib.hid hRr
  have HS := Lib.hid hrW
  have HZ := Lib.hid hz0
  have HB0 := Lib.hid hb0
  clear hq hd hp hk hr hRr hrW hz0 hb0
  -- a place at which there is no token
  have hend : ∀ V : World, Below (R0 + 1) W V → V.cell? ⟨R0, 0, none⟩ = some (.string ⟨#[]⟩) ∧ V.cell? ⟨R0, 1, none⟩ = some (.slice none 0 0) ∧ V.frozen? ⟨R0, 0, none⟩ = false ∧ V.frozen? ⟨R0, 1, none⟩ = false ∧ Below R0 w V := fun V h =>
    ⟨(h.cell (p := ⟨R0, 0, none⟩) (Nat.lt_succ_self R0)).trans (lx_cell HZ.out 0), (h.cell (p := ⟨R0, 1, none⟩) (Nat.lt_succ_self R0)).trans (lx_cell HZ.out 1),
      (h.frozen (p := ⟨R0, 0, none⟩) (Nat.lt_succ_self R0)).trans (lx_frozen HZ.out 0), (h.frozen (p := ⟨R0, 1, none⟩) (Nat.lt_succ_self R0)).trans (lx_frozen HZ.out 1), HB0.out.trans (h.mono (Nat.le_succ R0))⟩
  have HEND := Lib.hid hend
  clear hend
  have hnil : (0 : Nat) ≤ 8 ∧ ∀ t ∈ ([] : List Mt), t.1.size ≤ 9223372036854775807 ∧ t.2.1.size ≤ 9223372036854775807 := ⟨by decide, fun t h => by cases h⟩
  by_cases hin : i < 0 ∨ (q : Int) ≤ i
  · have hall : M = ⟨#[]⟩ ∧ m = [] ∧ ((i < 0 ∧ x = 0) ∨ ((q : Int) ≤ i ∧ x = q)) ∧ z = 3 := by
      have hp := HP.out
      unfold Sl.parse at hp
      by_cases h0 : i < 0
      · rw [if_pos h0] at hp
        simp only [Sl.none_, Prod.mk.injEq] at hp
        exact ⟨hp.1.1.symm, hp.1.2.symm, .inl ⟨h0, hp.2.1.symm⟩, hp.2.2.symm⟩
      · have hge : (q : Int) ≤ i := hin.resolve_left h0
        rw [if_neg h0] at hp
        unfold Sl.parseN at hp
        rw [Sl.nameAt_none (List.getElem?_eq_none (by rw [List.length_map, ← HQ.out]; omega)), if_pos (show (3 : Int) ≠ 0 by decide), List.length_map, ← HQ.out] at hp
        simp only [Sl.none_, Prod.mk.injEq] at hp
        exact ⟨hp.1.1.symm, hp.1.2.symm, .inr ⟨hge, by omega⟩, hp.2.2.symm⟩
    obtain ⟨rfl, rfl, hx, rfl⟩ := hall
    have hk0 : k = 0 := HK.out
    subst hk0
    obtain ⟨z0, z1, g0, g1, hbw⟩ := HEND.out W (Below.refl _ _)
    have hown := HR.out.own
    have HX := Lib.hid hx
    clear HP hin hx hown
    go_enter Tryz.func40, Tryz.ntmps40
    go_wp2_with fail
    refine (readOut_of B d q i x (R0 + 1) hlen HX.out W).mono ?_
    rintro e w1 ⟨rfl, rfl⟩
    go_wp2_with fail
    exact selp_end rfl hR0 hbw z0 z1 ⟨#[]⟩ none 0 0 [] rfl (OwnQ.nil _ _) hnil (x : Int) 3 _ rfl rfl rfl rfl
  · obtain ⟨j, rfl⟩ : ∃ j : Nat, i = (j : Int) := ⟨i.toNat, by omega⟩
    have hjq : j < q := by omega
    have hp := HP.out
    unfold Sl.parse at hp
    rw [if_neg (by omega), Int.toNat_natCast] at hp
    obtain ⟨X, hX⟩ : ∃ X, Sl.run ((ts.map flatK).drop j) j 0 Sl.rs0 = X := ⟨_, rfl⟩
    have hsane : z = 0 → Sl.saneS (M, m) = true := fun h => (Sl.parseN_ok (h ▸ hp)).1
    rw [Sl.parse_way (ts.map flatK) j (by rw [List.length_map, ← HQ.out]; omega) X hX] at hp
    have hle := Sl.run_le (q - j) (ts.map flatK) j 0 Sl.rs0 (by rw [List.length_map, ← HQ.out]; omega)
    rw [hX, List.length_map, ← HQ.out] at hle
    obtain ⟨x1, z1, R1⟩ := X
    simp only at hp hle
    have HX := Lib.hid hX
    have HPW := Lib.hid hp
    have HSN := Lib.hid hsane
    clear hX hp hsane HP hin hlo hhi
    go_enter Tryz.func40, Tryz.ntmps40
    go_wp2_with fail
    refine (readOn_of B d q ts j 0 (R0 + 1) _ Sl.rs0 _ HQ.out (Nat.le_of_lt hjq) (by decide) HX.out W HR.out HS.out).mono ?_
    rintro e w1 ⟨v1, rfl, HR1, hw1⟩
    simp only at HR1
    obtain ⟨k0, k1, g0, g1, hbw⟩ := HEND.out w1 hw1
    by_cases hz : z1 = 0
    case neg =>
      have hzb : (z1 == 0) = false := by simpa using hz
      have hzb2 : (z1 != 0) = true := by simpa using hz
      have hp := HPW.out
      rw [if_pos hz] at hp
      simp only [Sl.none_, Prod.mk.injEq] at hp
      obtain ⟨⟨rfl, rfl⟩, rfl, rfl⟩ := hp
      have hk0 : k = 0 := HK.out
      subst hk0
      clear HPW HSN
      go_wp2_with fail
      exact selp_end rfl hR0 hbw k0 k1 ⟨#[]⟩ none 0 0 [] rfl (OwnQ.nil _ _) hnil (x1 : Int) z1 _ rfl rfl rfl rfl
    subst hz
    have hp := HPW.out
    rw [if_neg (show ¬ ((0 : Int) ≠ 0) from fun h => h rfl)] at hp
    have HPW2 := Lib.hid hp
    clear hp HPW
    -- what is read ends here
    have hdone : ∀ (V : World) (v : Value) (R : Rs) (y : Nat), ((R.N, R.ms), y, (0 : Int)) = ((M, m), x, z) → Rr V (R0 + 1) v R → Hid (∃ A c, v = .slice A k c ∧ M = R.N ∧ m = R.ms ∧ y = x ∧ z = 0 ∧ V.cell? ⟨R0 + 1, 0, none⟩ = some (.string M) ∧ V.cell? ⟨R0 + 1, 1, none⟩ = some (.slice A k c) ∧ OwnQ V (R0 + 2) (.slice A k c) m ∧ (k ≤ 8 ∧ ∀ t ∈ m, t.1.size ≤ 9223372036854775807 ∧ t.2.1.size ≤ 9223372036854775807)) := by
      intro V v R y he hRr
      simp only [Prod.mk.injEq] at he
      obtain ⟨⟨h1, h2⟩, h3, h4⟩ := he
      obtain ⟨A, c, hv⟩ := hRr.own.sliceOf (n := k) (by rw [HK.out, ← h2])
      subst hv
      have hs := sane_small (HSN.out h4.symm)
      exact Lib.hid ⟨A, c, rfl, h1.symm, h2.symm, h3, h4.symm, by rw [← h1]; exact hRr.c0, hRr.c1, by rw [← h2]; exact hRr.own, by rw [HK.out]; exact hs.1, hs.2⟩
    have HDN := Lib.hid hdone
    clear hdone HSN
    by_cases hxq : x1 < q
    case neg =>
      have hxz : ¬ (x1 : Int) < (q : Int) := by omega
      have hp := HPW2.out
      rw [Sl.want_none (List.getElem?_eq_none (by rw [List.length_map, ← HQ.out]; omega)), if_pos (show (3 : Int) ≠ 0 by decide)] at hp
      obtain ⟨A, c, rfl, -, -, rfl, rfl, c0, c1, hown, hms⟩ := (HDN.out w1 v1 R1 x1 hp HR1.out).out
      have HO := Lib.hid hown
      have HMS := Lib.hid hms
      clear hp HPW2 HDN hown hms
      go_wp2_with fail
      exact selp_end rfl hR0 hbw k0 k1 M A k c m HK.out HO.out HMS.out (x1 : Int) 0 _ rfl rfl rfl rfl
    have hxz : (x1 : Int) < (q : Int) := by omega
    obtain ⟨tk, ta, ts1, ht⟩ := getZ (l := ts) (k := x1) (by have := HQ.out; omega)
    have hmap : (ts.map flatK)[x1]? = some (tk, ts1) := by rw [List.getElem?_map, ht]; rfl
    obtain ⟨bk, off, rfl, hbk, e0, e1, e2⟩ := HS.out.get ht
    have c0 := (hw1.cell (p := ⟨bk, off + x1 * 3, none⟩) hbk).trans e0
    have c1 := (hw1.cell (p := ⟨bk, off + x1 * 3 + 1, none⟩) hbk).trans e1
    have c2 := (hw1.cell (p := ⟨bk, off + x1 * 3 + 2, none⟩) hbk).trans e2
    obtain ⟨b, hb⟩ : ∃ b, Sl.isT (tk, ts1) (Sl.sg [123]) = b := ⟨_, rfl⟩
    have hp := HPW2.out
    rw [Sl.want_sg hmap (Sl.sg1 _), hb] at hp
    have HBT := Lib.hid hb
    have HPW3 := Lib.hid hp
    clear hb hp HPW2 hmap ht e0 e1 e2
    go_wp2_with fail
    refine (isSign_of tk ta ts1 (Sl.sg [123]) b HBT.out _).mono ?_
    rintro e w2 ⟨rfl, hw2⟩
    have hPw1 : R0 + 1 ≤ w1.heap.size := Nat.le_of_lt HR1.out.lt
    have hb2 : Below (R0 + 1) W w2 := hw1.trans (hw2.mono hPw1)
    have HR2 := Lib.hid (HR1.out.on hw2)
    clear c0 c1 c2 k0 k1 g0 g1 hbw hw1 hw2 HR1 hPw1
    obtain ⟨k0, k1, g0, g1, hbw⟩ := HEND.out w2 hb2
    cases b with
    | false =>
      have hp := HPW3.out
      rw [if_pos (show ((if false = true then (0 : Int) else 1) ≠ 0) by decide)] at hp
      obtain ⟨A, c, rfl, -, -, rfl, rfl, c0, c1, hown, hms⟩ := (HDN.out w2 v1 R1 x1 hp HR2.out).out
      have HO := Lib.hid hown
      have HMS := Lib.hid hms
      clear hp HPW3 HDN hown hms
      go_wp2_with fail
      exact selp_end rfl hR0 hbw k0 k1 M A k c m HK.out HO.out HMS.out (x1 : Int) 0 _ rfl rfl rfl rfl
    | true =>
      have hp := HPW3.out
      rw [if_neg (show ¬ ((if true = true then (0 : Int) else 1) ≠ 0) by decide)] at hp
      obtain ⟨Y, hY⟩ : ∃ Y, Sl.run ((ts.map flatK).drop (x1 + 1)) (x1 + 1) 1 R1 = Y := ⟨_, rfl⟩
      rw [hY] at hp
      obtain ⟨y1, z2, R2⟩ := Y
      simp only at hp
      have HY := Lib.hid hY
      have HPW4 := Lib.hid hp
      have hw1 : IntKind.i64.wrap ((x1 : Int) + 1) = ((x1 + 1 : Nat) : Int) := IntWalk.i64_in _ (by omega)
      have HSV := Lib.hid (HS.out.below hb2)
      clear hp hY HPW3 k0 k1 g0 g1 hbw
      go_wp2_with fail
      refine (readOn_of _ d q ts (x1 + 1) 1 (R0 + 1) _ R1 _ HQ.out (by omega) (by decide) HY.out w2 HR2.out HSV.out).mono ?_
      rintro e w3 ⟨v3, rfl, HR3, hw3⟩
      simp only at HR3
      have hb3 := hb2.trans hw3
      obtain ⟨k0, k1, g0, g1, hbw⟩ := HEND.out w3 hb3
      by_cases hz2 : z2 = 0
      · subst hz2
        have hp := HPW4.out
        rw [if_neg (show ¬ ((0 : Int) ≠ 0) from fun h => h rfl)] at hp
        obtain ⟨A, c, rfl, -, -, rfl, rfl, c0, c1, hown, hms⟩ := (HDN.out w3 v3 R2 y1 hp HR3.out).out
        have HO := Lib.hid hown
        have HMS := Lib.hid hms
        clear hp HPW4 HDN hown hms
        go_wp2_with fail
        exact selp_end rfl hR0 hbw k0 k1 M A k c m HK.out HO.out HMS.out (y1 : Int) 0 _ rfl rfl rfl rfl
      · have hzb : (z2 == 0) = false := by simpa using hz2
        have hzb2 : (z2 != 0) = true := by simpa using hz2
        have hp := HPW4.out
        rw [if_pos hz2] at hp
        simp only [Sl.none_, Prod.mk.injEq] at hp
        obtain ⟨⟨rfl, rfl⟩, rfl, rfl⟩ := hp
        have hk0 : k = 0 := HK.out
        subst hk0
        clear HPW4 HDN
        go_wp2_with fail
        exact selp_end rfl hR0 hbw k0 k1 ⟨#[]⟩ none 0 0 [] rfl (OwnQ.nil _ _) hnil (y1 : Int) z2 _ rfl rfl rfl rfl
end Go.Proofs.YtkoeggjfdcpokaaGreatDoor
namespace Go.Proofs.YtkoeggjfdcpokaaGreatDoor
open Go.RowKit Go.Proofs.YtkoeggjfdcpokaaGreatDoor.Lp
open Go.Proofs.YtkoeggjfdcpokaaGreatDoor.Sl (Mt Sel Tf)

/-- A match of texts that may be. -/
abbrev Bmt : Type := { m : Mt // m.1.size ≤ 9223372036854775807 ∧ m.2.1.size ≤ 9223372036854775807 }
instance : Inhabited Bmt := ⟨⟨(⟨#[]⟩, ⟨#[]⟩, false), by decide, by decide⟩⟩
theorem as_bmt : ∀ l : List Mt, (∀ m ∈ l, m.1.size ≤ 9223372036854775807 ∧ m.2.1.size ≤ 9223372036854775807) → ∃ z : List Bmt, z.map (fun x => x.1) = l
  | [], _ => ⟨[], rfl⟩
  | m :: r, h => by
    obtain ⟨z, hz⟩ := as_bmt r (fun x hx => h x (List.mem_cons_of_mem _ hx))
    exact ⟨⟨m, h m List.mem_cons_self⟩ :: z, by rw [List.map_cons, hz]⟩
theorem contains_nom (A : Option Addr) (c : Nat) (v : Value) (w : World) :
    Calls Tryz.prog 47 #[.slice A 0 c, v] w fun e w' => e = .returned (.bool false) ∧ w = w' := by
  have h0 : ∀ W : World, Calls Tryz.prog 73 #[.slice A 0 c, v] W fun e w' => e = .returned (.int .i64 (-1)) ∧ W = w' := by
    intro W
    go_enter Tryz.func73, Tryz.ntmps73
    go_wp2
    go_loopg [5, 8] 1 (fun _ _ s8 wx => s8 = .int .i64 0 ∧ wx = W)
    case atStart => exact ⟨rfl, rfl⟩
    case round =>
      obtain ⟨rfl, rfl⟩ := hrel
      go_wp2
      go_ret
      exact ⟨rfl, rfl⟩
  go_enter Tryz.func47, Tryz.ntmps47
  go_wp2_with (go_at_call 73; refine (h0 _).mono ?_; rintro e w' ⟨rfl, rfl⟩)
  go_ret
  exact ⟨rfl, rfl⟩
theorem contains_mat (g : Nat) (lb : Array Value) (p : Mt → Bool) (eg : ∀ args w, (callFunc g args).run Tryz.prog w = .ok (.enter g args) w) (A : Option Addr) (c n : Nat) (l : List Mt) (hn : n = l.length) (w : World) (hr : Rq w w.heap.size A l)
    (hp : PredBelow Tryz.prog g lb (fun x : Bmt => .agg (menc x.1).toArray) (fun x => p x.1) w) :
    Calls Tryz.prog 47 #[.slice A n c, .func (.func g) #[] lb] w fun e w' => e = .returned (.bool (l.any p)) ∧ Below w.heap.size w w' := by
  subst hn
  by_cases hl : l = []
  · subst hl
    refine (contains_nom A c _ w).mono ?_
    rintro e w' ⟨rfl, rfl⟩
    exact ⟨rfl, Below.refl _ _⟩
  · obtain ⟨b, off, rfl, hb, hc⟩ := hr.mem hl
    obtain ⟨z, hz⟩ := as_bmt l hr.size
    have hzl : z.length = l.length := by rw [← hz, List.length_map]
    have := AnyQ.slices_ContainsFunc Tryz.containsM 3 Tryz.isAgg45 Tryz.sizeOf45 (fun x : Bmt => menc x.1) (fun _ => rfl) (fun x => p x.1) g lb eg b off l.length c z w hp (by omega) hr.len hb (by
      intro j hj i v hv
      have hjl : j < l.length := by omega
      refine hc (j * 3 + i) v ?_ |> fun h => by rw [← Nat.add_assoc] at h; exact h
      obtain ⟨h0, h1, h2⟩ := mcells_at l j hjl
      rw [getElem!_pos z j hj] at hv
      have e : z[j].1 = l[j] := by
        have h := congrArg (fun t : List Mt => t[j]?) hz
        simp only [List.getElem?_map, List.getElem?_eq_getElem hj, List.getElem?_eq_getElem hjl, Option.map_some, Option.some.injEq] at h
        exact h
      rw [e] at hv
      match i, hv with
      | 0, hv => rw [← hv]; exact h0
      | 1, hv => rw [← hv]; exact h1
      | 2, hv => rw [← hv]; exact h2)
    rw [← hzl, List.take_length] at this
    have ha : z.any (fun x => p x.1) = l.any p := by rw [← hz, List.any_map]; rfl
    rw [ha, hzl] at this
    exact this
theorem sane_one (a b : ByteArray) : saneB [(a, b)] = Sl.mOk (a, b, false) := by
  rw [Bool.eq_iff_iff, sane_iff]
  unfold large misn Sl.mOk bigV badN
  simp only [List.length_cons, List.length_nil, List.any_cons, List.any_nil, Bool.or_false, Ris, Bool.and_eq_true, decide_eq_true_eq, Bool.not_eq_false', Bool.or_eq_false_iff, decide_eq_false_iff_not]
  constructor
  · rintro ⟨⟨_, h⟩, h2, _⟩
    exact ⟨h2, by omega⟩
  · rintro ⟨h2, h⟩
    exact ⟨⟨by omega, by omega⟩, h2, List.pairwise_singleton _ _⟩
theorem mOk_any (a b : ByteArray) (c d : Bool) : Sl.mOk (a, b, c) = Sl.mOk (a, b, d) := rfl
theorem rd_one (W : World) (a b : ByteArray) (ha : a.size ≤ 9223372036854775807) (hb : b.size ≤ 9223372036854775807) :
    Rd (W.alloc (.cells #[.string a, .string b] 73)) (W.alloc (.cells #[.string a, .string b] 73)).heap.size (some ⟨W.heap.size, 0, none⟩) [(a, b)] := by
  refine ⟨by simp, ?_, fun _ => ⟨W.heap.size, 0, rfl, by simp, ?_⟩⟩
  · intro p hp
    simp only [List.mem_cons, List.not_mem_nil, or_false] at hp
    subst hp
    exact ⟨ha, hb⟩
  · intro j u hu
    match j, hu with
    | 0, hu => cases hu; go_simp
    | 1, hu => cases hu; go_simp
theorem egSane : ∀ args w, (callFunc 48 args).run Tryz.prog w = .ok (.enter 48 args) w := enters_of Tryz.func48 (by kernel_rfl) rfl
set_option maxHeartbeats 1600000 in
theorem insane_pred (w : World) : PredBelow Tryz.prog 48 #[] (fun x : Bmt => .agg (menc x.1).toArray) (fun x => !Sl.mOk x.1) w := by
  rintro W ⟨⟨a, b, c⟩, ha, hb⟩ hbel
  show Calls Tryz.prog 48 #[.agg #[.string a, .string b, .bool c]] W fun e w' => e = .returned (.bool (!Sl.mOk (a, b, c))) ∧ Below w.heap.size w w'
  have ha' : a.size ≤ 9223372036854775807 := ha
  have hb' : b.size ≤ 9223372036854775807 := hb
  obtain ⟨o, ho⟩ : ∃ o, Sl.mOk (a, b, c) = o := ⟨_, rfl⟩
  have HS : Hid (saneB [(a, b)] = o) := Lib.hid ((sane_one a b).trans ho)
  rw [ho]
  clear ho ha hb
  have hbM := hbel.alloc hbel.size (.cells #[.string a, .string b, .bool c] 45)
  obtain ⟨V, hV⟩ : ∃ V, W.alloc (.cells #[.string a, .string b, .bool c] 45) = V := ⟨_, rfl⟩
  have v0 : V.cell? ⟨W.heap.size, 0, none⟩ = some (.string a) := by rw [← hV]; exact World.cell?_alloc_at _ _ _ _ rfl
  have v1 : V.cell? ⟨W.heap.size, 1, none⟩ = some (.string b) := by rw [← hV]; exact World.cell?_alloc_at _ _ _ _ rfl
  rw [hV] at hbM
  have hR := Lib.hid (rd_one V a b ha' hb')
  have hb2 := hbM.alloc hbM.size (.cells #[.string a, .string b] 73)
  clear ha' hb'
  go_enter Tryz.func48, Tryz.ntmps48
  go_wp2_with fail
  refine (sane_of _ _ 1 [(a, b)] rfl o HS.out _ hR.out).mono ?_
  rintro e w2 ⟨rfl, hw2⟩
  have hb3 := below_on hb2 hw2
  go_wp2_with fail
  go_ret
  exact ⟨rfl, hb3⟩
theorem any_not (l : List Mt) : (l.any fun m => !Sl.mOk m) = !l.all Sl.mOk := by
  rw [List.not_all_eq_any_not]
set_option maxHeartbeats 3200000 in
theorem saneP_of : SaneC := by
  intro N A n c l b hNs hn hnc hb w hr
  have HN := Lib.hid hn
  have HB := Lib.hid hb
  have HR := Lib.hid hr
  have hlen : n ≤ 9223372036854775807 := by rw [hn]; exact hr.len
  clear hn hb hr
  obtain ⟨bn, hbn⟩ : ∃ bn, nameB N = bn := ⟨_, rfl⟩
  have HBn := Lib.hid hbn
  clear hbn
  obtain ⟨W, P, hW, hP, hb0, d0, d1, hPW⟩ := box_sel w N A n c
  have HB0 : Hid (Below w.heap.size w W) := Lib.hid (hP ▸ hb0)
  have HRW := Lib.hid (HR.out.on HB0.out)
  clear hb0
  go_enter Tryz.func26, Tryz.ntmps26
  go_wp2_with fail
  refine (name_of N bn HBn.out _).mono ?_
  rintro e w1 ⟨rfl, rfl⟩
  cases bn with
  | false =>
    have : b = false := by rw [← HB.out]; unfold Sl.saneS; rw [HBn.out]; rfl
    subst this
    go_wp2_with fail
    go_ret
    first | exact ⟨rfl, HB0.out⟩ | exact ⟨rfl, hP ▸ HB0.out⟩
  | true =>
    by_cases h8 : n ≤ 8
    · have h8z : (n : Int) ≤ 8 := by omega
      obtain ⟨o, ho⟩ : ∃ o, (l.any fun m => !Sl.mOk m) = o := ⟨_, rfl⟩
      have : b = !o := by
        rw [← HB.out, ← ho, any_not, Bool.not_not]
        unfold Sl.saneS
        rw [HBn.out, decide_eq_true (by have := HN.out; simp only; omega)]
        rfl
      subst this
      have HC := Lib.hid (contains_mat 48 #[] (fun m => !Sl.mOk m) egSane A c n l HN.out W HRW.out (insane_pred W))
      rw [ho] at HC
      clear ho h8
      go_wp2_with fail
      refine HC.out.mono ?_
      rintro e w2 ⟨rfl, hw2⟩
      go_wp2_with fail
      go_ret
      first | exact ⟨rfl, below_on HB0.out hw2⟩ | exact ⟨rfl, hP ▸ below_on HB0.out hw2⟩
    · have h8z : ¬ (n : Int) ≤ 8 := by omega
      have : b = false := by
        rw [← HB.out]; unfold Sl.saneS
        rw [decide_eq_false (by have := HN.out; simp only; omega)]
        simp
      subst this
      go_wp2_with fail
      go_ret
      first | exact ⟨rfl, HB0.out⟩ | exact ⟨rfl, hP ▸ HB0.out⟩
end Go.Proofs.YtkoeggjfdcpokaaGreatDoor
namespace Go.Proofs.YtkoeggjfdcpokaaGreatDoor
open Go.RowKit Go.Proofs.YtkoeggjfdcpokaaGreatDoor.Lp
open Go.Proofs.YtkoeggjfdcpokaaGreatDoor.Sl (Mt Sel Tf)

theorem sane_len {N : ByteArray} {l : List Mt} (h : Sl.saneS (N, l) = true) : N.size ≤ 64 ∧ l.length ≤ 8 ∧ ∀ m ∈ l, m.1.size ≤ 64 ∧ m.2.1.size ≤ 64 := by
  unfold Sl.saneS at h
  simp only [Bool.and_eq_true, decide_eq_true_eq] at h
  refine ⟨((nameB_iff N).1 h.1.1).2.1, h.1.2, fun m hm => ?_⟩
  have := List.all_eq_true.1 h.2 m hm
  unfold Sl.mOk at this
  simp only [Bool.and_eq_true, decide_eq_true_eq] at this
  exact ⟨((nameB_iff m.1).1 this.1).2.1, this.2⟩
theorem quoteLen (s : Lx.T) : (Lx.quote s).length ≤ 2 * s.length + 2 := by
  have := body_le2 s
  simp only [Lx.quote, List.length_cons, List.length_append, List.length_nil]
  omega
theorem glue {S T U : ByteArray} (h : U.data.toList = S.data.toList ++ T.data.toList) (hl : S.size + T.size ≤ 9223372036854775807) : ∀ w : World, (Op.stringOp .add S T).run Tryz.prog w = .ok (.string U) w := by
  intro w
  have e : U = S ++ T := by
    apply ByteArray.ext
    apply Array.toList_inj.1
    rw [h]
    simp
  rw [e]
  exact run_string_add_sum w S T hl
/-- A match's text. -/
def mB (m : Mt) : ByteArray := str (Sl.mTxt m)
def sgB (b : Bool) : ByteArray := if b then ⟨#[33, 61]⟩ else ⟨#[61]⟩
theorem sgB_list (b : Bool) : (sgB b).data.toList = (if b then [33] else []) ++ [61] := by cases b <;> rfl
theorem prM_join : ∀ (m : Mt) (r : List Mt), Sl.mTxt m ++ Sl.prM false r = Lib.join ((m :: r).map Sl.mTxt) [44] ++ [125]
  | m, [] => by
    show Sl.mTxt m ++ [125] = _
    rw [List.map_cons, List.map_nil, Lib.join_one]
  | m, x :: r => by
    have ih := prM_join x r
    have e : Lib.join ((m :: x :: r).map Sl.mTxt) [44] = Sl.mTxt m ++ ([44] ++ Lib.join ((x :: r).map Sl.mTxt) [44]) := by
      rw [List.map_cons, Lib.join_cons, List.map_cons, Lib.join_cons]
      simp [Lib.joinTail]
    rw [e]
    show Sl.mTxt m ++ 44 :: (Sl.mTxt x ++ Sl.prM false r) = _
    rw [ih]
    simp
theorem mTxt_len {m : Mt} (h : m.1.size ≤ 64 ∧ m.2.1.size ≤ 64) : (Sl.mTxt m).length ≤ 200 := by
  have hq := quoteLen m.2.1.data.toList
  have h1 := Lib.size_eq m.1
  have h2 := Lib.size_eq m.2.1
  unfold Sl.mTxt
  have : (if m.2.2 then [(33 : UInt8)] else []).length ≤ 1 := by split <;> simp
  simp only [List.length_append, List.length_cons]
  omega
theorem join_len : ∀ (l : List Mt), (∀ m ∈ l, m.1.size ≤ 64 ∧ m.2.1.size ≤ 64) → (Lib.join (l.map Sl.mTxt) [44]).length ≤ 201 * l.length
  | [], _ => by simp [Lib.join_nil]
  | m :: r, h => by
    have h1 := mTxt_len (h m List.mem_cons_self)
    have h2 : ∀ k : List Mt, (∀ m ∈ k, m.1.size ≤ 64 ∧ m.2.1.size ≤ 64) → (Lib.joinTail [44] (k.map Sl.mTxt)).length ≤ 201 * k.length := by
      intro k
      induction k with
      | nil => intro _; simp [Lib.joinTail]
      | cons x k ih =>
        intro hk
        have := ih (fun y hy => hk y (List.mem_cons_of_mem _ hy))
        have h3 := mTxt_len (hk x List.mem_cons_self)
        simp only [Lib.joinTail, List.map_cons, List.flatten_cons, List.length_append, List.length_cons, List.length_nil] at this ⊢
        omega
    have h3 := h2 r (fun y hy => h y (List.mem_cons_of_mem _ hy))
    rw [List.map_cons, Lib.join_cons, List.length_append, List.length_cons]
    omega
/-- What the row holds ahead of round i. -/
def rowM (L : List Mt) (i : Nat) (j : Nat) : Value := .string (if j < i then (L[j]?.map mB).getD ⟨#[]⟩ else ⟨#[]⟩)
theorem rowM_step (L : List Mt) (i : Nat) (m : Mt) (h : L[i]? = some m) (j : Nat) : (if j = i then Value.string (mB m) else rowM L i j) = rowM L (i + 1) j := by
  unfold rowM
  by_cases e : j = i
  · subst e
    rw [if_pos rfl, if_pos (by omega), h]
    rfl
  · rw [if_neg e]
    by_cases hl : j < i
    · rw [if_pos hl, if_pos (by omega)]
    · rw [if_neg hl, if_neg (by omega)]
theorem info_strP : (Tryz.prog.info? 9).map (fun i => (i.zero, i.size, i.bytes)) = some (some (.string ⟨#[]⟩), 1, 16) := by kernel_rfl
set_option maxHeartbeats 1600000 in
theorem signOf_of (a b : ByteArray) (c : Bool) (w : World) :
    Calls Tryz.prog 51 #[.agg #[.string a, .string b, .bool c]] w fun e w' => e = .returned (.string (sgB c)) ∧ Below w.heap.size w w' := by
  have hA := below_alloc w (.cells #[.string a, .string b, .bool c] 45)
  cases c with
  | true =>
    go_enter Tryz.func51, Tryz.ntmps51
    go_wp2_with fail
    go_ret
    exact ⟨rfl, hA⟩
  | false =>
    go_enter Tryz.func51, Tryz.ntmps51
    go_wp2_with fail
    go_ret
    exact ⟨rfl, hA⟩
set_option maxRecDepth 100000 in
set_option maxHeartbeats 6400000 in
theorem printP_of : PrintC := by
  intro N A n c l S hNs hn hnc hS w hr
  have HN := Lib.hid hn
  have HC := Lib.hid hnc
  have HS := Lib.hid hS
  have HR := Lib.hid hr
  have hlen : n ≤ 9223372036854775807 := by rw [hn]; exact hr.len
  clear hn hS hr hnc
  obtain ⟨b1, hb1⟩ : ∃ b, Sl.saneS (N, l) = b := ⟨_, rfl⟩
  have H1 := Lib.hid hb1
  clear hb1
  obtain ⟨W, P, hW, hP, hb0, d0, d1, hPW⟩ := box_sel w N A n c
  have X1 : Hid (Bx W P N A n c) := Lib.hid ⟨d0, d1, hPW⟩
  have HB0 : Hid (Below w.heap.size w W) := Lib.hid (hP ▸ hb0)
  have HRW := Lib.hid (HR.out.on HB0.out)
  clear hb0 HR
  go_enter Tryz.func31, Tryz.ntmps31
  go_wp2_with fail
  refine (saneP_of N A n c l b1 hNs HN.out HC.out H1.out W HRW.out).mono ?_
  rintro e w1 ⟨rfl, hV1⟩
  clear d0 d1
  obtain ⟨d0, d1, hP1⟩ := X1.out.on hV1
  cases b1 with
  | false =>
    have : S = str [] := by
      apply str_of
      rw [HS.out]; unfold Sl.prS; rw [H1.out]; rfl
    subst this
    go_wp2_with fail
    go_ret
    first | exact ⟨rfl, below_on HB0.out hV1⟩ | exact ⟨rfl, hP ▸ below_on HB0.out hV1⟩
  | true =>
    obtain ⟨k1, k2, k3⟩ := sane_len H1.out
    have K3 := Lib.hid k3
    clear k3
    have hpr : S.data.toList = N.data.toList ++ (if l = [] then [] else Sl.prM true l) := by
      rw [HS.out]; unfold Sl.prS; rw [H1.out]; rfl
    by_cases h0 : n = 0
    · have hl : l = [] := List.length_eq_zero_iff.1 (by rw [← HN.out]; exact h0)
      have : S = N := by
        rw [str_of (hpr.trans (by rw [if_pos hl, List.append_nil]))]
        exact (str_of rfl).symm
      subst this
      subst h0
      go_wp2_with fail
      go_ret
      first | exact ⟨rfl, below_on HB0.out hV1⟩ | exact ⟨rfl, hP ▸ below_on HB0.out hV1⟩
    · have hne : l ≠ [] := by
        rintro rfl
        exact h0 HN.out
      rw [if_neg hne] at hpr
      have hpj : S.data.toList = N.data.toList ++ 123 :: (Lib.join (l.map Sl.mTxt) [44] ++ [125]) := by
        rw [hpr]
        obtain ⟨m, r, rfl⟩ := List.exists_cons_of_ne_nil hne
        rw [← prM_join]
        rfl
      have HPR := Lib.hid hpj
      have h0z : ¬ (n : Int) = 0 := by omega
      have h0b : ((n : Int) == 0) = false := by rw [beq_eq_false_iff_ne]; exact h0z
      have hn8 : n ≤ 8 := by rw [HN.out]; exact k2
      clear hpr hpj hne
      have hmk := run_make_row' (P := Tryz.prog) 55 9 (.string ⟨#[]⟩) 16 Tryz.underlying55 info_strP rfl .i64 .i64 n (by omega) (by omega)
      have hrow0 := World.rowIs_made w1 (.string ⟨#[]⟩) n 9
      have hbB : Below w1.heap.size w1 (w1.alloc (.cells (madeCells #[.string ⟨#[]⟩] n) 9)) := below_alloc w1 _
      obtain ⟨V, hV⟩ : ∃ V, w1.alloc (.cells (madeCells #[.string ⟨#[]⟩] n) 9) = V := ⟨_, rfl⟩
      rw [hV] at hrow0 hbB
      have hrow1 : V.rowIs w1.heap.size 9 n (rowM l 0) := hrow0.congr (fun i _ => by simp [rowM])
      have HW0 := Lib.hid hrow1
      obtain ⟨B, hB⟩ : ∃ B, w1.heap.size = B := ⟨_, rfl⟩
      rw [hB] at hbB HW0
      have hPB : P < B := by rw [← hB]; exact hP1
      have DZ : Hid (∀ U, Below B w1 U → U.cell? ⟨P, 0, none⟩ = some (.string N) ∧ U.cell? ⟨P, 1, none⟩ = some (.slice A n c)) := Lib.hid fun U h => ⟨(h.cell (p := ⟨P, 0, none⟩) hPB).trans d0, (h.cell (p := ⟨P, 1, none⟩) hPB).trans d1⟩
      have HRB : Hid (∀ U, Below B w1 U → Rq U B A l) := Lib.hid fun U h => by
        have := HRW.out.on hV1
        rw [hB] at this
        exact this.below h
      obtain ⟨z0, z1⟩ := DZ.out V hbB
      clear hrow0 hrow1
      go_wp2_with fail
      try rw [hV]
      go_wp2_with fail
      go_loopg [4, 5, 22] n (fun g _ _ s22 wx => ∃ i : Nat, i + g = n ∧ s22 = .int .i64 i ∧ Hid (wx.rowIs B 9 n (rowM l i)) ∧ Below B w1 wx)
      case atStart => exact ⟨0, by omega, rfl, HW0, hbB⟩
      case round =>
        obtain ⟨i, hi, rfl, HW, hwx⟩ := hrel
        have hszx := hwx.size
        have hszB : B ≤ wr.heap.size := by omega
        cases gk with
        | zero =>
          obtain rfl : i = n := by omega
          have hrow := HW.out
          have hxl : (l.map mB).length = i := by rw [List.length_map]; exact HN.out.symm
          have hmm : (l.map mB).map (fun b => b.data.toList) = l.map Sl.mTxt := by
            rw [List.map_map]
            rfl
          have hjl := join_len l K3.out
          have hln : l.length ≤ 8 := k2
          obtain ⟨J, hJ⟩ : ∃ J : ByteArray, J.data.toList = Lib.join (l.map Sl.mTxt) [44] := ⟨str _, rfl⟩
          have hJs : J.size ≤ 2000 := by
            have := Lib.size_eq J
            rw [hJ] at this
            omega
          have hcell : ∀ U, Below wr.heap.size wr U → ∀ (j : Nat) (x : ByteArray), (l.map mB)[j]? = some x → U.cell? ⟨B, 0 + j, none⟩ = some (.string x) := by
            intro U hU j x hx
            have hj : j < i := by rw [← hxl]; exact (List.getElem?_eq_some_iff.1 hx).1
            rw [Nat.zero_add, (hU.cell (p := ⟨B, j, none⟩) hrow.lt), hrow.cell hj]
            rw [List.getElem?_map] at hx
            rw [rowM, if_pos hj, hx]
            rfl
          have KJ : Hid (∀ U, Below wr.heap.size wr U → Calls Tryz.prog 53 #[.slice (some ⟨B, 0, none⟩) i i, .string ⟨#[44]⟩] U fun e w' => e = .returned (.string J) ∧ Below U.heap.size U w') := Lib.hid fun U hU => by
            have hcall := Tryz.strings_Join B 0 i (l.map mB) ⟨#[44]⟩ U (hcell U hU) (Nat.lt_of_lt_of_le hrow.lt hU.size) (by rw [hxl]; omega) (by rw [hxl]; exact Nat.le_refl _) (by rw [hmm, show (⟨#[44]⟩ : ByteArray).data.toList = [44] from rfl]; omega)
            rw [hxl, hmm, show (⟨#[44]⟩ : ByteArray).data.toList = [44] from rfl, ← hJ, Lib.mk_data] at hcall
            exact hcall
          have YP : Hid (∀ U, Below wr.heap.size wr U → U.cell? ⟨P, 0, none⟩ = some (.string N)) := Lib.hid fun U hU => (DZ.out U (hwx.trans (hU.mono hszB))).1
          have hNs64 : N.size ≤ 64 := k1
          have hlS := Lib.size_eq S
          obtain ⟨T1, hT1⟩ : ∃ T : ByteArray, T.data.toList = N.data.toList ++ [123] := ⟨str _, rfl⟩
          obtain ⟨T2, hT2⟩ : ∃ T : ByteArray, T.data.toList = T1.data.toList ++ J.data.toList := ⟨str _, rfl⟩
          have hs1 : T1.size ≤ 65 := by
            have h1 := Lib.size_eq T1
            rw [hT1, List.length_append, ← Lib.size_eq] at h1
            have : ([123] : List UInt8).length = 1 := rfl
            omega
          have hs2 : T2.size ≤ 3000 := by
            have h1 := Lib.size_eq T2
            rw [hT2, List.length_append, ← Lib.size_eq, ← Lib.size_eq] at h1
            omega
          have g1 := glue (S := N) (T := ⟨#[123]⟩) (U := T1) hT1 (by show N.size + 1 ≤ _; omega)
          have g2 := glue (S := T1) (T := J) (U := T2) hT2 (by omega)
          have g3 := glue (S := T2) (T := ⟨#[125]⟩) (U := S) (by rw [HPR.out, hT2, hT1, hJ]; simp) (by show T2.size + 1 ≤ _; omega)
          have hcur : Below wr.heap.size wr wr.drew := (Below.refl _ _).drew
          have HBq := Lib.hid hB
          clear hrow hxl hmm hjl hJ hT1 hT2 hlS hcell z0 z1 hs1 hs2 hJs hV hB
          go_wp2_with fail
          first | (go_region_held (fun U => U.cell? ⟨P, 0, none⟩ = some (.string N))
            (first | exact YP.out _ hcur)
            (first
              | (go_at_call 53; with_reducible refine (KJ.out _ hcur).mono ?_; rintro e w' ⟨rfl, hw'⟩; replace hcur := below_on hcur hw'))) | fail
          all_goals
            go_wp2_with fail
            go_ret
            exact ⟨rfl, below_on (below_on HB0.out hV1) (by rw [HBq.out]; exact hwx.trans (hcur.mono hszB))⟩
        | succ g =>
          have hlt : i < n := by omega
          have hltz : (i : Int) < (n : Int) := by omega
          obtain ⟨a1, a2, a3, ha⟩ := getM (l := l) (k := i) (by have := HN.out; omega)
          have hm1 := K3.out _ (List.mem_of_getElem? ha)
          have hm1a : a1.size ≤ 64 := hm1.1
          have hm1b : a2.size ≤ 64 := hm1.2
          obtain ⟨bk, off, rfl, hbk, c0, c1, c2⟩ := (HRB.out wr hwx).get ha
          have HST := Lib.hid (rowM_step l i (a1, a2, a3) ha)
          have hrw := HW.out.alloc (.cells #[.string a1, .string a2, .bool a3] 45)
          have hMn := lx_new wr (.cells #[.string a1, .string a2, .bool a3] 45)
          have hbY := hwx.alloc hszB (.cells #[.string a1, .string a2, .bool a3] 45)
          have hBlt := HW.out.lt
          obtain ⟨Y, hY⟩ : ∃ Y, wr.alloc (.cells #[.string a1, .string a2, .bool a3] 45) = Y := ⟨_, rfl⟩
          obtain ⟨M, hM⟩ : ∃ M, wr.heap.size = M := ⟨_, rfl⟩
          rw [hY, hM] at hMn
          rw [hY] at hrw hbY
          have hMY : M < Y.heap.size := (Array.getElem?_eq_some_iff.1 hMn).1
          have hBM : B < M := by rw [← hM]; exact hBlt
          obtain ⟨Q, hQ⟩ : ∃ Q : ByteArray, Q = str (Lx.quote a2.data.toList) := ⟨_, rfl⟩
          have hQl : Q.data.toList = Lx.quote a2.data.toList := by rw [hQ]; rfl
          have hQs : Q.size ≤ 130 := by
            have h1 := Lib.size_eq Q
            have h2 := quoteLen a2.data.toList
            have h3 := Lib.size_eq a2
            rw [hQl] at h1
            omega
          have KS : Hid (∀ U, Below Y.heap.size Y U → Calls Tryz.prog 51 #[.agg #[.string a1, .string a2, .bool a3]] U fun e w' => e = .returned (.string (sgB a3)) ∧ Below U.heap.size U w') := Lib.hid fun U _ => signOf_of a1 a2 a3 U
          have KQ : Hid (∀ U, Below Y.heap.size Y U → Calls Tryz.prog 52 #[.string a2] U fun e w' => e = .returned (.string Q) ∧ Below U.heap.size U w') := Lib.hid fun U _ => by rw [hQ]; exact quote_of a2 _ (by omega) rfl U
          have Y0 : Hid (∀ U, Below Y.heap.size Y U → U.cell? ⟨M, 0, none⟩ = some (.string a1)) := Lib.hid fun U h => (h.cell (p := ⟨M, 0, none⟩) hMY).trans (lx_cell hMn 0)
          have Y1 : Hid (∀ U, Below Y.heap.size Y U → U.cell? ⟨M, 1, none⟩ = some (.string a2)) := Lib.hid fun U h => (h.cell (p := ⟨M, 1, none⟩) hMY).trans (lx_cell hMn 1)
          have Y2 : Hid (∀ U, Below Y.heap.size Y U → U.cell? ⟨M, 2, none⟩ = some (.bool a3)) := Lib.hid fun U h => (h.cell (p := ⟨M, 2, none⟩) hMY).trans (lx_cell hMn 2)
          have YR : Hid (∀ U, Below Y.heap.size Y U → U.rowIs B 9 n (rowM l i)) := Lib.hid fun U h => hrw.of_block (h.block B hrw.lt)
          have YC : Hid (∀ U, Below Y.heap.size Y U → U.cell? ⟨B, i, none⟩ = some (rowM l i i)) := Lib.hid fun U h => (YR.out U h).cell hlt
          have YF : Hid (∀ U, Below Y.heap.size Y U → U.frozen? ⟨B, i, none⟩ = false) := Lib.hid fun U h => (YR.out U h).frozen i
          have hne : ∀ o, (⟨B, i, none⟩ : Addr) ≠ ⟨M, o, none⟩ := by intro o h; have := congrArg Addr.block h; simp only at this; omega
          have YS : Hid (∀ U x, Below Y.heap.size Y U → (U.setCell ⟨B, i, none⟩ x).cell? ⟨M, 0, none⟩ = some (.string a1) ∧ (U.setCell ⟨B, i, none⟩ x).cell? ⟨M, 1, none⟩ = some (.string a2) ∧ (U.setCell ⟨B, i, none⟩ x).cell? ⟨M, 2, none⟩ = some (.bool a3)) := Lib.hid fun U x h =>
            ⟨(World.cell?_setCell_other _ _ _ _ (hne 0)).trans (Y0.out U h), (World.cell?_setCell_other _ _ _ _ (hne 1)).trans (Y1.out U h), (World.cell?_setCell_other _ _ _ _ (hne 2)).trans (Y2.out U h)⟩
          have hsg : (sgB a3).size ≤ 2 := by cases a3 <;> decide
          obtain ⟨T1, hT1⟩ : ∃ T : ByteArray, T.data.toList = a1.data.toList ++ (sgB a3).data.toList := ⟨str _, rfl⟩
          have hs1 : T1.size ≤ 66 := by
            have h1 := Lib.size_eq T1
            rw [hT1, List.length_append, ← Lib.size_eq, ← Lib.size_eq] at h1
            omega
          obtain ⟨X, hX⟩ : ∃ X, mB (a1, a2, a3) = X := ⟨_, rfl⟩
          have hXl : X.data.toList = T1.data.toList ++ Q.data.toList := by
            rw [← hX, hT1, hQl, sgB_list]
            show Sl.mTxt (a1, a2, a3) = _
            simp [Sl.mTxt]
          have g1 := glue (S := a1) (T := sgB a3) (U := T1) hT1 (by omega)
          have g2 := glue (S := T1) (T := Q) (U := X) hXl (by omega)
          obtain ⟨sgv, hsgv⟩ : ∃ x, sgB a3 = x := ⟨_, rfl⟩
          rw [hsgv] at g1 KS
          rw [hX] at HST
          have hcur : Below Y.heap.size Y Y.drew := (Below.refl _ _).drew
          clear hm1 ha hrw hMn hQ hQl hQs hne hsg hT1 hs1 hX hXl hsgv z0 z1 hV hB hBlt
          go_wp2_with fail
          first | (go_region_held (fun U => U.cell? ⟨M, 0, none⟩ = some (.string a1) ∧ U.cell? ⟨M, 1, none⟩ = some (.string a2) ∧ U.cell? ⟨M, 2, none⟩ = some (.bool a3))
            (first | exact ⟨Y0.out _ hcur, Y1.out _ hcur, Y2.out _ hcur⟩ | exact YS.out _ _ hcur)
            (first
              | (go_at_call 51; with_reducible refine (KS.out _ hcur).mono ?_; rintro e w' ⟨rfl, hw'⟩; replace hcur := below_on hcur hw'; have hcB := YC.out _ hcur; have hfB := YF.out _ hcur)
              | (go_at_call 52; with_reducible refine (KQ.out _ hcur).mono ?_; rintro e w' ⟨rfl, hw'⟩; replace hcur := below_on hcur hw'; have hcB := YC.out _ hcur; have hfB := YF.out _ hcur))) | fail
          all_goals
            have hr3 := ((YR.out _ hcur).set i (.string X)).congr (g := rowM l (i + 1)) (fun j _ => HST.out j)
            have HR3 := Lib.hid hr3
            have hb3 := (hbY.trans (hcur.mono (by have := hbY.size; omega))).setCell (p := ⟨B, i, none⟩) (Nat.le_refl _) (.string X)
            clear hr3
            go_wp2_with fail
            go_roundg g
            case measure => omega
            case rel => exact ⟨i + 1, by omega, by simp, HR3, hb3⟩
end Go.Proofs.YtkoeggjfdcpokaaGreatDoor

/-
  What the walks of layer cond's laws lean on: the five calls' contracts, as words (proved of what landed in another text), over a word Ok of the world that the library's variables keep; the example.
  A question in a variable of the call's own (four cells), and in a result's cell.
-/
import Derived.Test.YtkoeggjfdcpokaaGreatDoorMemA
import Derived.Test.YtkoeggjfdcpokaaGreatDoorPlnA
import Derived.Deep.MidRow
namespace Go.Proofs.YtkoeggjfdcpokaaGreatDoor
open Go.RowKit Go.Proofs.YtkoeggjfdcpokaaGreatDoor.Lp
open Go.Proofs.YtkoeggjfdcpokaaGreatDoor.Sl (Mt Sel Tf)

/-- A question as a value. -/
abbrev xv (N : ByteArray) (A : Option Addr) (n c : Nat) (k v : Int) : Value := .agg #[.string N, .slice A n c, .int .i64 k, .int .i64 v]
def XSaneC : Prop := ∀ (N : ByteArray) (A : Option Addr) (n c : Nat) (l : List Mt) (k v : Int) (b : Bool), N.size ≤ 9223372036854775807 → n = l.length → Cap n c → Cd.sane ((N, l), k, v) = b → ∀ w : World, Rq w w.heap.size A l →
  Calls Tryz.prog 13 #[xv N A n c k v] w fun e w' => e = .returned (.bool b) ∧ Below w.heap.size w w'
def HoldsC : Prop := ∀ (k v t : Int) (b : Bool), Cd.holds k v t = b → ∀ w : World, Calls Tryz.prog 15 #[.int .i64 k, .int .i64 v, .int .i64 t] w fun e w' => e = .returned (.bool b) ∧ Below w.heap.size w w'
def NotC (Ok : World → Prop) : Prop := ∀ (k r : Int), Cd.other k = r → ∀ w : World, Ok w → Calls Tryz.prog 17 #[.int .i64 k] w fun e w' => e = .returned (.int .i64 r) ∧ Below w.heap.size w w'
def XPrintC (Ok : World → Prop) : Prop := ∀ (N : ByteArray) (A : Option Addr) (n c : Nat) (l : List Mt) (k v : Int) (S : ByteArray), N.size ≤ 9223372036854775807 → n = l.length → Cap n c → S.data.toList = Cd.pr ((N, l), k, v) → ∀ w : World, Ok w → Rq w w.heap.size A l →
  Calls Tryz.prog 19 #[xv N A n c k v] w fun e w' => e = .returned (.string S) ∧ Below w.heap.size w w'
def XParseC (Ok : World → Prop) : Prop := ∀ (B : Option Addr) (d q : Nat) (ts : List Tz) (i : Int) (M : ByteArray) (m : List Mt) (o v : Int) (k x : Nat) (z : Int), q = ts.length → Cap q d → (∀ t ∈ ts, t.2.2.size ≤ 1048576) → -9223372036854775808 ≤ i → i ≤ 9223372036854775807 → Cd.parse (ts.map flatK) i = (((M, m), o, v), x, z) → k = m.length → ∀ w : World, Ok w → Rz w w.heap.size B ts →
  Calls Tryz.prog 11 #[.slice B q d, .int .i64 i] w fun e w' => ∃ A c, e = .returned (.tuple #[xv M A k c o v, .int .i64 (x : Int), .int .i64 z]) ∧ Hid (Rq w' w'.heap.size A m) ∧ Hid (Cap k c) ∧ Below w.heap.size w w'
/-- All five, and lex.All. -/
structure CondC (Ok : World → Prop) : Prop where
  on : ∀ w w', Ok w → Below w.heap.size w w' → Ok w'
  sane : XSaneC
  holds : HoldsC
  other : NotC Ok
  print : XPrintC Ok
  parse : XParseC Ok
  all : AllZC

/-! ### the document's example -/
def cUp : ByteArray := ⟨#[117, 112]⟩
def exC : Cd.Ex := ((cUp, []), 2, 2000)
theorem exC_num : Np.printS 2000 = [50] := by
  have h := Np.print_nat 2000 (by decide)
  have e : Np.printS 2000 = Np.printU 2000 := h
  rw [e]
  unfold Np.printU
  rw [show 2000 / 1000 = 2 from rfl, show 2000 % 1000 = 0 from rfl, Lib.decDigits, dif_pos (by decide)]
  rfl
theorem exC_sane : Cd.sane exC = true := by
  have h1 : nameB cUp = true := by
    unfold nameB
    rw [tl, show cUp.data.toList = [117, 112] from rfl]
    decide
  unfold Cd.sane Sl.saneS exC
  simp only [h1]
  decide
def exCT : Lx.T := [40, 40, 117, 112, 62, 61, 50, 41, 41]
theorem exC_toks : (Lx.lex 65536 exCT).1.map Lx.flat = Cd.tW 2 exC ∧ (Lx.lex 65536 exCT).2.1 = [] ∧ (Lx.lex 65536 exCT).2.2 = 0 := by
  have hw : ∀ c r, Lx.asm [(([] : Lx.T), (4, [62, 61])), ([], (2, [50])), ([], (4, [41])), ([], (4, [41]))] [] = c :: r → Lx.wordC c = false := by
    intro c r h
    have h' : (62 : UInt8) :: [61, 50, 41, 41] = c :: r := h
    injection h' with h1 _
    rw [← h1]
    decide
  have hn : ∀ c r, Lx.asm [(([] : Lx.T), (4, [41])), ([], (4, [41]))] [] = c :: r → Lx.numC c = false := by
    intro c r h
    have h' : (41 : UInt8) :: [41] = c :: r := h
    injection h' with h1 _
    rw [← h1]
    decide
  have hc : Lx.Chain [(([] : Lx.T), (4, [40])), ([], (4, [40])), ([], (1, [117, 112])), ([], (4, [62, 61])), ([], (2, [50])), ([], (4, [41])), ([], (4, [41]))] [] :=
    ⟨Lx.wh_nil, Sl.good_sign (by decide), Lx.stop_sign (by decide), Lx.wh_nil, Sl.good_sign (by decide), Lx.stop_sign (by decide), Lx.wh_nil, .inl ⟨rfl, 117, [112], rfl, by decide, by decide⟩, Lx.stop_word hw,
      Lx.wh_nil, Sl.good_two (by decide), Lx.stop_two _ _ _, Lx.wh_nil, .inr (.inl ⟨rfl, 50, [], rfl, by decide, by decide, by decide⟩), ⟨fun h => by simp at h, fun _ => hn, fun h => by simp at h⟩, Lx.wh_nil, Sl.good_sign (by decide), Lx.stop_sign (by decide), Lx.wh_nil, Sl.good_sign (by decide), Lx.stop_sign (by decide), rfl⟩
  have := Lx.lex_chain _ _ 65536 (by decide) hc
  refine ⟨?_, this.2⟩
  rw [show exCT = Lx.asm [(([] : Lx.T), (4, [40])), ([], (4, [40])), ([], (1, [117, 112])), ([], (4, [62, 61])), ([], (2, [50])), ([], (4, [41])), ([], (4, [41]))] [] from rfl, this.1]
  unfold Cd.tW Cd.tX exC
  rw [exC_num]
  rfl
theorem exC_text : Cd.pr exC = [117, 112, 32, 62, 61, 32, 50] := by
  unfold Cd.pr
  rw [if_pos exC_sane]
  unfold Sl.prS
  rw [if_pos (Cd.sane_parts exC_sane).1]
  unfold exC
  rw [exC_num]
  rfl
/-- A question's variable. -/
structure Bq (w : World) (P : Nat) (N : ByteArray) (A : Option Addr) (n c : Nat) (k v : Int) : Prop where
  c0 : w.cell? ⟨P, 0, none⟩ = some (.string N)
  c1 : w.cell? ⟨P, 1, none⟩ = some (.slice A n c)
  c2 : w.cell? ⟨P, 2, none⟩ = some (.int .i64 k)
  c3 : w.cell? ⟨P, 3, none⟩ = some (.int .i64 v)
  lt : P < w.heap.size
theorem Bq.on {w w' : World} {P : Nat} {N : ByteArray} {A : Option Addr} {n c : Nat} {k v : Int} (h : Bq w P N A n c k v) (hb : Below w.heap.size w w') : Bq w' P N A n c k v :=
  ⟨(hb.cell (p := ⟨P, 0, none⟩) h.lt).trans h.c0, (hb.cell (p := ⟨P, 1, none⟩) h.lt).trans h.c1, (hb.cell (p := ⟨P, 2, none⟩) h.lt).trans h.c2, (hb.cell (p := ⟨P, 3, none⟩) h.lt).trans h.c3, Nat.lt_of_lt_of_le h.lt hb.size⟩
theorem box_x (w : World) (N : ByteArray) (A : Option Addr) (n c : Nat) (k v : Int) : ∃ W P, w.alloc (Obj.cells #[Value.string N, Value.slice A n c, Value.int .i64 k, Value.int .i64 v] 26) = W ∧ w.heap.size = P ∧ Below w.heap.size w W ∧ Bq W P N A n c k v :=
  ⟨_, _, rfl, rfl, below_alloc w _, World.cell?_alloc_at _ _ _ _ rfl, World.cell?_alloc_at _ _ _ _ rfl, World.cell?_alloc_at _ _ _ _ rfl, World.cell?_alloc_at _ _ _ _ rfl, by show _ < (w.heap.push _).size; rw [Array.size_push]; omega⟩
set_option maxHeartbeats 6400000 in
theorem awakeX_any {Ok : World → Prop} (H : CondC Ok) (w : World) (hok : Ok w) :
    Calls Tryz.prog 8 #[] w fun e w' => e = .returned (.bool true) ∧ Below w.heap.size w w' := by
  have HOK := Lib.hid hok
  clear hok
  go_enter Tryz.func8, Tryz.ntmps8
  rcases ha : allZ exCT with ⟨ts, x, z⟩
  obtain ⟨t1, t2, t3⟩ := exC_toks
  have hts : ts.map flatK = (Cd.tW 2 exC).map Sl.tf := by
    unfold allZ allT at ha
    simp only [Prod.mk.injEq] at ha
    rw [← ha.1, flatK_place, t1]
  have hp : Cd.parse (ts.map flatK) 0 = (((cUp, []), 2, 2000), 7, 0) := by
    rw [hts, Cd.parse_within exC_sane (by decide)]
    rfl
  have HP := Lib.hid hp
  have HA := Lib.hid ha
  obtain ⟨q, hq⟩ : ∃ q, q = ts.length := ⟨_, rfl⟩
  have HQ := Lib.hid hq
  clear t1 t2 t3 hts ha hq hp
  go_wp2_with fail
  refine (H.all _ exCT ts q x z (by decide) rfl HA.out HQ.out _).mono ?_
  rintro e w1 ⟨B, d, rfl, HR1, HC1, hw1⟩
  go_wp2_with fail
  refine (H.parse B d q ts 0 cUp [] 2 2000 0 7 0 HQ.out HC1.out (toks_size HA.out (by decide)) (by decide) (by decide) HP.out rfl _ (H.on _ _ HOK.out hw1) HR1.out).mono ?_
  rintro e w2 ⟨A, c, rfl, HR2, HC2, hw2⟩
  have hb2 := below_on hw1 hw2
  obtain ⟨W, P, hW, hP, hb0, X⟩ := box_x w2 cUp A 0 c 2 2000
  have HRW := Lib.hid (HR2.out.on hb0)
  have hbW := Lib.hid (below_on hb2 hb0)
  have HX := Lib.hid X
  have hup : (cUp.toList == [117, 112]) = true := by rw [tl]; rfl
  obtain ⟨d0, d1, d2, d3, _⟩ := X
  clear hb0 hb2 hw1 hw2 HR2
  go_wp2_with fail
  refine (H.sane cUp A 0 c [] 2 2000 true (by decide) rfl HC2.out exC_sane W HRW.out).mono ?_
  rintro e w3 ⟨rfl, hw3⟩
  have hb3 := below_on hbW.out hw3
  clear d0 d1 d2 d3
  obtain ⟨d0, d1, d2, d3, _⟩ := HX.out.on hw3
  obtain ⟨S, hS⟩ : ∃ S : ByteArray, S = ⟨#[117, 112, 32, 62, 61, 32, 50]⟩ := ⟨_, rfl⟩
  have hSe : (S.toList == [117, 112, 32, 62, 61, 32, 50]) = true := by rw [hS, tl]; rfl
  go_wp2_with fail
  refine (H.print cUp A 0 c [] 2 2000 S (by decide) rfl HC2.out (by rw [hS]; exact exC_text.symm) w3 (H.on _ _ HOK.out hb3) (HRW.out.on hw3)).mono ?_
  rintro e w4 ⟨rfl, hw4⟩
  have hb4 := below_on hb3 hw4
  clear d0 d1 d2 d3 hS hup
  go_wp2_with fail
  refine (H.holds 2 2000 2000 true (by decide) w4).mono ?_
  rintro e w5 ⟨rfl, hw5⟩
  have hb5 := below_on hb4 hw5
  go_wp2_with fail
  refine (H.other 2 3 (by decide) w5 (H.on _ _ HOK.out hb5)).mono ?_
  rintro e w6 ⟨rfl, hw6⟩
  have hb6 := below_on hb5 hw6
  go_wp2_with fail
  go_ret
  exact ⟨rfl, hb6⟩
end Go.Proofs.YtkoeggjfdcpokaaGreatDoor
namespace Go.Proofs.YtkoeggjfdcpokaaGreatDoor
open Go.RowKit
open Go.Proofs.YtkoeggjfdcpokaaGreatDoor.Sl (Mt Sel Tf)

/-! ### a question in a variable of the call's own -/
def zx (M : ByteArray) (A : Option Addr) (k c : Nat) (o v : Int) : Obj := .cells #[.string M, .slice A k c, .int .i64 o, .int .i64 v] 26 (0, 0)
def Xz (w : World) (R : Nat) : Prop := w.heap[R]? = some (.cells #[.string ⟨#[]⟩, .slice none 0 0, .int .i64 0, .int .i64 0] 26 (0, 0))
theorem cx_cell {w : World} {P : Nat} {C : Array Value} {e : TypeId} {fr : Nat × Nat} (h : w.heap[P]? = some (.cells C e fr)) (d : Nat) : w.cell? ⟨P, d, none⟩ = C[d]? := by simp [World.cell?, h]
theorem cx_frozen {w : World} {P : Nat} {C : Array Value} {e : TypeId} (h : w.heap[P]? = some (.cells C e (0, 0))) (d : Nat) : w.frozen? ⟨P, d, none⟩ = false := by simp [World.frozen?, h]
theorem cx_new (w : World) (o : Obj) : (w.alloc o).heap[w.heap.size]? = some o := by
  show (w.heap.push o)[w.heap.size]? = _
  simp
theorem Xz.on {w w' : World} {R : Nat} (h : Xz w R) (hb : Below w.heap.size w w') : Xz w' R := (hb.block R (Array.getElem?_eq_some_iff.1 h).1).trans h
theorem Xz.lt {w : World} {R : Nat} (h : Xz w R) : R < w.heap.size := (Array.getElem?_eq_some_iff.1 h).1
/-- A slice of matches lies in another block. -/
theorem Xz.ne {w : World} {R : Nat} (h : Xz w R) {A : Option Addr} {m : List Mt} {B : Nat} (hq : Rq w B A m) (hm : m ≠ []) : ∃ b off, A = some ⟨b, off, none⟩ ∧ b < B ∧ b ≠ R ∧ ∀ j u, (mcells m)[j]? = some u → w.cell? ⟨b, off + j, none⟩ = some u := by
  obtain ⟨b, off, e, hb, hc⟩ := hq.mem hm
  refine ⟨b, off, e, hb, ?_, hc⟩
  rintro rfl
  obtain ⟨x, r, rfl⟩ := List.exists_cons_of_ne_nil hm
  have c0 := hc 0 (.string x.1) rfl
  have c1 := hc 1 (.string x.2.1) rfl
  rw [cx_cell h] at c0 c1
  match off, c0, c1 with
  | 0, _, c1 => simp at c1
  | 1, c0, _ => simp at c0
  | 2, c0, _ => simp at c0
  | 3, c0, _ => simp at c0
  | k + 4, c0, _ => simp at c0
theorem info_xsize : (Tryz.prog.info? 26).map (·.size) = some 4 := by kernel_rfl
theorem load_x (w : World) (R : Nat) (N : ByteArray) (A : Option Addr) (n c : Nat) (k v : Int) (h0 : w.cell? ⟨R, 0, none⟩ = some (.string N)) (h1 : w.cell? ⟨R, 1, none⟩ = some (.slice A n c)) (h2 : w.cell? ⟨R, 2, none⟩ = some (.int .i64 k)) (h3 : w.cell? ⟨R, 3, none⟩ = some (.int .i64 v)) :
    (loadVar 26 ⟨R, 0, none⟩).run Tryz.prog w = .ok (xv N A n c k v) w := by
  refine run_loadVar_mid w R 0 26 [.string N, .slice A n c, .int .i64 k, .int .i64 v] _ ?_ Tryz.underlying26 rfl info_xsize
  intro j u hu
  match j, hu with
  | 0, hu => cases hu; exact h0
  | 1, hu => cases hu; exact h1
  | 2, hu => cases hu; exact h2
  | 3, hu => cases hu; exact h3
/-- Behind the four stores. -/
def put4 (w : World) (R : Nat) (a b c d : Value) : World := (((w.setCell ⟨R, 0, none⟩ a).setCell ⟨R, 1, none⟩ b).setCell ⟨R, 2, none⟩ c).setCell ⟨R, 3, none⟩ d
theorem put4_cells {w : World} {R : Nat} (h : Xz w R) (a b c d : Value) : (put4 w R a b c d).cell? ⟨R, 0, none⟩ = some a ∧ (put4 w R a b c d).cell? ⟨R, 1, none⟩ = some b ∧ (put4 w R a b c d).cell? ⟨R, 2, none⟩ = some c ∧ (put4 w R a b c d).cell? ⟨R, 3, none⟩ = some d := by
  have n (i j : Nat) (h : i ≠ j) : (⟨R, i, none⟩ : Addr) ≠ ⟨R, j, none⟩ := fun e => h (by injection e)
  have h0 := cx_cell h 0
  have h1 := cx_cell h 1
  have h2 := cx_cell h 2
  have h3 := cx_cell h 3
  have o := fun (w : World) (i j : Nat) (e : i ≠ j) (v : Value) => World.cell?_setCell_other w ⟨R, i, none⟩ ⟨R, j, none⟩ v (n i j e)
  unfold put4
  refine ⟨?_, ?_, ?_, ?_⟩
  · rw [o _ 3 0 (by decide), o _ 2 0 (by decide), o _ 1 0 (by decide)]; exact World.cell?_setCell_same _ _ _ h0
  · rw [o _ 3 1 (by decide), o _ 2 1 (by decide)]; exact World.cell?_setCell_same _ _ _ ((o _ 0 1 (by decide) _).trans h1)
  · rw [o _ 3 2 (by decide)]; exact World.cell?_setCell_same _ _ _ ((o _ 1 2 (by decide) _).trans ((o _ 0 2 (by decide) _).trans h2))
  · exact World.cell?_setCell_same _ _ _ ((o _ 2 3 (by decide) _).trans ((o _ 1 3 (by decide) _).trans ((o _ 0 3 (by decide) _).trans h3)))
theorem put4_below {V w : World} {R : Nat} (hb : Below R V w) (a b c d : Value) : Below R V (put4 w R a b c d) :=
  (((hb.setCell (p := ⟨R, 0, none⟩) (Nat.le_refl _) _).setCell (p := ⟨R, 1, none⟩) (Nat.le_refl _) _).setCell (p := ⟨R, 2, none⟩) (Nat.le_refl _) _).setCell (p := ⟨R, 3, none⟩) (Nat.le_refl _) _
theorem put4_far {w : World} {R : Nat} {b : Nat} (hne : b ≠ R) (a x y z : Value) (o : Nat) : (put4 w R a x y z).cell? ⟨b, o, none⟩ = w.cell? ⟨b, o, none⟩ := by
  have n (i : Nat) : (⟨R, i, none⟩ : Addr) ≠ ⟨b, o, none⟩ := fun e => hne (by injection e with e1; exact e1.symm)
  unfold put4
  rw [World.cell?_setCell_other _ _ _ _ (n 3), World.cell?_setCell_other _ _ _ _ (n 2), World.cell?_setCell_other _ _ _ _ (n 1), World.cell?_setCell_other _ _ _ _ (n 0)]
theorem put4_size (w : World) (R : Nat) (a b c d : Value) : (put4 w R a b c d).heap.size = w.heap.size := by unfold put4; simp only [World.size_setCell]
theorem put4_rq {w : World} {R : Nat} (h : Xz w R) {A : Option Addr} {m : List Mt} (hq : Rq w w.heap.size A m) (a x y z : Value) : Rq (put4 w R a x y z) (put4 w R a x y z).heap.size A m :=
  ⟨hq.len, hq.size, fun hm => by
    obtain ⟨b, off, e, hb, hne, hc⟩ := h.ne hq hm
    exact ⟨b, off, e, by rw [put4_size]; exact hb, fun j u hu => by rw [put4_far hne]; exact hc j u hu⟩⟩
theorem results_cell3x {fn : Func} {p u x : Tmp} {ty : TypeId} (h : fn.results = #[.cell p ty, .tmp u, .tmp x]) (tmps : Array Value) (P : Program) (w : World) :
    (results fn tmps).run P w =
      ((asAddr (tmps.getD p undef)).run P w).andThen fun a w₁ => ((loadVar ty a).run P w₁).andThen fun v w₂ => .ok (.tuple #[v, tmps.getD u undef, tmps.getD x undef]) w₂ := by
  simp only [results, h]
  simp [Sem.run_bind, Result.andThen]
/-- The end: a question in the result's cell. -/
theorem x_end {fn : Func} {p u x : Tmp} (hfn : fn.results = #[.cell p 26, .tmp u, .tmp x]) {R : Nat} {V w : World} (hb : Below R V w) (hZ : Xz w R) (M : ByteArray) (A : Option Addr) (k c : Nat) (o v : Int) {m : List Mt} (hq : Rq w w.heap.size A m) (hc : Cap k c) (y z : Int) (act : Act)
    (t2 : act.tmps.getD p undef = .pointer (some ⟨R, 0, none⟩)) (t3 : act.tmps.getD u undef = .int .i64 y) (t4 : act.tmps.getD x undef = .int .i64 z) (hd : act.defers = []) :
    bodyPost Tryz.prog fn (fun e w' => ∃ A c, e = .returned (.tuple #[xv M A k c o v, .int .i64 y, .int .i64 z]) ∧ Hid (Rq w' w'.heap.size A m) ∧ Hid (Cap k c) ∧ Below R V w') Exit.ret act
      ((((w.setCell ⟨R, 0, none⟩ (.string M)).setCell ⟨R, 1, none⟩ (.slice A k c)).setCell ⟨R, 2, none⟩ (.int .i64 o)).setCell ⟨R, 3, none⟩ (.int .i64 v)) := by
  obtain ⟨X0, X1, X2, X3⟩ := put4_cells hZ (.string M) (.slice A k c) (.int .i64 o) (.int .i64 v)
  have hbX := put4_below hb (.string M) (.slice A k c) (.int .i64 o) (.int .i64 v)
  have hqX := put4_rq hZ hq (.string M) (.slice A k c) (.int .i64 o) (.int .i64 v)
  show bodyPost Tryz.prog fn _ Exit.ret act (put4 w R (.string M) (.slice A k c) (.int .i64 o) (.int .i64 v))
  generalize put4 w R (.string M) (.slice A k c) (.int .i64 o) (.int .i64 v) = X at X0 X1 X2 X3 hbX hqX ⊢
  refine bodyPost_ret (v := .tuple #[xv M A k c o v, .int .i64 y, .int .i64 z]) ?_ hd ⟨A, c, rfl, Lib.hid hqX, Lib.hid hc, hbX⟩
  rw [results_cell3x hfn, t2, t3, t4]
  have hld := load_x X R M A k c o v X0 X1 X2 X3
  simp [asAddr, Result.andThen, hld]
theorem cap00 : Cap 0 0 := ⟨Nat.le_refl _, Nat.zero_le _⟩
theorem box_zz (w : World) : ∃ W R, (w.alloc (.cells #[.string ⟨#[]⟩, .slice none 0 0, .int .i64 0, .int .i64 0] 26)).alloc (.cells #[.string ⟨#[]⟩, .slice none 0 0, .int .i64 0, .int .i64 0] 26) = W ∧ w.heap.size = R ∧ Below w.heap.size w W ∧ Xz W R ∧ Xz W (R + 1) := by
  obtain ⟨W1, hW1⟩ : ∃ W1, w.alloc (.cells #[.string ⟨#[]⟩, .slice none 0 0, .int .i64 0, .int .i64 0] 26) = W1 := ⟨_, rfl⟩
  have hs : W1.heap.size = w.heap.size + 1 := by rw [← hW1]; show (w.heap.push _).size = _; rw [Array.size_push]
  have hb1 : Below w.heap.size w W1 := by rw [← hW1]; exact below_alloc w _
  have hz1 : Xz W1 w.heap.size := by rw [← hW1]; exact cx_new w _
  refine ⟨_, _, rfl, rfl, ?_, ?_, ?_⟩
  · rw [hW1]; exact below_on hb1 (below_alloc W1 _)
  · rw [hW1]; exact hz1.on (below_alloc W1 _)
  · rw [hW1, ← hs]; exact cx_new W1 _
theorem parse_place {l : List Tf} {i : Int} {s : Sel} {y : Nat} (h : Sl.parse l i = (s, y, 0)) : y ≤ l.length := by
  unfold Sl.parse at h
  by_cases hi : i < 0
  · rw [if_pos hi] at h
    simp at h
  · rw [if_neg hi] at h
    exact (Sl.parseN_ok h).2.2
end Go.Proofs.YtkoeggjfdcpokaaGreatDoor

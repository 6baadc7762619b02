/-
  Two questions: the document's Same; what is printed, read and parsed.
-/
import Derived.Test.YtkoeggjfdcpokaaGreatDoorCndA
import Derived.Lib.ItoaLen
namespace Go.Proofs.YtkoeggjfdcpokaaGreatDoor
open Go.RowKit Go.Proofs.YtkoeggjfdcpokaaGreatDoor.Lp
open Go.Proofs.YtkoeggjfdcpokaaGreatDoor.Sl (Mt Sel Tf)

theorem box_xx (w : World) (N M : ByteArray) (A B : Option Addr) (n c m d : Nat) (k v j u : Int) :
    ∃ W P, (w.alloc (Obj.cells #[Value.string N, Value.slice A n c, Value.int .i64 k, Value.int .i64 v] 26)).alloc (Obj.cells #[Value.string M, Value.slice B m d, Value.int .i64 j, Value.int .i64 u] 26) = W ∧ w.heap.size = P ∧ Below w.heap.size w W ∧ Bq W P N A n c k v ∧ Bq W (P + 1) M B m d j u := by
  obtain ⟨W1, P, hW1, hP, hb1, X1⟩ := box_x w N A n c k v
  obtain ⟨W2, Q, hW2, hQ, hb2, X2⟩ := box_x W1 M B m d j u
  have hs : W1.heap.size = P + 1 := by rw [← hW1, ← hP]; show (w.heap.push _).size = _; rw [Array.size_push]
  have hQ' : Q = P + 1 := by rw [← hQ, hs]
  subst hQ'
  rw [hW1, hW2]
  exact ⟨_, _, rfl, hP, below_on hb1 hb2, X1.on hb2, X2⟩
set_option maxHeartbeats 3200000 in
theorem sameX_of (N : ByteArray) (A B : Option Addr) (c d n : Nat) (l : List Mt) (k v : Int) (hn : n = l.length) (w : World) (hr : Rq w w.heap.size A l) (hs : Rq w w.heap.size B l) :
    Calls Tryz.prog 21 #[xv N A n c k v, xv N B n d k v] w fun e w' => e = .returned (.bool true) ∧ Below w.heap.size w w' := by
  have HN := Lib.hid hn
  have HR := Lib.hid hr
  have HS := Lib.hid hs
  clear hn hr hs
  go_enter Tryz.func21, Tryz.ntmps21
  obtain ⟨W, P, hW, hP, hb0, X1, X2⟩ := box_xx w N N A B n c n d k v k v
  have X1' := Lib.hid X1
  have X2' := Lib.hid X2
  obtain ⟨a0, a1, a2, a3, _⟩ := X1
  obtain ⟨b0, b1, b2, b3, _⟩ := X2
  have HRW := Lib.hid (HR.out.on hb0)
  have HSW := Lib.hid (HS.out.on hb0)
  have hk : (k == k) = true := by simp
  have hv : (v == v) = true := by simp
  go_wp2_with fail
  refine (sameS_of N N A B c d n n l l HN.out HN.out true (by simp) W HRW.out HSW.out).mono ?_
  rintro e w1 ⟨rfl, hw1⟩
  have hb1 := below_on hb0 hw1
  clear a0 a1 a2 a3 b0 b1 b2 b3
  obtain ⟨a0, a1, a2, a3, _⟩ := X1'.out.on hw1
  obtain ⟨b0, b1, b2, b3, _⟩ := X2'.out.on hw1
  go_wp2_with fail
  go_ret
  exact ⟨rfl, hP ▸ hb1⟩

/-! ### what is printed, read and parsed -/
theorem num_len {v : Int} (h : Np.saneB v = true) : (Np.printS v).length ≤ 40 := by
  have hu : (Np.printU v.natAbs).length ≤ 30 := by
    unfold Np.printU
    have ha := Np.sane_abs v h
    have h1 := Lib.nDigits_le20 (v.natAbs / 1000) (by unfold Np.mx at ha; omega)
    rw [List.length_append, Lib.decDigits_length]
    have : (Np.tailU (v.natAbs % 1000)).length ≤ 4 := by
      unfold Np.tailU
      split
      · simp
      · have := (Np.frac_facts (v.natAbs % 1000) (by omega)).2.2.1
        rw [List.length_cons]
        omega
    omega
  unfold Np.printS
  rw [if_neg (by rw [h]; decide)]
  split
  · rw [List.length_cons]; omega
  · omega
theorem prX_len {x : Cd.Ex} : (Cd.pr x).length ≤ 200000 := by
  unfold Cd.pr
  split
  · rename_i h
    obtain ⟨h1, h2, h3⟩ := Cd.sane_parts h
    have a := print_len (s := x.1)
    have b := num_len h3
    have c : (Cd.sign x.2.1).length ≤ 2 := by
      unfold Cd.sign
      repeat' split
      all_goals simp
    rw [List.length_append, List.length_cons, List.length_append, List.length_cons]
    omega
  · simp
theorem name_sizeX {N : ByteArray} {l : List Mt} {k v : Int} (h : Cd.sane ((N, l), k, v) = true) : N.size ≤ 64 := by
  have h := (Cd.sane_parts h).1
  unfold Sl.saneS nameB nameL at h
  rw [tl] at h
  simp only [Bool.and_eq_true, decide_eq_true_eq] at h
  have := h.1.1.1.1.2
  rw [Array.length_toList] at this
  exact this
theorem parse_atX {l : List Tf} {i : Nat} : Cd.parse l (i : Int) = Cd.within 32 l i := by
  unfold Cd.parse
  rw [if_neg (by omega)]
  congr 1
/-- Within d signs. -/
theorem again_w {x : Cd.Ex} (h : Cd.sane x = true) {d : Nat} (hd : d ≤ 40) {ts : List Tz} {y : Nat} {z : Int} (ha : allZ (Cd.prW d x) = (ts, y, z)) : z = 0 ∧ ts.length = (Cd.tW d x).length ∧ ts.map flatK = (Cd.tW d x).map Sl.tf := by
  obtain ⟨h1, h2, h3⟩ := Cd.lex_within h hd
  unfold allZ allT at ha
  simp only [Prod.mk.injEq] at ha
  obtain ⟨rfl, rfl, rfl⟩ := ha
  have e : ((((Lx.lex 65536 (Cd.prW d x)).1.map (place (Cd.prW d x).length)).map lz).map flatK) = (Cd.tW d x).map Sl.tf := by rw [flatK_place, h1]
  refine ⟨h3, ?_, e⟩
  have := congrArg List.length e
  simpa using this
theorem again_x {x : Cd.Ex} (h : Cd.sane x = true) {ts : List Tz} {y : Nat} {z : Int} (ha : allZ (Cd.pr x) = (ts, y, z)) : z = 0 ∧ Cd.parse (ts.map flatK) 0 = (x, ts.length, 0) := by
  have e : Cd.prW 0 x = Cd.pr x := by unfold Cd.prW; simp
  rw [← e] at ha
  obtain ⟨h1, h2, h3⟩ := again_w h (by omega) ha
  refine ⟨h1, ?_⟩
  rw [h3, h2]
  exact Cd.parse_within h (by omega)
end Go.Proofs.YtkoeggjfdcpokaaGreatDoor

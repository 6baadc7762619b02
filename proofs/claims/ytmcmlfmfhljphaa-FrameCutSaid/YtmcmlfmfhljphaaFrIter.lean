/-
  Layer frame: All: the iterator's walk and the range over it (over Get's contract with a base of the caller's choice).
-/
import Derived.Test.YtmcmlfmfhljphaaRgFun
import Derived.Test.YtmcmlfmfhljphaaFrGet
import Derived.RangeFuncBound
import Derived.RangeFuncCalls
import Derived.Shelf.Abstract
import Derived.Shelf.RegionOpen
import Derived.OwnWalkIn
import Derived.TacticsInMore
import Derived.LoopNIn
import Derived.LoopIn
import Derived.Maps.AppendAt
namespace Go.Proofs.Ytmcmlfmfhljphaa
open Go.RowKit Go.Shelf
attribute [local go_sem] Oper.semAt_some

/-- Between two rounds: the slices that have come, how many octets their records have, the error. -/
structure Ist where
  vs : List Value
  n : Nat
  z : Int
/-- What a round is handed: the octets, the record's size, the error. -/
abbrev Rin := Value × Nat × Int
/-- A block of two cells that is no row of slices: a record of its own. -/
def Boxd2 (W : World) (B : Nat) (t : TypeId) (u v : Value) : Prop := W.heap[B]? = some (.cells #[u, v] t (0, 0))
/-- What the cells hold: the three results, the list, its octets, the caller's octets. -/
def IstI (w0 : World) (v0 : Value) (s : Ist) (W : World) : Prop :=
  (∃ v, Boxed W (w0.heap.size + 3) 22 v ∧ W.ownsRow (w0.heap.size + 6) 25 1 v s.vs.length s.vs ∧ True) ∧ Boxed W (w0.heap.size + 4) 3 (.int .i64 s.n) ∧ Boxed W (w0.heap.size + 5) 25 v0 ∧
    Boxed W w0.heap.size 22 (.slice none 0 0) ∧ Boxed W (w0.heap.size + 1) 3 (.int .i64 0) ∧ Boxed W (w0.heap.size + 2) 27 (.int .i64 0) ∧ Below w0.heap.size w0 W ∧ s.z = 0
def istNx (s : Ist) (x : Rin) : Ist := if x.2.2 = 0 then { s with vs := s.vs ++ [x.1], n := s.n + x.2.1 } else { s with z := x.2.2 }
def IstFin (w0 : World) (l0 : List Nat) (s : Ist) : Prop := ∃ L, EachReads w0 w0.heap.size s.vs L ∧ Kf.all l0 = (L, s.n, s.z)
def IstGn (w0 : World) (l0 : List Nat) (s : Ist) (x : Rin) : Prop := (∃ p, Reads w0 w0.heap.size x.1 p) ∧ s.vs.length ≤ 1000000 ∧ s.n + x.2.1 ≤ 1000000 ∧ (x.2.2 ≠ 0 → IstFin w0 l0 (istNx s x))
/-- How the loop is left ahead of its end: by a return, the results in their cells. -/
def IstX (w0 : World) (l0 : List Nat) (c : Code) (s : Ist) (W : World) : Prop :=
  c = .ret ∧ (∃ v, Boxed W w0.heap.size 22 v ∧ W.ownsRow (w0.heap.size + 6) 25 1 v s.vs.length s.vs ∧ True) ∧ Boxed W (w0.heap.size + 1) 3 (.int .i64 s.n) ∧ Boxed W (w0.heap.size + 2) 27 (.int .i64 s.z) ∧ Below w0.heap.size w0 W ∧ IstFin w0 l0 s
/-- Behind the assignment to the loop's left sides: the record lies in a block of its own. -/
def IstA (w0 : World) (v0 : Value) (f : Nat → Rin → Array Value) (x : Rin) (b : Act) (s : Ist) (W : World) : Prop :=
  ∃ B, w0.heap.size + 6 ≤ B ∧ b = { tmps := f B x, defers := [] } ∧ IstI w0 v0 s W ∧ Boxd2 W B 43 x.1 (.int .i64 x.2.1)

theorem own_keep {W W' : World} {base size k : Nat} {e : TypeId} {v : Value} {xs : List Value} (h : W.ownsRow base e size v k xs) (hk : ∀ g, base ≤ g → g < W.heap.size → W'.heap[g]? = W.heap[g]?) : W'.ownsRow base e size v k xs := by
  refine ⟨h.1, ?_⟩
  rcases h.2 with h0 | ⟨g, cap, cur, hv, hbs, hg, hr⟩
  · exact .inl h0
  · exact .inr ⟨g, cap, cur, hv, hbs, (hk g hbs (Array.getElem?_eq_some_iff.1 hg).1).trans hg, hr⟩
theorem own_base {W : World} {base size k : Nat} {e : TypeId} {v : Value} {xs : List Value} (h : W.ownsRow base e size v k xs) : ∀ j, v.ownBlock = some j → base ≤ j := by
  intro j hj
  rcases h.2 with ⟨rfl, _⟩ | ⟨g, cap, cur, rfl, hb, _⟩
  · simp [Value.ownBlock] at hj
  · simp [Value.ownBlock] at hj
    omega
theorem own_cells {W : World} {base size k : Nat} {e : TypeId} {v : Value} {xs : List Value} (h : W.ownsRow base e size v k xs) : ∀ (j : Nat) (o : Obj), v.ownBlock = some j → W.heap[j]? = some o → o.isCells = true := by
  intro j o hj ho
  rcases h.2 with ⟨rfl, _⟩ | ⟨g, cap, cur, rfl, _, hg, _⟩
  · simp [Value.ownBlock] at hj
  · simp [Value.ownBlock] at hj
    subst hj
    rw [hg] at ho
    cases ho
    rfl
theorem boxed_below {W W' : World} {B : Nat} {t : TypeId} {v : Value} (h : Boxed W B t v) (hb : Below W.heap.size W W') : Boxed W' B t v := (hb.block B h.lt).trans h

theorem istI_on {w0 W W' : World} {v0 : Value} {s : Ist} (h : IstI w0 v0 s W) (hb : Below W.heap.size W W') : IstI w0 v0 s W' := by
  obtain ⟨⟨v, bL, ownL, _⟩, bN, bB, r1, r2, r3, hB, hz⟩ := h
  exact ⟨⟨v, boxed_below bL hb, own_keep ownL fun g _ hg => hb.block g hg, trivial⟩, boxed_below bN hb, boxed_below bB hb, boxed_below r1 hb, boxed_below r2 hb, boxed_below r3 hb, hB.trans (hb.mono hB.size), hz⟩
theorem boxd2_own {β : Type} (B : Nat) (t : TypeId) (f g : β → Value) : Own (fun s W => Boxd2 W B t (f s) (g s)) := fun s X Y row hs hg hrow =>
  (hg.block B (Array.getElem?_eq_some_iff.1 hs).1 (fun e' => by obtain ⟨o, ho, hc⟩ := hrow B e'.symm; rw [show X.heap[B]? = _ from hs] at ho; cases ho; cases hc)).trans hs
theorem Boxd2.kept {W W' : World} {row : Option Nat} {B : Nat} {t : TypeId} {u v : Value} (h : Boxd2 W B t u v) (hg : W.grownBy W' row) (hne : some B ≠ row) : Boxd2 W' B t u v := (hg.block B (Array.getElem?_eq_some_iff.1 h).1 hne).trans h
theorem Boxd2.cell0 {W : World} {B : Nat} {t : TypeId} {u v : Value} (h : Boxd2 W B t u v) : W.cell? ⟨B, 0, none⟩ = some u := by simp [World.cell?, show W.heap[B]? = _ from h]
theorem Boxd2.cell1 {W : World} {B : Nat} {t : TypeId} {u v : Value} (h : Boxd2 W B t u v) : W.cell? ⟨B, 1, none⟩ = some v := by simp [World.cell?, show W.heap[B]? = _ from h]
theorem Boxd2.not_row {W : World} {B : Nat} {t e : TypeId} {a b : Value} (h : Boxd2 W B t a b) (hte : t ≠ e) {base size k : Nat} {v : Value} {xs : List Value} (hr : W.ownsRow base e size v k xs) : some B ≠ v.ownBlock := by
  rcases hr.2 with ⟨rfl, _⟩ | ⟨g, cap, cur, rfl, _, hgb, _⟩
  · simp [Value.ownBlock]
  · intro e'
    obtain rfl : B = g := by simpa [Value.ownBlock] using e'
    have := (show W.heap[B]? = _ from h).symm.trans hgb
    simp at this
    exact hte this.2
theorem keeps_below {B : Nat} {W W' : World} (hb : Below W.heap.size W W') : KeepsFrom B W W' := ⟨hb.size, fun k _ _ hk _ => (hb.block k (Array.getElem?_eq_some_iff.1 hk).1).trans hk⟩

theorem get_less {l p r : List Nat} (hs : ∀ x ∈ l, x < 256) (h : Kf.get l = (p, r, 0)) : r.length + 5 ≤ l.length ∧ ∀ x ∈ r, x < 256 := by
  obtain ⟨h1, h2⟩ := Kf.get_only hs h
  have h3 := congrArg List.length h1
  rw [List.length_append, Kf.rcd_len] at h3
  have := Kc.enc_pos p.length
  exact ⟨by omega, fun x hx => hs x (by rw [h1]; exact List.mem_append_right _ hx)⟩
theorem reads_len {w : World} {B : Nat} {v : Value} {p : List Nat} (h : Reads w B v p) : ∀ x ∈ p, x < 256 := by
  obtain ⟨_, _, _, _, hr⟩ := h
  exact hr.small

theorem reads_back {w0 w : World} (hB : Below w0.heap.size w0 w) {A : Option Addr} {p : List Nat} {q d : Nat} (hq : p.length = q) (hr : Rb w w0.heap.size A p) (hc : Cap q d) : Reads w0 w0.heap.size (.slice A q d) p :=
  ⟨A, d, by rw [hq], by rw [hq]; exact hc, hr.keep fun _ h => (hB.cell h).symm⟩
theorem each_one {w : World} {B : Nat} {v : Value} {p : List Nat} (h : Reads w B v p) : EachReads w B [v] [p] :=
  ⟨rfl, fun j u hj => by
    match j, hj with
    | 0, hj => cases hj; exact ⟨v, rfl, h⟩⟩


/-- How much is left of a slice. -/
def sliceLen : Value → Nat
  | .slice _ n _ => n
  | _ => 0

set_option maxRecDepth 100000 in
set_option maxHeartbeats 2000000 in
theorem iter_of (HG : GetAtC) (n : Nat) (w0 : World) (l0 : List Nat) (hl0 : l0.length ≤ 1000000) (v0 : Value) (hv0 : Reads w0 w0.heap.size v0 l0) :
    RgSeq n Try.prog 20 #[.pointer (some ⟨w0.heap.size + 5, 0, none⟩)] (fun x : Rin => #[.agg #[x.1, .int .i64 x.2.1], .int .i64 x.2.2]) (w0.heap.size + 6) (IstI w0 v0) ⟨[], 0, 0⟩ istNx (IstGn w0 l0) (IstFin w0 l0) := by
  intro l J Jx W hJI hJ hY h0
  obtain ⟨_, _, bB0, _⟩ := hJI _ _ h0
  have hcb0 := bB0.cell
  obtain ⟨A0, c0, hA0, hcap0, hr0⟩ := id hv0
  obtain ⟨n0, hn0⟩ : ∃ k, l0.length = k := ⟨_, rfl⟩
  rw [hn0] at hA0
  rw [hA0] at hcb0
  refine callsIn_of_wp Try.func20 rfl trivial ?_ rfl
  simp only [Try.ntmps20, List.size_toArray, List.length_cons, List.length_nil, Nat.reduceAdd, Nat.reduceSub, Array.replicate_succ, Array.replicate_zero, List.push_toArray, List.append_toArray, List.nil_append, List.cons_append]
  gi_wp2
  gi_loopw [3, 4, 5, 6] (fun v _ _ _ wr => ∃ (s : Ist) (L : List (List Nat)) (lb : List Nat) (f : Nat), J s wr ∧ EachReads w0 w0.heap.size s.vs L ∧ Reads w0 w0.heap.size v lb ∧ s.z = 0 ∧ lb.length ≤ f ∧ s.vs.length + lb.length ≤ l0.length ∧ s.n + lb.length = l0.length ∧ Kf.all l0 = (L ++ (Kf.allF f lb).1, s.n + (Kf.allF f lb).2.1, (Kf.allF f lb).2.2))
    (fun v _ _ _ _ => sliceLen v)
  case atStart => exact ⟨⟨[], 0, 0⟩, [], l0, l0.length, h0, EachReads.nil _ _, hA0 ▸ hv0, rfl, Nat.le_refl _, by simp, by simp, by unfold Kf.all; simp⟩
  case round =>
    obtain ⟨s, L, lb, f, HJ, HE, HRb, hz, hf, hcnt, hsum, hall⟩ := hrel
    have hB := (hJI _ _ HJ).2.2.2.2.2.2.1
    obtain ⟨A, c, hA, hcap, hr⟩ := id HRb
    obtain ⟨nb, hnb⟩ : ∃ k, lb.length = k := ⟨_, rfl⟩
    rw [hnb] at hA hcap
    subst hA
    by_cases h0 : nb = 0
    · subst h0
      have hlb : lb = [] := List.length_eq_zero_iff.1 hnb
      gi_wp2
      go_end0
      refine ⟨⟨_, rfl⟩, .inl ⟨s, ⟨L, HE, ?_⟩, HJ⟩⟩
      subst hlb
      rw [hall, hz]
      cases f <;> simp [Kf.allF]
    · have hpos : (0 : Int) < (nb : Int) := by omega
      have hposn : 0 < nb := by omega
      have hne : lb ≠ [] := fun e => h0 (by rw [← hnb, e]; rfl)
      obtain ⟨f', rfl⟩ : ∃ f', f = f' + 1 := ⟨f - 1, by omega⟩
      obtain ⟨⟨p, r, z⟩, hg⟩ : ∃ g, Kf.get lb = g := ⟨_, rfl⟩
      obtain ⟨q, hq⟩ : ∃ k, p.length = k := ⟨_, rfl⟩
      obtain ⟨k, hk⟩ : ∃ k, r.length = k := ⟨_, rfl⟩
      have hcall := HG A nb c lb p r q k z hnb.symm hcap hg hq.symm hk.symm wr w0.heap.size (hr.below hB)
      have hst : Kf.allF (f' + 1) lb = if z = 0 then (p :: (Kf.allF f' r).1, lb.length - r.length + (Kf.allF f' r).2.1, (Kf.allF f' r).2.2) else ([], 0, z) := by
        show (if lb = [] then _ else if (Kf.get lb).2.2 = 0 then _ else _) = _
        rw [if_neg hne, hg]
      rw [hst] at hall
      have hkn : k ≤ nb := by
        by_cases hz0 : z = 0
        · subst hz0
          have := (get_less (reads_len HRb) hg).1
          omega
        · have := (Kf.get_no hg hz0).2
          subst this
          simp at hk
          omega
      obtain ⟨m, hm⟩ : ∃ m, nb = m + k := ⟨nb - k, by omega⟩
      have hv1 : s.vs.length ≤ 1000000 := by omega
      have hv2 : s.n + m ≤ 1000000 := by omega
      have fin : z ≠ 0 → ∀ X d, IstFin w0 l0 (istNx s (Value.slice X q d, m, z)) := fun hz0 X d => by
        rw [if_neg hz0] at hall
        unfold istNx
        rw [if_neg hz0]
        exact ⟨L, HE, by rw [hall]; simp⟩
      have GN := Lib.hid hall
      have HG0 := Lib.hid hg
      clear hall hst hg
      have hsub : (nb : Int) - (k : Int) = (m : Int) := by omega
      have hwr : wrap64 (m : Int) = (m : Int) := IntWalk.wrap64_in _ (by omega)
      have HM := Lib.hid hm
      have HV : Hid (s.vs.length ≤ 1000000 ∧ s.n + m ≤ 1000000) := Lib.hid ⟨hv1, hv2⟩
      clear hm hv1 hv2
      gi_wp2_with (refine ⟨trivial, fun h => (by cases h), ?_⟩; gi_at_call 13; refine (callsIn_wide.2 hcall).mono ?_; rintro e w2 ⟨X, d, Y, c', rfl, HX, HD, HY, HC, hw2⟩; have hJ3 := hJ _ _ _ _ HJ (istI_on (hJI _ _ HJ) hw2) (keeps_below hw2); obtain ⟨fn, tmps, assign, body, hy, hR⟩ := hY _ (.slice X q d, m, z) _ hJ3 ⟨⟨p, reads_back hB hq HX.out HD.out⟩, HV.out.1, HV.out.2, fun h => fin h X d⟩; dsimp only at hy)
      refine ⟨fun h => (by cases h), hR.mono ?_⟩
      rintro e W5 (⟨rfl, hJ5⟩ | ⟨rfl, hJx5⟩)
      · have hz0 : z = 0 := by
          have := (hJI _ _ hJ5).2.2.2.2.2.2.2
          unfold istNx at this
          by_cases hz0 : z = 0
          · exact hz0
          · rw [if_neg hz0] at this
            exact this
        subst hz0
        have hless := (get_less (reads_len HRb) HG0.out).1
        gi_wp2
        clear hsub hwr
        go_roundw
        case rel =>
          have GN' := GN.out
          simp only [if_true] at GN'
          refine ⟨_, L ++ [p], r, f', hJ5, ?_, reads_back hB hk HY.out HC.out, hz, by omega, ?_, ?_, ?_⟩
          · simp only [istNx, if_pos]
            exact HE.app (each_one (reads_back hB hq HX.out HD.out))
          · simp only [istNx, if_pos, List.length_append, List.length_cons, List.length_nil]
            omega
          · simp only [istNx, if_pos]
            have := HM.out
            omega
          · rw [GN', List.append_assoc, List.singleton_append]
            simp only [istNx, if_pos]
            have := HM.out
            congr 2
            omega
        case measure => show k < nb; omega
      · gi_wp2
        refine bodyPost_ret (results_none rfl _ _ _) rfl ?_
        exact ⟨⟨_, rfl⟩, .inr ⟨_, hJx5⟩⟩
end Go.Proofs.Ytmcmlfmfhljphaa

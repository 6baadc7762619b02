/-
  What the walks of layer cond ask of the world: layer num's table of the library, and the landed code's own two tables (the ops' signs, the ops' opposites); that it outlives what a call does; from what the rows list to it.
-/
import Derived.Test.YtkoeggjfdcpokaaGreatDoorCndA
import Derived.Test.YtkoeggjfdcpokaaGreatDoorCondOk
import Derived.Test.YtkoeggjfdcpokaaGreatDoorPlnA
namespace Go.Proofs.YtkoeggjfdcpokaaGreatDoor
open Go.RowKit
open Go.Proofs.YtkoeggjfdcpokaaGreatDoor.Sl (Mt Sel Tf)

/-- The op's sign as the table has it (0: none). -/
def opB (j : Nat) : ByteArray := Sl.sg (Cd.sign (j : Int))
def signT : List (List UInt8) := [[], [62], [62, 61], [60], [60, 61], [61, 61], [33, 61]]
def oppT : List Int := [0, 4, 3, 2, 1, 6, 5]
/-- AN ARRAY OF TEXTS THAT READS AS THE TABLE HOLDS THE TABLE's TEXTS, CELL FOR CELL. -/
theorem cells_of_strs {H : Type} {enc : TypeId × Value → H} {P : Program} {w : World} {base : Nat} {sp : Nat → Bool} {held : Bool} {fuel : Nat} {t e : TypeId} {n : Nat} {cs : List Value} {zs : List (List UInt8)} {p : List MemPlace}
    (ht : P.underlying t = some (.array n e)) (he : P.underlying e = some .string) (hce : P.cellsOf e = 1) (hct : P.cellsOf t = n)
    (h : DataW.trod enc P w base sp held fuel t cs = some (.agg (zs.map fun z => .lit (.string z)), p)) : cs = zs.map fun z => Value.string (Sl.sg z) := by
  cases fuel with
  | zero => simp [DataW.trod] at h
  | succ fuel =>
    simp only [DataW.trod, ht, hce, hct, Nat.mul_one] at h
    split at h
    · rename_i hl
      obtain ⟨xs, hm, hx⟩ := Option.map_eq_some_iff.1 h
      have hxs : xs.map (·.1) = zs.map fun z => (DataW.lit (.string z) : DataW H) := by
        have := congrArg Prod.fst hx
        simpa using this
      have hxl : xs.length = n := by simpa using Lib.mapM_length hm
      have hzl : zs.length = n := by
        have := congrArg List.length hxs
        simp at this
        omega
      apply List.ext_getElem?
      intro i
      by_cases hi : i < n
      · obtain ⟨b, hb, hf⟩ := Lib.mapM_at hm i i (by simp [hi])
        obtain ⟨z, hc, rfl, _⟩ := DataW.trod_string he hf
        have h1 : cs[i]? = some (.string z) := by
          have := congrArg (·[0]?) hc
          simpa [List.getElem?_take, List.getElem?_drop] using this
        have h2 : (xs.map (·.1))[i]? = some (DataW.lit (.string z.data.toList) : DataW H) := by simp [hb]
        rw [hxs] at h2
        simp only [List.getElem?_map, Option.map_eq_some_iff, DataW.lit.injEq, Lit.string.injEq] at h2
        obtain ⟨z', hz', e'⟩ := h2
        have : z = Sl.sg z' := (Cd.sg_eq _ _).2 e'.symm
        simp [h1, hz', this]
      · rw [List.getElem?_eq_none (by omega), List.getElem?_eq_none (by simp; omega)]
    · cases h
/-- What the landed cond and what it calls read. -/
structure Okc (w : World) : Prop where
  num : Ok w
  sg : w.var? Tryz.prog "watchtower/cond.signs" = some (signT.map fun z => Value.string (Sl.sg z)).toArray
  op : w.var? Tryz.prog "watchtower/cond.opposites" = some (oppT.map fun z => Value.int .i64 z).toArray
theorem Okc.on {w w' : World} (h : Okc w) (hb : Below w.heap.size w w') : Okc w' := ⟨h.num.on hb, var_below h.sg hb, var_below h.op hb⟩
theorem Okc.sgc {w : World} (h : Okc w) (j : Nat) (hj : j < 7) : w.cell? ⟨1, j, none⟩ = some (.string (opB j)) := by
  have := World.var?_cell (show Tryz.prog.globalNamed "watchtower/cond.signs" = some 1 by kernel_rfl) h.sg j
  rw [this]
  match j, hj with
  | 0, _ => rfl
  | 1, _ => rfl
  | 2, _ => rfl
  | 3, _ => rfl
  | 4, _ => rfl
  | 5, _ => rfl
  | 6, _ => rfl
theorem Okc.opc {w : World} (h : Okc w) (j : Nat) (hj : j < 7) : w.cell? ⟨0, j, none⟩ = some (.int .i64 (Cd.other (j : Int))) := by
  have := World.var?_cell (show Tryz.prog.globalNamed "watchtower/cond.opposites" = some 0 by kernel_rfl) h.op j
  rw [this]
  match j, hj with
  | 0, _ => rfl
  | 1, _ => rfl
  | 2, _ => rfl
  | 3, _ => rfl
  | 4, _ => rfl
  | 5, _ => rfl
  | 6, _ => rfl
theorem okw_of {W : World} {l : List (String × DataW Unit)} (h : laidMet Tryz.prog l W) (hsh : W.ShapedOpen Tryz.prog) (m1 : ("internal/strconv.uint64pow10", Rows.laid_internal_strconv_uint64pow10) ∈ l)
    (m2 : ("watchtower/cond.signs", Rows.laid_watchtower_cond_signs) ∈ l) (m3 : ("watchtower/cond.opposites", Rows.laid_watchtower_cond_opposites) ∈ l) : Okc W := by
  refine ⟨ok_of h hsh m1, ?_, ?_⟩
  · obtain ⟨g, t, cs, fuel, p, hg, ht, hv, hd⟩ := Lib.laidMet.reads h m2
    obtain rfl : g = 1 := Option.some.inj (hg.symm.trans (show Tryz.prog.globalNamed "watchtower/cond.signs" = some 1 by kernel_rfl))
    obtain rfl : t = 53 := Option.some.inj (ht.symm.trans (show (Tryz.prog.globals[1]?).map (·.type) = some 53 by kernel_rfl))
    have hc := cells_of_strs (zs := signT) Tryz.underlying53 Tryz.underlying9 (by kernel_rfl) (by kernel_rfl) hd
    rw [hv, ← hc]
  · obtain ⟨g, t, cs, fuel, p, hg, ht, hv, hd⟩ := Lib.laidMet.reads h m3
    obtain rfl : g = 0 := Option.some.inj (hg.symm.trans (show Tryz.prog.globalNamed "watchtower/cond.opposites" = some 0 by kernel_rfl))
    obtain rfl : t = 51 := Option.some.inj (ht.symm.trans (show (Tryz.prog.globals[0]?).map (·.type) = some 51 by kernel_rfl))
    have hc := Lib.cells_of_tab (k := .i64) (zs := oppT) Tryz.underlying51 Tryz.underlying3 (by kernel_rfl) (by kernel_rfl) hd
    rw [hv, ← hc]
end Go.Proofs.YtkoeggjfdcpokaaGreatDoor

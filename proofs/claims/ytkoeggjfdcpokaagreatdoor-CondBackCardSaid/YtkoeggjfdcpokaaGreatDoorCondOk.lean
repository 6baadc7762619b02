/-
  From what the rows list of package-level variables, and from the world's shape, to what layer num's walks ask (NumBase's Ok). What layer cond adds of its own (a table of the landed code's) goes beside it.
-/
import Derived.Test.YtkoeggjfdcpokaaGreatDoorNumA
import Derived.Test.YtkoeggjfdcpokaaGreatDoorRows
import Derived.HandedShaped
import Derived.Lib.LaidU8
namespace Go.Proofs.YtkoeggjfdcpokaaGreatDoor
open Go.RowKit

theorem tab_of {W : World} {zs : List Int} (h : Lib.VarReads Tryz.prog W "internal/strconv.uint64pow10" (Lib.tabData .u64 zs)) : Lib.TabIs Tryz.prog W "internal/strconv.uint64pow10" .u64 zs := by
  obtain ⟨g, t, cs, fuel, p, hg, ht, hv, hd⟩ := h
  obtain rfl : g = 5 := Option.some.inj (hg.symm.trans (show Tryz.prog.globalNamed "internal/strconv.uint64pow10" = some 5 by kernel_rfl))
  obtain rfl : t = 153 := Option.some.inj (ht.symm.trans (show (Tryz.prog.globals[5]?).map (·.type) = some 153 by kernel_rfl))
  unfold Lib.TabIs
  rw [hv, ← Lib.cells_of_tab Tryz.underlying153 Tryz.underlying139 (by kernel_rfl) (by kernel_rfl) hd]
theorem ok_of {W : World} {l : List (String × DataW Unit)} (h : laidMet Tryz.prog l W) (hsh : W.ShapedOpen Tryz.prog) (m1 : ("internal/strconv.uint64pow10", Rows.laid_internal_strconv_uint64pow10) ∈ l) : Ok W :=
  ⟨tab_of (Lib.laidMet.reads h m1), cell_of_shapedOpen_int (zero := #[.int .i64 0]) (t := 3) hsh (of_decide_eq_true (by kernel_rfl)) (by kernel_rfl) rfl (by kernel_rfl) (by kernel_rfl) Tryz.underlying3⟩
end Go.Proofs.YtkoeggjfdcpokaaGreatDoor

/-
  From what the rows list of package-level variables to what the walks of layer dur ask.
-/
import Derived.Test.YtjlonndkkeoohaaDoorDurBase
import Derived.Test.YtjlonndkkeoohaaDoorRows
import Derived.Lib.LaidU8
import Derived.Stop.LaidErr
namespace Go.Proofs.YtjlonndkkeoohaaDoor
open Go.RowKit

theorem uCells : Tryd.prog.cellsOf 34 = 2 := by kernel_rfl
theorem uCellsS : Tryd.prog.cellsOf 9 = 1 := by kernel_rfl
theorem uCellsI : Tryd.prog.cellsOf 3 = 1 := by kernel_rfl
theorem uCellsA : Tryd.prog.cellsOf 35 = 10 := by kernel_rfl
theorem unit_row {W : World} {fuel : Nat} {cs : List Value} {bs : List UInt8} {n : Int} {p : List MemPlace}
    (h : DataW.trod (fun _ => ()) Tryd.prog W 0 (fun _ => true) false fuel 34 cs = some (.agg [.lit (.string bs), .lit (.int .i64 n)], p)) :
    cs = [.string ⟨bs.toArray⟩, .int .i64 n] := by
  obtain ⟨xs, m, rfl, hx, hl, hxl, hall⟩ := DataW.trod_struct Tryd.underlying34 h
  rw [uCells] at hl
  have hx2 : xs.map (·.1) = [.lit (.string bs), .lit (.int .i64 n)] := by
    have := congrArg Prod.fst hx
    simpa using this.symm
  obtain ⟨x0, x1, rfl⟩ : ∃ x0 x1, xs = [x0, x1] := by
    match xs, hx2 with
    | [x0, x1], _ => exact ⟨x0, x1, rfl⟩
  simp only [List.map_cons, List.map_nil, List.cons.injEq, and_true] at hx2
  obtain ⟨e0, e1⟩ := hx2
  have f0 := hall 0 _ rfl
  have f1 := hall 1 _ rfl
  change DataW.trod _ _ _ _ _ _ _ 9 ((cs.drop 0).take (Tryd.prog.cellsOf 9)) = some x0 at f0
  change DataW.trod _ _ _ _ _ _ _ 3 ((cs.drop 1).take (Tryd.prog.cellsOf 3)) = some x1 at f1
  rw [uCellsS] at f0
  rw [uCellsI] at f1
  obtain ⟨s, hs, hxs, _⟩ := DataW.trod_string Tryd.underlying9 f0
  obtain ⟨z, hz, hxz, _⟩ := DataW.trod_int Tryd.underlying3 f1
  rw [hxs] at e0
  rw [hxz] at e1
  match cs, hl with
  | [c0, c1], _ =>
    simp at hs hz
    simp only [DataW.lit.injEq, Lit.string.injEq] at e0
    simp only [DataW.lit.injEq, Lit.int.injEq, true_and] at e1
    rw [hs, hz, e1, str_eq s bs e0]

theorem unit_of {W : World} (h : Lib.VarReads Tryd.prog W "watchtower/dur.units" Rows.laid_watchtower_dur_units) : W.var? Tryd.prog "watchtower/dur.units" = some unitCells := by
  obtain ⟨g, t, cs, fuel, p, hg, ht, hv, hd⟩ := h
  obtain rfl : g = 0 := Option.some.inj (hg.symm.trans unit_global)
  obtain rfl : t = 35 := Option.some.inj (ht.symm.trans (show (Tryd.prog.globals[0]?).map (·.type) = some 35 by kernel_rfl))
  rw [hv]
  have hlen : cs.toList.length = 10 := by
    cases fuel with
    | zero => simp [DataW.trod] at hd
    | succ fuel =>
      simp only [DataW.trod, Tryd.underlying35, uCellsA] at hd
      split at hd
      · assumption
      · cases hd
  have key : ∀ i, i < 5 → ∀ bs n, (([([100], 86400000), ([104], 3600000), ([109], 60000), ([115], 1000), ([109, 115], 1)] : List (List UInt8 × Int))[i]?) = some (bs, n) → (cs.toList.drop (i * 2)).take 2 = [.string ⟨bs.toArray⟩, .int .i64 n] := by
    intro i hi bs n hb
    obtain ⟨f', d, q, hds, htr⟩ := Lib.array_elem (ds := [.agg [.lit (.string [100]), .lit (.int .i64 86400000)], .agg [.lit (.string [104]), .lit (.int .i64 3600000)], .agg [.lit (.string [109]), .lit (.int .i64 60000)], .agg [.lit (.string [115]), .lit (.int .i64 1000)], .agg [.lit (.string [109, 115]), .lit (.int .i64 1)]]) Tryd.underlying35 hd i hi
    rw [uCells] at htr
    rcases (show i = 0 ∨ i = 1 ∨ i = 2 ∨ i = 3 ∨ i = 4 by omega) with rfl | rfl | rfl | rfl | rfl
    all_goals
      simp only [List.getElem?_cons_zero, List.getElem?_cons_succ, Option.some.injEq, Prod.mk.injEq] at hb hds
      obtain ⟨rfl, rfl⟩ := hb
      subst hds
      exact unit_row htr
  have k0 := key 0 (by omega) _ _ rfl
  have k1 := key 1 (by omega) _ _ rfl
  have k2 := key 2 (by omega) _ _ rfl
  have k3 := key 3 (by omega) _ _ rfl
  have k4 := key 4 (by omega) _ _ rfl
  clear key hd hv
  obtain ⟨l⟩ := cs
  simp only at hlen k0 k1 k2 k3 k4
  match l, hlen with
  | [a0, a1, a2, a3, a4, a5, a6, a7, a8, a9], _ =>
    simp at k0 k1 k2 k3 k4
    obtain ⟨rfl, rfl⟩ := k0
    obtain ⟨rfl, rfl⟩ := k1
    obtain ⟨rfl, rfl⟩ := k2
    obtain ⟨rfl, rfl⟩ := k3
    obtain ⟨rfl, rfl⟩ := k4
    rfl

theorem iface_of {P : Program} {W : World} {t : TypeId} {ms : Array (String × TypeId)} {fuel : Nat} {cs : List Value} {nm : String} {d : DataW Unit} {p : List MemPlace} {sp : Nat → Bool} (hi : P.underlying t = some (.interface ms))
    (h : DataW.trod (fun _ => ()) P W 0 sp false fuel t cs = some (.iface nm d, p)) : ∃ u v, cs = [.iface u v] := by
  cases fuel with
  | zero => simp [DataW.trod] at h
  | succ fuel =>
    unfold DataW.trod at h
    rw [hi] at h
    split at h <;> simp_all
theorem err_of {W : World} {d : DataW Unit} {nm : String} (h : Lib.VarReads Tryd.prog W "strconv.ErrRange" (.iface nm d)) : ∃ tp p, W.var? Tryd.prog "strconv.ErrRange" = some #[.iface tp p] := by
  obtain ⟨g, t, cs, fuel, p, hg, ht, hv, hd⟩ := h
  obtain rfl : g = 3 := Option.some.inj (hg.symm.trans (show Tryd.prog.globalNamed "strconv.ErrRange" = some 3 by kernel_rfl))
  obtain rfl : t = 45 := Option.some.inj (ht.symm.trans (show (Tryd.prog.globals[3]?).map (·.type) = some 45 by kernel_rfl))
  obtain ⟨u, v, hc⟩ := iface_of Tryd.underlying45 hd
  refine ⟨u, v, ?_⟩
  rw [hv]
  obtain ⟨l⟩ := cs
  simp only at hc
  rw [hc]
theorem tab_of {W : World} {zs : List Int} (h : Lib.VarReads Tryd.prog W "internal/strconv.uint64pow10" (Lib.tabData .u64 zs)) : Lib.TabIs Tryd.prog W "internal/strconv.uint64pow10" .u64 zs := by
  obtain ⟨g, t, cs, fuel, p, hg, ht, hv, hd⟩ := h
  obtain rfl : g = 4 := Option.some.inj (hg.symm.trans (show Tryd.prog.globalNamed "internal/strconv.uint64pow10" = some 4 by kernel_rfl))
  obtain rfl : t = 85 := Option.some.inj (ht.symm.trans (show (Tryd.prog.globals[4]?).map (·.type) = some 85 by kernel_rfl))
  unfold Lib.TabIs
  rw [hv, ← Lib.cells_of_tab Tryd.underlying85 Tryd.underlying73 (by kernel_rfl) (by kernel_rfl) hd]
/-- The variables that the rows list, wherever they stand on the list. -/
theorem ok_of {W : World} {l : List (String × DataW Unit)} (h : laidMet Tryd.prog l W) (m1 : ("internal/strconv.uint64pow10", Rows.laid_internal_strconv_uint64pow10) ∈ l)
    (m2 : ("watchtower/dur.units", Rows.laid_watchtower_dur_units) ∈ l) (m3 : ("strconv.ErrRange", Rows.laid_strconv_ErrRange) ∈ l) : Ok W :=
  ⟨tab_of (Lib.laidMet.reads h m1), unit_of (Lib.laidMet.reads h m2), err_of (Lib.laidMet.reads h m3)⟩
end Go.Proofs.YtjlonndkkeoohaaDoor

/-
  What the walks of layer dur ask of the world (two tables and one error of the library's), that it outlives what a call does, and the library's contracts said over it.
-/
import Derived.Test.YtjlonndkkeoohaaDoorWorld
import Derived.Test.YtjlonndkkeoohaaDoorDurPlain
import Derived.Test.YtjlonndkkeoohaaDoorShelf
import Derived.Test.YtjlonndkkeoohaaDoorIdxAny
import Derived.Shelf.Strings.SlTrimAscii
namespace Go.Proofs.YtjlonndkkeoohaaDoor
open Go.RowKit

def unitCells : Array Value :=
  #[.string ⟨#[100]⟩, .int .i64 86400000, .string ⟨#[104]⟩, .int .i64 3600000, .string ⟨#[109]⟩, .int .i64 60000, .string ⟨#[115]⟩, .int .i64 1000, .string ⟨#[109, 115]⟩, .int .i64 1]
/-- What the walks read. -/
structure Ok (w : World) : Prop where
  tab : Lib.TabIs Tryd.prog w "internal/strconv.uint64pow10" .u64 Lib.pow10Tab
  unit : w.var? Tryd.prog "watchtower/dur.units" = some unitCells
  err : ∃ tp p, w.var? Tryd.prog "strconv.ErrRange" = some #[.iface tp p]
theorem Ok.on {w w' : World} (h : Ok w) (hb : Below w.heap.size w w') : Ok w' := by
  obtain ⟨h1, h2, tp, p, h3⟩ := h
  exact ⟨var_below h1 hb, var_below h2 hb, tp, p, var_below h3 hb⟩
theorem unit_global : Tryd.prog.globalNamed "watchtower/dur.units" = some 0 := by kernel_rfl
theorem Ok.name {w : World} (h : Ok w) (i : Nat) (hi : i < 5) : w.cell? ⟨0, 2 * i, none⟩ = some (.string ⟨(Dp.nm i).toArray⟩) := by
  have := World.var?_cell unit_global h.unit (2 * i)
  rw [this]
  rcases (show i = 0 ∨ i = 1 ∨ i = 2 ∨ i = 3 ∨ i = 4 by omega) with rfl | rfl | rfl | rfl | rfl <;> rfl
theorem Ok.size {w : World} (h : Ok w) (i : Nat) (hi : i < 5) : w.cell? ⟨0, 2 * i + 1, none⟩ = some (.int .i64 (Dp.sz i)) := by
  have := World.var?_cell unit_global h.unit (2 * i + 1)
  rw [this]
  rcases (show i = 0 ∨ i = 1 ∨ i = 2 ∨ i = 3 ∨ i = 4 by omega) with rfl | rfl | rfl | rfl | rfl <;> rfl
theorem Ok.cells {w : World} (h : Ok w) :
    w.cell? ⟨0, 0, none⟩ = some (.string ⟨#[100]⟩) ∧
    w.cell? ⟨0, 1, none⟩ = some (.int .i64 86400000) ∧
    w.cell? ⟨0, 2, none⟩ = some (.string ⟨#[104]⟩) ∧
    w.cell? ⟨0, 3, none⟩ = some (.int .i64 3600000) ∧
    w.cell? ⟨0, 4, none⟩ = some (.string ⟨#[109]⟩) ∧
    w.cell? ⟨0, 5, none⟩ = some (.int .i64 60000) ∧
    w.cell? ⟨0, 6, none⟩ = some (.string ⟨#[115]⟩) ∧
    w.cell? ⟨0, 7, none⟩ = some (.int .i64 1000) ∧
    w.cell? ⟨0, 8, none⟩ = some (.string ⟨#[109, 115]⟩) ∧
    w.cell? ⟨0, 9, none⟩ = some (.int .i64 1) := by
  have c := World.var?_cell unit_global h.unit
  exact ⟨c 0, c 1, c 2, c 3, c 4, c 5, c 6, c 7, c 8, c 9⟩

theorem itoa_str (n : Int) (h0 : 0 ≤ n) (h1 : n ≤ 9007199254740992) (w : World) (hok : Ok w) :
    Calls Tryd.prog 22 #[.int .i64 n] w fun e w' => ∃ S : ByteArray, e = .returned (.string S) ∧ (1 ≤ S.size ∧ S.size ≤ 16) ∧ Hid (S.data.toList = Lib.decDigits n.toNat) ∧ Below w.heap.size w w' := by
  refine (Tryd.strconv_Itoa n (by omega) (by omega) w hok.tab).mono ?_
  rintro e w' ⟨rfl, k, os, rfl⟩
  obtain ⟨u, rfl⟩ := Int.eq_ofNat_of_zero_le h0
  refine ⟨_, rfl, ?_, Lib.hid (by rw [Lib.itoa_nonneg]; simp), below_grow w k os⟩
  have h1 := Lib.nDigits_pos u
  have h2 := nd_le 15 u (by omega)
  rw [str_size, Lib.itoa_nonneg, Lib.decDigits_length]
  exact ⟨h1, h2⟩

/-! digits as numbers -/
theorem uint_dec : ∀ (l : List UInt8) (acc : Nat), Np.digs l = true → acc < 18446744073709551616 →
    Lib.parseUint10 acc l = (if l.foldl (fun a c => 10 * a + (c.toNat - 48)) acc < 18446744073709551616 then .ok (l.foldl (fun a c => 10 * a + (c.toNat - 48)) acc) else .range)
  | [], acc, _, h => by
    rw [List.foldl_nil, if_pos h]; rfl
  | c :: r, acc, hd, h => by
    have hc : Np.dig c = true ∧ Np.digs r = true := by simpa [Np.digs] using hd
    have hb := Np.dig_bd hc.1
    have hge : ∀ a : Nat, a ≤ r.foldl (fun a c => 10 * a + (c.toNat - 48)) a := by
      intro a
      rw [Np.foldl_eq]
      have : a * 1 ≤ a * 10 ^ r.length := Nat.mul_le_mul_left _ (Nat.one_le_pow _ _ (by omega))
      omega
    have hg := hge (10 * acc + (c.toNat - 48))
    unfold Lib.parseUint10
    rw [if_pos hb, List.foldl_cons]
    by_cases h1 : 1844674407370955162 ≤ acc
    · rw [if_pos h1, if_neg (by omega)]
    · rw [if_neg h1]
      by_cases h2 : 18446744073709551616 ≤ acc * 10 + (c.toNat - 48)
      · rw [if_pos h2, if_neg (by omega)]
      · rw [if_neg h2, Nat.mul_comm acc 10]
        exact uint_dec r _ hc.2 (by omega)
theorem atoi_dec (l : List UInt8) (hd : Np.digs l = true) (h0 : l ≠ []) :
    Lib.atoiAll l = if Np.num l < 9223372036854775808 then .ok ((Np.num l : Nat) : Int) else .range := by
  cases l with
  | nil => exact absurd rfl h0
  | cons c r =>
    have hc : Np.dig c = true ∧ Np.digs r = true := by simpa [Np.digs] using hd
    have hb := Np.dig_bd hc.1
    rw [Lib.atoiAll_plain c r (by omega) (by omega)]
    have hm : Lib.parseMag (c :: r) = Lib.parseUint10 0 (c :: r) := rfl
    rw [hm, uint_dec (c :: r) 0 hd (by omega)]
    have hn : (c :: r).foldl (fun a c => 10 * a + (c.toNat - 48)) 0 = Np.num (c :: r) := rfl
    rw [hn]
    by_cases h1 : Np.num (c :: r) < 18446744073709551616
    · rw [if_pos h1]
      unfold Lib.signless
      by_cases h2 : Np.num (c :: r) < 9223372036854775808
      · rw [if_pos h2]; simp; omega
      · rw [if_neg h2]; simp; omega
    · rw [if_neg h1, if_neg (by omega)]; rfl

/-- strconv.Atoi of digits: a number, or, where no int holds it, some error. -/
theorem atoi_any (c : ByteArray) (hd : Np.digs c.data.toList = true) (h0 : c.data.toList ≠ []) (hs : c.size ≤ 1000000) (w : World) (hok : Ok w) :
    Calls Tryd.prog 26 #[.string c] w fun e w' => (if Np.num c.data.toList < 9223372036854775808 then e = .returned (.tuple #[.int .i64 ((Np.num c.data.toList : Nat) : Int), .nilIface]) else ∃ (v : Int) (t : TypeId) (N : Nat), e = .returned (.tuple #[.int .i64 v, .iface t (.pointer (some ⟨N, 0, none⟩))])) ∧ Below w.heap.size w w' := by
  have ha := atoi_dec c.data.toList hd h0
  by_cases h : Np.num c.data.toList < 9223372036854775808
  · rw [if_pos h] at ha
    refine (Tryd.strconv_Atoi_ok c (by omega) _ ha w).mono ?_
    rintro e w' ⟨rfl, hw⟩
    refine ⟨by rw [if_pos h], ?_⟩
    rcases hw with rfl | ⟨t, rfl⟩
    · exact Below.refl _ _
    · exact Lib.bytesWorld_below _ _ _
  · rw [if_neg h] at ha
    obtain ⟨tp, p, hv⟩ := hok.err
    refine (Tryd.strconv_Atoi_range_var c (by omega) ha tp p w hv).mono ?_
    rintro e w' ⟨N, rfl, _, _, hb⟩
    exact ⟨by rw [if_neg h]; exact ⟨_, _, N, rfl⟩, hb⟩

/-! cuts -/
def tenB : ByteArray := ⟨#[48, 49, 50, 51, 52, 53, 54, 55, 56, 57]⟩
theorem ten_dig (c : UInt8) : tenB.data.toList.contains c = Np.dig c := by
  have h : ∀ n : Fin 256, tenB.data.toList.contains (UInt8.ofNat n.val) = Np.dig (UInt8.ofNat n.val) := by decide +kernel
  have := h ⟨c.toNat, c.toNat_lt⟩
  simpa using this
theorem dig_fun : (fun c => tenB.data.toList.contains c) = Np.dig := funext ten_dig
theorem ten_ascii : ∀ b ∈ tenB.data.toList, b.toNat < 128 := by decide
theorem trimLeft_any (s : ByteArray) (w : World) :
    Calls Tryd.prog 24 #[.string s, .string ⟨#[48, 49, 50, 51, 52, 53, 54, 55, 56, 57]⟩] w fun e w' => ∃ R : ByteArray, e = .returned (.string R) ∧ R.size ≤ s.size ∧ Hid (R.data.toList = Dp.rst s.data.toList) ∧ Below w.heap.size w w' := by
  refine (Any.strings_TrimLeft_laid Tryd.lays161 (by kernel_rfl) s tenB w (by decide) (fun j b hb => ten_ascii b (List.mem_of_getElem? hb))).mono ?_
  rintro e w' ⟨rfl, hb⟩
  have he : Lib.trimLeftS s.data.toList tenB.data.toList = Dp.rst s.data.toList := by
    unfold Lib.trimLeftS Dp.rst
    rw [dig_fun]
  refine ⟨_, rfl, ?_, Lib.hid (by rw [he]), hb⟩
  rw [he, str_size, Lib.size_eq]
  exact (List.dropWhile_sublist _).length_le

theorem idx_none : ∀ l : List UInt8, l.dropWhile (fun c => !Np.dig c) = [] → Lib.indexAny l tenB.data.toList = -1
  | [], _ => rfl
  | c :: t, h => by
    rw [List.dropWhile_cons] at h
    by_cases hc : Np.dig c = true
    · rw [if_neg (by simp [hc])] at h; exact absurd h (by simp)
    · have hc' : Np.dig c = false := by simpa using hc
      rw [if_pos (by simp [hc'])] at h
      have ih := idx_none t h
      unfold Lib.indexAny
      rw [ten_dig, hc']
      simp [ih]
theorem idx_some : ∀ l : List UInt8, l.dropWhile (fun c => !Np.dig c) ≠ [] → Lib.indexAny l tenB.data.toList = ((l.takeWhile fun c => !Np.dig c).length : Int)
  | [], h => by simp at h
  | c :: t, h => by
    rw [List.dropWhile_cons] at h
    rw [List.takeWhile_cons]
    by_cases hc : Np.dig c = true
    · unfold Lib.indexAny
      rw [ten_dig, hc]; simp
    · have hc' : Np.dig c = false := by simpa using hc
      rw [if_pos (by simp [hc'])] at h
      have ih := idx_some t h
      unfold Lib.indexAny
      rw [ten_dig, hc']
      have : ((t.takeWhile fun c => !Np.dig c).length : Int) ≠ -1 := by omega
      simp [ih, this]
theorem indexAny_any (s : ByteArray) (hs : s.size ≤ 1000000) (w : World) :
    Calls Tryd.prog 25 #[.string s, .string ⟨#[48, 49, 50, 51, 52, 53, 54, 55, 56, 57]⟩] w fun e w' => e = .returned (.int .i64 (Lib.indexAny s.data.toList tenB.data.toList)) ∧ Below w.heap.size w w' :=
  any_IndexAny Tryd.lays153 (by kernel_rfl) s tenB w (by decide) (by decide) (by omega) ten_ascii
end Go.Proofs.YtjlonndkkeoohaaDoor

/-
  What the walks of layer num ask of the world (the table of powers of ten, one variable of the library's), that it outlives what a call does, and the library's contracts said over it.
-/
import Derived.Test.YtjndehdihjlcaaaDoorProg
import Derived.Test.YtjndehdihjlcaaaDoorNumPlain
import Derived.Test.YtjndehdihjlcaaaDoorShelf
import Derived.WalkKit
import Derived.WalkSpells
import Derived.WalkLawsBesides
import Derived.BigCall
import Derived.Lib.Strings
import Derived.Lib.ItoaWalk
import Derived.Lib.LaidTab
import Derived.Lib.Hide
import Derived.Sort.Grow
namespace Go.Proofs.YtjndehdihjlcaaaDoor
open Go.RowKit

/-- What the library reads. -/
def Ok (w : World) : Prop :=
  Lib.TabIs Tryd.prog w "internal/strconv.uint64pow10" .u64 Lib.pow10Tab ∧ ∃ m : Int, w.cell? ⟨0, 0, none⟩ = some (.int .i64 m)

theorem var_lt {P : Program} {w : World} {name : String} {cs : Array Value} (h : w.var? P name = some cs) : ∃ g, P.globalNamed name = some g ∧ g < w.heap.size := by
  unfold World.var? at h
  cases hg : P.globalNamed name with
  | none => simp [hg] at h
  | some g =>
    refine ⟨g, rfl, ?_⟩
    rcases Nat.lt_or_ge g w.heap.size with h' | h'
    · exact h'
    · simp only [hg, Option.bind_some] at h
      rw [Array.getElem?_eq_none h'] at h; simp at h
theorem var_below {P : Program} {w w' : World} {name : String} {cs : Array Value} (h : w.var? P name = some cs) (hb : Below w.heap.size w w') : w'.var? P name = some cs := by
  obtain ⟨g, hg, hlt⟩ := var_lt h
  unfold World.var? at *
  simp only [hg, Option.bind_some] at h ⊢
  rw [hb.block g hlt]; exact h
theorem cell_lt {w : World} {a : Addr} {v : Value} (h : w.cell? a = some v) : a.block < w.heap.size := by
  rcases Nat.lt_or_ge a.block w.heap.size with h' | h'
  · exact h'
  · unfold World.cell? at h
    rw [Array.getElem?_eq_none h'] at h; simp at h
theorem Ok.on {w w' : World} (h : Ok w) (hb : Below w.heap.size w w') : Ok w' := by
  obtain ⟨h1, m, h2⟩ := h
  refine ⟨var_below h1 hb, m, ?_⟩
  rw [hb.cell (p := ⟨0, 0, none⟩) (cell_lt h2)]; exact h2
theorem below_grow (w : World) (k : Nat) (os : Array Obj) : Below w.heap.size w (Sort.grow (w.drewN k) os) :=
  ⟨rfl, rfl, rfl, by simp, fun i hi => by rw [Sort.heap_grow_old _ _ (by simpa using hi)]; rfl⟩
theorem below_drewN (w : World) (k : Nat) : Below w.heap.size w (w.drewN k) := ⟨rfl, rfl, rfl, Nat.le_refl _, fun _ _ => rfl⟩
theorem below_on {w a b : World} (h : Below w.heap.size w a) (k : Below a.heap.size a b) : Below w.heap.size w b := h.trans (k.mono h.size)

theorem itoa_any (n : Int) (h0 : 0 ≤ n) (h1 : n ≤ 9007199254740992) (w : World) (hok : Ok w) :
    Calls Tryd.prog 25 #[.int .i64 n] w fun e w' => e = .returned (.string ⟨(Lib.decDigits n.toNat).toArray⟩) ∧ Below w.heap.size w w' := by
  refine (Tryd.strconv_Itoa n (by omega) (by omega) w hok.1).mono ?_
  rintro e w' ⟨rfl, k, os, rfl⟩
  obtain ⟨u, rfl⟩ := Int.eq_ofNat_of_zero_le h0
  refine ⟨?_, below_grow w k os⟩
  rw [Lib.itoa_nonneg]; rfl
theorem nd_le : ∀ (k u : Nat), u < 10 ^ (k + 1) → Lib.nDigits u ≤ k + 1
  | 0, u, h => by rw [Lib.nDigits_small (by simpa using h)]; exact Nat.le_refl _
  | k + 1, u, h => by
    by_cases h10 : u < 10
    · rw [Lib.nDigits_small h10]; omega
    · rw [Lib.nDigits_big h10]
      have := nd_le k (u / 10) (by rw [Nat.pow_succ] at h; omega)
      omega
/-- The same, the text under a name. -/
theorem itoa_str (n : Int) (h0 : 0 ≤ n) (h1 : n ≤ 9007199254740992) (w : World) (hok : Ok w) :
    Calls Tryd.prog 25 #[.int .i64 n] w fun e w' => ∃ S : ByteArray, e = .returned (.string S) ∧ (1 ≤ S.size ∧ S.size ≤ 16) ∧ Hid (S.data.toList = Lib.decDigits n.toNat) ∧ Below w.heap.size w w' := by
  refine (itoa_any n h0 h1 w hok).mono ?_
  rintro e w' ⟨rfl, hb⟩
  refine ⟨_, rfl, ?_, Lib.hid (by simp), hb⟩
  have h1 := Lib.nDigits_pos n.toNat
  have h2 := nd_le 15 n.toNat (by omega)
  rw [Lib.size_eq]
  simp only [Lib.decDigits_length]
  exact ⟨h1, h2⟩
theorem str_eq (x : ByteArray) (l : List UInt8) (h : x.data.toList = l) : x = ⟨l.toArray⟩ := by
  subst h; cases x; simp
theorem cut_any (b : ByteArray) (hb : b.size < 4294967281) (w : World) (hok : Ok w) :
    Calls Tryd.prog 17 #[.string b, .string ⟨#[46]⟩] w fun e w' =>
      e = .returned (.tuple #[.string ⟨(Np.whole b.data.toList).toArray⟩, .string ⟨((Np.rest b.data.toList).tail).toArray⟩, .bool (!(Np.rest b.data.toList).isEmpty)]) ∧ Below w.heap.size w w' := by
  obtain ⟨m, hm⟩ := hok.2
  refine (Tryd.strings_Cut b ⟨#[46]⟩ m w hb hm).mono ?_
  rintro e w' ⟨rfl, n, rfl⟩
  refine ⟨?_, below_drewN w n⟩
  have e1 : (⟨#[46]⟩ : ByteArray).data.toList = [46] := rfl
  rw [e1, Np.cut_dot]
/-- The same by cases, the texts under names. -/
theorem cut_plain (L : List UInt8) (hL : L.length ≤ 1000000) (h : Np.rest L = []) (w : World) (hok : Ok w) :
    Calls Tryd.prog 17 #[.string ⟨L.toArray⟩, .string ⟨#[46]⟩] w fun e w' => ∃ W : ByteArray,
      e = .returned (.tuple #[.string W, .string ⟨#[]⟩, .bool false]) ∧ W.size ≤ 1000000 ∧ Hid (W.data.toList = Np.whole L) ∧ Below w.heap.size w w' := by
  refine (cut_any ⟨L.toArray⟩ (by rw [Lib.size_eq]; simp; omega) w hok).mono ?_
  rintro e w' ⟨rfl, hb⟩
  have e1 : (⟨L.toArray⟩ : ByteArray).data.toList = L := by simp
  refine ⟨⟨(Np.whole L).toArray⟩, ?_, ?_, Lib.hid (by simp), hb⟩
  · rw [e1, h]; rfl
  · rw [Lib.size_eq]; simp only
    exact Nat.le_trans (List.takeWhile_sublist _).length_le hL
theorem cut_point (L : List UInt8) (hL : L.length ≤ 1000000) (x : UInt8) (p : List UInt8) (h : Np.rest L = x :: p) (w : World) (hok : Ok w) :
    Calls Tryd.prog 17 #[.string ⟨L.toArray⟩, .string ⟨#[46]⟩] w fun e w' => ∃ W Q : ByteArray,
      e = .returned (.tuple #[.string W, .string Q, .bool true]) ∧ (W.size ≤ 1000000 ∧ Q.size ≤ 1000000 ∧ Q.size = p.length) ∧ Hid (W.data.toList = Np.whole L) ∧ Hid (Q.data.toList = p) ∧ Below w.heap.size w w' := by
  refine (cut_any ⟨L.toArray⟩ (by rw [Lib.size_eq]; simp; omega) w hok).mono ?_
  rintro e w' ⟨rfl, hb⟩
  have e1 : (⟨L.toArray⟩ : ByteArray).data.toList = L := by simp
  have hp : p.length ≤ 1000000 := by
    have h1 : (Np.rest L).length ≤ L.length := (List.dropWhile_sublist _).length_le
    rw [h] at h1; simp at h1; omega
  refine ⟨⟨(Np.whole L).toArray⟩, ⟨p.toArray⟩, ?_, ⟨?_, ?_, ?_⟩, Lib.hid (by simp), Lib.hid (by simp), hb⟩
  · rw [e1, h]; rfl
  · rw [Lib.size_eq]; simp only
    exact Nat.le_trans (List.takeWhile_sublist _).length_le hL
  · rw [Lib.size_eq]; simpa using hp
  · rw [Lib.size_eq]
theorem cutPrefix_any (s : ByteArray) (w : World) :
    Calls Tryd.prog 16 #[.string s, .string ⟨#[45]⟩] w fun e w' =>
      e = .returned (.tuple #[.string ⟨(Np.body s.data.toList).toArray⟩, .bool (Np.neg s.data.toList)]) ∧ w = w' := by
  refine (Tryd.strings_CutPrefix s ⟨#[45]⟩ w).mono ?_
  rintro e w' ⟨rfl, rfl⟩
  have e1 : (⟨#[45]⟩ : ByteArray).data.toList = [45] := rfl
  have h1 : Lib.hasPrefix s.data.toList [45] = Np.neg s.data.toList := by
    unfold Lib.hasPrefix Np.neg
    cases s.data.toList with
    | nil => rfl
    | cons c t =>
      simp only [List.isPrefixOf, List.head?_cons, Bool.and_true]
      by_cases h : c = 45
      · subst h; rfl
      · have h' : ¬ 45 = c := fun e => h e.symm
        have a1 : ((45 : UInt8) == c) = false := by simpa using h'
        have a2 : (some c == some (45 : UInt8)) = false := by simpa using h
        rw [a1, a2]
  have h2 : Lib.trimPrefix s.data.toList [45] = Np.body s.data.toList := by
    unfold Lib.trimPrefix Np.body
    rw [h1]
    cases s.data.toList <;> rfl
  rw [e1, h1, h2]
  exact ⟨rfl, rfl⟩

theorem str_append (a b : List UInt8) : (⟨a.toArray⟩ : ByteArray) ++ ⟨b.toArray⟩ = ⟨(a ++ b).toArray⟩ := by
  have h : ((⟨a.toArray⟩ : ByteArray) ++ ⟨b.toArray⟩).data = (a ++ b).toArray := by
    rw [ByteArray.data_append]; simp
  cases hx : ((⟨a.toArray⟩ : ByteArray) ++ ⟨b.toArray⟩) with
  | mk d => rw [hx] at h; simp at h; rw [h]
end Go.Proofs.YtjndehdihjlcaaaDoor

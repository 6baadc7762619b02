/-
  The Builder's writing methods, laid at this program's numbers (the laying of the kit names a type that no body here names).
  Plain facts for the walks of layer lex as landed: the sets of octets, what is cut off, what the steps of a text give. Nothing of any program.
  The walks of layer lex as landed: begins, skip, meant; strings.Cut at an LF.
  The walk of layer lex's firstText as landed: a text between quotes.
  The walk of layer lex's first as landed: the token that stands first.
  The walk of layer lex's All as landed.
  The walk of layer lex's Quote as landed.
-/
import Derived.Test.YtkoeggjfdcpokaaGreatDoorShelf
import Derived.Shelf.Strings.SlTrimAscii
import Derived.Test.YtkoeggjfdcpokaaGreatDoorMemA
import Derived.Lib.Join
import Derived.Lib.IndexAny
import Derived.Lib.IndexBytes
import Derived.Lib.SlTrimSet
import Derived.Laws.ResultCell
import Derived.Deep.MidRow
namespace Go.Proofs

def Tryz.laysB_ren : Go.Shelf.Ren := ⟨fun | 166 => 78 | 167 => 77 | 240 => 101 | 276 => 117 | n => n, fun | 0 => 0 | 3 => 3 | 4 => 4 | 5 => 5 | 9 => 9 | 20 => 20 | 37 => 92 | 70 => 91 | 72 => 94 | 75 => 96 | 76 => 98 | 80 => 100 | 164 => 132 | n => n, fun | n => n⟩
theorem Tryz.lays167 : Go.Proofs.Lays.n167 Tryz.prog Tryz.laysB_ren := {
  mixed := by kernel_rfl
  f167 := Tryz.func77.trans (congrArg some (by kernel_rfl))
  f240 := Tryz.func101.trans (congrArg some (by kernel_rfl))
  f276 := Tryz.func117.trans (congrArg some (by kernel_rfl))
  t0 := Tryz.underlying0
  a0 := Tryz.isAgg0
  z0 := Tryz.sizeOf0
  v0 := Tryz.zeroValue0
  t4 := Tryz.underlying4
  a4 := Tryz.isAgg4
  z4 := Tryz.sizeOf4
  v4 := Tryz.zeroValue4
  t5 := Tryz.underlying5
  a5 := Tryz.isAgg5
  z5 := Tryz.sizeOf5
  v5 := Tryz.zeroValue5
  t9 := Tryz.underlying9
  a9 := Tryz.isAgg9
  z9 := Tryz.sizeOf9
  v9 := Tryz.zeroValue9
  t20 := Tryz.underlying20
  a20 := Tryz.isAgg20
  z20 := Tryz.sizeOf20
  v20 := Tryz.zeroValue20
  t37 := Tryz.underlying92
  a37 := Tryz.isAgg92
  z37 := Tryz.sizeOf92
  v37 := Tryz.zeroValue92
  t70 := Tryz.underlying91
  a70 := Tryz.isAgg91
  z70 := Tryz.sizeOf91
  v70 := Tryz.zeroValue91
  t72 := Tryz.underlying94
  a72 := Tryz.isAgg94
  z72 := Tryz.sizeOf94
  v72 := Tryz.zeroValue94
  t75 := Tryz.underlying96
  a75 := Tryz.isAgg96
  z75 := Tryz.sizeOf96
  v75 := Tryz.zeroValue96
  t164 := Tryz.underlying132
  a164 := Tryz.isAgg132
  z164 := Tryz.sizeOf132
  v164 := Tryz.zeroValue132 }
theorem Tryz.lays166 : Go.Proofs.Lays.n166 Tryz.prog Tryz.laysB_ren := {
  mixed := by kernel_rfl
  f166 := Tryz.func78.trans (congrArg some (by kernel_rfl))
  f240 := Tryz.func101.trans (congrArg some (by kernel_rfl))
  f276 := Tryz.func117.trans (congrArg some (by kernel_rfl))
  t0 := Tryz.underlying0
  a0 := Tryz.isAgg0
  z0 := Tryz.sizeOf0
  v0 := Tryz.zeroValue0
  t3 := Tryz.underlying3
  a3 := Tryz.isAgg3
  z3 := Tryz.sizeOf3
  v3 := Tryz.zeroValue3
  t4 := Tryz.underlying4
  a4 := Tryz.isAgg4
  z4 := Tryz.sizeOf4
  v4 := Tryz.zeroValue4
  t9 := Tryz.underlying9
  a9 := Tryz.isAgg9
  z9 := Tryz.sizeOf9
  v9 := Tryz.zeroValue9
  t20 := Tryz.underlying20
  a20 := Tryz.isAgg20
  z20 := Tryz.sizeOf20
  v20 := Tryz.zeroValue20
  t37 := Tryz.underlying92
  a37 := Tryz.isAgg92
  z37 := Tryz.sizeOf92
  v37 := Tryz.zeroValue92
  t70 := Tryz.underlying91
  a70 := Tryz.isAgg91
  z70 := Tryz.sizeOf91
  v70 := Tryz.zeroValue91
  t72 := Tryz.underlying94
  a72 := Tryz.isAgg94
  z72 := Tryz.sizeOf94
  v72 := Tryz.zeroValue94
  t75 := Tryz.underlying96
  a75 := Tryz.isAgg96
  z75 := Tryz.sizeOf96
  v75 := Tryz.zeroValue96
  t164 := Tryz.underlying132
  a164 := Tryz.isAgg132
  z164 := Tryz.sizeOf132
  v164 := Tryz.zeroValue132 }
theorem Tryz.Builder_Extra_B : Builder.Extra Tryz.prog Tryz.laysB_ren := {
  sizeBuilder := by kernel_rfl
  liesBuilder := by kernel_rfl
  t5 := Tryz.underlying5
  a5 := Tryz.isAgg5
  z5 := Tryz.sizeOf5
  v5 := Tryz.zeroValue5
  infoByte := by kernel_rfl
  cellsByte := by kernel_rfl
  sizeByte := by kernel_rfl
  neB5 := by decide }
open Go.RowKit
/-- A Builder in block b holds the octets l. -/
abbrev Tryz.Bld (B b : Nat) (l : List UInt8) (w : World) : Prop := Lib.IsBuilder 94 5 B b (Lib.byteCells l) w
theorem Tryz.Builder_WriteByte (B b : Nat) (l : List UInt8) (c : UInt8) (w : World) (h : Tryz.Bld B b l w) (hlen : l.length ≤ 140737488355327) (hBw : B ≤ w.heap.size) :
    Calls Tryz.prog 77 #[.pointer (some ⟨b, 0, none⟩), .int .u8 (c.toNat : Int)] w fun e w' => e = .returned .nilIface ∧ Tryz.Bld B b (l ++ [c]) w' ∧ Below B w w' := by
  refine (Any.Builder_WriteByte Tryz.lays167 Tryz.Builder_Extra_B B b (Lib.byteCells l) (c.toNat : Int) w h (by rw [Lib.byteCells_length]; omega) hBw).mono fun e w' ⟨he, hb, hw⟩ => ⟨he, .inr ?_, hw⟩
  have e : Lib.byteCells (l ++ [c]) = Lib.byteCells l ++ [.int .u8 (c.toNat : Int)] := by simp [Lib.byteCells]
  rw [e]
  exact hb
theorem Tryz.Builder_WriteString (B b : Nat) (l m : List UInt8) (s : ByteArray) (hs : s.data.toList = m) (w : World) (h : Tryz.Bld B b l w) (hlen : l.length + m.length ≤ 140737488355327) (hBw : B ≤ w.heap.size) :
    Calls Tryz.prog 78 #[.pointer (some ⟨b, 0, none⟩), .string s] w fun e w' => e = .returned (.tuple #[.int .i64 s.size, .nilIface]) ∧ Tryz.Bld B b (l ++ m) w' ∧ Below B w w' := by
  subst hs
  refine (Any.Builder_WriteString Tryz.lays166 Tryz.Builder_Extra_B B b (Lib.byteCells l) s w h (by rw [Lib.byteCells_length]; have := Lib.size_eq s; omega) hBw).mono fun e w' ⟨he, hb, hw⟩ => ⟨he, .inr ?_, hw⟩
  have e : Lib.byteCells (l ++ s.data.toList) = Lib.byteCells l ++ Lib.strCells s := by simp [Lib.byteCells, Lib.strCells]
  rw [e]
  exact hb
theorem Tryz.strings_TrimLeft (s k : ByteArray) (w : World) (hk : k.size < 4294967281) (ha : k.data.toList.all (fun b => decide (b.toNat < 128)) = true) :
    Calls Tryz.prog 57 #[.string s, .string k] w fun e w' => e = .returned (.string ⟨(Lib.trimLeftS s.data.toList k.data.toList).toArray⟩) ∧ Below w.heap.size w w' :=
  Any.strings_TrimLeft_laid Tryz.lays161 (by kernel_rfl) s k w hk (fun j b hb => of_decide_eq_true (List.all_eq_true.1 ha b (List.mem_of_getElem? hb)))
end Go.Proofs
namespace Go.Proofs.YtkoeggjfdcpokaaGreatDoor.Lx
open Go.Proofs.YtkoeggjfdcpokaaGreatDoor

theorem all8 (p : UInt8 → Bool) (h : (List.range 256).all (fun n => p (UInt8.ofNat n)) = true) (c : UInt8) : p c = true := by
  have := List.all_eq_true.1 h c.toNat (List.mem_range.2 c.toNat_lt)
  rwa [UInt8.ofNat_toNat] at this
def lettersL : T := [97, 98, 99, 100, 101, 102, 103, 104, 105, 106, 107, 108, 109, 110, 111, 112, 113, 114, 115, 116, 117, 118, 119, 120, 121, 122, 65, 66, 67, 68, 69, 70, 71, 72, 73, 74, 75, 76, 77, 78, 79, 80, 81, 82, 83, 84, 85, 86, 87, 88, 89, 90, 95]
def digitsL : T := [48, 49, 50, 51, 52, 53, 54, 55, 56, 57]
def wordL : T := lettersL ++ digitsL
def numL : T := wordL ++ [46]
def whiteL : T := [32, 9, 13, 10]
def signsL : T := [123, 125, 40, 41, 44, 58, 59, 61, 62, 60]
def widenedL : T := [61, 33, 62, 60]
theorem letters_is (c : UInt8) : lettersL.contains c = isL c := by
  have := all8 (fun c => lettersL.contains c == isL c) (by decide +kernel) c
  exact eq_of_beq this
theorem digits_is (c : UInt8) : digitsL.contains c = isD c := by
  have := all8 (fun c => digitsL.contains c == isD c) (by decide +kernel) c
  exact eq_of_beq this
theorem word_is (c : UInt8) : wordL.contains c = wordC c := by
  have := all8 (fun c => wordL.contains c == wordC c) (by decide +kernel) c
  exact eq_of_beq this
theorem num_is (c : UInt8) : numL.contains c = numC c := by
  have := all8 (fun c => numL.contains c == numC c) (by decide +kernel) c
  exact eq_of_beq this
theorem white_is (c : UInt8) : whiteL.contains c = isW c := by
  have := all8 (fun c => whiteL.contains c == isW c) (by decide +kernel) c
  exact eq_of_beq this
theorem signs_is (c : UInt8) : signsL.contains c = oneS c.toNat := by
  have := all8 (fun c => signsL.contains c == oneS c.toNat) (by decide +kernel) c
  exact eq_of_beq this
theorem widened_is (c : UInt8) : widenedL.contains c = two c.toNat 61 := by
  have := all8 (fun c => widenedL.contains c == two c.toNat 61) (by decide +kernel) c
  exact eq_of_beq this
theorem lit_is (d c : UInt8) : ([d] : T).contains c = decide (c.toNat = d.toNat) := by
  rw [Bool.eq_iff_iff]
  simp only [List.contains_eq_mem, List.mem_singleton, decide_eq_true_eq, UInt8.toNat_inj]
theorem two_is (c d : UInt8) : (widenedL.contains c && ([61] : T).contains d) = two c.toNat d.toNat := by
  rw [widened_is, lit_is, Bool.eq_iff_iff]
  simp only [two, Bool.and_eq_true, decide_eq_true_eq]
  constructor
  · rintro ⟨⟨h1, _⟩, h2⟩
    exact ⟨h1, h2⟩
  · rintro ⟨h1, h2⟩
    exact ⟨⟨h1, trivial⟩, h2⟩

/-- Does a list begin with one of these? -/
def bg (k : T) : T → Bool
  | [] => false
  | c :: _ => k.contains c
theorem bg_cons (k : T) (c : UInt8) (r : T) : bg k (c :: r) = k.contains c := rfl
theorem trim_is (k : T) (f : UInt8 → Bool) (h : ∀ c, k.contains c = f c) (l : T) : Lib.trimLeftS l k = l.dropWhile f := by
  unfold Lib.trimLeftS
  congr 1
  funext c
  exact h c

/-! ### white and remarks -/
theorem bl_drop : ∀ l : T, bl false (l.dropWhile isW) = bl false l
  | [] => rfl
  | c :: r => by
    rw [List.dropWhile_cons]
    cases hw : isW c with
    | false => rfl
    | true =>
      have h35 : c.toNat ≠ 35 := by simp only [isW, Bool.or_eq_true, decide_eq_true_eq] at hw; omega
      rw [bl, if_neg h35, if_pos hw]
      exact bl_drop r
theorem bl_done (l : T) (h : bg [35] (l.dropWhile isW) = false) : l.dropWhile isW = bl false l := by
  rw [← bl_drop]
  cases hm : l.dropWhile isW with
  | nil => rfl
  | cons c r =>
    rw [hm, bg_cons, lit_is] at h
    have hc : c.toNat ≠ 35 := by simpa using h
    have hw : isW c = false := by
      have := List.head?_dropWhile_not isW l
      rw [hm] at this
      simpa using this
    rw [bl_self hc hw]
/-- What stands behind the first LF. -/
def behind (l : T) : T := (Lib.cut l [10]).2.1
theorem behind_cons (c : UInt8) (r : T) : behind (c :: r) = if c.toNat = 10 then r else behind r := by
  unfold behind Lib.cut
  rw [Lib.index_one, Lib.index_one]
  by_cases h : c.toNat = 10
  · have hc : c = 10 := UInt8.toNat_inj.1 h
    subst hc
    rw [if_pos h]
    have e : Lib.indexByte (10 :: r) 10 = 0 := by simp [Lib.indexByte]
    rw [e]
    rfl
  · have hc : (c == 10) = false := by
      rw [beq_eq_false_iff_ne]
      rintro rfl
      exact h rfl
    rw [if_neg h]
    have hg := Lib.indexByte_ge r 10
    by_cases h1 : Lib.indexByte r 10 = -1
    · have e : Lib.indexByte (c :: r) 10 = -1 := by simp [Lib.indexByte, hc, h1]
      rw [e, h1]
      rfl
    · have e : Lib.indexByte (c :: r) 10 = Lib.indexByte r 10 + 1 := by
        have h2 : (Lib.indexByte r 10 == -1) = false := by rw [beq_eq_false_iff_ne]; exact h1
        simp only [Lib.indexByte, hc, h2]
        rfl
      rw [e, if_pos (by omega), if_pos (by omega)]
      obtain ⟨n, hn⟩ : ∃ n : Nat, Lib.indexByte r 10 = n := ⟨(Lib.indexByte r 10).toNat, by omega⟩
      rw [hn]
      show (c :: r).drop (((n : Int) + 1).toNat + 1) = r.drop ((n : Int).toNat + 1)
      rw [show ((n : Int) + 1).toNat = n + 1 by omega, Int.toNat_natCast]
      rfl
theorem behind_nil : behind [] = [] := rfl
theorem bl_behind : ∀ l : T, bl true l = bl false (behind l)
  | [] => by rw [behind_nil]; rfl
  | c :: r => by
    rw [behind_cons, bl]
    by_cases h : c.toNat = 10
    · rw [if_pos h, if_pos h]
    · rw [if_neg h, if_neg h]
      exact bl_behind r
theorem behind_len : ∀ l : T, (behind l).length ≤ l.length
  | [] => by rw [behind_nil]; exact Nat.le_refl _
  | c :: r => by
    rw [behind_cons]
    have := behind_len r
    split <;> simp only [List.length_cons] <;> omega
/-- A remark more. -/
theorem bl_more {l : T} (h : bg [35] l = true) : bl false ((behind l).dropWhile isW) = bl false l ∧ ((behind l).dropWhile isW).length < l.length := by
  cases l with
  | nil => simp [bg] at h
  | cons c r =>
    rw [bg_cons, lit_is] at h
    have hc : c.toNat = 35 := by simpa using h
    have hb : behind (c :: r) = behind r := by rw [behind_cons, if_neg (by omega)]
    rw [hb, bl_drop, ← bl_behind]
    refine ⟨by rw [bl, if_pos hc], ?_⟩
    have h1 : ((behind r).dropWhile isW).length ≤ (behind r).length := (List.dropWhile_suffix _).length_le
    have h2 := behind_len r
    simp only [List.length_cons]
    omega

/-! ### words and numbers -/
theorem take_drop (f : UInt8 → Bool) (l : T) : l.take (l.length - (l.dropWhile f).length) = l.takeWhile f := by
  have h := List.takeWhile_append_dropWhile (p := f) (l := l)
  have hl := congrArg List.length h
  rw [List.length_append] at hl
  have : l.length - (l.dropWhile f).length = (l.takeWhile f).length := by omega
  rw [this]
  have e : (l.takeWhile f ++ l.dropWhile f).take (l.takeWhile f).length = l.takeWhile f := List.take_left
  rwa [h] at e
theorem drop_len (f : UInt8 → Bool) (l : T) : (l.dropWhile f).length ≤ l.length := (List.dropWhile_suffix _).length_le

/-! ### a text -/
/-- What a text comes to, where `out` is read already. -/
def comb (out : T) (q : T × T × Int) : T × T × Int := if q.2.2 = 0 then (out ++ q.1, q.2.1, 0) else ([], q.2.1, q.2.2)
theorem tq_no : ∀ l : T, (tq l).2.2 ≠ 0 → (tq l).1 = []
  | [], _ => rfl
  | c :: r, h => by
    rw [tq_cons] at h ⊢
    by_cases h1 : c.toNat = 34
    · rw [if_pos h1] at h; exact absurd rfl h
    · rw [if_neg h1] at h ⊢
      by_cases h2 : c.toNat = 10
      · rw [if_pos h2]
      · rw [if_neg h2] at h ⊢
        by_cases h3 : c.toNat = 92
        · rw [if_pos h3] at h ⊢
          cases r with
          | nil => rfl
          | cons d r' =>
            simp only at h ⊢
            by_cases h4 : d.toNat = 92 ∨ d.toNat = 34
            · rw [if_pos h4] at h ⊢
              by_cases h5 : (tq r').2.2 = 0
              · rw [if_pos h5] at h; exact absurd rfl h
              · rw [if_neg h5]
            · rw [if_neg h4] at h ⊢
              by_cases h6 : d.toNat = 110
              · rw [if_pos h6] at h ⊢
                by_cases h5 : (tq r').2.2 = 0
                · rw [if_pos h5] at h; exact absurd rfl h
                · rw [if_neg h5]
              · rw [if_neg h6]
        · rw [if_neg h3] at h ⊢
          by_cases h5 : (tq r).2.2 = 0
          · rw [if_pos h5] at h; exact absurd rfl h
          · rw [if_neg h5]
theorem comb_nil (l : T) : comb [] (tq l) = tq l := by
  unfold comb
  by_cases h : (tq l).2.2 = 0
  · rw [if_pos h, List.nil_append, ← h]
  · rw [if_neg h, ← tq_no l h]
theorem comb_push (out : T) (x : UInt8) (q : T × T × Int) : comb out (if q.2.2 = 0 then (x :: q.1, q.2.1, 0) else ([], q.2.1, q.2.2)) = comb (out ++ [x]) q := by
  unfold comb
  by_cases h : q.2.2 = 0
  · rw [if_pos h, if_pos h, if_pos rfl, List.append_assoc]; rfl
  · rw [if_neg h, if_neg h, if_neg h]
theorem comb_end (out r : T) : comb out (tq (34 :: r)) = (out, r, 0) := by
  rw [tq_cons, if_pos (by decide)]
  unfold comb
  rw [if_pos rfl, List.append_nil]
theorem comb_out (out : T) : comb out (tq []) = ([], [], 12) := by
  unfold comb tq
  rw [if_neg (by decide)]
theorem comb_lf (out r : T) : comb out (tq (10 :: r)) = ([], [], 12) := by
  rw [tq_cons, if_neg (by decide), if_pos (by decide)]
  unfold comb
  rw [if_neg (by decide)]
theorem comb_last (out : T) : comb out (tq [92]) = ([], [], 12) := by
  rw [tq_cons, if_neg (by decide), if_neg (by decide), if_pos (by decide)]
  unfold comb
  rw [if_neg (by decide)]
/-- What an octet behind a backslash stands for. -/
def mean (d : UInt8) : UInt8 × Bool := if d.toNat = 110 then (10, true) else if d.toNat = 92 ∨ d.toNat = 34 then (d, true) else (0, false)
theorem comb_back (out : T) (d : UInt8) (r : T) : comb out (tq (92 :: d :: r)) = if (mean d).2 then comb (out ++ [(mean d).1]) (tq r) else ([], 92 :: d :: r, 1) := by
  rw [tq_cons, if_neg (by decide), if_neg (by decide), if_pos (by decide)]
  show comb out (if d.toNat = 92 ∨ d.toNat = 34 then _ else _) = _
  unfold mean
  by_cases h1 : d.toNat = 110
  · rw [if_pos h1, if_neg (by omega), if_pos h1, comb_push]
    rfl
  · rw [if_neg h1]
    by_cases h2 : d.toNat = 92 ∨ d.toNat = 34
    · rw [if_pos h2, if_pos h2, if_neg h1, comb_push]
      rfl
    · rw [if_neg h2, if_neg h2, if_neg h1]
      rfl
theorem comb_plain (out : T) (c : UInt8) (r : T) (h1 : c.toNat ≠ 34) (h2 : c.toNat ≠ 10) (h3 : c.toNat ≠ 92) : comb out (tq (c :: r)) = comb (out ++ [c]) (tq r) := by
  rw [tq_cons, if_neg h1, if_neg h2, if_neg h3, comb_push]
/-- The errors of a text. -/
theorem tq_err : ∀ l : T, (tq l).2.2 = 0 ∨ (tq l).2.2 = 1 ∨ ((tq l).2.2 = 12 ∧ (tq l).2.1 = [])
  | [] => .inr (.inr ⟨rfl, rfl⟩)
  | c :: r => by
    rw [tq_cons]
    by_cases h1 : c.toNat = 34
    · rw [if_pos h1]; exact .inl rfl
    · rw [if_neg h1]
      by_cases h2 : c.toNat = 10
      · rw [if_pos h2]; exact .inr (.inr ⟨rfl, rfl⟩)
      · rw [if_neg h2]
        have step : ∀ (x : UInt8) (q : T × T × Int), (q.2.2 = 0 ∨ q.2.2 = 1 ∨ (q.2.2 = 12 ∧ q.2.1 = [])) → ((if q.2.2 = 0 then (x :: q.1, q.2.1, (0 : Int)) else ([], q.2.1, q.2.2)).2.2 = 0 ∨ (if q.2.2 = 0 then (x :: q.1, q.2.1, (0 : Int)) else ([], q.2.1, q.2.2)).2.2 = 1 ∨ ((if q.2.2 = 0 then (x :: q.1, q.2.1, (0 : Int)) else ([], q.2.1, q.2.2)).2.2 = 12 ∧ (if q.2.2 = 0 then (x :: q.1, q.2.1, (0 : Int)) else ([], q.2.1, q.2.2)).2.1 = [])) := by
          intro x q h
          by_cases h5 : q.2.2 = 0
          · rw [if_pos h5]; exact .inl rfl
          · rw [if_neg h5]
            rcases h with h | h | h
            · exact absurd h h5
            · exact .inr (.inl h)
            · exact .inr (.inr h)
        by_cases h3 : c.toNat = 92
        · rw [if_pos h3]
          cases r with
          | nil => exact .inr (.inr ⟨rfl, rfl⟩)
          | cons d r' =>
            simp only
            by_cases h4 : d.toNat = 92 ∨ d.toNat = 34
            · rw [if_pos h4]; exact step d _ (tq_err r')
            · rw [if_neg h4]
              by_cases h6 : d.toNat = 110
              · rw [if_pos h6]; exact step 10 _ (tq_err r')
              · rw [if_neg h6]; exact .inr (.inl rfl)
        · rw [if_neg h3]; exact step c _ (tq_err r)
termination_by l => l.length

/-! ### all tokens -/
theorem lex_zero_more (l : T) (h : bl false l ≠ []) : lex 0 l = ([], bl false l, 4) := by unfold lex; rw [if_neg h]
theorem lex_stop (m : Nat) (l : T) (h : bl false l = []) : lex m l = ([], [], 0) := by
  cases m <;> (unfold lex; rw [if_pos h])
theorem lex_err (m : Nat) (l : T) (h : bl false l ≠ []) {k : Nat} {s r : T} {z : Int} (ho : one (bl false l) = (k, s, r, z)) (hz : z ≠ 0) : lex (m + 1) l = ([], r, z) := by
  unfold lex; rw [if_neg h, ho, if_neg hz]
theorem lex_step (m : Nat) (l : T) (h : bl false l ≠ []) {k : Nat} {s r : T} (ho : one (bl false l) = (k, s, r, 0)) : lex (m + 1) l = ((k, (bl false l).length, s) :: (lex m r).1, (lex m r).2.1, (lex m r).2.2) := by
  conv => lhs; unfold lex
  rw [if_neg h, ho, if_pos rfl]

/-! ### joined -/
theorem join_is : ∀ l : List (Nat × T), Lib.join (l.map (fun p => txt p.1 p.2)) [32] = joinP l
  | [] => rfl
  | [p] => by rw [List.map_cons, List.map_nil, Lib.join_one]; rfl
  | p :: q :: r => by
    have ih := join_is (q :: r)
    rw [List.map_cons, List.map_cons, Lib.join_cons] at *
    rw [Lib.joinTail, List.map_cons, List.flatten_cons, joinP, ← ih, List.append_assoc]
    rfl
end Go.Proofs.YtkoeggjfdcpokaaGreatDoor.Lx
namespace Go.Proofs.YtkoeggjfdcpokaaGreatDoor
open Go.RowKit

theorem str_tl (l : Lx.T) : (str l).toList = l := by rw [Lib.toList_data]; rfl
theorem u8_back (c : UInt8) : ((c.toNat : Int)).toNat.toUInt8 = c := by
  rw [Int.toNat_natCast]
  exact UInt8.ofNat_toNat
theorem begins_of (s k : ByteArray) (l kl : Lx.T) (b : Bool) (hl : s.data.toList = l) (hk : k.data.toList = kl) (hb : Lx.bg kl l = b) (w : World) :
    Calls Tryz.prog 58 #[.string s, .string k] w fun e w' => e = .returned (.bool b) ∧ Below w.heap.size w w' := by
  subst hb hk
  cases l with
  | nil =>
    obtain rfl : s = str [] := str_of hl
    clear hl
    have hT := str_tl []
    go_enter Tryz.func58, Tryz.ntmps58
    go_wp2_with fail
    go_ret
    exact ⟨rfl, Below.refl _ _⟩
  | cons c r =>
    obtain rfl : s = str (c :: r) := str_of hl
    clear hl
    have hT := str_tl (c :: r)
    have hsz : (str (c :: r)).size = r.length + 1 := by rw [str_len]; rfl
    have hix := Lib.contains_iff_indexByte k.data.toList c
    have hc : (((str (c :: r))[0]'(by rw [hsz]; omega)).toNat : Int).toNat.toUInt8 = c := u8_back c
    go_enter Tryz.func58, Tryz.ntmps58
    go_wp2_with fail
    refine (Tryz.strings_IndexByte _ _ _).mono ?_
    rintro e w1 ⟨rfl, rfl⟩
    rw [hc]
    go_wp2_with fail
    go_ret
    refine ⟨?_, Below.refl _ _⟩
    rw [Lx.bg_cons, hix]
    rfl
/-- What the program makes of an octet behind a backslash. -/
theorem meant_of (c : UInt8) (w : World) :
    Calls Tryz.prog 90 #[.int .u8 (c.toNat : Int)] w fun e w' => e = .returned (.tuple #[.int .u8 ((Lx.mean c).1.toNat : Int), .bool (Lx.mean c).2]) ∧ Below w.heap.size w w' := by
  have h256 : c.toNat < 256 := c.toNat_lt
  have e0 : (c.toNat : Int) = 110 ↔ c.toNat = 110 := by omega
  by_cases h1 : c.toNat = 110
  · have hm : Lx.mean c = (10, true) := by unfold Lx.mean; rw [if_pos h1]
    rw [hm, h1]
    go_enter Tryz.func90, Tryz.ntmps90
    go_wp2_with fail
    go_ret2
    exact ⟨rfl, Below.refl _ _⟩
  · by_cases h2 : c.toNat = 92
    · have hm : Lx.mean c = (c, true) := by unfold Lx.mean; rw [if_neg h1, if_pos (.inl h2)]
      rw [hm, h2]
      go_enter Tryz.func90, Tryz.ntmps90
      go_wp2_with fail
      go_ret2
      exact ⟨rfl, Below.refl _ _⟩
    · by_cases h3 : c.toNat = 34
      · have hm : Lx.mean c = (c, true) := by unfold Lx.mean; rw [if_neg h1, if_pos (.inr h3)]
        rw [hm, h3]
        go_enter Tryz.func90, Tryz.ntmps90
        go_wp2_with fail
        go_ret2
        exact ⟨rfl, Below.refl _ _⟩
      · have hm : Lx.mean c = (0, false) := by unfold Lx.mean; rw [if_neg h1, if_neg (by omega)]
        rw [hm]
        obtain ⟨z, hz⟩ : ∃ z : Int, (c.toNat : Int) = z := ⟨_, rfl⟩
        have z1 : z ≠ 110 := by omega
        have z2 : z ≠ 92 := by omega
        have z3 : z ≠ 34 := by omega
        rw [hz]
        clear e0 hz
        go_enter Tryz.func90, Tryz.ntmps90
        go_wp2_with fail
        go_ret2
        exact ⟨rfl, Below.refl _ _⟩
set_option maxHeartbeats 800000 in
theorem cut_in (l : Lx.T) (hlen : l.length ≤ 1000000) (w : World) :
    Calls Tryz.prog 88 #[.string (str l), .string ⟨#[10]⟩] w fun e w' => ∃ a b, e = .returned (.tuple #[.string a, .string (str (Lx.behind l)), .bool b]) ∧ Below w.heap.size w w' := by
  have hidx : Lib.indexByte (str l).data.toList 10 = Lib.index l [10] := (Lib.index_one l 10).symm
  by_cases hi : 0 ≤ Lib.index l [10]
  · obtain ⟨n, hn⟩ : ∃ n : Nat, Lib.index l [10] = n := ⟨(Lib.index l [10]).toNat, by omega⟩
    have hb : Lx.behind l = l.drop (n + 1) := by
      unfold Lx.behind Lib.cut
      rw [if_pos hi, hn]
      rfl
    have hlt : n < l.length := by
      have h := Lib.indexByte_some (l := l) (c := 10) (o := n) (by rw [← Lib.index_one]; exact hn)
      exact (List.getElem?_eq_some_iff.1 h.1).1
    have hsz : (str l).size = l.length := str_len l
    have hcut : (str l).extract (n + 1) l.length = str (l.drop (n + 1)) := by
      apply str_of
      simp only [str, ByteArray.data_extract, Array.toList_extract, List.extract_eq_take_drop]
      exact List.take_of_length_le (by rw [List.length_drop]; exact Nat.le_refl _)
    rw [hb]
    go_enter Tryz.func88, Tryz.ntmps88
    go_wp2_with fail
    refine (Tryz.stringslite_Index_one _ _ _).mono ?_
    rintro e w1 ⟨rfl, rfl⟩
    rw [hidx, hn]
    clear hn hidx hb
    go_wp2_with fail
    go_quiet (fail)
    go_wp2_with fail
    go_ret3
    exact ⟨_, _, rfl, below_drewN _ _⟩
  · have hm : Lib.index l [10] = -1 := by
      have := Lib.indexByte_ge l 10
      rw [← Lib.index_one] at this
      omega
    have hb : Lx.behind l = [] := by
      unfold Lx.behind Lib.cut
      rw [if_neg hi]
    rw [hb]
    go_enter Tryz.func88, Tryz.ntmps88
    go_wp2_with fail
    refine (Tryz.stringslite_Index_one _ _ _).mono ?_
    rintro e w1 ⟨rfl, rfl⟩
    rw [hidx, hm]
    clear hidx hm
    go_wp2_with fail
    go_ret3
    exact ⟨_, _, rfl, Below.refl _ _⟩
/-- What stands behind the first LF. -/
theorem cut_of (s : ByteArray) (l : Lx.T) (hl : s.data.toList = l) (hs : s.size ≤ 1000000) (w : World) :
    Calls Tryz.prog 59 #[.string s, .string ⟨#[10]⟩] w fun e w' => ∃ a b, e = .returned (.tuple #[.string a, .string (str (Lx.behind l)), .bool b]) ∧ Below w.heap.size w w' := by
  obtain rfl : s = str l := str_of hl
  clear hl
  have hlen : l.length ≤ 1000000 := by rw [← str_len]; exact hs
  go_enter Tryz.func59, Tryz.ntmps59
  go_wp2_with fail
  refine (cut_in l hlen _).mono ?_
  rintro e w1 ⟨a, b, rfl, hw1⟩
  go_wp2_with fail
  go_ret3
  exact ⟨a, b, rfl, hw1⟩
theorem trimW_of (s : ByteArray) (l : Lx.T) (hl : s.data.toList = l) (w : World) :
    Calls Tryz.prog 57 #[.string s, .string ⟨#[32, 9, 13, 10]⟩] w fun e w' => e = .returned (.string (str (l.dropWhile Lx.isW))) ∧ Below w.heap.size w w' := by
  subst hl
  refine (Tryz.strings_TrimLeft s ⟨#[32, 9, 13, 10]⟩ w (by decide) (by decide)).mono fun e w' ⟨he, hw⟩ => ⟨?_, hw⟩
  rw [he, show (⟨#[32, 9, 13, 10]⟩ : ByteArray).data.toList = Lx.whiteL from rfl, Lx.trim_is _ _ Lx.white_is]
  rfl
theorem trimK_of (s k : ByteArray) (l kl : Lx.T) (f : UInt8 → Bool) (hl : s.data.toList = l) (hk : k.data.toList = kl) (hs : k.size < 4294967281) (ha : kl.all (fun b => decide (b.toNat < 128)) = true) (hf : ∀ c, kl.contains c = f c) (w : World) :
    Calls Tryz.prog 57 #[.string s, .string k] w fun e w' => e = .returned (.string (str (l.dropWhile f))) ∧ Below w.heap.size w w' := by
  subst hl hk
  refine (Tryz.strings_TrimLeft s k w hs ha).mono fun e w' ⟨he, hw⟩ => ⟨?_, hw⟩
  rw [he, Lx.trim_is _ _ hf]
  rfl
set_option maxHeartbeats 800000 in
theorem skip_of (s : ByteArray) (l : Lx.T) (hl : s.data.toList = l) (hs : l.length ≤ 1000000) (w : World) :
    Calls Tryz.prog 37 #[.string s] w fun e w' => e = .returned (.string (str (Lx.bl false l))) ∧ Below w.heap.size w w' := by
  go_enter Tryz.func37, Tryz.ntmps37
  go_wp2_with fail
  refine (trimW_of s l hl _).mono ?_
  rintro e w1 ⟨rfl, hw1⟩
  have h0 : (l.dropWhile Lx.isW).length ≤ l.length := Lx.drop_len _ _
  have hb0 := Lx.bl_drop l
  go_wp2_with fail
  go_loopg [0, 3, 4, 5] (l.dropWhile Lx.isW).length (fun g s0 s3 s4 s5 wx => ∃ m : Lx.T, s0 = .string (str (m.dropWhile Lx.isW)) ∧ (m.dropWhile Lx.isW).length = g ∧ g ≤ 1000000 ∧ Lx.bl false m = Lx.bl false l ∧ Below w.heap.size w wx)
  case atStart => exact ⟨l, rfl, rfl, by omega, rfl, hw1⟩
  case round =>
    obtain ⟨m, rfl, hg, hg6, hm, hwx⟩ := hrel
    cases hbg : Lx.bg [35] (m.dropWhile Lx.isW) with
    | false =>
      have hd := Lx.bl_done m hbg
      rw [hd, hm] at hbg ⊢
      go_wp2_with fail
      refine (begins_of _ _ (Lx.bl false l) [35] false rfl rfl hbg _).mono ?_
      rintro e w2 ⟨rfl, hw2⟩
      have hb2 := below_on hwx hw2
      go_wp2_with fail
      go_ret
      exact ⟨rfl, hb2⟩
    | true =>
      obtain ⟨hm1, hm2⟩ := Lx.bl_more hbg
      rw [Lx.bl_drop (Lx.behind _), Lx.bl_drop m, hm] at hm1
      have hsz : (str (m.dropWhile Lx.isW)).size ≤ 1000000 := by rw [str_len]; omega
      go_wp2_with fail
      refine (begins_of _ _ (m.dropWhile Lx.isW) [35] true rfl rfl hbg _).mono ?_
      rintro e w2 ⟨rfl, hw2⟩
      have hb2 := below_on hwx hw2
      go_wp2_with fail
      refine (cut_of _ (m.dropWhile Lx.isW) rfl hsz _).mono ?_
      rintro e w3 ⟨a, b, rfl, hw3⟩
      have hb3 := below_on hb2 hw3
      go_wp2_with fail
      refine (trimW_of _ (Lx.behind (m.dropWhile Lx.isW)) rfl _).mono ?_
      rintro e w4 ⟨rfl, hw4⟩
      have hb4 := below_on hb3 hw4
      go_wp2_with fail
      go_roundg ((Lx.behind (m.dropWhile Lx.isW)).dropWhile Lx.isW).length
      case measure => omega
      case rel => exact ⟨Lx.behind (m.dropWhile Lx.isW), rfl, rfl, by omega, hm1, hb4⟩
end Go.Proofs.YtkoeggjfdcpokaaGreatDoor
namespace Go.Proofs.YtkoeggjfdcpokaaGreatDoor
open Go.RowKit

/-! ### the first result's cell: a token -/
theorem lx_cell {w : World} {P : Nat} {C : Array Value} {e : TypeId} {fr : Nat × Nat} (h : w.heap[P]? = some (.cells C e fr)) (d : Nat) : w.cell? ⟨P, d, none⟩ = C[d]? := by simp [World.cell?, h]
theorem lx_frozen {w : World} {P : Nat} {C : Array Value} {e : TypeId} (h : w.heap[P]? = some (.cells C e (0, 0))) (d : Nat) : w.frozen? ⟨P, d, none⟩ = false := by simp [World.frozen?, h]
theorem lx_new (w : World) (o : Obj) : (w.alloc o).heap[w.heap.size]? = some o := by
  show (w.heap.push o)[w.heap.size]? = _
  simp
theorem info_toksize : (Tryz.prog.info? 47).map (·.size) = some 3 := by kernel_rfl
theorem load_tok (w : World) (R : Nat) (k a : Int) (S : ByteArray) (h0 : w.cell? ⟨R, 0, none⟩ = some (.int .i64 k)) (h1 : w.cell? ⟨R, 1, none⟩ = some (.int .i64 a)) (h2 : w.cell? ⟨R, 2, none⟩ = some (.string S)) :
    (loadVar 47 ⟨R, 0, none⟩).run Tryz.prog w = .ok (.agg #[.int .i64 k, .int .i64 a, .string S]) w := by
  refine run_loadVar_mid w R 0 47 [.int .i64 k, .int .i64 a, .string S] _ ?_ Tryz.underlying47 rfl info_toksize
  intro j v hv
  match j, hv with
  | 0, hv => cases hv; exact h0
  | 1, hv => cases hv; exact h1
  | 2, hv => cases hv; exact h2
theorem set_tok {w : World} {R : Nat} {a b c : Value} (x y z : Value) (h0 : w.cell? ⟨R, 0, none⟩ = some a) (h1 : w.cell? ⟨R, 1, none⟩ = some b) (h2 : w.cell? ⟨R, 2, none⟩ = some c) :
    (((w.setCell ⟨R, 0, none⟩ x).setCell ⟨R, 1, none⟩ y).setCell ⟨R, 2, none⟩ z).cell? ⟨R, 0, none⟩ = some x ∧ (((w.setCell ⟨R, 0, none⟩ x).setCell ⟨R, 1, none⟩ y).setCell ⟨R, 2, none⟩ z).cell? ⟨R, 1, none⟩ = some y ∧ (((w.setCell ⟨R, 0, none⟩ x).setCell ⟨R, 1, none⟩ y).setCell ⟨R, 2, none⟩ z).cell? ⟨R, 2, none⟩ = some z := by
  have n01 : (⟨R, 0, none⟩ : Addr) ≠ ⟨R, 1, none⟩ := by simp
  have n10 : (⟨R, 1, none⟩ : Addr) ≠ ⟨R, 0, none⟩ := by simp
  have n02 : (⟨R, 0, none⟩ : Addr) ≠ ⟨R, 2, none⟩ := by simp
  have n20 : (⟨R, 2, none⟩ : Addr) ≠ ⟨R, 0, none⟩ := by simp
  have n12 : (⟨R, 1, none⟩ : Addr) ≠ ⟨R, 2, none⟩ := by simp
  have n21 : (⟨R, 2, none⟩ : Addr) ≠ ⟨R, 1, none⟩ := by simp
  have k0 := World.cell?_setCell_same _ _ x h0
  have k1 := (World.cell?_setCell_other w _ _ x n01).trans h1
  have k2 := (World.cell?_setCell_other w _ _ x n02).trans h2
  have m0 := (World.cell?_setCell_other (w.setCell ⟨R, 0, none⟩ x) _ _ y n10).trans k0
  have m1 := World.cell?_setCell_same _ _ y k1
  have m2 := (World.cell?_setCell_other (w.setCell ⟨R, 0, none⟩ x) _ _ y n12).trans k2
  exact ⟨(World.cell?_setCell_other _ _ _ z n20).trans m0, (World.cell?_setCell_other _ _ _ z n21).trans m1, World.cell?_setCell_same _ _ z m2⟩
theorem lx_results2 {fn : Func} {p u x : Tmp} {ty : TypeId} (h : fn.results = #[.cell p ty, .tmp u, .tmp x]) (tmps : Array Value) (P : Program) (w : World) :
    (results fn tmps).run P w =
      ((asAddr (tmps.getD p undef)).run P w).andThen fun a w₁ => ((loadVar ty a).run P w₁).andThen fun v w₂ => .ok (.tuple #[v, tmps.getD u undef, tmps.getD x undef]) w₂ := by
  simp only [results, h]
  simp [Sem.run_bind, Result.andThen]

theorem tok_end {fn : Func} (hfn : fn.results = #[.cell 2 47, .tmp 3, .tmp 4]) {R : Nat} {V w : World} (hb : Below R V w) {a b c : Value} (h0 : w.cell? ⟨R, 0, none⟩ = some a) (h1 : w.cell? ⟨R, 1, none⟩ = some b) (h2 : w.cell? ⟨R, 2, none⟩ = some c)
    (k p x z : Int) (S : ByteArray) (act : Act) (t2 : act.tmps.getD 2 undef = .pointer (some ⟨R, 0, none⟩)) (t3 : act.tmps.getD 3 undef = .int .i64 x) (t4 : act.tmps.getD 4 undef = .int .i64 z) (hd : act.defers = []) :
    bodyPost Tryz.prog fn (fun e w' => e = .returned (.tuple #[.agg #[.int .i64 k, .int .i64 p, .string S], .int .i64 x, .int .i64 z]) ∧ Below R V w') Exit.ret act
      (((w.setCell ⟨R, 0, none⟩ (.int .i64 k)).setCell ⟨R, 1, none⟩ (.int .i64 p)).setCell ⟨R, 2, none⟩ (.string S)) := by
  obtain ⟨X0, X1, X2⟩ := set_tok (.int .i64 k) (.int .i64 p) (.string S) h0 h1 h2
  have hbX : Below R V (((w.setCell ⟨R, 0, none⟩ (.int .i64 k)).setCell ⟨R, 1, none⟩ (.int .i64 p)).setCell ⟨R, 2, none⟩ (.string S)) := ((hb.setCell (p := ⟨R, 0, none⟩) (Nat.le_refl _) _).setCell (p := ⟨R, 1, none⟩) (Nat.le_refl _) _).setCell (p := ⟨R, 2, none⟩) (Nat.le_refl _) _
  generalize (((w.setCell ⟨R, 0, none⟩ (.int .i64 k)).setCell ⟨R, 1, none⟩ (.int .i64 p)).setCell ⟨R, 2, none⟩ (.string S)) = X at X0 X1 X2 hbX ⊢
  refine bodyPost_ret (v := .tuple #[.agg #[.int .i64 k, .int .i64 p, .string S], .int .i64 x, .int .i64 z]) ?_ hd ⟨rfl, hbX⟩
  rw [lx_results2 hfn, t2, t3, t4]
  have hld := load_tok X R k p S X0 X1 X2
  simp [asAddr, Result.andThen, hld]

/-- A text's answer as a token's. -/
def finT (l : Lx.T) (q : Lx.T × Lx.T × Int) : Nat × Lx.T × Lx.T × Int := if q.2.2 = 0 then (3, q.1, q.2.1, 0) else if q.2.2 = 1 then (0, [], q.2.1, 1) else (0, [], l, 12)
theorem one_text (r : Lx.T) : Lx.one (34 :: r) = finT (34 :: r) (Lx.tq r) := by
  obtain ⟨q1, q2, q3⟩ := Lx.quote_not
  rw [Lx.one, if_neg (by rw [q1]; decide), if_neg (by rw [q2]; simp), if_pos (by decide)]
  rfl
theorem tail_at {l rest : Lx.T} {i : Nat} (h : l.drop i = rest) {c : UInt8} {r : Lx.T} (hr : rest = c :: r) : i < l.length ∧ l[i]? = some c ∧ l.drop (i + 1) = r := by
  subst hr
  have h1 : i < l.length := by
    rcases Nat.lt_or_ge i l.length with h' | h'
    · exact h'
    · rw [List.drop_of_length_le h'] at h; cases h
  refine ⟨h1, ?_, ?_⟩
  · have := congrArg List.head? h
    rw [List.head?_drop] at this
    exact this
  · have := congrArg List.tail h
    rw [List.tail_drop] at this
    exact this

theorem isBuilder_below {T e : TypeId} {B b : Nat} {bs : List Value} {W W' : World} (h : Lib.IsBuilder T e B b bs W) (hb : Below W.heap.size W W') : Lib.IsBuilder T e B b bs W' := by
  have one : ∀ p, Lib.BuilderAt T e B b p bs W → Lib.BuilderAt T e B b p bs W' := by
    rintro p ⟨hB, v, hbk, hown, hne⟩
    refine ⟨hB, v, (hb.block b (Array.getElem?_eq_some_iff.1 hbk).1).trans hbk, ⟨hown.1, ?_⟩, hne⟩
    rcases hown.2 with h0 | ⟨g, cap, cur, hv, hbs, hg, hr⟩
    · exact .inl h0
    · exact .inr ⟨g, cap, cur, hv, hbs, (hb.block g (Array.getElem?_eq_some_iff.1 hg).1).trans hg, hr⟩
  exact h.elim (fun x => .inl (one _ x)) (fun x => .inr (one _ x))
set_option maxHeartbeats 3200000 in
theorem text_of (s : ByteArray) (r t r' : Lx.T) (k x : Nat) (z : Int) (hl : s.data.toList = 34 :: r) (hs : r.length < 1000000) (ho : Lx.one (34 :: r) = (k, t, r', z)) (hx : x = r.length + 1 - r'.length) (w : World) :
    Calls Tryz.prog 61 #[.string s] w fun e w' => e = .returned (.tuple #[.agg #[.int .i64 (k : Int), .int .i64 0, .string (str t)], .int .i64 (x : Int), .int .i64 z]) ∧ Below w.heap.size w w' := by
  obtain rfl : s = str (34 :: r) := str_of hl
  clear hl
  rw [one_text, ← Lx.comb_nil] at ho
  have HO := Lib.hid ho
  have HX := Lib.hid hx
  clear ho hx
  have hsz : (str (34 :: r)).size = r.length + 1 := by rw [str_len]; rfl
  obtain ⟨n, hn⟩ : ∃ n, r.length = n := ⟨_, rfl⟩
  rw [hn] at hsz hs
  have HN := Lib.hid hn
  clear hn
  obtain ⟨U, hU⟩ : ∃ U, w.alloc (Obj.cells #[Value.int .i64 0, Value.int .i64 0, Value.string ⟨#[]⟩] 47) = U := ⟨_, rfl⟩
  obtain ⟨R, hR⟩ : ∃ R, w.heap.size = R := ⟨_, rfl⟩
  have hb0 : Below R w U := by rw [← hU, ← hR]; exact below_alloc w _
  have hUR : U.heap[R]? = some (.cells #[Value.int .i64 0, Value.int .i64 0, Value.string ⟨#[]⟩] 47 (0, 0)) := by rw [← hU, ← hR]; exact lx_new w _
  have hsz0 : U.heap.size = R + 1 := by rw [← hU, ← hR]; show (w.heap.push _).size = _; rw [Array.size_push]
  have hbl0 : Tryz.Bld (R + 1) (R + 1) [] (U.alloc (.cells #[.pointer none, .slice none 0 0] 94)) := by
    rw [← hsz0]
    exact Lib.fresh_isBuilder _ _ U
  have hbU0 : Below (R + 1) U (U.alloc (.cells #[.pointer none, .slice none 0 0] 94)) := by rw [← hsz0]; exact below_alloc U _
  have HB0 := Lib.hid hbl0
  clear hbl0
  rw [hR]
  go_enter Tryz.func61, Tryz.ntmps61
  go_wp2_with fail
  try rw [hU]
  go_loopg [6, 7, 8, 9] n (fun g s6 s7 s8 s9 wx => ∃ (i : Nat) (out rest : Lx.T), s6 = .int .i64 i ∧ i + g = n + 1 ∧ g = rest.length ∧ out.length ≤ i ∧ Hid ((34 :: r).drop i = rest) ∧ Hid (finT (34 :: r) (Lx.comb out (Lx.tq rest)) = (k, t, r', z)) ∧ Hid (Tryz.Bld (R + 1) (R + 1) out wx) ∧ Below (R + 1) U wx)
  case atStart => exact ⟨1, [], r, rfl, by omega, HN.out.symm, by simp, Lib.hid rfl, HO, HB0, hbU0⟩
  case round =>
    obtain ⟨i, out, rest, rfl, hi, hg, hol, HD, HI, HB, hwx⟩ := hrel
    have hszx := hwx.size
    have hxR : wr.heap[R]? = some (.cells #[Value.int .i64 0, Value.int .i64 0, Value.string ⟨#[]⟩] 47 (0, 0)) := by
      rw [hwx.block R (by omega)]; exact hUR
    have hc0 := lx_cell hxR 0
    have hc1 := lx_cell hxR 1
    have hc2 := lx_cell hxR 2
    have hf0 := lx_frozen hxR 0
    have hf1 := lx_frozen hxR 1
    have hf2 := lx_frozen hxR 2
    cases rest with
    | nil =>
      obtain rfl : gk = 0 := hg
      obtain rfl : i = n + 1 := by omega
      have h := HI.out
      rw [Lx.comb_out] at h
      have h : (0, [], 34 :: r, (12 : Int)) = (k, t, r', z) := h
      simp only [Prod.mk.injEq] at h
      obtain ⟨rfl, rfl, rfl, rfl⟩ := h
      obtain rfl : x = 0 := by have := HX.out; simp only [List.length_cons] at this; omega
      go_wp2_with fail
      exact tok_end rfl (hb0.trans (hwx.mono (Nat.le_succ _))) hc0 hc1 hc2 0 0 0 12 ⟨#[]⟩ _ rfl rfl rfl rfl
    | cons c rs =>
      obtain ⟨hlt0, hci, hdr⟩ := tail_at HD.out rfl
      have hlt : i < n + 1 := by simp only [List.length_cons] at hg; omega
      have hltz : (i : Int) < (n : Int) + 1 := by omega
      have hlts : i < (str (34 :: r)).size := by rw [hsz]; exact hlt
      have hc : (str (34 :: r))[i]'hlts = c := by
        have : (34 :: r : Lx.T)[i]'hlt0 = c := by
          rw [List.getElem?_eq_getElem hlt0] at hci
          exact Option.some.inj hci
        exact this
      have hgl : gk = rs.length + 1 := hg
      have HDR := Lib.hid hdr
      have hlr := HN.out
      clear hdr hci hg
      by_cases h34 : c.toNat = 34
      · obtain rfl : c = 34 := UInt8.toNat_inj.1 h34
        have h := HI.out
        rw [Lx.comb_end] at h
        have h : (3, out, rs, (0 : Int)) = (k, t, r', z) := h
        simp only [Prod.mk.injEq] at h
        obtain ⟨rfl, rfl, rfl, rfl⟩ := h
        have hxi : (i : Int) + 1 = (x : Int) := by have := HX.out; rw [hlr] at this; omega
        go_wp2_with fail
        refine (Tryz.Builder_String_any (R + 1) (R + 1) out _ HB.out (by omega)).mono ?_
        rintro e w2 ⟨rfl, hw2⟩
        have hx2 : w2.heap[R]? = some (.cells #[Value.int .i64 0, Value.int .i64 0, Value.string ⟨#[]⟩] 47 (0, 0)) := by
          rw [hw2.block R (by omega)]; exact hxR
        have hc0' := lx_cell hx2 0
        have hc1' := lx_cell hx2 1
        have hc2' := lx_cell hx2 2
        have hf0' := lx_frozen hx2 0
        have hf1' := lx_frozen hx2 1
        have hf2' := lx_frozen hx2 2
        have hb2 := hb0.trans ((hwx.trans hw2).mono (Nat.le_succ _))
        clear hc0 hc1 hc2 hf0 hf1 hf2
        go_wp2_with fail
        exact tok_end rfl hb2 hc0' hc1' hc2' 3 0 x 0 (str out) _ rfl rfl rfl rfl
      · by_cases h10 : c.toNat = 10
        · obtain rfl : c = 10 := UInt8.toNat_inj.1 h10
          have h := HI.out
          rw [Lx.comb_lf] at h
          have h : (0, [], 34 :: r, (12 : Int)) = (k, t, r', z) := h
          simp only [Prod.mk.injEq] at h
          obtain ⟨rfl, rfl, rfl, rfl⟩ := h
          obtain rfl : x = 0 := by have := HX.out; simp only [List.length_cons] at this; omega
          go_wp2_with fail
          exact tok_end rfl (hb0.trans (hwx.mono (Nat.le_succ _))) hc0 hc1 hc2 0 0 0 12 ⟨#[]⟩ _ rfl rfl rfl rfl
        · by_cases h92 : c.toNat = 92
          · obtain rfl : c = 92 := UInt8.toNat_inj.1 h92
            cases rs with
            | nil =>
              have h := HI.out
              rw [Lx.comb_last] at h
              have h : (0, [], 34 :: r, (12 : Int)) = (k, t, r', z) := h
              simp only [Prod.mk.injEq] at h
              obtain ⟨rfl, rfl, rfl, rfl⟩ := h
              obtain rfl : x = 0 := by have := HX.out; simp only [List.length_cons] at this; omega
              obtain rfl : gk = 1 := hgl
              obtain rfl : i = n := by omega
              go_wp2_with fail
              exact tok_end rfl (hb0.trans (hwx.mono (Nat.le_succ _))) hc0 hc1 hc2 0 0 0 12 ⟨#[]⟩ _ rfl rfl rfl rfl
            | cons d rt =>
              obtain ⟨hlt1, hdi, hdt⟩ := tail_at HDR.out rfl
              have HDT := Lib.hid hdt
              have hltd : i + 1 < n + 1 := by simp only [List.length_cons] at hgl; omega
              have hltdz : (i : Int) + 1 < (n : Int) + 1 := by omega
              have hned : ¬ ((i : Int) + 1 = (n : Int) + 1) := by omega
              have hltsd : i + 1 < (str (34 :: r)).size := by rw [hsz]; exact hltd
              have hd : (str (34 :: r))[i + 1]'hltsd = d := by
                have : (34 :: r : Lx.T)[i + 1]'hlt1 = d := by
                  rw [List.getElem?_eq_getElem hlt1] at hdi
                  exact Option.some.inj hdi
                exact this
              clear hdi hdt
              have HB3 := Lx.comb_back out d rt
              cases hmd : (Lx.mean d).2 with
              | false =>
                have h := HI.out
                rw [HB3, hmd, if_neg (by decide)] at h
                have h : (0, [], 92 :: d :: rt, (1 : Int)) = (k, t, r', z) := h
                simp only [Prod.mk.injEq] at h
                obtain ⟨rfl, rfl, rfl, rfl⟩ := h
                obtain rfl : x = i := by have := HX.out; rw [hlr] at this; simp only [List.length_cons] at this hgl; omega
                go_wp2_with fail
                refine (meant_of d _).mono ?_
                rintro e w2 ⟨rfl, hw2⟩
                rw [hmd]
                have hx2 : w2.heap[R]? = some (.cells #[Value.int .i64 0, Value.int .i64 0, Value.string ⟨#[]⟩] 47 (0, 0)) := by
                  rw [hw2.block R (by omega)]; exact hxR
                have hc0' := lx_cell hx2 0
                have hc1' := lx_cell hx2 1
                have hc2' := lx_cell hx2 2
                have hf0' := lx_frozen hx2 0
                have hf1' := lx_frozen hx2 1
                have hf2' := lx_frozen hx2 2
                have hb2 := hb0.trans ((hwx.trans (hw2.mono (by omega))).mono (Nat.le_succ _))
                clear hc0 hc1 hc2 hf0 hf1 hf2
                go_wp2_with fail
                exact tok_end rfl hb2 hc0' hc1' hc2' 0 0 x 1 ⟨#[]⟩ _ rfl rfl rfl rfl
              | true =>
                have HI2 : Hid (finT (34 :: r) (Lx.comb (out ++ [(Lx.mean d).1]) (Lx.tq rt)) = (k, t, r', z)) := Lib.hid (by have h := HI.out; rw [HB3, hmd, if_pos rfl] at h; exact h)
                obtain ⟨m, hm⟩ : ∃ m, (Lx.mean d).1 = m := ⟨_, rfl⟩
                rw [hm] at HI2
                go_wp2_with fail
                refine (meant_of d _).mono ?_
                rintro e w2 ⟨rfl, hw2⟩
                rw [hmd, hm]
                have HBL := HB.out
                clear hc0 hc1 hc2 hf0 hf1 hf2
                have hszw := hw2.size
                go_wp2_with fail
                refine (Tryz.Builder_WriteByte (R + 1) (R + 1) out m w2 ?_ (by omega) (by omega)).mono ?_
                · exact isBuilder_below HBL hw2
                rintro e w3 ⟨rfl, hbl3, hw3⟩
                have HB3' := Lib.hid hbl3
                have hb3 := (hwx.trans (hw2.mono (by omega))).trans hw3
                clear hbl3 HBL
                go_wp2_with fail
                go_roundg rt.length
                case measure => simp only [List.length_cons] at hgl; omega
                case rel =>
                  exact ⟨i + 1 + 1, out ++ [m], rt, by simp, by simp only [List.length_cons] at hgl; omega, rfl, by rw [List.length_append]; simp only [List.length_singleton]; omega, HDT, HI2, HB3', hb3⟩
          · have HI2 : Hid (finT (34 :: r) (Lx.comb (out ++ [c]) (Lx.tq rs)) = (k, t, r', z)) := Lib.hid (by rw [← Lx.comb_plain out c rs h34 h10 h92]; exact HI.out)
            go_wp2_with fail
            refine (Tryz.Builder_WriteByte (R + 1) (R + 1) out c _ HB.out (by omega) (by omega)).mono ?_
            rintro e w2 ⟨rfl, hbl2, hw2⟩
            have HB2 := Lib.hid hbl2
            clear hbl2
            go_wp2_with fail
            go_roundg rs.length
            case measure => omega
            case rel =>
              exact ⟨i + 1, out ++ [c], rs, by simp, by omega, rfl, by rw [List.length_append]; simp only [List.length_singleton]; omega, HDR, HI2, HB2, hwx.trans hw2⟩
end Go.Proofs.YtkoeggjfdcpokaaGreatDoor
namespace Go.Proofs.YtkoeggjfdcpokaaGreatDoor
open Go.RowKit

theorem trim45 (c : UInt8) (r : Lx.T) : Lib.trimPrefix (c :: r) [45] = if c.toNat = 45 then r else c :: r := by
  unfold Lib.trimPrefix Lib.hasPrefix
  by_cases h : c.toNat = 45
  · obtain rfl : c = 45 := UInt8.toNat_inj.1 h
    rw [if_pos h]
    rfl
  · have hc : ((45 : UInt8) == c) = false := by
      rw [beq_eq_false_iff_ne]
      rintro rfl
      exact h rfl
    rw [if_neg h, if_neg (by simp [List.isPrefixOf, hc])]
theorem bg_digits (c : UInt8) (r : Lx.T) : Lx.bg Lx.digitsL (Lib.trimPrefix (c :: r) [45]) = (Lx.isD c || (decide (c.toNat = 45) && Lx.hdD r)) := by
  rw [trim45]
  by_cases h : c.toNat = 45
  · obtain rfl : c = 45 := UInt8.toNat_inj.1 h
    rw [if_pos h, show Lx.isD 45 = false by decide, show decide ((45 : UInt8).toNat = 45) = true by decide, Bool.false_or, Bool.true_and]
    cases r with
    | nil => rfl
    | cons d r => exact Lx.digits_is d
  · rw [if_neg h, decide_eq_false h, Bool.false_and, Bool.or_false]
    exact Lx.digits_is c
theorem num_drop (c : UInt8) (r : Lx.T) (h : (Lx.isD c || (decide (c.toNat = 45) && Lx.hdD r)) = true) : (Lib.trimPrefix (c :: r) [45]).dropWhile Lx.numC = r.dropWhile Lx.numC := by
  rw [trim45]
  by_cases h45 : c.toNat = 45
  · rw [if_pos h45]
  · rw [decide_eq_false h45, Bool.false_and, Bool.or_false] at h
    rw [if_neg h45, List.dropWhile_cons, if_pos (by simp [Lx.numC, h])]
theorem word_drop (c : UInt8) (r : Lx.T) (h : Lx.isL c = true) : (c :: r).dropWhile Lx.wordC = r.dropWhile Lx.wordC := by
  rw [List.dropWhile_cons, if_pos (by simp [Lx.wordC, h])]
theorem take_cons (f : UInt8 → Bool) (c : UInt8) (r : Lx.T) : (c :: r).take (r.length + 1 - (r.dropWhile f).length) = c :: r.takeWhile f := by
  have h := Lx.drop_len f r
  rw [show r.length + 1 - (r.dropWhile f).length = (r.length - (r.dropWhile f).length) + 1 by omega, List.take_succ_cons, Lx.take_drop]
theorem ext_take (l : Lx.T) (x : Nat) : (str l).extract 0 x = str (l.take x) := by
  apply str_of
  simp [str]
theorem ext_tail (c : UInt8) (r : Lx.T) : (str (c :: r)).extract 1 (r.length + 1) = str r := by
  apply str_of
  simp [str]
theorem two_bg (c : UInt8) (r : Lx.T) : Lx.two c.toNat (Lx.hd r) = (Lx.widenedL.contains c && Lx.bg [61] r) := by
  cases r with
  | nil =>
    show Lx.two c.toNat 0 = (_ && false)
    rw [Bool.and_false]
    simp [Lx.two]
  | cons d r => exact (Lx.two_is c d).symm

set_option maxHeartbeats 6400000 in
theorem first_of (s : ByteArray) (c : UInt8) (r t r' : Lx.T) (k x : Nat) (z : Int) (hl : s.data.toList = c :: r) (hs : r.length < 1000000) (ho : Lx.one (c :: r) = (k, t, r', z)) (hx : x = r.length + 1 - r'.length) (w : World) :
    Calls Tryz.prog 38 #[.string s] w fun e w' => e = .returned (.tuple #[.agg #[.int .i64 (k : Int), .int .i64 0, .string (str t)], .int .i64 (x : Int), .int .i64 z]) ∧ Below w.heap.size w w' := by
  obtain rfl : s = str (c :: r) := str_of hl
  clear hl
  have HO := Lib.hid ho
  have HX := Lib.hid hx
  clear ho hx
  have hsz : (str (c :: r)).size = r.length + 1 := by rw [str_len]; rfl
  have hE1 := ext_tail c r
  obtain ⟨n, hn⟩ : ∃ n, r.length = n := ⟨_, rfl⟩
  rw [hn] at hsz hs hE1
  have HN := Lib.hid hn
  clear hn
  have h1n : (1 : Int) ≤ (n : Int) + 1 := by omega
  obtain ⟨U, hU⟩ : ∃ U, w.alloc (Obj.cells #[Value.int .i64 0, Value.int .i64 0, Value.string ⟨#[]⟩] 47) = U := ⟨_, rfl⟩
  obtain ⟨R, hR⟩ : ∃ R, w.heap.size = R := ⟨_, rfl⟩
  have hb0 : Below R w U := by rw [← hU, ← hR]; exact below_alloc w _
  have hUR : U.heap[R]? = some (.cells #[Value.int .i64 0, Value.int .i64 0, Value.string ⟨#[]⟩] 47 (0, 0)) := by rw [← hU, ← hR]; exact lx_new w _
  have hsz0 : U.heap.size = R + 1 := by rw [← hU, ← hR]; show (w.heap.push _).size = _; rw [Array.size_push]
  have fin : ∀ w1 : World, Below U.heap.size U w1 → Below R w w1 ∧ w1.heap[R]? = some (.cells #[Value.int .i64 0, Value.int .i64 0, Value.string ⟨#[]⟩] 47 (0, 0)) := by
    intro w1 h1
    exact ⟨hb0.trans (h1.mono (by omega)), by rw [h1.block R (by omega)]; exact hUR⟩
  have hpre : (⟨(Lib.trimPrefix (c :: r) [45]).toArray⟩ : ByteArray) = str (Lib.trimPrefix (c :: r) [45]) := rfl
  have FIN := Lib.hid fin
  clear hUR hb0 fin
  rw [hR]
  go_enter Tryz.func38, Tryz.ntmps38
  go_wp2_with fail
  try rw [hU]
  refine (Tryz.strings_TrimPrefix _ _ _).mono ?_
  rintro e w1 ⟨rfl, rfl⟩
  rw [show (Lib.trimPrefix (str (c :: r)).data.toList (⟨#[45]⟩ : ByteArray).data.toList) = Lib.trimPrefix (c :: r) [45] from rfl, hpre]
  obtain ⟨u, hu⟩ : ∃ u, Lib.trimPrefix (c :: r) [45] = u := ⟨_, rfl⟩
  rw [hu]
  have HU := Lib.hid hu
  clear hu hpre
  go_wp2_with fail
  cases b1 : Lx.isL c with
  | true =>
    refine (begins_of _ _ (c :: r) Lx.lettersL true rfl rfl (by rw [Lx.bg_cons, Lx.letters_is]; exact b1) _).mono ?_
    rintro e w2 ⟨rfl, hw2⟩
    have h := HO.out
    rw [Lx.one, if_pos b1] at h
    simp only [Prod.mk.injEq] at h
    obtain ⟨rfl, rfl, rfl, rfl⟩ := h
    go_wp2_with fail
    refine (trimK_of _ _ (c :: r) Lx.wordL Lx.wordC rfl rfl (by decide) (by decide) Lx.word_is _).mono ?_
    rintro e w3 ⟨rfl, hw3⟩
    rw [word_drop c r b1]
    have hszq : (str (r.dropWhile Lx.wordC)).size = (r.dropWhile Lx.wordC).length := str_len _
    obtain ⟨q, hq⟩ : ∃ q, (r.dropWhile Lx.wordC).length = q := ⟨_, rfl⟩
    have hqn : q ≤ n := by have := Lx.drop_len Lx.wordC r; have := HN.out; omega
    rw [hq] at hszq
    have hxq : x = n + 1 - q := by have := HX.out; rw [HN.out, hq] at this; exact this
    have hsub : (n : Int) + 1 - (q : Int) = (x : Int) := by omega
    have hxn : (x : Int) ≤ (n : Int) + 1 := by omega
    have hE : (str (c :: r)).extract 0 x = str (c :: r.takeWhile Lx.wordC) := by
      rw [ext_take, hxq, ← hq, ← HN.out, take_cons]
    obtain ⟨hb3, hR3⟩ := FIN.out _ (below_on hw2 hw3)
    have hc0 := lx_cell hR3 0
    have hc1 := lx_cell hR3 1
    have hc2 := lx_cell hR3 2
    have hf0 := lx_frozen hR3 0
    have hf1 := lx_frozen hR3 1
    have hf2 := lx_frozen hR3 2
    clear hq hxq
    go_wp2_with fail
    exact tok_end rfl hb3 hc0 hc1 hc2 1 0 x 0 (str (c :: r.takeWhile Lx.wordC)) _ rfl rfl rfl rfl
  | false =>
    refine (begins_of _ _ (c :: r) Lx.lettersL false rfl rfl (by rw [Lx.bg_cons, Lx.letters_is]; exact b1) _).mono ?_
    rintro e w2 ⟨rfl, hw2⟩
    go_wp2_with fail
    cases b2 : (Lx.isD c || (decide (c.toNat = 45) && Lx.hdD r)) with
    | true =>
      refine (begins_of _ _ u Lx.digitsL true rfl rfl (by rw [← HU.out, bg_digits]; exact b2) _).mono ?_
      rintro e w3 ⟨rfl, hw3⟩
      have h := HO.out
      rw [Lx.one, if_neg (by rw [b1]; decide), if_pos b2] at h
      simp only [Prod.mk.injEq] at h
      obtain ⟨rfl, rfl, rfl, rfl⟩ := h
      go_wp2_with fail
      refine (trimK_of _ _ u Lx.numL Lx.numC rfl rfl (by decide) (by decide) Lx.num_is _).mono ?_
      rintro e w4 ⟨rfl, hw4⟩
      rw [← HU.out, num_drop c r b2]
      have hszq : (str (r.dropWhile Lx.numC)).size = (r.dropWhile Lx.numC).length := str_len _
      obtain ⟨q, hq⟩ : ∃ q, (r.dropWhile Lx.numC).length = q := ⟨_, rfl⟩
      have hqn : q ≤ n := by have := Lx.drop_len Lx.numC r; have := HN.out; omega
      rw [hq] at hszq
      have hxq : x = n + 1 - q := by have := HX.out; rw [HN.out, hq] at this; exact this
      have hsub : (n : Int) + 1 - (q : Int) = (x : Int) := by omega
      have hxn : (x : Int) ≤ (n : Int) + 1 := by omega
      have hE : (str (c :: r)).extract 0 x = str (c :: r.takeWhile Lx.numC) := by
        rw [ext_take, hxq, ← hq, ← HN.out, take_cons]
      obtain ⟨hb3, hR3⟩ := FIN.out _ (below_on hw2 (below_on hw3 hw4))
      have hc0 := lx_cell hR3 0
      have hc1 := lx_cell hR3 1
      have hc2 := lx_cell hR3 2
      have hf0 := lx_frozen hR3 0
      have hf1 := lx_frozen hR3 1
      have hf2 := lx_frozen hR3 2
      clear hq hxq
      go_wp2_with fail
      exact tok_end rfl hb3 hc0 hc1 hc2 2 0 x 0 (str (c :: r.takeWhile Lx.numC)) _ rfl rfl rfl rfl
    | false =>
      refine (begins_of _ _ u Lx.digitsL false rfl rfl (by rw [← HU.out, bg_digits]; exact b2) _).mono ?_
      rintro e w3 ⟨rfl, hw3⟩
      have hb3 := below_on hw2 hw3
      clear hw2 hw3
      go_wp2_with fail
      by_cases b3 : c.toNat = 34
      · obtain rfl : c = 34 := UInt8.toNat_inj.1 b3
        refine (begins_of _ _ (34 :: r) [34] true rfl rfl rfl _).mono ?_
        rintro e w4 ⟨rfl, hw4⟩
        go_wp2_with fail
        refine (text_of _ r t r' k x z rfl (by rw [HN.out]; exact hs) HO.out HX.out _).mono ?_
        rintro e w5 ⟨rfl, hw5⟩
        obtain ⟨hb5, hR5⟩ := FIN.out _ (below_on hb3 (below_on hw4 hw5))
        have hc0 := lx_cell hR5 0
        have hc1 := lx_cell hR5 1
        have hc2 := lx_cell hR5 2
        have hf0 := lx_frozen hR5 0
        have hf1 := lx_frozen hR5 1
        have hf2 := lx_frozen hR5 2
        go_wp2_with fail
        exact tok_end rfl hb5 hc0 hc1 hc2 k 0 x z (str t) _ rfl rfl rfl rfl
      · refine (begins_of _ _ (c :: r) [34] false rfl rfl (by rw [Lx.bg_cons, Lx.lit_is]; exact decide_eq_false b3) _).mono ?_
        rintro e w4 ⟨rfl, hw4⟩
        have hb4 := below_on hb3 hw4
        clear hw4 hb3
        have hone := HO.out
        rw [Lx.one, if_neg (by rw [b1]; decide), if_neg (by rw [b2]; decide), if_neg b3, two_bg] at hone
        have HO2 := Lib.hid hone
        clear hone HO
        go_wp2_with fail
        cases b4 : Lx.widenedL.contains c with
        | false =>
          have HNO : Hid ((Lx.widenedL.contains c && Lx.bg [61] r) = false) := Lib.hid (by rw [b4]; rfl)
          rw [b4] at HNO HO2
          refine (begins_of _ _ (c :: r) Lx.widenedL false rfl rfl (by rw [Lx.bg_cons]; exact b4) _).mono ?_
          rintro e w5 ⟨rfl, hw5⟩
          have hb5 := below_on hb4 hw5
          clear hw5 hb4
          go_wp2_with fail
          cases b6 : Lx.oneS c.toNat with
          | true =>
            refine (begins_of _ _ (c :: r) Lx.signsL true rfl rfl (by rw [Lx.bg_cons, Lx.signs_is]; exact b6) _).mono ?_
            rintro e w7 ⟨rfl, hw7⟩
            have h := HO2.out
            rw [HNO.out, if_neg (by decide), if_pos b6] at h
            simp only [Prod.mk.injEq] at h
            obtain ⟨rfl, rfl, rfl, rfl⟩ := h
            obtain rfl : x = 1 := by have := HX.out; omega
            have hE : (str (c :: r)).extract 0 1 = str [c] := ext_take (c :: r) 1
            obtain ⟨hbe, hRe⟩ := FIN.out _ (below_on hb5 hw7)
            have hc0 := lx_cell hRe 0
            have hc1 := lx_cell hRe 1
            have hc2 := lx_cell hRe 2
            have hf0 := lx_frozen hRe 0
            have hf1 := lx_frozen hRe 1
            have hf2 := lx_frozen hRe 2
            go_wp2_with fail
            exact tok_end rfl hbe hc0 hc1 hc2 4 0 1 0 (str [c]) _ rfl rfl rfl rfl
          | false =>
            refine (begins_of _ _ (c :: r) Lx.signsL false rfl rfl (by rw [Lx.bg_cons, Lx.signs_is]; exact b6) _).mono ?_
            rintro e w7 ⟨rfl, hw7⟩
            have h := HO2.out
            rw [HNO.out, if_neg (by decide), if_neg (by rw [b6]; decide)] at h
            simp only [Prod.mk.injEq] at h
            obtain ⟨rfl, rfl, rfl, rfl⟩ := h
            obtain rfl : x = 0 := by have := HX.out; simp only [List.length_cons] at this; omega
            obtain ⟨hbe, hRe⟩ := FIN.out _ (below_on hb5 hw7)
            have hc0 := lx_cell hRe 0
            have hc1 := lx_cell hRe 1
            have hc2 := lx_cell hRe 2
            have hf0 := lx_frozen hRe 0
            have hf1 := lx_frozen hRe 1
            have hf2 := lx_frozen hRe 2
            go_wp2_with fail
            exact tok_end rfl hbe hc0 hc1 hc2 0 0 0 1 ⟨#[]⟩ _ rfl rfl rfl rfl
        | true =>
          rw [b4] at HO2
          refine (begins_of _ _ (c :: r) Lx.widenedL true rfl rfl (by rw [Lx.bg_cons]; exact b4) _).mono ?_
          rintro e w5 ⟨rfl, hw5⟩
          have hb5 := below_on hb4 hw5
          clear hw5 hb4
          go_wp2_with fail
          cases b5 : Lx.bg [61] r with
          | false =>
            have HNO : Hid ((true && Lx.bg [61] r) = false) := Lib.hid (by rw [b5]; rfl)
            refine (begins_of _ _ r [61] false rfl rfl b5 _).mono ?_
            rintro e w6 ⟨rfl, hw6⟩
            have hb6 := below_on hb5 hw6
            clear hw6 hb5
            go_wp2_with fail
            cases b6 : Lx.oneS c.toNat with
            | true =>
              refine (begins_of _ _ (c :: r) Lx.signsL true rfl rfl (by rw [Lx.bg_cons, Lx.signs_is]; exact b6) _).mono ?_
              rintro e w7 ⟨rfl, hw7⟩
              have h := HO2.out
              rw [HNO.out, if_neg (by decide), if_pos b6] at h
              simp only [Prod.mk.injEq] at h
              obtain ⟨rfl, rfl, rfl, rfl⟩ := h
              obtain rfl : x = 1 := by have := HX.out; omega
              have hE : (str (c :: r)).extract 0 1 = str [c] := ext_take (c :: r) 1
              obtain ⟨hbe, hRe⟩ := FIN.out _ (below_on hb6 hw7)
              have hc0 := lx_cell hRe 0
              have hc1 := lx_cell hRe 1
              have hc2 := lx_cell hRe 2
              have hf0 := lx_frozen hRe 0
              have hf1 := lx_frozen hRe 1
              have hf2 := lx_frozen hRe 2
              go_wp2_with fail
              exact tok_end rfl hbe hc0 hc1 hc2 4 0 1 0 (str [c]) _ rfl rfl rfl rfl
            | false =>
              refine (begins_of _ _ (c :: r) Lx.signsL false rfl rfl (by rw [Lx.bg_cons, Lx.signs_is]; exact b6) _).mono ?_
              rintro e w7 ⟨rfl, hw7⟩
              have h := HO2.out
              rw [HNO.out, if_neg (by decide), if_neg (by rw [b6]; decide)] at h
              simp only [Prod.mk.injEq] at h
              obtain ⟨rfl, rfl, rfl, rfl⟩ := h
              obtain rfl : x = 0 := by have := HX.out; simp only [List.length_cons] at this; omega
              obtain ⟨hbe, hRe⟩ := FIN.out _ (below_on hb6 hw7)
              have hc0 := lx_cell hRe 0
              have hc1 := lx_cell hRe 1
              have hc2 := lx_cell hRe 2
              have hf0 := lx_frozen hRe 0
              have hf1 := lx_frozen hRe 1
              have hf2 := lx_frozen hRe 2
              go_wp2_with fail
              exact tok_end rfl hbe hc0 hc1 hc2 0 0 0 1 ⟨#[]⟩ _ rfl rfl rfl rfl
          | true =>
            refine (begins_of _ _ r [61] true rfl rfl b5 _).mono ?_
            rintro e w6 ⟨rfl, hw6⟩
            have h := HO2.out
            rw [b5, if_pos (by rfl)] at h
            simp only [Prod.mk.injEq] at h
            obtain ⟨rfl, rfl, rfl, rfl⟩ := h
            have hn1 : 1 ≤ n := by
              cases r with
              | nil => simp [Lx.bg] at b5
              | cons d rr => have := HN.out; simp only [List.length_cons] at this; omega
            obtain rfl : x = 2 := by have := HX.out; rw [List.length_drop, HN.out] at this; omega
            have h2n : (2 : Int) ≤ (n : Int) + 1 := by omega
            have hE : (str (c :: r)).extract 0 2 = str (c :: r.take 1) := ext_take (c :: r) 2
            obtain ⟨hbe, hRe⟩ := FIN.out _ (below_on hb5 hw6)
            have hc0 := lx_cell hRe 0
            have hc1 := lx_cell hRe 1
            have hc2 := lx_cell hRe 2
            have hf0 := lx_frozen hRe 0
            have hf1 := lx_frozen hRe 1
            have hf2 := lx_frozen hRe 2
            go_wp2_with fail
            exact tok_end rfl hbe hc0 hc1 hc2 4 0 2 0 (str (c :: r.take 1)) _ rfl rfl rfl rfl
end Go.Proofs.YtkoeggjfdcpokaaGreatDoor
namespace Go.Proofs.YtkoeggjfdcpokaaGreatDoor
open Go.RowKit

/-- What All comes to, where `out` is told already. -/
def ansT (n : Nat) (out : List Tk) (q : List Lx.Tok × Lx.T × Int) : List Tk × Nat × Int := (out ++ q.1.map (place n), n - q.2.1.length, q.2.2)
theorem ans_nil (l : Lx.T) : ansT l.length [] (Lx.lex 65536 l) = allT l := rfl
theorem ans_stop (n m : Nat) (out : List Tk) (q : Lx.T) (h : Lx.bl false q = []) : ansT n out (Lx.lex m q) = (out, n, 0) := by
  rw [Lx.lex_stop m q h]
  simp [ansT]
theorem ans_large (n : Nat) (out : List Tk) (q : Lx.T) (h : Lx.bl false q ≠ []) : ansT n out (Lx.lex 0 q) = (out, n - (Lx.bl false q).length, 4) := by
  rw [Lx.lex_zero_more q h]
  simp [ansT]
theorem ans_err (n m : Nat) (out : List Tk) (q : Lx.T) (h : Lx.bl false q ≠ []) {k : Nat} {t r : Lx.T} {z : Int} (ho : Lx.one (Lx.bl false q) = (k, t, r, z)) (hz : z ≠ 0) : ansT n out (Lx.lex (m + 1) q) = (out, n - r.length, z) := by
  rw [Lx.lex_err m q h ho hz]
  simp [ansT]
theorem ans_step (n m : Nat) (out : List Tk) (q : Lx.T) (h : Lx.bl false q ≠ []) {k : Nat} {t r : Lx.T} (ho : Lx.one (Lx.bl false q) = (k, t, r, 0)) : ansT n out (Lx.lex (m + 1) q) = ansT n (out ++ [(k, n - (Lx.bl false q).length, str t)]) (Lx.lex m r) := by
  rw [Lx.lex_step m q h ho]
  simp [ansT, place]

theorem body_ge : ∀ s : Lx.T, s.length ≤ (Lx.body s).length
  | [] => Nat.le_refl _
  | c :: s => by
    have ih := body_ge s
    have e : Lx.body (c :: s) = Lx.esc c ++ Lx.body s := rfl
    have h1 : 1 ≤ (Lx.esc c).length := by
      unfold Lx.esc
      split
      · simp
      · split <;> simp
    rw [e, List.length_append, List.length_cons]
    omega
theorem txt_ge (k : Nat) (s : Lx.T) : s.length ≤ (Lx.txt k s).length := by
  unfold Lx.txt
  split
  · have := body_ge s
    simp only [Lx.quote, List.length_cons, List.length_append]
    omega
  · exact Nat.le_refl _
theorem ext_drop (l : Lx.T) (i n : Nat) (h : l.length = n) : (str l).extract i n = str (l.drop i) := by
  subst h
  apply str_of
  simp only [str, ByteArray.data_extract, Array.toList_extract, List.extract_eq_take_drop]
  exact List.take_of_length_le (by rw [List.length_drop]; exact Nat.le_refl _)
theorem below_alloc2 (w : World) (o o' : Obj) : Below w.heap.size w ((w.alloc o).alloc o') := ((Below.refl _ _).alloc (Nat.le_refl _) o).alloc (by show _ ≤ (w.heap.push o).size; rw [Array.size_push]; omega) o'
set_option maxHeartbeats 6400000 in
theorem all_of : AllTC := by
  intro s l ts q x z hs hl ha hq w
  obtain rfl : s = str l := str_of hl
  clear hl
  obtain ⟨n, hn⟩ : ∃ n, l.length = n := ⟨_, rfl⟩
  have hsz : (str l).size = n := by rw [str_len, hn]
  rw [hsz] at hs
  have HA : Hid (ansT n [] (Lx.lex 65536 l) = (ts, x, z)) := Lib.hid (by rw [← hn, ans_nil]; exact ha)
  have HQ := Lib.hid hq
  have HN := Lib.hid hn
  clear ha hq
  go_enter Tryz.func22, Tryz.ntmps22
  go_wp2_with fail
  refine (skip_of _ l rfl (by omega) _).mono ?_
  rintro e w1 ⟨rfl, hw1⟩
  have hbl := Lx.bl_len false l
  go_wp2_with fail
  go_loopg [5, 6, 7, 8, 9, 10] (Lx.bl false l).length (fun g s5 s6 s7 s8 s9 s10 wx => ∃ (out : List Tk) (m : Nat) (p : Lx.T), s6 = .string (str (Lx.bl false p)) ∧ g = (Lx.bl false p).length ∧ g ≤ n ∧ out.length + m = 65536 ∧ Hid (OwnT wx w.heap.size s5 out) ∧ Hid (∀ t ∈ out, t.2.2.size ≤ 9223372036854775807) ∧ Hid (ansT n out (Lx.lex m p) = (ts, x, z)) ∧ Below w.heap.size w wx)
  case atStart => exact ⟨[], 65536, l, rfl, rfl, by omega, rfl, Lib.hid (OwnT.nil _ _), Lib.hid (by simp), HA, hw1⟩
  case round =>
    obtain ⟨out, m, p, rfl, hg, hgn, hom, HO, HZ, HI, hwx⟩ := hrel
    obtain ⟨X, cx, rfl, hcx⟩ := OwnT.slice HO.out
    have hol : out.length ≤ 65536 := by omega
    have hrt := OwnT.rt HO.out (by omega) HZ.out
    have HRT := Lib.hid hrt
    have HCX := Lib.hid hcx
    clear hrt hcx
    obtain ⟨o, ho⟩ : ∃ o, out.length = o := ⟨_, rfl⟩
    rw [ho] at hom hol HCX HO
    rw [ho]
    have HOL := Lib.hid ho
    clear ho
    cases hb : Lx.bl false p with
    | nil =>
      have h := HI.out
      rw [ans_stop n m out p hb] at h
      simp only [Prod.mk.injEq] at h
      obtain ⟨rfl, rfl, rfl⟩ := h
      obtain rfl : q = o := by rw [HQ.out]; exact HOL.out
      have hT := str_tl []
      go_wp2_with fail
      go_ret3
      exact ⟨X, cx, rfl, HRT, HCX, hwx⟩
    | cons c r =>
      have hne : Lx.bl false p ≠ [] := by rw [hb]; simp
      have hT := str_tl (c :: r)
      have hszr : (str (c :: r)).size = r.length + 1 := by rw [str_len]; rfl
      have hgr : gk = r.length + 1 := by rw [hg, hb]; rfl
      obtain ⟨v, hv⟩ : ∃ v, r.length = v := ⟨_, rfl⟩
      rw [hv] at hszr hgr
      have HV := Lib.hid hv
      clear hv
      obtain ⟨a, hat⟩ : ∃ a : Nat, n = a + (v + 1) := ⟨n - (v + 1), by omega⟩
      have hatz : (n : Int) - ((v : Int) + 1) = (a : Int) := by omega
      cases m with
      | zero =>
        have h := HI.out
        rw [ans_large n out p hne, hb, List.length_cons, HV.out, show n - (v + 1) = a by omega] at h
        simp only [Prod.mk.injEq] at h
        obtain ⟨rfl, rfl, rfl⟩ := h
        obtain rfl : q = o := by rw [HQ.out]; exact HOL.out
        obtain rfl : q = 65536 := by omega
        go_wp2_with fail
        go_ret3
        exact ⟨X, cx, rfl, HRT, HCX, hwx⟩
      | succ m =>
        have hne6 : ((o : Int) == 65536) = false := by rw [beq_eq_false_iff_ne]; omega
        rcases hone : Lx.one (c :: r) with ⟨k, tx, r', y⟩
        have hone' : Lx.one (Lx.bl false p) = (k, tx, r', y) := by rw [hb]; exact hone
        have hr'1 : r'.length ≤ v + 1 := by
          by_cases hy : y = 0
          · subst hy
            have := Lx.one_shorter hone
            have := HV.out
            simp only [List.length_cons] at *
            omega
          · obtain ⟨⟨pp, hpp⟩, _, _⟩ := Lx.one_err (by simp) hone hy
            have := congrArg List.length hpp
            have := HV.out
            simp only [List.length_append, List.length_cons] at *
            omega
        obtain ⟨y2, hy2⟩ : ∃ y2 : Nat, v + 1 - r'.length = y2 := ⟨_, rfl⟩
        have HONE := Lib.hid hone
        have HR' := Lib.hid hr'1
        have HY2 := Lib.hid hy2
        clear hone hr'1 hy2
        go_wp2_with fail
        refine (first_of _ c r tx r' k y2 y rfl (by have := HV.out; omega) HONE.out (by rw [HV.out, HY2.out]) _).mono ?_
        rintro e w2 ⟨rfl, hw2⟩
        have hb2 := below_on hwx hw2
        have hsz2 := hb2.size
        by_cases hy : y = 0
        · subst hy
          have hxx := HI.out
          rw [ans_step n m out p hne hone', hb, List.length_cons, HV.out, show n - (v + 1) = a by omega] at hxx
          have HI2 := Lib.hid hxx
          have hsrc := Lx.one_src HONE.out
          have htl : tx.length ≤ v + 1 := by
            have h1 := txt_ge k tx
            have h2 := congrArg List.length hsrc
            have := HV.out
            rw [List.length_append, List.length_cons] at h2
            omega
          have hdrop : (c :: r).drop y2 = r' := by
            have hl2 := congrArg List.length hsrc
            have := HV.out
            have := HY2.out
            have := HR'.out
            rw [List.length_append, List.length_cons] at hl2
            rw [hsrc, show y2 = (Lx.txt k tx).length by omega, List.drop_left]
          have hext : (str (c :: r)).extract y2 (v + 1) = str r' := by
            rw [ext_drop _ y2 (v + 1) (by rw [List.length_cons, HV.out]), hdrop]
          have hy2v : (y2 : Int) ≤ (v : Int) + 1 := by have := HY2.out; omega
          have hlb := Lx.bl_len false r'
          have hpos : 0 < y2 := by
            have h1 := Lx.one_shorter HONE.out
            have := HY2.out
            have := HV.out
            rw [List.length_cons] at h1
            omega
          have hry : r'.length + y2 = v + 1 := by have := HY2.out; have := HR'.out; omega
          clear hsrc hdrop
          have htx : (str tx).size ≤ 9223372036854775807 := by rw [str_len]; omega
          have hHO := OwnT.below HO.out hw2
          have HO2 := Lib.hid hHO
          have hV : (w2.alloc (.cells #[.int .i64 (k : Int), .int .i64 (a : Int), .string (str tx)] 47)).heap.size = w2.heap.size + 1 := Array.size_push _
          have hrn := rt_new (w2.alloc (.cells #[.int .i64 (k : Int), .int .i64 (a : Int), .string (str tx)] 47)) k a (str tx) htx
          rw [hV] at hrn
          have HRN := Lib.hid hrn
          have hbe := (hb2.alloc hsz2 (.cells #[.int .i64 (k : Int), .int .i64 (a : Int), .string (str tx)] 47)).alloc (by rw [hV]; omega) (.cells #[.int .i64 (k : Int), .int .i64 (a : Int), .string (str tx)] 47)
          have hbs : w.heap.size ≤ ((w2.alloc (.cells #[.int .i64 (k : Int), .int .i64 (a : Int), .string (str tx)] 47)).alloc (.cells #[.int .i64 (k : Int), .int .i64 (a : Int), .string (str tx)] 47)).heap.size := by
            have : ((w2.alloc (.cells #[.int .i64 (k : Int), .int .i64 (a : Int), .string (str tx)] 47)).alloc (.cells #[.int .i64 (k : Int), .int .i64 (a : Int), .string (str tx)] 47)).heap.size = (w2.alloc (.cells #[.int .i64 (k : Int), .int .i64 (a : Int), .string (str tx)] 47)).heap.size + 1 := Array.size_push _
            rw [hV] at this
            omega
          clear hHO hrn hV hxx
          go_wp2_with (at_builtin; refine wp_appt _ rfl _ _ rfl w.heap.size _ out [(k, a, str tx)] rfl (OwnT.below HO2.out (below_alloc2 _ _ _)) _ 1 1 rfl rfl HRN.out (by have := HOL.out; simp only [List.length_singleton]; omega) hbs ?_; intro v3 w3 hown3 hb3)
          have hbf := hbe.trans hb3
          clear hbe hb3
          refine (skip_of _ r' rfl (by omega) _).mono ?_
          rintro e w4 ⟨rfl, hw4⟩
          have hHO3 := OwnT.below hown3 hw4
          have HO3 := Lib.hid hHO3
          have hb4 := below_on hbf hw4
          clear hHO3 hown3 hbf hw4
          go_wp2_with fail
          go_roundg (Lx.bl false r').length
          case measure => omega
          case rel => exact ⟨out ++ [(k, a, str tx)], m, r', rfl, rfl, by omega, by rw [List.length_append, List.length_singleton, HOL.out]; omega, HO3, Lib.hid (by
            intro u hu
            rcases List.mem_append.1 hu with hu | hu
            · exact HZ.out u hu
            · rw [List.mem_singleton] at hu
              subst hu
              exact htx), HI2, hb4⟩
        · have h := HI.out
          rw [ans_err n m out p hne hone' hy] at h
          simp only [Prod.mk.injEq] at h
          obtain ⟨rfl, hxx, rfl⟩ := h
          obtain rfl : q = o := by rw [HQ.out]; exact HOL.out
          have hax : (a : Int) + (y2 : Int) = (x : Int) := by have := HY2.out; have := HR'.out; omega
          have hyb : (y != 0) = true := by simpa using hy
          have hxb : (x : Int) ≤ 1000000 := by have := HY2.out; omega
          clear hy hxx
          go_wp2_with fail
          go_ret3
          exact ⟨X, cx, rfl, Lib.hid (HRT.out.on (hw2.alloc hw2.size _)), HCX, hb2.alloc hsz2 _⟩
end Go.Proofs.YtkoeggjfdcpokaaGreatDoor
namespace Go.Proofs.YtkoeggjfdcpokaaGreatDoor
open Go.RowKit

theorem body_cons (c : UInt8) (r : Lx.T) : Lx.body (c :: r) = Lx.esc c ++ Lx.body r := rfl
theorem body_le2 : ∀ s : Lx.T, (Lx.body s).length ≤ 2 * s.length
  | [] => Nat.le_refl _
  | c :: s => by
    have ih := body_le2 s
    have h1 : (Lx.esc c).length ≤ 2 := by
      unfold Lx.esc
      split
      · simp
      · split <;> simp
    rw [body_cons, List.length_append, List.length_cons]
    omega
set_option maxHeartbeats 3200000 in
theorem quote_of : QuoteC := by
  intro s S hs hS w
  obtain ⟨l, hl⟩ : ∃ l, s.data.toList = l := ⟨_, rfl⟩
  rw [hl] at hS
  obtain rfl : s = str l := str_of hl
  clear hl
  obtain ⟨n, hn⟩ : ∃ n, l.length = n := ⟨_, rfl⟩
  have hsz : (str l).size = n := by rw [str_len, hn]
  rw [hsz] at hs
  have HS := Lib.hid hS
  have HN := Lib.hid hn
  clear hS hn
  have hbl0 := Lib.fresh_isBuilder 94 5 w
  have hbB : Below w.heap.size w (w.alloc (.cells #[.pointer none, .slice none 0 0] 94)) := below_alloc w _
  obtain ⟨B, hB⟩ : ∃ B, w.heap.size = B := ⟨_, rfl⟩
  rw [hB] at hbl0 hbB ⊢
  obtain ⟨V, hV⟩ : ∃ V, w.alloc (.cells #[.pointer none, .slice none 0 0] 94) = V := ⟨_, rfl⟩
  rw [hV] at hbl0 hbB
  have hVs := hbB.size
  have HB0 := Lib.hid hbl0
  clear hbl0
  go_enter Tryz.func52, Tryz.ntmps52
  go_wp2_with fail
  try rw [hV]
  refine (Tryz.Builder_WriteByte B B [] 34 V HB0.out (by simp) (by omega)).mono ?_
  rintro e w1 ⟨rfl, hbl1, hw1⟩
  have HB1 := Lib.hid hbl1
  have hb1 := hbB.trans hw1
  clear hbl1 hw1
  go_wp2_with fail
  go_loopg [4, 5, 9] n (fun g s4 s5 s9 wx => ∃ (i : Nat) (out rest : Lx.T), s9 = .int .i64 i ∧ i + g = n ∧ g = rest.length ∧ out.length ≤ 2 * i + 1 ∧ Hid (l.drop i = rest) ∧ Hid (out ++ (Lx.body rest ++ [34]) = Lx.quote l) ∧ Hid (Tryz.Bld B B out wx) ∧ Below B w wx)
  case atStart => exact ⟨0, [34], l, rfl, by omega, HN.out.symm, by simp, Lib.hid rfl, Lib.hid rfl, HB1, hb1⟩
  case round =>
    obtain ⟨i, out, rest, rfl, hi, hg, hol, HD, HI, HB, hwx⟩ := hrel
    have hszx := hwx.size
    cases rest with
    | nil =>
      obtain rfl : gk = 0 := hg
      obtain rfl : i = n := by omega
      go_wp2_with fail
      refine (Tryz.Builder_WriteByte B B out 34 _ HB.out (by omega) (by omega)).mono ?_
      rintro e w2 ⟨rfl, hbl2, hw2⟩
      have HB2 := Lib.hid hbl2
      have hb2 := hwx.trans hw2
      clear hbl2
      go_wp2_with fail
      refine (Tryz.Builder_String_any B B (out ++ [34]) _ HB2.out (by have := hb2.size; omega)).mono ?_
      rintro e w3 ⟨rfl, hw3⟩
      go_wp2_with fail
      go_ret
      refine ⟨?_, hb2.trans hw3⟩
      have h := HI.out
      rw [show Lx.body [] = [] from rfl, List.nil_append, ← HS.out] at h
      have e : S = ⟨(out ++ [34]).toArray⟩ := str_of h.symm
      rw [e]
      rfl
    | cons c rs =>
      obtain ⟨hlt0, hci, hdr⟩ := tail_at HD.out rfl
      have hlt : i < n := by simp only [List.length_cons] at hg; omega
      have hltz : (i : Int) < (n : Int) := by omega
      have hlts : i < (str l).size := by rw [hsz]; exact hlt
      have hc : (str l)[i]'hlts = c := by
        have : l[i]'hlt0 = c := by
          rw [List.getElem?_eq_getElem hlt0] at hci
          exact Option.some.inj hci
        exact this
      have hgl : gk = rs.length + 1 := hg
      have HDR := Lib.hid hdr
      clear hdr hci hg
      by_cases h10 : c.toNat = 10
      · obtain rfl : c = 10 := UInt8.toNat_inj.1 h10
        have HI2 : Hid ((out ++ [92, 110]) ++ (Lx.body rs ++ [34]) = Lx.quote l) := Lib.hid (by rw [← HI.out, body_cons]; simp [Lx.esc])
        go_wp2_with fail
        refine (Tryz.Builder_WriteString B B out [92, 110] _ rfl _ HB.out (by simp only [List.length_cons, List.length_nil]; omega) (by omega)).mono ?_
        rintro e w2 ⟨rfl, hbl2, hw2⟩
        have HB2 := Lib.hid hbl2
        have hb2 := hwx.trans hw2
        clear hbl2
        go_wp2_with fail
        go_roundg rs.length
        case measure => omega
        case rel => exact ⟨i + 1, out ++ [92, 110], rs, by simp, by omega, rfl, by simp only [List.length_append, List.length_cons, List.length_nil]; omega, HDR, HI2, HB2, hb2⟩
      · by_cases h2 : c.toNat = 92 ∨ c.toNat = 34
        · have HI2 : Hid (((out ++ [92]) ++ [c]) ++ (Lx.body rs ++ [34]) = Lx.quote l) := Lib.hid (by rw [← HI.out, body_cons, Lx.esc, if_pos h2]; simp)
          have h2' : c = 92 ∨ c = 34 := h2.imp (fun h => UInt8.toNat_inj.1 h) (fun h => UInt8.toNat_inj.1 h)
          rcases h2' with rfl | rfl
          · go_wp2_with fail
            refine (Tryz.Builder_WriteByte B B out 92 _ HB.out (by omega) (by omega)).mono ?_
            rintro e w2 ⟨rfl, hbl2, hw2⟩
            have HB2 := Lib.hid hbl2
            have hb2 := hwx.trans hw2
            have hs2 := hb2.size
            clear hbl2
            go_wp2_with fail
            refine (Tryz.Builder_WriteByte B B (out ++ [92]) 92 _ HB2.out (by simp only [List.length_append, List.length_cons, List.length_nil]; omega) (by omega)).mono ?_
            rintro e w3 ⟨rfl, hbl3, hw3⟩
            have HB3 := Lib.hid hbl3
            have hb3 := hb2.trans hw3
            clear hbl3
            go_wp2_with fail
            go_roundg rs.length
            case measure => omega
            case rel => exact ⟨i + 1, _, rs, by simp, by omega, rfl, by simp only [List.length_append, List.length_cons, List.length_nil]; omega, HDR, HI2, HB3, hb3⟩
          · go_wp2_with fail
            refine (Tryz.Builder_WriteByte B B out 92 _ HB.out (by omega) (by omega)).mono ?_
            rintro e w2 ⟨rfl, hbl2, hw2⟩
            have HB2 := Lib.hid hbl2
            have hb2 := hwx.trans hw2
            have hs2 := hb2.size
            clear hbl2
            go_wp2_with fail
            refine (Tryz.Builder_WriteByte B B (out ++ [92]) 34 _ HB2.out (by simp only [List.length_append, List.length_cons, List.length_nil]; omega) (by omega)).mono ?_
            rintro e w3 ⟨rfl, hbl3, hw3⟩
            have HB3 := Lib.hid hbl3
            have hb3 := hb2.trans hw3
            clear hbl3
            go_wp2_with fail
            go_roundg rs.length
            case measure => omega
            case rel => exact ⟨i + 1, _, rs, by simp, by omega, rfl, by simp only [List.length_append, List.length_cons, List.length_nil]; omega, HDR, HI2, HB3, hb3⟩
        · have HI2 : Hid ((out ++ [c]) ++ (Lx.body rs ++ [34]) = Lx.quote l) := Lib.hid (by rw [← HI.out, body_cons, Lx.esc, if_neg h2, if_neg h10]; simp)
          have n92 : c.toNat ≠ 92 := fun h => h2 (.inl h)
          have n34 : c.toNat ≠ 34 := fun h => h2 (.inr h)
          clear h2
          go_wp2_with fail
          refine (Tryz.Builder_WriteByte B B out c _ HB.out (by omega) (by omega)).mono ?_
          rintro e w2 ⟨rfl, hbl2, hw2⟩
          have HB2 := Lib.hid hbl2
          have hb2 := hwx.trans hw2
          clear hbl2
          go_wp2_with fail
          go_roundg rs.length
          case measure => omega
          case rel => exact ⟨i + 1, out ++ [c], rs, by simp, by omega, rfl, by simp only [List.length_append, List.length_cons, List.length_nil]; omega, HDR, HI2, HB2, hb2⟩
end Go.Proofs.YtkoeggjfdcpokaaGreatDoor

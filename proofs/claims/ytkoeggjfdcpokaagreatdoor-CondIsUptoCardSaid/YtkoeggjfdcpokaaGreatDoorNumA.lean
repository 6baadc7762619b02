/-
  What the walks of layer num ask of the world (the table of powers of ten, one variable of the library's), that it outlives what a call does, and the library's contracts said over it.
  The walk of num.Sane.
  The walk of num.digits, over any text: all digits, or not.
  The walks of num.printUnsigned and num.Print: what is answered is the text of Np.printS.
  The walk of num.Parse: what is answered is Np.parseS of the text's octets.
-/
import Derived.Test.YtkoeggjfdcpokaaGreatDoorMemA
import Derived.Test.YtkoeggjfdcpokaaGreatDoorPlnA
import Derived.Test.YtkoeggjfdcpokaaGreatDoorShelf
import Derived.WalkKit
import Derived.WalkSpells
import Derived.WalkLawsBesides
import Derived.BigCall
import Derived.Lib.Strings
import Derived.Lib.ItoaWalk
import Derived.Lib.LaidTab
import Derived.Lib.Hide
import Derived.Sort.Grow
import Derived.Test.YtkoeggjfdcpokaaGreatDoorProg
import Derived.Lib.OthersKept
import Derived.Laws.RangeAny
import Derived.Lib.SmallJoins
import Derived.Lib.Split
import Derived.Lib.Explode
namespace Go.Proofs.YtkoeggjfdcpokaaGreatDoor
open Go.RowKit

/-- What the library reads. -/
def Ok (w : World) : Prop :=
  Lib.TabIs Tryz.prog w "internal/strconv.uint64pow10" .u64 Lib.pow10Tab ∧ ∃ m : Int, w.cell? ⟨2, 0, none⟩ = some (.int .i64 m)

theorem var_lt {P : Program} {w : World} {name : String} {cs : Array Value} (h : w.var? P name = some cs) : ∃ g, P.globalNamed name = some g ∧ g < w.heap.size := by
  unfold World.var? at h
  cases hg : P.globalNamed name with
  | none => simp [hg] at h
  | some g =>
    refine ⟨g, rfl, ?_⟩
    rcases Nat.lt_or_ge g w.heap.size with h' | h'
    · exact h'
    · simp only [hg, Option.bind_some] at h
      rw [Array.getElem?_eq_none h'] at h; simp at h
theorem var_below {P : Program} {w w' : World} {name : String} {cs : Array Value} (h : w.var? P name = some cs) (hb : Below w.heap.size w w') : w'.var? P name = some cs := by
  obtain ⟨g, hg, hlt⟩ := var_lt h
  unfold World.var? at *
  simp only [hg, Option.bind_some] at h ⊢
  rw [hb.block g hlt]; exact h
theorem Ok.on {w w' : World} (h : Ok w) (hb : Below w.heap.size w w') : Ok w' := by
  obtain ⟨h1, m, h2⟩ := h
  refine ⟨var_below h1 hb, m, ?_⟩
  rw [hb.cell (p := ⟨2, 0, none⟩) (cell_lt h2)]; exact h2
theorem itoa_any (n : Int) (h0 : 0 ≤ n) (h1 : n ≤ 9007199254740992) (w : World) (hok : Ok w) :
    Calls Tryz.prog 81 #[.int .i64 n] w fun e w' => e = .returned (.string ⟨(Lib.decDigits n.toNat).toArray⟩) ∧ Below w.heap.size w w' := by
  refine (Tryz.strconv_Itoa n (by omega) (by omega) w hok.1).mono ?_
  rintro e w' ⟨rfl, k, os, rfl⟩
  obtain ⟨u, rfl⟩ := Int.eq_ofNat_of_zero_le h0
  refine ⟨?_, below_grow w k os⟩
  rw [Lib.itoa_nonneg]; rfl
theorem nd_le : ∀ (k u : Nat), u < 10 ^ (k + 1) → Lib.nDigits u ≤ k + 1
  | 0, u, h => by rw [Lib.nDigits_small (by simpa using h)]; exact Nat.le_refl _
  | k + 1, u, h => by
    by_cases h10 : u < 10
    · rw [Lib.nDigits_small h10]; omega
    · rw [Lib.nDigits_big h10]
      have := nd_le k (u / 10) (by rw [Nat.pow_succ] at h; omega)
      omega
/-- The same, the text under a name. -/
theorem itoa_str (n : Int) (h0 : 0 ≤ n) (h1 : n ≤ 9007199254740992) (w : World) (hok : Ok w) :
    Calls Tryz.prog 81 #[.int .i64 n] w fun e w' => ∃ S : ByteArray, e = .returned (.string S) ∧ (1 ≤ S.size ∧ S.size ≤ 16) ∧ Hid (S.data.toList = Lib.decDigits n.toNat) ∧ Below w.heap.size w w' := by
  refine (itoa_any n h0 h1 w hok).mono ?_
  rintro e w' ⟨rfl, hb⟩
  refine ⟨_, rfl, ?_, Lib.hid (by simp), hb⟩
  have h1 := Lib.nDigits_pos n.toNat
  have h2 := nd_le 15 n.toNat (by omega)
  rw [Lib.size_eq]
  simp only [Lib.decDigits_length]
  exact ⟨h1, h2⟩
theorem cut_any (b : ByteArray) (hb : b.size < 4294967281) (w : World) (hok : Ok w) :
    Calls Tryz.prog 59 #[.string b, .string ⟨#[46]⟩] w fun e w' =>
      e = .returned (.tuple #[.string ⟨(Np.whole b.data.toList).toArray⟩, .string ⟨((Np.rest b.data.toList).tail).toArray⟩, .bool (!(Np.rest b.data.toList).isEmpty)]) ∧ Below w.heap.size w w' := by
  obtain ⟨m, hm⟩ := hok.2
  refine (Tryz.strings_Cut b ⟨#[46]⟩ m w hb hm).mono ?_
  rintro e w' ⟨rfl, n, rfl⟩
  refine ⟨?_, below_drewN w n⟩
  have e1 : (⟨#[46]⟩ : ByteArray).data.toList = [46] := rfl
  rw [e1, Np.cut_dot]
/-- The same by cases, the texts under names. -/
theorem cut_plain (L : List UInt8) (hL : L.length ≤ 2000000) (h : Np.rest L = []) (w : World) (hok : Ok w) :
    Calls Tryz.prog 59 #[.string ⟨L.toArray⟩, .string ⟨#[46]⟩] w fun e w' => ∃ W : ByteArray,
      e = .returned (.tuple #[.string W, .string ⟨#[]⟩, .bool false]) ∧ W.size ≤ 2000000 ∧ Hid (W.data.toList = Np.whole L) ∧ Below w.heap.size w w' := by
  refine (cut_any ⟨L.toArray⟩ (by rw [Lib.size_eq]; simp; omega) w hok).mono ?_
  rintro e w' ⟨rfl, hb⟩
  have e1 : (⟨L.toArray⟩ : ByteArray).data.toList = L := by simp
  refine ⟨⟨(Np.whole L).toArray⟩, ?_, ?_, Lib.hid (by simp), hb⟩
  · rw [e1, h]; rfl
  · rw [Lib.size_eq]; simp only
    exact Nat.le_trans (List.takeWhile_sublist _).length_le hL
theorem cut_point (L : List UInt8) (hL : L.length ≤ 2000000) (x : UInt8) (p : List UInt8) (h : Np.rest L = x :: p) (w : World) (hok : Ok w) :
    Calls Tryz.prog 59 #[.string ⟨L.toArray⟩, .string ⟨#[46]⟩] w fun e w' => ∃ W Q : ByteArray,
      e = .returned (.tuple #[.string W, .string Q, .bool true]) ∧ (W.size ≤ 2000000 ∧ Q.size ≤ 2000000 ∧ Q.size = p.length) ∧ Hid (W.data.toList = Np.whole L) ∧ Hid (Q.data.toList = p) ∧ Below w.heap.size w w' := by
  refine (cut_any ⟨L.toArray⟩ (by rw [Lib.size_eq]; simp; omega) w hok).mono ?_
  rintro e w' ⟨rfl, hb⟩
  have e1 : (⟨L.toArray⟩ : ByteArray).data.toList = L := by simp
  have hp : p.length ≤ 2000000 := by
    have h1 : (Np.rest L).length ≤ L.length := (List.dropWhile_sublist _).length_le
    rw [h] at h1; simp at h1; omega
  refine ⟨⟨(Np.whole L).toArray⟩, ⟨p.toArray⟩, ?_, ⟨?_, ?_, ?_⟩, Lib.hid (by simp), Lib.hid (by simp), hb⟩
  · rw [e1, h]; rfl
  · rw [Lib.size_eq]; simp only
    exact Nat.le_trans (List.takeWhile_sublist _).length_le hL
  · rw [Lib.size_eq]; simpa using hp
  · rw [Lib.size_eq]
theorem cutPrefix_any (s : ByteArray) (w : World) :
    Calls Tryz.prog 93 #[.string s, .string ⟨#[45]⟩] w fun e w' =>
      e = .returned (.tuple #[.string ⟨(Np.body s.data.toList).toArray⟩, .bool (Np.neg s.data.toList)]) ∧ w = w' := by
  refine (Tryz.strings_CutPrefix s ⟨#[45]⟩ w).mono ?_
  rintro e w' ⟨rfl, rfl⟩
  have e1 : (⟨#[45]⟩ : ByteArray).data.toList = [45] := rfl
  have h1 : Lib.hasPrefix s.data.toList [45] = Np.neg s.data.toList := by
    unfold Lib.hasPrefix Np.neg
    cases s.data.toList with
    | nil => rfl
    | cons c t =>
      simp only [List.isPrefixOf, List.head?_cons, Bool.and_true]
      by_cases h : c = 45
      · subst h; rfl
      · have h' : ¬ 45 = c := fun e => h e.symm
        have a1 : ((45 : UInt8) == c) = false := by simpa using h'
        have a2 : (some c == some (45 : UInt8)) = false := by simpa using h
        rw [a1, a2]
  have h2 : Lib.trimPrefix s.data.toList [45] = Np.body s.data.toList := by
    unfold Lib.trimPrefix Np.body
    rw [h1]
    cases s.data.toList <;> rfl
  rw [e1, h1, h2]
  exact ⟨rfl, rfl⟩

theorem str_append (a b : List UInt8) : (⟨a.toArray⟩ : ByteArray) ++ ⟨b.toArray⟩ = ⟨(a ++ b).toArray⟩ := by
  have h : ((⟨a.toArray⟩ : ByteArray) ++ ⟨b.toArray⟩).data = (a ++ b).toArray := by
    rw [ByteArray.data_append]; simp
  cases hx : ((⟨a.toArray⟩ : ByteArray) ++ ⟨b.toArray⟩) with
  | mk d => rw [hx] at h; simp at h; rw [h]
end Go.Proofs.YtkoeggjfdcpokaaGreatDoor
namespace Go.Proofs.YtkoeggjfdcpokaaGreatDoor
open Go.RowKit

theorem sane_any (v : Int) (w : World) :
    Calls Tryz.prog 28 #[.int .i64 v] w fun e w' => e = .returned (.bool (Np.saneB v)) ∧ w = w' := by
  by_cases h1 : -9007199254740992 ≤ v
  · by_cases h2 : v ≤ 9007199254740992
    · have H : Hid (Np.saneB v = true) := Lib.hid ((Np.sane_iff v).mpr ⟨h1, h2⟩)
      go_enter Tryz.func28, Tryz.ntmps28
      go_wp2
      go_ret
      exact ⟨by rw [H.out]; rfl, rfl⟩
    · have H : Hid (Np.saneB v = false) := Lib.hid (by unfold Np.saneB; simp; omega)
      go_enter Tryz.func28, Tryz.ntmps28
      go_wp2
      go_ret
      exact ⟨by rw [H.out]; rfl, rfl⟩
  · have H : Hid (Np.saneB v = false) := Lib.hid (by unfold Np.saneB; simp; omega)
    go_enter Tryz.func28, Tryz.ntmps28
    go_wp2
    go_ret
    exact ⟨by rw [H.out]; rfl, rfl⟩
end Go.Proofs.YtkoeggjfdcpokaaGreatDoor
namespace Go.Proofs.YtkoeggjfdcpokaaGreatDoor
open Go.RowKit

/-- v is n, or both are above the bound. -/
def Np.Sat (v n : Nat) : Prop := v ≤ 90071992547409929 ∧ (n ≤ Np.mx → v = n) ∧ (Np.mx < n → Np.mx < v)
theorem Np.sat_le {v n : Nat} (h : Np.Sat v n) : v ≤ 90071992547409929 := h.1
theorem Np.sat_zero : Np.Sat 0 (Np.num []) := ⟨by omega, fun _ => rfl, fun h => by simp [Np.num, Np.mx] at h⟩
theorem Np.sat_low {v n d : Nat} (h : Np.Sat v n) (hv : v ≤ 9007199254740992) (hd : d ≤ 9) : Np.Sat (10 * v + d) (10 * n + d) := by
  obtain ⟨h1, h2, h3⟩ := h
  have e : n ≤ Np.mx := by
    rcases Nat.lt_or_ge Np.mx n with h' | h'
    · have := h3 h'; unfold Np.mx at this; omega
    · exact h'
  have := h2 e
  subst this
  refine ⟨by omega, fun _ => rfl, fun h => h⟩
theorem Np.sat_high {v n d : Nat} (h : Np.Sat v n) (hv : ¬ v ≤ 9007199254740992) : Np.Sat v (10 * n + d) := by
  obtain ⟨h1, h2, h3⟩ := h
  have e : Np.mx < n := by
    rcases Nat.lt_or_ge Np.mx n with h' | h'
    · exact h'
    · have := h2 h'; subst this; unfold Np.mx at h'; exact absurd h' hv
  refine ⟨h1, fun h => ?_, fun _ => h3 e⟩
  omega
theorem Np.take_snoc (s : ByteArray) (k : Nat) (h : k < s.size) : s.data.toList.take (k + 1) = s.data.toList.take k ++ [s[k]] := by
  rw [List.take_succ_eq_append_getElem (by simpa using h)]; rfl
theorem Np.digs_snoc (l : List UInt8) (c : UInt8) : Np.digs (l ++ [c]) = (Np.digs l && Np.dig c) := by
  unfold Np.digs; rw [List.all_append]; simp
theorem Np.digs_take (l : List UInt8) (k : Nat) (h : Np.digs (l.take k) = false) : Np.digs l = false := by
  cases e : Np.digs l with
  | false => rfl
  | true =>
    have : Np.digs (l.take k) = true := List.all_eq_true.mpr fun c hc => List.all_eq_true.mp e c (List.mem_of_mem_take hc)
    rw [this] at h; exact absurd h (by simp)

/-- The loop's relation. -/
def Np.DigRel (s : ByteArray) (B : Nat) (w : World) (v : Value) (wr : World) : Prop :=
  ∃ pos n : Nat, pos ≤ s.size ∧ wr.heap[B]? = some (.stringIter s pos) ∧ v = .int .i64 n ∧ Np.Sat n (Np.num (s.data.toList.take pos)) ∧ Np.digs (s.data.toList.take pos) = true ∧ Below B w wr
/-- What digits answers. -/
def Np.DigPost (l : List UInt8) (e : Ending) : Prop :=
  (Np.digs l = true ∧ ∃ v : Nat, Np.Sat v (Np.num l) ∧ e = .returned (.tuple #[.int .i64 v, .bool true])) ∨ (Np.digs l = false ∧ e = .returned (.tuple #[.int .i64 0, .bool false]))

set_option maxHeartbeats 1600000 in
set_option maxRecDepth 100000 in
theorem digits_any (s : ByteArray) (w : World) :
    Calls Tryz.prog 94 #[.string s] w fun e w' => Np.DigPost s.data.toList e ∧ Below w.heap.size w w' := by
  have hk0 : (w.iter s 0).heap[w.heap.size]? = some (.stringIter s 0) := World.iter_heap w s 0
  have hb0 : Below w.heap.size w (w.iter s 0) := (Below.refl _ w).alloc (Nat.le_refl _) _
  have hat : Np.DigRel s w.heap.size w (.int .i64 0) (w.iter s 0) := ⟨0, 0, Nat.zero_le _, hk0, rfl, Np.sat_zero, rfl, hb0⟩
  have Hat := Lib.hid hat
  clear hat hk0 hb0
  go_enter Tryz.func94, Tryz.ntmps94
  go_wp2
  go_loopw [4] (fun v wr => Np.DigRel s w.heap.size w v wr) (fun _ wr => s.size - wr.iterPos w.heap.size)
  case atStart => exact Hat.out
  case round =>
    obtain ⟨pos, n, hps, hk, rfl, hsat, hdg, hnx⟩ := hrel
    have hn := Np.sat_le hsat
    have Hsat := Lib.hid hsat
    have Hdg := Lib.hid hdg
    clear hsat hdg
    have hmu : wr.iterPos w.heap.size = pos := by simp [World.iterPos, hk]
    by_cases hp : pos < s.size
    · by_cases ha : (s[pos]'hp).toNat < 128
      · have hnext : ∀ ty, (Instr.next (.pointer (some ⟨w.heap.size, 0, none⟩)) true ty).run Tryz.prog wr = _ := fun ty => Lib.run_next_ascii_at wr w.heap.size s pos ty hk hp ha
        have hk1 := Lib.iterAt_heap wr w.heap.size s pos (pos + 1) hk
        have hnx1 : Below w.heap.size w (wr.iterAt w.heap.size s (pos + 1)) := Lib.below_iterAt hnx (Nat.le_refl _) s (pos + 1)
        generalize wr.iterAt w.heap.size s (pos + 1) = W1 at hnext hk1 hnx1
        have Hsn := Lib.hid (Np.take_snoc s pos hp)
        have Hk1 := Lib.hid hk1
        have Hmu := Lib.hid hmu
        clear hk hk1 hmu
        generalize hc : s[pos]'hp = c at *
        have Hc := Lib.hid hc
        clear hc
        by_cases hd1 : c.toNat < 48
        · go_wp2
          go_ret2
          refine ⟨Or.inr ⟨Np.digs_take _ (pos + 1) ?_, rfl⟩, hnx1⟩
          rw [Hsn.out, Np.digs_snoc]
          have : Np.dig c = false := by unfold Np.dig; simp; omega
          rw [this, Bool.and_false]
        · by_cases hd2 : 57 < c.toNat
          · go_wp2
            go_ret2
            refine ⟨Or.inr ⟨Np.digs_take _ (pos + 1) ?_, rfl⟩, hnx1⟩
            rw [Hsn.out, Np.digs_snoc]
            have : Np.dig c = false := by unfold Np.dig; simp; omega
            rw [this, Bool.and_false]
          · have Hd : Hid (Np.dig c = true) := Lib.hid (by unfold Np.dig; simp; omega)
            by_cases hm : n ≤ 9007199254740992
            · go_wp2
              go_roundw
              case rel =>
                refine ⟨pos + 1, 10 * n + (c.toNat - 48), by omega, Hk1.out, ?_, ?_, ?_, hnx1⟩
                · go_num
                · rw [Hsn.out, Np.num_snoc]; exact Np.sat_low Hsat.out hm (by omega)
                · rw [Hsn.out, Np.digs_snoc, Hdg.out, Hd.out]; rfl
              case measure =>
                have hmu2 : W1.iterPos w.heap.size = pos + 1 := by simp [World.iterPos, Hk1.out]
                rw [Hmu.out, hmu2]; omega
            · go_wp2
              go_roundw
              case rel =>
                refine ⟨pos + 1, n, by omega, Hk1.out, rfl, ?_, ?_, hnx1⟩
                · rw [Hsn.out, Np.num_snoc]; exact Np.sat_high Hsat.out hm
                · rw [Hsn.out, Np.digs_snoc, Hdg.out, Hd.out]; rfl
              case measure =>
                have hmu2 : W1.iterPos w.heap.size = pos + 1 := by simp [World.iterPos, Hk1.out]
                rw [Hmu.out, hmu2]; omega
      · have hdh := decode_high s pos hp (by omega)
        have hnext : ∀ ty, (Instr.next (.pointer (some ⟨w.heap.size, 0, none⟩)) true ty).run Tryz.prog wr = _ := fun ty => Lib.run_next_any_at wr w.heap.size s pos ty hk hp
        have hnx1 : Below w.heap.size w (wr.iterAt w.heap.size s (pos + (Utf8.decode s pos).2)) := Lib.below_iterAt hnx (Nat.le_refl _) s _
        generalize wr.iterAt w.heap.size s (pos + (Utf8.decode s pos).2) = W1 at hnext hnx1
        have Hsn := Lib.hid (Np.take_snoc s pos hp)
        have hr := hdh.1
        have hfin : Np.digs s.data.toList = false := by
          refine Np.digs_take _ (pos + 1) ?_
          rw [Hsn.out, Np.digs_snoc]
          have : Np.dig (s[pos]'hp) = false := by unfold Np.dig; simp; omega
          rw [this, Bool.and_false]
        have Hfin := Lib.hid hfin
        clear hk hmu hdh hfin ha
        generalize (Utf8.decode s pos).1 = r at *
        go_wp2
        go_ret2
        exact ⟨Or.inr ⟨Hfin.out, rfl⟩, hnx1⟩
    · have hnext : ∀ ty, (Instr.next (.pointer (some ⟨w.heap.size, 0, none⟩)) true ty).run Tryz.prog wr = _ := fun ty => Lib.run_next_end_at wr w.heap.size s pos ty hk hp
      have Hall : Hid (s.data.toList.take pos = s.data.toList) := Lib.hid (List.take_of_length_le (by rw [← Lib.size_eq]; omega))
      clear hk hmu
      go_wp2
      go_ret2
      refine ⟨Or.inl ⟨?_, n, ?_, rfl⟩, hnx⟩
      · have := Hdg.out; rw [Hall.out] at this; exact this
      · have := Hsat.out; rw [Hall.out] at this; exact this
end Go.Proofs.YtkoeggjfdcpokaaGreatDoor
namespace Go.Proofs.YtkoeggjfdcpokaaGreatDoor
open Go.RowKit

theorem Np.printU_whole0 (v : Int) (h0 : 0 ≤ v) (h : v % 1000 = 0) : Lib.decDigits (v / 1000).toNat = Np.printU v.toNat := by
  obtain ⟨u, rfl⟩ := Int.eq_ofNat_of_zero_le h0
  unfold Np.printU Np.tailU
  rw [if_pos (by omega), List.append_nil]; congr 1
theorem Np.printU_part (v : Int) (h0 : 0 ≤ v) (h : ¬ v % 1000 = 0) :
    Lib.decDigits (v / 1000).toNat ++ [46] ++ Lib.trimRightB ((Lib.decDigits (1000 + v % 1000).toNat).drop 1) 48 = Np.printU v.toNat := by
  obtain ⟨u, rfl⟩ := Int.eq_ofNat_of_zero_le h0
  have e1 : ((u : Int) / 1000).toNat = u / 1000 := by omega
  have e2 : (1000 + (u : Int) % 1000).toNat = 1000 + u % 1000 := by omega
  have e3 : u % 1000 ≠ 0 := by omega
  rw [e1, e2, Np.dec_1000 _ (by omega), List.drop_succ_cons, List.drop_zero, Np.trim_frac _ e3 (by omega)]
  unfold Np.printU Np.tailU
  rw [Int.toNat_natCast, if_neg e3]; simp

theorem Np.trim_le (l : List UInt8) (c : UInt8) : (Lib.trimRightB l c).length ≤ l.length := by
  unfold Lib.trimRightB
  rw [List.length_reverse]
  refine Nat.le_trans (List.dropWhile_sublist _).length_le ?_
  rw [List.length_reverse]; exact Nat.le_refl _
theorem Np.tailU_len (r : Nat) : (Np.tailU r).length ≤ 4 := by
  unfold Np.tailU Np.frac
  repeat (first | split | simp)
theorem Np.printU_len (u : Nat) (h : u ≤ 9007199254740992) : (Np.printU u).length ≤ 20 := by
  unfold Np.printU
  rw [List.length_append, Lib.decDigits_length]
  have h2 := nd_le 15 (u / 1000) (by omega)
  have := Np.tailU_len (u % 1000)
  omega

set_option maxHeartbeats 800000 in
theorem printU_any (v : Int) (h0 : 0 ≤ v) (h1 : v ≤ 9007199254740992) (w : World) (hok : Ok w) :
    Calls Tryz.prog 54 #[.int .i64 v] w fun e w' => e = .returned (.string ⟨(Np.printU v.toNat).toArray⟩) ∧ Below w.heap.size w w' := by
  have Hok := Lib.hid hok
  clear hok
  by_cases hr : v % 1000 = 0
  · have Hr := Lib.hid hr
    have hb : (v % 1000 == 0) = true := by simpa using hr
    clear hr
    go_enter Tryz.func54, Tryz.ntmps54
    go_wp2_with fail
    refine (itoa_any _ (by omega) (by omega) _ Hok.out).mono ?_
    rintro e w1 ⟨rfl, hw1⟩
    go_wp2_with fail
    go_ret
    refine ⟨?_, hw1⟩
    rw [← Np.printU_whole0 v h0 Hr.out]; rfl
  · have Hr := Lib.hid hr
    have hb : (v % 1000 == 0) = false := by simpa using hr
    clear hr
    go_enter Tryz.func54, Tryz.ntmps54
    go_wp2_with fail
    refine (itoa_str _ (by omega) (by omega) _ Hok.out).mono ?_
    rintro e w1 ⟨S, rfl, ⟨hS0, hS⟩, HS, hw1⟩
    go_wp2_with fail
    refine (itoa_str _ (by omega) (by omega) _ (Hok.out.on hw1)).mono ?_
    rintro e w2 ⟨T, rfl, ⟨hT0, hT⟩, HT, hw2⟩
    go_wp2_with fail
    have hx : (T.extract 1 T.size).data.toList = (Lib.decDigits (1000 + v % 1000).toNat).drop 1 := by
      rw [Lib.extract_to_end, HT.out]
    have Hx := Lib.hid hx
    clear hx
    refine (Tryz.strings_TrimRight_one _ 48 (by decide) _ (by rw [ByteArray.size_extract]; omega)).mono ?_
    rintro e w3 ⟨rfl, rfl⟩
    rw [Hx.out]
    have hUl : (Lib.trimRightB ((Lib.decDigits (1000 + v % 1000).toNat).drop 1) 48).length ≤ 16 := by
      refine Nat.le_trans (Np.trim_le _ _) ?_
      rw [← HT.out, List.length_drop, ← Lib.size_eq]; omega
    generalize hU : Lib.trimRightB ((Lib.decDigits (1000 + v % 1000).toNat).drop 1) 48 = U at hUl ⊢
    have HU := Lib.hid hU
    clear hU
    go_wp2_with fail
    go_ret
    refine ⟨?_, below_on hw1 hw2⟩
    refine congrArg (fun x => Ending.returned (Value.string x)) (str_eq _ _ ?_)
    simp only [ByteArray.data_append, Array.toList_append]
    rw [HS.out, ← HU.out, Np.printU_part v h0 Hr.out |>.symm]

theorem print_any (v : Int) (w : World) (hok : Ok w) :
    Calls Tryz.prog 32 #[.int .i64 v] w fun e w' => e = .returned (.string ⟨(Np.printS v).toArray⟩) ∧ Below w.heap.size w w' := by
  have Hok := Lib.hid hok
  clear hok
  cases hs : Np.saneB v with
  | false =>
    have Hs := Lib.hid (Np.print_no v hs)
    go_enter Tryz.func32, Tryz.ntmps32
    go_wp2_with fail
    refine (sane_any v _).mono ?_
    rintro e w1 ⟨rfl, rfl⟩
    go_wp2_with fail
    go_ret
    exact ⟨by rw [Hs.out]; rfl, Below.refl _ _⟩
  | true =>
    obtain ⟨h1, h2⟩ := (Np.sane_iff v).mp hs
    by_cases hn : v < 0
    · have Hp : Hid (Np.printS v = 45 :: Np.printU (-v).toNat) := Lib.hid (by
        unfold Np.printS
        rw [hs, if_neg (by simp), if_pos hn, show v.natAbs = (-v).toNat by omega])
      go_enter Tryz.func32, Tryz.ntmps32
      go_wp2_with fail
      refine (sane_any v _).mono ?_
      rintro e w1 ⟨rfl, rfl⟩
      go_wp2_with fail
      refine (printU_any (-v) (by omega) (by omega) _ Hok.out).mono ?_
      rintro e w2 ⟨rfl, hw2⟩
      have hl := Np.printU_len (-v).toNat (by omega)
      generalize Np.printU (-v).toNat = U at Hp hl ⊢
      go_wp2_with fail
      go_ret
      refine ⟨?_, hw2⟩
      rw [Hp.out]
      refine congrArg (fun x => Ending.returned (Value.string x)) (str_eq _ _ ?_)
      simp [ByteArray.data_append]
    · have Hp : Hid (Np.printS v = Np.printU v.toNat) := Lib.hid (by
        unfold Np.printS
        rw [hs, if_neg (by simp), if_neg hn, show v.natAbs = v.toNat by omega])
      go_enter Tryz.func32, Tryz.ntmps32
      go_wp2_with fail
      refine (sane_any v _).mono ?_
      rintro e w1 ⟨rfl, rfl⟩
      go_wp2_with fail
      refine (printU_any v (by omega) (by omega) _ Hok.out).mono ?_
      rintro e w2 ⟨rfl, hw2⟩
      go_wp2_with fail
      go_ret
      exact ⟨by rw [Hp.out]; rfl, hw2⟩
end Go.Proofs.YtkoeggjfdcpokaaGreatDoor
namespace Go.Proofs.YtkoeggjfdcpokaaGreatDoor
open Go.RowKit

def Np.ans (r : Int × Int) : Ending := .returned (.tuple #[.int .i64 r.1, .int .i64 r.2])

theorem Np.body_le (l : List UInt8) : (Np.body l).length ≤ l.length := by
  have := Np.body_len l; omega

theorem toList_eq (q : ByteArray) : q.toList = q.data.toList := by
  have h := Lib.extract_toList q 0 q.size
  rw [Lib.whole_piece] at h
  rw [h, List.drop_zero, Nat.sub_zero, Lib.size_eq, List.take_length]
theorem digits_yes (D : ByteArray) (w : World) (h : Np.digs D.data.toList = true) :
    Calls Tryz.prog 94 #[.string D] w fun e w' => ∃ v : Nat, e = .returned (.tuple #[.int .i64 v, .bool true]) ∧ v ≤ 90071992547409929 ∧ Hid (Np.Sat v (Np.num D.data.toList)) ∧ Below w.heap.size w w' := by
  refine (digits_any D w).mono ?_
  rintro e w' ⟨hp, hb⟩
  rcases hp with ⟨_, v, hs, rfl⟩ | ⟨hf, _⟩
  · exact ⟨v, rfl, hs.1, Lib.hid hs, hb⟩
  · rw [h] at hf; exact absurd hf (by simp)
theorem digits_no (D : ByteArray) (w : World) (h : Np.digs D.data.toList = false) :
    Calls Tryz.prog 94 #[.string D] w fun e w' => e = .returned (.tuple #[.int .i64 0, .bool false]) ∧ Below w.heap.size w w' := by
  refine (digits_any D w).mono ?_
  rintro e w' ⟨hp, hb⟩
  rcases hp with ⟨hf, _⟩ | ⟨_, rfl⟩
  · rw [h] at hf; exact absurd hf (by simp)
  · exact ⟨rfl, hb⟩

theorem data_app (a b : ByteArray) : (a ++ b).data.toList = a.data.toList ++ b.data.toList := by
  rw [ByteArray.data_append, Array.toList_append]
/-- What the digits are of which a text's number is told, in one form for texts with a point and without. -/
def Np.Uns (b DL : List UInt8) : Prop := Np.unsig b = if Np.whole b ≠ [] ∧ Np.digs DL = true then some DL else none
theorem Np.uns_plain {b : List UInt8} (h : Np.rest b = []) : Np.Uns b (Np.whole b ++ [48, 48, 48]) := by
  unfold Np.Uns Np.unsig
  rw [h]; simp only [Np.digs_app]
  have : Np.digs [48, 48, 48] = true := rfl
  rw [this, Bool.and_true]
theorem Np.uns_point {b : List UInt8} {x : UInt8} {p : List UInt8} (h : Np.rest b = x :: p) (h0 : p ≠ []) (h3 : ¬ 3 < p.length) : Np.Uns b (Np.whole b ++ Np.pad p) := by
  unfold Np.Uns Np.unsig
  rw [h]; simp [h0, h3]
theorem Np.uns_err {b : List UInt8} {x : UInt8} {p : List UInt8} (h : Np.rest b = x :: p) (h0 : p = [] ∨ 3 < p.length) : Np.unsig b = none := by
  unfold Np.unsig
  rw [h]; simp [h0]
theorem Np.ans_none {l b : List UInt8} (hb : Np.body l = b) (h : Np.unsig b = none) : Np.ans (Np.parseS l) = .returned (.tuple #[.int .i64 0, .int .i64 1]) := by
  unfold Np.parseS; rw [hb, h]; rfl
theorem Np.ans_digs {l b DL : List UInt8} (hb : Np.body l = b) (h : Np.Uns b DL) (hd : Np.digs DL = false) : Np.ans (Np.parseS l) = .returned (.tuple #[.int .i64 0, .int .i64 1]) :=
  Np.ans_none hb (by rw [h, if_neg (by simp [hd])])
theorem Np.ans_whole {l b DL : List UInt8} (hb : Np.body l = b) (h : Np.Uns b DL) (hd : Np.whole b = []) : Np.ans (Np.parseS l) = .returned (.tuple #[.int .i64 0, .int .i64 1]) :=
  Np.ans_none hb (by rw [h, if_neg (by simp [hd])])
theorem Np.ans_fin {l b DL : List UInt8} {n : Bool} (hb : Np.body l = b) (hn : Np.neg l = n) (h : Np.Uns b DL) (hw : Np.whole b ≠ []) (hd : Np.digs DL = true) : Np.parseS l = Np.fin n (Np.num DL) := by
  unfold Np.parseS; rw [hb, hn, h, if_pos ⟨hw, hd⟩]
theorem Np.ans_large {l b DL : List UInt8} {n : Bool} (hb : Np.body l = b) (hn : Np.neg l = n) (h : Np.Uns b DL) (hw : Np.whole b ≠ []) (hd : Np.digs DL = true) (hm : Np.mx < Np.num DL) :
    Np.ans (Np.parseS l) = .returned (.tuple #[.int .i64 0, .int .i64 2]) := by
  rw [Np.ans_fin hb hn h hw hd]; unfold Np.fin; rw [if_pos hm]; rfl
theorem Np.ans_neg {l b DL : List UInt8} {v : Nat} (hb : Np.body l = b) (hn : Np.neg l = true) (h : Np.Uns b DL) (hw : Np.whole b ≠ []) (hd : Np.digs DL = true) (hm : Np.num DL ≤ Np.mx) (hs : Np.Sat v (Np.num DL)) :
    Np.ans (Np.parseS l) = .returned (.tuple #[.int .i64 (-(v : Int)), .int .i64 0]) := by
  rw [Np.ans_fin hb hn h hw hd]; unfold Np.fin; rw [if_neg (by omega), hs.2.1 hm]; rfl
theorem Np.ans_pos {l b DL : List UInt8} {v : Nat} (hb : Np.body l = b) (hn : Np.neg l = false) (h : Np.Uns b DL) (hw : Np.whole b ≠ []) (hd : Np.digs DL = true) (hm : Np.num DL ≤ Np.mx) (hs : Np.Sat v (Np.num DL)) :
    Np.ans (Np.parseS l) = .returned (.tuple #[.int .i64 (v : Int), .int .i64 0]) := by
  rw [Np.ans_fin hb hn h hw hd]; unfold Np.fin; rw [if_neg (by omega), hs.2.1 hm]; rfl

set_option maxHeartbeats 1600000 in
theorem parse_any (s : ByteArray) (hs : s.size ≤ 2000000) (w : World) (hok : Ok w) :
    Calls Tryz.prog 67 #[.string s] w fun e w' => e = Np.ans (Np.parseS s.data.toList) ∧ Below w.heap.size w w' := by
  have Hok := Lib.hid hok
  clear hok
  have hL : (Np.body s.data.toList).length ≤ 2000000 := Nat.le_trans (Np.body_le _) (by rw [← Lib.size_eq]; exact hs)
  generalize hb : Np.body s.data.toList = b at hL
  generalize hn : Np.neg s.data.toList = n
  have Hb := Lib.hid hb
  have Hn := Lib.hid hn
  clear hb hn
  go_enter Tryz.func67, Tryz.ntmps67
  go_wp2_with fail
  refine (cutPrefix_any s _).mono ?_
  rintro e w1 ⟨rfl, rfl⟩
  rw [Hb.out, Hn.out]
  go_wp2_with fail
  rcases hR : Np.rest b with _ | ⟨x, p⟩
  · have HR := Lib.hid hR
    clear hR
    refine (cut_plain b hL HR.out _ Hok.out).mono ?_
    rintro e w1 ⟨W, rfl, hW, HW, hw1⟩
    go_wp2_with fail
    have HU : Hid (Np.Uns b (W ++ ((⟨#[]⟩ : ByteArray) ++ ⟨#[48, 48, 48]⟩).extract 0 3).data.toList) := Lib.hid (by
      have e : (W ++ ((⟨#[]⟩ : ByteArray) ++ ⟨#[48, 48, 48]⟩).extract 0 3).data.toList = Np.whole b ++ [48, 48, 48] := by
        rw [data_app, HW.out]; rfl
      rw [e]; exact Np.uns_plain HR.out)
    generalize W ++ ((⟨#[]⟩ : ByteArray) ++ ⟨#[48, 48, 48]⟩).extract 0 3 = D at HU ⊢
    cases hd : Np.digs D.data.toList with
    | false =>
      have HE : Hid (Np.ans (Np.parseS s.data.toList) = .returned (.tuple #[.int .i64 0, .int .i64 1])) := Lib.hid (Np.ans_digs Hb.out HU.out hd)
      refine (digits_no D _ hd).mono ?_
      rintro e w2 ⟨rfl, hw2⟩
      clear hd
      cases hwe : W.toList.isEmpty
      all_goals
        go_wp2_with fail
        go_ret2
        exact ⟨HE.out.symm, below_on hw1 hw2⟩
    | true =>
      have Hd := Lib.hid hd
      refine (digits_yes D _ hd).mono ?_
      rintro e w2 ⟨v, rfl, hv, HS, hw2⟩
      clear hd
      cases hwe : W.toList.isEmpty with
      | true =>
        have HE : Hid (Np.ans (Np.parseS s.data.toList) = .returned (.tuple #[.int .i64 0, .int .i64 1])) := Lib.hid (Np.ans_whole Hb.out HU.out (by rw [← HW.out, ← toList_eq]; simpa using hwe))
        go_wp2_with fail
        go_ret2
        exact ⟨HE.out.symm, below_on hw1 hw2⟩
      | false =>
        have HWn : Hid (Np.whole b ≠ []) := Lib.hid (by rw [← HW.out, ← toList_eq]; simpa using hwe)
        by_cases hm : Np.mx < Np.num D.data.toList
        · have HE : Hid (Np.ans (Np.parseS s.data.toList) = .returned (.tuple #[.int .i64 0, .int .i64 2])) := Lib.hid (Np.ans_large Hb.out Hn.out HU.out HWn.out Hd.out hm)
          have hsn : Np.saneB (v : Int) = false := by
            have := HS.out.2.2 hm
            unfold Np.saneB; unfold Np.mx at this; simp; omega
          clear hm
          go_wp2_with fail
          refine (sane_any _ _).mono ?_
          rintro e w3 ⟨rfl, rfl⟩
          go_wp2_with fail
          go_ret2
          exact ⟨HE.out.symm, below_on hw1 hw2⟩
        · have hsn : Np.saneB (v : Int) = true := by
            have := HS.out.2.1 (by omega)
            rw [Np.sane_iff]; unfold Np.mx at hm; omega
          cases n with
          | true =>
            have HE : Hid (Np.ans (Np.parseS s.data.toList) = .returned (.tuple #[.int .i64 (-(v : Int)), .int .i64 0])) := Lib.hid (Np.ans_neg Hb.out Hn.out HU.out HWn.out Hd.out (by omega) HS.out)
            clear hm
            go_wp2_with fail
            refine (sane_any _ _).mono ?_
            rintro e w3 ⟨rfl, rfl⟩
            go_wp2_with fail
            go_ret2
            exact ⟨HE.out.symm, below_on hw1 hw2⟩
          | false =>
            have HE : Hid (Np.ans (Np.parseS s.data.toList) = .returned (.tuple #[.int .i64 (v : Int), .int .i64 0])) := Lib.hid (Np.ans_pos Hb.out Hn.out HU.out HWn.out Hd.out (by omega) HS.out)
            clear hm
            go_wp2_with fail
            refine (sane_any _ _).mono ?_
            rintro e w3 ⟨rfl, rfl⟩
            go_wp2_with fail
            go_ret2
            exact ⟨HE.out.symm, below_on hw1 hw2⟩
  · have HR := Lib.hid hR
    clear hR
    refine (cut_point b hL x p HR.out _ Hok.out).mono ?_
    rintro e w1 ⟨W, Q, rfl, ⟨hW, hQ, hp⟩, HW, HQ, hw1⟩
    have Hp := Lib.hid hp
    clear hp
    by_cases h0 : p = []
    · have HE : Hid (Np.unsig b = none) := Lib.hid (Np.uns_err HR.out (Or.inl h0))
      have hq : Q.toList = [] := by rw [toList_eq, HQ.out, h0]
      clear h0
      go_wp2_with fail
      go_ret2
      exact ⟨(Np.ans_none Hb.out HE.out).symm, hw1⟩
    · have hq : Q.toList.isEmpty = false := by rw [toList_eq, HQ.out]; simpa using h0
      have hq' : ¬ Q.toList = [] := by rw [toList_eq, HQ.out]; exact h0
      by_cases h3 : 3 < p.length
      · have HE : Hid (Np.unsig b = none) := Lib.hid (Np.uns_err HR.out (Or.inr h3))
        have hq3 : (3 : Int) < (Q.size : Int) := by rw [Hp.out]; omega
        clear h0 h3
        go_wp2_with fail
        go_ret2
        exact ⟨(Np.ans_none Hb.out HE.out).symm, hw1⟩
      · have HU0 : Hid (Np.Uns b (Np.whole b ++ Np.pad p)) := Lib.hid (Np.uns_point HR.out h0 h3)
        have hq3 : ¬ (3 : Int) < (Q.size : Int) := by rw [Hp.out]; omega
        clear h0 h3
        go_wp2_with fail
        have HU : Hid (Np.Uns b (W ++ (Q ++ ⟨#[48, 48, 48]⟩).extract 0 3).data.toList) := Lib.hid (by
          have e : (W ++ (Q ++ ⟨#[48, 48, 48]⟩).extract 0 3).data.toList = Np.whole b ++ Np.pad p := by
            rw [data_app, Lib.extract_from_zero, data_app, HW.out, HQ.out]; rfl
          rw [e]; exact HU0.out)
        generalize W ++ (Q ++ ⟨#[48, 48, 48]⟩).extract 0 3 = D at HU ⊢
        clear HU0 hq hq' hq3 HQ Hp hQ
        cases hd : Np.digs D.data.toList with
        | false =>
          have HE : Hid (Np.ans (Np.parseS s.data.toList) = .returned (.tuple #[.int .i64 0, .int .i64 1])) := Lib.hid (Np.ans_digs Hb.out HU.out hd)
          refine (digits_no D _ hd).mono ?_
          rintro e w2 ⟨rfl, hw2⟩
          clear hd
          cases hwe : W.toList.isEmpty
          all_goals
            go_wp2_with fail
            go_ret2
            exact ⟨HE.out.symm, below_on hw1 hw2⟩
        | true =>
          have Hd := Lib.hid hd
          refine (digits_yes D _ hd).mono ?_
          rintro e w2 ⟨v, rfl, hv, HS, hw2⟩
          clear hd
          cases hwe : W.toList.isEmpty with
          | true =>
            have HE : Hid (Np.ans (Np.parseS s.data.toList) = .returned (.tuple #[.int .i64 0, .int .i64 1])) := Lib.hid (Np.ans_whole Hb.out HU.out (by rw [← HW.out, ← toList_eq]; simpa using hwe))
            go_wp2_with fail
            go_ret2
            exact ⟨HE.out.symm, below_on hw1 hw2⟩
          | false =>
            have HWn : Hid (Np.whole b ≠ []) := Lib.hid (by rw [← HW.out, ← toList_eq]; simpa using hwe)
            by_cases hm : Np.mx < Np.num D.data.toList
            · have HE : Hid (Np.ans (Np.parseS s.data.toList) = .returned (.tuple #[.int .i64 0, .int .i64 2])) := Lib.hid (Np.ans_large Hb.out Hn.out HU.out HWn.out Hd.out hm)
              have hsn : Np.saneB (v : Int) = false := by
                have := HS.out.2.2 hm
                unfold Np.saneB; unfold Np.mx at this; simp; omega
              clear hm
              go_wp2_with fail
              refine (sane_any _ _).mono ?_
              rintro e w3 ⟨rfl, rfl⟩
              go_wp2_with fail
              go_ret2
              exact ⟨HE.out.symm, below_on hw1 hw2⟩
            · have hsn : Np.saneB (v : Int) = true := by
                have := HS.out.2.1 (by omega)
                rw [Np.sane_iff]; unfold Np.mx at hm; omega
              cases n with
              | true =>
                have HE : Hid (Np.ans (Np.parseS s.data.toList) = .returned (.tuple #[.int .i64 (-(v : Int)), .int .i64 0])) := Lib.hid (Np.ans_neg Hb.out Hn.out HU.out HWn.out Hd.out (by omega) HS.out)
                clear hm
                go_wp2_with fail
                refine (sane_any _ _).mono ?_
                rintro e w3 ⟨rfl, rfl⟩
                go_wp2_with fail
                go_ret2
                exact ⟨HE.out.symm, below_on hw1 hw2⟩
              | false =>
                have HE : Hid (Np.ans (Np.parseS s.data.toList) = .returned (.tuple #[.int .i64 (v : Int), .int .i64 0])) := Lib.hid (Np.ans_pos Hb.out Hn.out HU.out HWn.out Hd.out (by omega) HS.out)
                clear hm
                go_wp2_with fail
                refine (sane_any _ _).mono ?_
                rintro e w3 ⟨rfl, rfl⟩
                go_wp2_with fail
                go_ret2
                exact ⟨HE.out.symm, below_on hw1 hw2⟩
end Go.Proofs.YtkoeggjfdcpokaaGreatDoor

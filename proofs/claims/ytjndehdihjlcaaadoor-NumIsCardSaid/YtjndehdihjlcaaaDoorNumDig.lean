/-
  The walk of num.digits, over any text: all digits, or not.
-/
import Derived.Test.YtjndehdihjlcaaaDoorProg
import Derived.Test.YtjndehdihjlcaaaDoorNumPlain
import Derived.WalkKit
import Derived.WalkSpells
import Derived.WalkLawsBesides
import Derived.BigCall
import Derived.Lib.OthersKept
import Derived.Lib.Strings
import Derived.Lib.ItoaWalk
import Derived.Lib.Hide
import Derived.Laws.RangeAny
namespace Go.Proofs.YtjndehdihjlcaaaDoor
open Go.RowKit

/-- v is n, or both are above the bound. -/
def Np.Sat (v n : Nat) : Prop := v ≤ 90071992547409929 ∧ (n ≤ Np.mx → v = n) ∧ (Np.mx < n → Np.mx < v)
theorem Np.sat_le {v n : Nat} (h : Np.Sat v n) : v ≤ 90071992547409929 := h.1
theorem Np.sat_zero : Np.Sat 0 (Np.num []) := ⟨by omega, fun _ => rfl, fun h => by simp [Np.num, Np.mx] at h⟩
theorem Np.sat_low {v n d : Nat} (h : Np.Sat v n) (hv : v ≤ 9007199254740992) (hd : d ≤ 9) : Np.Sat (10 * v + d) (10 * n + d) := by
  obtain ⟨h1, h2, h3⟩ := h
  have e : n ≤ Np.mx := by
    rcases Nat.lt_or_ge Np.mx n with h' | h'
    · have := h3 h'; unfold Np.mx at this; omega
    · exact h'
  have := h2 e
  subst this
  refine ⟨by omega, fun _ => rfl, fun h => h⟩
theorem Np.sat_high {v n d : Nat} (h : Np.Sat v n) (hv : ¬ v ≤ 9007199254740992) : Np.Sat v (10 * n + d) := by
  obtain ⟨h1, h2, h3⟩ := h
  have e : Np.mx < n := by
    rcases Nat.lt_or_ge Np.mx n with h' | h'
    · exact h'
    · have := h2 h'; subst this; unfold Np.mx at h'; exact absurd h' hv
  refine ⟨h1, fun h => ?_, fun _ => h3 e⟩
  omega
theorem Np.take_snoc (s : ByteArray) (k : Nat) (h : k < s.size) : s.data.toList.take (k + 1) = s.data.toList.take k ++ [s[k]] := by
  rw [List.take_succ_eq_append_getElem (by simpa using h)]; rfl
theorem Np.digs_snoc (l : List UInt8) (c : UInt8) : Np.digs (l ++ [c]) = (Np.digs l && Np.dig c) := by
  unfold Np.digs; rw [List.all_append]; simp
theorem Np.digs_take (l : List UInt8) (k : Nat) (h : Np.digs (l.take k) = false) : Np.digs l = false := by
  cases e : Np.digs l with
  | false => rfl
  | true =>
    have : Np.digs (l.take k) = true := List.all_eq_true.mpr fun c hc => List.all_eq_true.mp e c (List.mem_of_mem_take hc)
    rw [this] at h; exact absurd h (by simp)

/-- The loop's relation. -/
def Np.DigRel (s : ByteArray) (B : Nat) (w : World) (v : Value) (wr : World) : Prop :=
  ∃ pos n : Nat, pos ≤ s.size ∧ wr.heap[B]? = some (.stringIter s pos) ∧ v = .int .i64 n ∧ Np.Sat n (Np.num (s.data.toList.take pos)) ∧ Np.digs (s.data.toList.take pos) = true ∧ Below B w wr
/-- What digits answers. -/
def Np.DigPost (l : List UInt8) (e : Ending) : Prop :=
  (Np.digs l = true ∧ ∃ v : Nat, Np.Sat v (Np.num l) ∧ e = .returned (.tuple #[.int .i64 v, .bool true])) ∨ (Np.digs l = false ∧ e = .returned (.tuple #[.int .i64 0, .bool false]))

set_option maxHeartbeats 1600000 in
set_option maxRecDepth 100000 in
theorem digits_any (s : ByteArray) (w : World) :
    Calls Tryd.prog 18 #[.string s] w fun e w' => Np.DigPost s.data.toList e ∧ Below w.heap.size w w' := by
  have hk0 : (w.iter s 0).heap[w.heap.size]? = some (.stringIter s 0) := World.iter_heap w s 0
  have hb0 : Below w.heap.size w (w.iter s 0) := (Below.refl _ w).alloc (Nat.le_refl _) _
  have hat : Np.DigRel s w.heap.size w (.int .i64 0) (w.iter s 0) := ⟨0, 0, Nat.zero_le _, hk0, rfl, Np.sat_zero, rfl, hb0⟩
  have Hat := Lib.hid hat
  clear hat hk0 hb0
  go_enter Tryd.func18, Tryd.ntmps18
  go_wp2
  go_loopw [4] (fun v wr => Np.DigRel s w.heap.size w v wr) (fun _ wr => s.size - wr.iterPos w.heap.size)
  case atStart => exact Hat.out
  case round =>
    obtain ⟨pos, n, hps, hk, rfl, hsat, hdg, hnx⟩ := hrel
    have hn := Np.sat_le hsat
    have Hsat := Lib.hid hsat
    have Hdg := Lib.hid hdg
    clear hsat hdg
    have hmu : wr.iterPos w.heap.size = pos := by simp [World.iterPos, hk]
    by_cases hp : pos < s.size
    · by_cases ha : (s[pos]'hp).toNat < 128
      · have hnext : ∀ ty, (Instr.next (.pointer (some ⟨w.heap.size, 0, none⟩)) true ty).run Tryd.prog wr = _ := fun ty => Lib.run_next_ascii_at wr w.heap.size s pos ty hk hp ha
        have hk1 := Lib.iterAt_heap wr w.heap.size s pos (pos + 1) hk
        have hnx1 : Below w.heap.size w (wr.iterAt w.heap.size s (pos + 1)) := Lib.below_iterAt hnx (Nat.le_refl _) s (pos + 1)
        generalize wr.iterAt w.heap.size s (pos + 1) = W1 at hnext hk1 hnx1
        have Hsn := Lib.hid (Np.take_snoc s pos hp)
        have Hk1 := Lib.hid hk1
        have Hmu := Lib.hid hmu
        clear hk hk1 hmu
        generalize hc : s[pos]'hp = c at *
        have Hc := Lib.hid hc
        clear hc
        by_cases hd1 : c.toNat < 48
        · go_wp2
          go_ret2
          refine ⟨Or.inr ⟨Np.digs_take _ (pos + 1) ?_, rfl⟩, hnx1⟩
          rw [Hsn.out, Np.digs_snoc]
          have : Np.dig c = false := by unfold Np.dig; simp; omega
          rw [this, Bool.and_false]
        · by_cases hd2 : 57 < c.toNat
          · go_wp2
            go_ret2
            refine ⟨Or.inr ⟨Np.digs_take _ (pos + 1) ?_, rfl⟩, hnx1⟩
            rw [Hsn.out, Np.digs_snoc]
            have : Np.dig c = false := by unfold Np.dig; simp; omega
            rw [this, Bool.and_false]
          · have Hd : Hid (Np.dig c = true) := Lib.hid (by unfold Np.dig; simp; omega)
            by_cases hm : n ≤ 9007199254740992
            · go_wp2
              go_roundw
              case rel =>
                refine ⟨pos + 1, 10 * n + (c.toNat - 48), by omega, Hk1.out, ?_, ?_, ?_, hnx1⟩
                · go_num
                · rw [Hsn.out, Np.num_snoc]; exact Np.sat_low Hsat.out hm (by omega)
                · rw [Hsn.out, Np.digs_snoc, Hdg.out, Hd.out]; rfl
              case measure =>
                have hmu2 : W1.iterPos w.heap.size = pos + 1 := by simp [World.iterPos, Hk1.out]
                rw [Hmu.out, hmu2]; omega
            · go_wp2
              go_roundw
              case rel =>
                refine ⟨pos + 1, n, by omega, Hk1.out, rfl, ?_, ?_, hnx1⟩
                · rw [Hsn.out, Np.num_snoc]; exact Np.sat_high Hsat.out hm
                · rw [Hsn.out, Np.digs_snoc, Hdg.out, Hd.out]; rfl
              case measure =>
                have hmu2 : W1.iterPos w.heap.size = pos + 1 := by simp [World.iterPos, Hk1.out]
                rw [Hmu.out, hmu2]; omega
      · have hdh := decode_high s pos hp (by omega)
        have hnext : ∀ ty, (Instr.next (.pointer (some ⟨w.heap.size, 0, none⟩)) true ty).run Tryd.prog wr = _ := fun ty => Lib.run_next_any_at wr w.heap.size s pos ty hk hp
        have hnx1 : Below w.heap.size w (wr.iterAt w.heap.size s (pos + (Utf8.decode s pos).2)) := Lib.below_iterAt hnx (Nat.le_refl _) s _
        generalize wr.iterAt w.heap.size s (pos + (Utf8.decode s pos).2) = W1 at hnext hnx1
        have Hsn := Lib.hid (Np.take_snoc s pos hp)
        have hr := hdh.1
        have hfin : Np.digs s.data.toList = false := by
          refine Np.digs_take _ (pos + 1) ?_
          rw [Hsn.out, Np.digs_snoc]
          have : Np.dig (s[pos]'hp) = false := by unfold Np.dig; simp; omega
          rw [this, Bool.and_false]
        have Hfin := Lib.hid hfin
        clear hk hmu hdh hfin ha
        generalize (Utf8.decode s pos).1 = r at *
        go_wp2
        go_ret2
        exact ⟨Or.inr ⟨Hfin.out, rfl⟩, hnx1⟩
    · have hnext : ∀ ty, (Instr.next (.pointer (some ⟨w.heap.size, 0, none⟩)) true ty).run Tryd.prog wr = _ := fun ty => Lib.run_next_end_at wr w.heap.size s pos ty hk hp
      have Hall : Hid (s.data.toList.take pos = s.data.toList) := Lib.hid (List.take_of_length_le (by rw [← Lib.size_eq]; omega))
      clear hk hmu
      go_wp2
      go_ret2
      refine ⟨Or.inl ⟨?_, n, ?_, rfl⟩, hnx⟩
      · have := Hdg.out; rw [Hall.out] at this; exact this
      · have := Hsat.out; rw [Hall.out] at this; exact this
end Go.Proofs.YtjndehdihjlcaaaDoor

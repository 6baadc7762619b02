/-
  The walks of the document's Want, Place, Name and Sane of layer sel.
-/
import Derived.Test.YtgahahichplpkaaDoorLexZ
import Derived.Test.YtgahahichplpkaaDoorRfName
namespace Go.Proofs.YtgahahichplpkaaDoor
open Go.RowKit Go.Proofs.YtgahahichplpkaaDoor.Lp
open Go.Proofs.YtgahahichplpkaaDoor.Sl (Mt Sel Tf)

def wantI (l : List Tf) (i k : Int) (s : ByteArray) : Int := if i < 0 then 3 else Sl.want l i.toNat k s
def nameI (l : List Tf) (i : Int) : Int := if i < 0 then 3 else Sl.nameAt l i.toNat
theorem wantI_at (l : List Tf) (i : Nat) (k : Int) (s : ByteArray) : wantI l (i : Int) k s = Sl.want l i k s := by unfold wantI; rw [if_neg (by omega)]; rfl
theorem nameI_at (l : List Tf) (i : Nat) : nameI l (i : Int) = Sl.nameAt l i := by unfold nameI; rw [if_neg (by omega)]; rfl
theorem neq_of {a b : ByteArray} (h : a = b) : (a.toList != b.toList) = false := by subst h; simp
theorem neq_no {a b : ByteArray} (h : ¬ a = b) : (a.toList != b.toList) = true := by
  have : ¬ a.toList = b.toList := fun e => h (Lp.ext e)
  simpa using this
set_option maxHeartbeats 3200000 in
theorem want_of (B : Option Addr) (d q : Nat) (ts : List Tz) (i k : Int) (s : ByteArray) (z : Int) (hq : q = ts.length) (hz : wantI (ts.map flatK) i k s = z) (w : World) (hr : Rz w w.heap.size B ts) :
    Calls Tryd.prog 29 #[.slice B q d, .int .i64 i, .int .i64 k, .string s] w fun e w' => e = .returned (.int .i64 z) ∧ Below w.heap.size w w' := by
  have HQ := Lib.hid hq
  have HZ := Lib.hid hz
  have hlen : q ≤ 9223372036854775807 := by rw [hq]; exact hr.len
  clear hq hz
  go_enter Tryd.func29, Tryd.ntmps29
  by_cases h0 : i < 0
  · have e : z = 3 := by rw [← HZ.out]; unfold wantI; rw [if_pos h0]
    subst e
    go_wp2_with fail
    go_ret
    exact ⟨rfl, Below.refl _ _⟩
  · obtain ⟨j, rfl⟩ : ∃ j : Nat, i = (j : Int) := ⟨i.toNat, by omega⟩
    have HZ' := HZ.out
    rw [wantI_at] at HZ'
    by_cases h1 : q ≤ j
    · have h1z : (q : Int) ≤ (j : Int) := by omega
      have e : z = 3 := by rw [← HZ']; exact Sl.want_three.2 (by rw [List.length_map, ← HQ.out]; exact h1)
      subst e
      clear HZ'
      go_wp2_with fail
      go_ret
      exact ⟨rfl, Below.refl _ _⟩
    · have h1z : ¬ (q : Int) ≤ (j : Int) := by omega
      have hjz : (j : Int) < (q : Int) := by omega
      obtain ⟨a1, a2, a3, ha⟩ := getZ (l := ts) (k := j) (by have := HQ.out; omega)
      obtain ⟨g, off, rfl, hg, c0, c1, c2⟩ := hr.get ha
      have hw : Sl.want (ts.map flatK) j k s = if a1 = k ∧ (s.size = 0 ∨ a3 = s) then 0 else 1 := by
        unfold Sl.want
        rw [List.getElem?_map, ha]
        rfl
      rw [hw] at HZ'
      clear ha hw hr h0
      by_cases e1 : a1 = k
      · have e1b : (a1 != k) = false := by simp [e1]
        by_cases e2 : s = ⟨#[]⟩
        · have : z = 0 := by rw [← HZ', if_pos ⟨e1, .inl (by rw [e2]; rfl)⟩]
          subst this e2
          clear HZ'
          subst e1
          go_wp2_with fail
          go_ret
          exact ⟨rfl, Below.refl _ _⟩
        · have e2b : s.toList.isEmpty = false := by
            have : ¬ s.toList = [] := fun e => e2 (Lp.ext (by rw [e, Lp.tl]))
            simpa using this
          have e2c : s.size ≠ 0 := fun h => e2 (by
            apply ByteArray.ext
            exact Array.eq_empty_of_size_eq_zero h)
          by_cases e3 : a3 = s
          · have : z = 0 := by rw [← HZ', if_pos ⟨e1, .inr e3⟩]
            subst this
            clear HZ'
            subst e1 e3
            go_wp2_with fail
            go_ret
            exact ⟨rfl, Below.refl _ _⟩
          · have : z = 1 := by rw [← HZ', if_neg (by rintro ⟨_, h | h⟩; exact e2c h; exact e3 h)]
            subst this
            have e3b := neq_no e3
            have e3c : (a3.toList == s.toList) = false := by rw [Lp.beq_tl]; simpa using e3
            clear HZ' e3
            subst e1
            go_wp2_with fail
            go_ret
            exact ⟨rfl, Below.refl _ _⟩
      · have : z = 1 := by rw [← HZ', if_neg (by rintro ⟨h, _⟩; exact e1 h)]
        subst this
        have e1b : (a1 != k) = true := by simpa using e1
        have e1c : (a1 == k) = false := by simpa using e1
        clear HZ' e1
        go_wp2_with fail
        go_ret
        exact ⟨rfl, Below.refl _ _⟩
theorem place_of (B : Option Addr) (d q : Nat) (i : Int) (x : Nat) (hlen : q ≤ 9223372036854775807) (hx : (if i < 0 then 0 else min i.toNat q) = x) (w : World) :
    Calls Tryd.prog 28 #[.slice B q d, .int .i64 i] w fun e w' => e = .returned (.int .i64 (x : Int)) ∧ Below w.heap.size w w' := by
  go_enter Tryd.func28, Tryd.ntmps28
  by_cases h0 : i < 0
  · rw [if_pos h0] at hx
    subst hx
    go_wp2_with fail
    go_ret
    exact ⟨rfl, Below.refl _ _⟩
  · rw [if_neg h0] at hx
    have hm : min i (q : Int) = (x : Int) := by omega
    have HX := Lib.hid hx
    clear hx
    go_wp2_with fail
    all_goals
      go_ret
      refine ⟨?_, Below.refl _ _⟩
      first | rfl | (have := HX.out; show Ending.returned (Value.int .i64 _) = Ending.returned (Value.int .i64 _); congr 2; omega)
set_option maxHeartbeats 3200000 in
theorem rname_at (B : Option Addr) (d q : Nat) (ts : List Tz) (i : Int) (z : Int) (hq : q = ts.length) (hz : nameI (ts.map flatK) i = z) (w : World) (hr : Rz w w.heap.size B ts) :
    Calls Tryd.prog 27 #[.slice B q d, .int .i64 i] w fun e w' => e = .returned (.int .i64 z) ∧ Below w.heap.size w w' := by
  have HQ := Lib.hid hq
  have HZ := Lib.hid hz
  have HR := Lib.hid hr
  have hlen : q ≤ 9223372036854775807 := by rw [hq]; exact hr.len
  clear hq hz hr
  obtain ⟨y, hy⟩ : ∃ y, wantI (ts.map flatK) i 1 ⟨#[]⟩ = y := ⟨_, rfl⟩
  have HY := Lib.hid hy
  clear hy
  go_enter Tryd.func27, Tryd.ntmps27
  go_wp2_with fail
  refine (want_of B d q ts i 1 ⟨#[]⟩ y HQ.out HY.out w HR.out).mono ?_
  rintro e w1 ⟨rfl, hw1⟩
  by_cases h0 : y = 0
  · subst h0
    have hneg : ¬ i < 0 := fun h => by have := HY.out; unfold wantI at this; rw [if_pos h] at this; simp at this
    obtain ⟨j, rfl⟩ : ∃ j : Nat, i = (j : Int) := ⟨i.toNat, by omega⟩
    have hwj := HY.out
    rw [wantI_at] at hwj
    have hjl := Sl.want_lt (by rw [hwj]; decide)
    rw [List.length_map] at hjl
    obtain ⟨a1, a2, a3, ha⟩ := getZ hjl
    obtain ⟨g, off, rfl, hg, c0, c1, c2⟩ := (HR.out.on hw1).get ha
    have ht : Sl.txtAt (ts.map flatK) j = a3 := by unfold Sl.txtAt; rw [List.getElem?_map, ha]; rfl
    have hz := HZ.out
    rw [nameI_at] at hz
    unfold Sl.nameAt at hz
    rw [if_pos hwj, ht] at hz
    have hjz : (j : Int) < (q : Int) := by have := HQ.out; omega
    have h3 : a3.size ≤ 9223372036854775807 := HR.out.size _ (List.mem_of_getElem? ha)
    obtain ⟨b, hb⟩ : ∃ b, nameB a3 = b := ⟨_, rfl⟩
    have HBb := Lib.hid hb
    rw [hb] at hz
    clear hb ht hwj hjl ha hneg
    have HZ2 := Lib.hid hz
    clear hz
    go_wp2_with fail
    refine (rname_of a3 h3 b HBb.out w1).mono ?_
    rintro e w2 ⟨rfl, hw2⟩
    cases b with
    | true =>
      have : z = 0 := HZ2.out.symm
      subst this
      go_wp2_with fail
      go_ret
      subst hw2
      exact ⟨rfl, hw1⟩
    | false =>
      have : z = 7 := HZ2.out.symm
      subst this
      go_wp2_with fail
      go_ret
      subst hw2
      exact ⟨rfl, hw1⟩
  · have hzy : z = y := by
      rw [← HZ.out]
      have hyy := HY.out
      unfold nameI
      unfold wantI at hyy
      by_cases hi : i < 0
      · rw [if_pos hi] at hyy ⊢; exact hyy
      · rw [if_neg hi] at hyy ⊢
        unfold Sl.nameAt
        rw [hyy, if_neg h0]
    subst hzy
    have hb1 : (z == 0) = false := by simpa using h0
    have hb2 : (z != 0) = true := by simpa using h0
    clear h0
    go_wp2_with fail
    go_ret
    exact ⟨rfl, hw1⟩
end Go.Proofs.YtgahahichplpkaaDoor

/-
  The document's Letter and Name of layer label, for upper layers.
  The walks of the document's Want, Place, Name and Sane of layer sel.
  The walks of the document's Sane and Fits of layer sel.
-/
import Derived.Test.YtkoeggjfdcpokaaGreatDoorMemA
import Derived.Test.YtkoeggjfdcpokaaGreatDoorLabA
namespace Go.Proofs.YtkoeggjfdcpokaaGreatDoor
open Go.RowKit Go.Proofs.YtkoeggjfdcpokaaGreatDoor.Lp

theorem Letter_of (c : UInt8) (b : Bool) (h : (letB c || decide (c.toNat = 95)) = b) (w : World) :
    Calls Tryz.prog 76 #[.int .u8 (c.toNat : Int)] w fun e w' => e = .returned (.bool b) ∧ w = w' := by
  have H := Lib.hid h
  clear h
  have hcs : (97 ≤ c.toNat ∧ c.toNat ≤ 122 ∧ b = true) ∨ (122 < c.toNat ∧ b = false) ∨ (95 < c.toNat ∧ c.toNat < 97 ∧ b = false) ∨ (c.toNat = 95 ∧ b = true) ∨ (90 < c.toNat ∧ c.toNat < 95 ∧ b = false) ∨ (65 ≤ c.toNat ∧ c.toNat ≤ 90 ∧ b = true) ∨ (c.toNat < 65 ∧ b = false) := by
    rw [← H.out]; unfold letB
    simp
    omega
  clear H
  rcases hcs with ⟨h1, h2, rfl⟩ | ⟨h1, rfl⟩ | ⟨h1, h2, rfl⟩ | ⟨h1, rfl⟩ | ⟨h1, h2, rfl⟩ | ⟨h1, h2, rfl⟩ | ⟨h1, rfl⟩
  case inr.inr.inr.inl =>
    rw [h1]
    go_enter Tryz.func76, Tryz.ntmps76
    go_wp2
    go_ret
    exact ⟨rfl, rfl⟩
  all_goals
    have hne : ((c.toNat : Int) == 95) = false := by simp; omega
    go_enter Tryz.func76, Tryz.ntmps76
    go_wp2
    go_ret
    first | exact ⟨rfl, rfl⟩ | exact ⟨ret_bool (by simp; omega), rfl⟩

theorem okc_of {c : UInt8} (h : (letB c || decide (c.toNat = 95)) = true) : okc c = true := by
  unfold okc
  cases h1 : letB c <;> simp [h1] at h ⊢
  exact .inr h
theorem dig_not {c : UInt8} (h : (letB c || decide (c.toNat = 95)) = true) : digB c = false := by
  unfold letB at h
  unfold digB
  simp at h ⊢
  omega
theorem getElem_mem' (s : ByteArray) (i : Nat) (h : i < s.size) : s[i]'h ∈ s.data.toList := Array.getElem_mem_toList _

set_option maxHeartbeats 3200000 in
theorem rname_of (s : ByteArray) (hs : s.size ≤ 9223372036854775807) (b : Bool) (hb : nameB s = b) (w : World) :
    Calls Tryz.prog 50 #[.string s] w fun e w' => e = .returned (.bool b) ∧ w = w' := by
  have HB := Lib.hid hb
  clear hb
  go_enter Tryz.func50, Tryz.ntmps50
  go_wp2
  go_loopg [3] s.size (fun g s3 wx => ∃ i : Nat, i + g = s.size ∧ s3 = .int .i64 i ∧ Hid (∀ (j : Nat) (h : j < s.size), j < i → okc (s[j]'h) = true ∧ (j = 0 → digB (s[j]'h) = false)) ∧ wx = w)
  case atStart => exact ⟨0, by omega, rfl, Lib.hid (fun j h hj => by omega), rfl⟩
  case round =>
    obtain ⟨i, hi, rfl, HA, rfl⟩ := hrel
    cases gk with
    | zero =>
      obtain rfl : i = s.size := by omega
      by_cases h1 : 1 ≤ s.size
      · by_cases h2 : s.size ≤ 64
        · have hb : b = true := by
            rw [← HB.out, nameB_iff]
            refine ⟨h1, h2, fun h => (HA.out 0 h h).2 rfl, ?_⟩
            rw [List.all_eq_true]
            intro x hx
            obtain ⟨j, hj, rfl⟩ := List.mem_iff_getElem.1 hx
            have hj' : j < s.size := by rw [Lib.size_eq]; exact hj
            exact (HA.out j hj' hj').1
          subst hb
          go_wp2
          go_ret
          exact ⟨ret_bool (by simp; omega), rfl⟩
        · have hb : b = false := by rw [← HB.out]; exact nameB_no (by omega)
          subst hb
          go_wp2
          go_ret
          exact ⟨ret_bool (by simp; omega), rfl⟩
      · have hb : b = false := by rw [← HB.out]; exact nameB_no (by omega)
        subst hb
        go_wp2
        go_ret
        exact ⟨rfl, rfl⟩
    | succ g =>
      have hlt : i < s.size := by omega
      have hltz : (i : Int) < (s.size : Int) := by omega
      obtain ⟨c, hc⟩ : ∃ c, s[i]'hlt = c := ⟨_, rfl⟩
      have Hmem : Hid (c ∈ s.data.toList) := Lib.hid (by rw [← hc]; exact getElem_mem' s i hlt)
      have HN : Hid (okc c = true → (i = 0 → digB c = false) → ∀ (j : Nat) (h : j < s.size), j < i + 1 → okc (s[j]'h) = true ∧ (j = 0 → digB (s[j]'h) = false)) := Lib.hid (by
        intro ho hd j h hj
        by_cases e : j = i
        · subst e; rw [hc]; exact ⟨ho, hd⟩
        · exact HA.out j h (by omega))
      have HF : Hid (okc c = false ∨ (i = 0 ∧ digB c = true) → b = false) := Lib.hid (by
        intro h
        rw [← HB.out]
        refine nameB_no ?_
        rintro ⟨_, _, h3, h4⟩
        rcases h with h | ⟨rfl, h⟩
        · rw [List.all_eq_true.1 h4 c Hmem.out] at h; cases h
        · have h5 := h3 hlt
          rw [hc, h] at h5; cases h5)
      cases hL : (letB c || decide (c.toNat = 95)) with
      | true =>
        have HO := Lib.hid (HN.out (okc_of hL) (fun _ => dig_not hL))
        go_wp2_with (go_at_call 76; refine (Letter_of c true hL _).mono ?_; rintro e w' ⟨rfl, rfl⟩)
        go_roundg g
        case measure => omega
        case rel => exact ⟨i + 1, by omega, by simp, HO, rfl⟩
      | false =>
        have hl : letB c = false := by cases h : letB c <;> simp [h] at hL ⊢
        have hu : decide (c.toNat = 95) = false := by cases h : letB c <;> simp [h] at hL ⊢; exact hL
        have HOk : Hid (okc c = digB c) := Lib.hid (by unfold okc; rw [hl, hu]; simp)
        clear hl hu
        by_cases hi0 : i = 0
        · have hb : b = false := HF.out (by
            cases hd : digB c with
            | true => exact .inr ⟨hi0, rfl⟩
            | false => exact .inl (by rw [HOk.out, hd]))
          subst hb
          subst hi0
          go_wp2_with (go_at_call 76; refine (Letter_of c false hL _).mono ?_; rintro e w' ⟨rfl, rfl⟩)
          go_ret
          exact ⟨rfl, rfl⟩
        · have hi0z : ((i : Int) == 0) = false := by simp; omega
          have hdg : (c.toNat < 48 ∧ digB c = false) ∨ (57 < c.toNat ∧ digB c = false) ∨ (48 ≤ c.toNat ∧ c.toNat ≤ 57 ∧ digB c = true) := by
            unfold digB; simp; omega
          rcases hdg with ⟨h1, hd⟩ | ⟨h1, hd⟩ | ⟨h1, h2, hd⟩
          · have hb : b = false := HF.out (.inl (by rw [HOk.out, hd]))
            subst hb
            clear hd
            go_wp2_with (go_at_call 76; refine (Letter_of c false hL _).mono ?_; rintro e w' ⟨rfl, rfl⟩)
            go_ret
            exact ⟨rfl, rfl⟩
          · have hb : b = false := HF.out (.inl (by rw [HOk.out, hd]))
            subst hb
            clear hd
            go_wp2_with (go_at_call 76; refine (Letter_of c false hL _).mono ?_; rintro e w' ⟨rfl, rfl⟩)
            go_ret
            exact ⟨rfl, rfl⟩
          · have HO := Lib.hid (HN.out (by rw [HOk.out, hd]) (fun h => absurd h hi0))
            clear hd
            go_wp2_with (go_at_call 76; refine (Letter_of c false hL _).mono ?_; rintro e w' ⟨rfl, rfl⟩)
            go_roundg g
            case measure => omega
            case rel => exact ⟨i + 1, by omega, by simp, HO, rfl⟩
end Go.Proofs.YtkoeggjfdcpokaaGreatDoor
namespace Go.Proofs.YtkoeggjfdcpokaaGreatDoor
open Go.RowKit Go.Proofs.YtkoeggjfdcpokaaGreatDoor.Lp
open Go.Proofs.YtkoeggjfdcpokaaGreatDoor.Sl (Mt Sel Tf)

def wantI (l : List Tf) (i k : Int) (s : ByteArray) : Int := if i < 0 then 3 else Sl.want l i.toNat k s
def nameI (l : List Tf) (i : Int) : Int := if i < 0 then 3 else Sl.nameAt l i.toNat
theorem wantI_at (l : List Tf) (i : Nat) (k : Int) (s : ByteArray) : wantI l (i : Int) k s = Sl.want l i k s := by unfold wantI; rw [if_neg (by omega)]; rfl
theorem nameI_at (l : List Tf) (i : Nat) : nameI l (i : Int) = Sl.nameAt l i := by unfold nameI; rw [if_neg (by omega)]; rfl
theorem neq_of {a b : ByteArray} (h : a = b) : (a.toList != b.toList) = false := by subst h; simp
theorem neq_no {a b : ByteArray} (h : ¬ a = b) : (a.toList != b.toList) = true := by
  have : ¬ a.toList = b.toList := fun e => h (Lp.ext e)
  simpa using this
set_option maxHeartbeats 3200000 in
theorem want_of (B : Option Addr) (d q : Nat) (ts : List Tz) (i k : Int) (s : ByteArray) (z : Int) (hq : q = ts.length) (hz : wantI (ts.map flatK) i k s = z) (w : World) (hr : Rz w w.heap.size B ts) :
    Calls Tryz.prog 43 #[.slice B q d, .int .i64 i, .int .i64 k, .string s] w fun e w' => e = .returned (.int .i64 z) ∧ Below w.heap.size w w' := by
  have HQ := Lib.hid hq
  have HZ := Lib.hid hz
  have hlen : q ≤ 9223372036854775807 := by rw [hq]; exact hr.len
  clear hq hz
  go_enter Tryz.func43, Tryz.ntmps43
  by_cases h0 : i < 0
  · have e : z = 3 := by rw [← HZ.out]; unfold wantI; rw [if_pos h0]
    subst e
    go_wp2_with fail
    go_ret
    exact ⟨rfl, Below.refl _ _⟩
  · obtain ⟨j, rfl⟩ : ∃ j : Nat, i = (j : Int) := ⟨i.toNat, by omega⟩
    have HZ' := HZ.out
    rw [wantI_at] at HZ'
    by_cases h1 : q ≤ j
    · have h1z : (q : Int) ≤ (j : Int) := by omega
      have e : z = 3 := by rw [← HZ']; exact Sl.want_three.2 (by rw [List.length_map, ← HQ.out]; exact h1)
      subst e
      clear HZ'
      go_wp2_with fail
      go_ret
      exact ⟨rfl, Below.refl _ _⟩
    · have h1z : ¬ (q : Int) ≤ (j : Int) := by omega
      have hjz : (j : Int) < (q : Int) := by omega
      obtain ⟨a1, a2, a3, ha⟩ := getZ (l := ts) (k := j) (by have := HQ.out; omega)
      obtain ⟨g, off, rfl, hg, c0, c1, c2⟩ := hr.get ha
      have hw : Sl.want (ts.map flatK) j k s = if a1 = k ∧ (s.size = 0 ∨ a3 = s) then 0 else 1 := by
        unfold Sl.want
        rw [List.getElem?_map, ha]
        rfl
      rw [hw] at HZ'
      clear ha hw hr h0
      by_cases e1 : a1 = k
      · have e1b : (a1 != k) = false := by simp [e1]
        by_cases e2 : s = ⟨#[]⟩
        · have : z = 0 := by rw [← HZ', if_pos ⟨e1, .inl (by rw [e2]; rfl)⟩]
          subst this e2
          clear HZ'
          subst e1
          go_wp2_with fail
          go_ret
          exact ⟨rfl, Below.refl _ _⟩
        · have e2b : s.toList.isEmpty = false := by
            have : ¬ s.toList = [] := fun e => e2 (Lp.ext (by rw [e, Lp.tl]))
            simpa using this
          have e2c : s.size ≠ 0 := fun h => e2 (by
            apply ByteArray.ext
            exact Array.eq_empty_of_size_eq_zero h)
          by_cases e3 : a3 = s
          · have : z = 0 := by rw [← HZ', if_pos ⟨e1, .inr e3⟩]
            subst this
            clear HZ'
            subst e1 e3
            go_wp2_with fail
            go_ret
            exact ⟨rfl, Below.refl _ _⟩
          · have : z = 1 := by rw [← HZ', if_neg (by rintro ⟨_, h | h⟩; exact e2c h; exact e3 h)]
            subst this
            have e3b := neq_no e3
            have e3c : (a3.toList == s.toList) = false := by rw [Lp.beq_tl]; simpa using e3
            clear HZ' e3
            subst e1
            go_wp2_with fail
            go_ret
            exact ⟨rfl, Below.refl _ _⟩
      · have : z = 1 := by rw [← HZ', if_neg (by rintro ⟨h, _⟩; exact e1 h)]
        subst this
        have e1b : (a1 != k) = true := by simpa using e1
        have e1c : (a1 == k) = false := by simpa using e1
        clear HZ' e1
        go_wp2_with fail
        go_ret
        exact ⟨rfl, Below.refl _ _⟩
theorem place_of (B : Option Addr) (d q : Nat) (i : Int) (x : Nat) (hlen : q ≤ 9223372036854775807) (hx : (if i < 0 then 0 else min i.toNat q) = x) (w : World) :
    Calls Tryz.prog 45 #[.slice B q d, .int .i64 i] w fun e w' => e = .returned (.int .i64 (x : Int)) ∧ Below w.heap.size w w' := by
  go_enter Tryz.func45, Tryz.ntmps45
  by_cases h0 : i < 0
  · rw [if_pos h0] at hx
    subst hx
    go_wp2_with fail
    go_ret
    exact ⟨rfl, Below.refl _ _⟩
  · rw [if_neg h0] at hx
    have hm : min i (q : Int) = (x : Int) := by omega
    have HX := Lib.hid hx
    clear hx
    go_wp2_with fail
    all_goals
      go_ret
      refine ⟨?_, Below.refl _ _⟩
      first | rfl | (have := HX.out; show Ending.returned (Value.int .i64 _) = Ending.returned (Value.int .i64 _); congr 2; omega)
set_option maxHeartbeats 3200000 in
theorem rname_at (B : Option Addr) (d q : Nat) (ts : List Tz) (i : Int) (z : Int) (hq : q = ts.length) (hz : nameI (ts.map flatK) i = z) (w : World) (hr : Rz w w.heap.size B ts) :
    Calls Tryz.prog 95 #[.slice B q d, .int .i64 i] w fun e w' => e = .returned (.int .i64 z) ∧ Below w.heap.size w w' := by
  have HQ := Lib.hid hq
  have HZ := Lib.hid hz
  have HR := Lib.hid hr
  have hlen : q ≤ 9223372036854775807 := by rw [hq]; exact hr.len
  clear hq hz hr
  obtain ⟨y, hy⟩ : ∃ y, wantI (ts.map flatK) i 1 ⟨#[]⟩ = y := ⟨_, rfl⟩
  have HY := Lib.hid hy
  clear hy
  go_enter Tryz.func95, Tryz.ntmps95
  go_wp2_with fail
  refine (want_of B d q ts i 1 ⟨#[]⟩ y HQ.out HY.out w HR.out).mono ?_
  rintro e w1 ⟨rfl, hw1⟩
  by_cases h0 : y = 0
  · subst h0
    have hneg : ¬ i < 0 := fun h => by have := HY.out; unfold wantI at this; rw [if_pos h] at this; simp at this
    obtain ⟨j, rfl⟩ : ∃ j : Nat, i = (j : Int) := ⟨i.toNat, by omega⟩
    have hwj := HY.out
    rw [wantI_at] at hwj
    have hjl := Sl.want_lt (by rw [hwj]; decide)
    rw [List.length_map] at hjl
    obtain ⟨a1, a2, a3, ha⟩ := getZ hjl
    obtain ⟨g, off, rfl, hg, c0, c1, c2⟩ := (HR.out.on hw1).get ha
    have ht : Sl.txtAt (ts.map flatK) j = a3 := by unfold Sl.txtAt; rw [List.getElem?_map, ha]; rfl
    have hz := HZ.out
    rw [nameI_at] at hz
    unfold Sl.nameAt at hz
    rw [if_pos hwj, ht] at hz
    have hjz : (j : Int) < (q : Int) := by have := HQ.out; omega
    have h3 : a3.size ≤ 9223372036854775807 := HR.out.size _ (List.mem_of_getElem? ha)
    obtain ⟨b, hb⟩ : ∃ b, nameB a3 = b := ⟨_, rfl⟩
    have HBb := Lib.hid hb
    rw [hb] at hz
    clear hb ht hwj hjl ha hneg
    have HZ2 := Lib.hid hz
    clear hz
    go_wp2_with fail
    refine (rname_of a3 h3 b HBb.out w1).mono ?_
    rintro e w2 ⟨rfl, hw2⟩
    cases b with
    | true =>
      have : z = 0 := HZ2.out.symm
      subst this
      go_wp2_with fail
      go_ret
      subst hw2
      exact ⟨rfl, hw1⟩
    | false =>
      have : z = 7 := HZ2.out.symm
      subst this
      go_wp2_with fail
      go_ret
      subst hw2
      exact ⟨rfl, hw1⟩
  · have hzy : z = y := by
      rw [← HZ.out]
      have hyy := HY.out
      unfold nameI
      unfold wantI at hyy
      by_cases hi : i < 0
      · rw [if_pos hi] at hyy ⊢; exact hyy
      · rw [if_neg hi] at hyy ⊢
        unfold Sl.nameAt
        rw [hyy, if_neg h0]
    subst hzy
    have hb1 : (z == 0) = false := by simpa using h0
    have hb2 : (z != 0) = true := by simpa using h0
    clear h0
    go_wp2_with fail
    go_ret
    exact ⟨rfl, hw1⟩
end Go.Proofs.YtkoeggjfdcpokaaGreatDoor
namespace Go.Proofs.YtkoeggjfdcpokaaGreatDoor
open Go.RowKit Go.Proofs.YtkoeggjfdcpokaaGreatDoor.Lp
open Go.Proofs.YtkoeggjfdcpokaaGreatDoor.Sl (Mt Sel Tf)

theorem all_take {l : List Mt} {i : Nat} {m : Mt} (f : Mt → Bool) (h : l[i]? = some m) (ha : (l.take i).all f = true) : (l.take (i + 1)).all f = f m := by
  rw [List.take_add_one, h, List.all_append, ha]
  simp
theorem all_no {l : List Mt} {i : Nat} {m : Mt} (f : Mt → Bool) (h : l[i]? = some m) (hf : f m = false) : l.all f = false := by
  rw [List.all_eq_false]
  exact ⟨m, List.mem_of_getElem? h, by rw [hf]; decide⟩
set_option maxHeartbeats 3200000 in
theorem rsaneS_of (N : ByteArray) (A : Option Addr) (c n : Nat) (l : List Mt) (b : Bool) (hNs : N.size ≤ 9223372036854775807) (hn : n = l.length) (hb : Sl.saneS (N, l) = b) (w : World) (hr : Rq w w.heap.size A l) :
    Calls Tryz.prog 29 #[sv N A n c] w fun e w' => e = .returned (.bool b) ∧ Below w.heap.size w w' := by
  have HN := Lib.hid hn
  have HB := Lib.hid hb
  have HR := Lib.hid hr
  have hlen : n ≤ 9223372036854775807 := by rw [hn]; exact hr.len
  clear hn hb hr
  go_enter Tryz.func29, Tryz.ntmps29
  obtain ⟨W, P, hW, hP, hb0, d0, d1, hPW⟩ := box_sel w N A n c
  have X1 : Hid (Bx W P N A n c) := Lib.hid ⟨d0, d1, hPW⟩
  have HB0 : Hid (Below w.heap.size w W) := Lib.hid (hP ▸ hb0)
  clear hb0
  go_wp2_with fail
  go_loopg [3] n (fun g s3 wx => ∃ i : Nat, i + g = n ∧ s3 = .int .i64 i ∧ Hid ((l.take i).all Sl.mOk = true) ∧ Below W.heap.size W wx)
  case atStart => exact ⟨0, by omega, rfl, Lib.hid rfl, Below.refl _ _⟩
  case round =>
    obtain ⟨i, hi, rfl, HA, hwx⟩ := hrel
    clear d0 d1
    obtain ⟨e0, e1, hP'⟩ := X1.out.on hwx
    have hwp := below_on HB0.out hwx
    cases gk with
    | zero =>
      obtain rfl : i = n := by omega
      have hall : l.all Sl.mOk = true := by
        have := HA.out
        rwa [List.take_of_length_le (by rw [HN.out]; exact Nat.le_refl _)] at this
      obtain ⟨bn, hbn⟩ : ∃ bn, nameB N = bn := ⟨_, rfl⟩
      have HBn := Lib.hid hbn
      have hb := HB.out
      unfold Sl.saneS at hb
      simp only [hall, hbn, Bool.and_true] at hb
      rw [← HN.out] at hb
      have HBb := Lib.hid hb
      clear hbn hb hall
      go_wp2_with fail
      refine (rname_of N hNs bn HBn.out wr).mono ?_
      rintro e w2 ⟨rfl, rfl⟩
      cases bn with
      | false =>
        have : b = false := by rw [← HBb.out]; rfl
        subst this
        go_wp2_with fail
        go_ret
        exact ⟨rfl, hwp⟩
      | true =>
        by_cases h8 : i ≤ 8
        · have h8z : decide ((i : Int) ≤ 8) = true := by simp; omega
          have : b = true := by rw [← HBb.out]; simp [h8]
          subst this
          go_wp2_with fail
          go_ret
          exact ⟨rfl, hwp⟩
        · have h8z : decide ((i : Int) ≤ 8) = false := by simp; omega
          have : b = false := by rw [← HBb.out]; simp [h8]
          subst this
          go_wp2_with fail
          go_ret
          exact ⟨rfl, hwp⟩
    | succ g =>
      have hlt : i < n := by omega
      have hltz : (i : Int) < (n : Int) := by omega
      obtain ⟨a1, a2, a3, ha⟩ := getM (l := l) (k := i) (by have := HN.out; omega)
      obtain ⟨bk, off, rfl, hbk, c0, c1, c2⟩ := (HR.out.on hwp).get ha
      have h1s : a1.size ≤ 9223372036854775807 := (HR.out.size _ (List.mem_of_getElem? ha)).1
      have h2s : a2.size ≤ 9223372036854775807 := (HR.out.size _ (List.mem_of_getElem? ha)).2
      have HM := Lib.hid ha
      clear ha
      obtain ⟨bn, hbn⟩ : ∃ bn, nameB a1 = bn := ⟨_, rfl⟩
      have HBn := Lib.hid hbn
      clear hbn
      go_wp2_with fail
      refine (rname_of a1 h1s bn HBn.out wr).mono ?_
      rintro e w2 ⟨rfl, rfl⟩
      cases bn with
      | false =>
        have hf : Sl.mOk (a1, a2, a3) = false := by unfold Sl.mOk; rw [HBn.out]; rfl
        have : b = false := by
          rw [← HB.out]; unfold Sl.saneS
          rw [all_no Sl.mOk HM.out hf, Bool.and_false]
        subst this
        go_wp2_with fail
        go_ret
        exact ⟨rfl, hwp⟩
      | true =>
        by_cases h64 : 64 < a2.size
        · have h64z : (64 : Int) < (a2.size : Int) := by omega
          have hf : Sl.mOk (a1, a2, a3) = false := by unfold Sl.mOk; rw [HBn.out]; simp; omega
          have : b = false := by
            rw [← HB.out]; unfold Sl.saneS
            rw [all_no Sl.mOk HM.out hf, Bool.and_false]
          subst this
          go_wp2_with fail
          go_ret
          exact ⟨rfl, hwp⟩
        · have h64z : ¬ (64 : Int) < (a2.size : Int) := by omega
          have HA' : Hid ((l.take (i + 1)).all Sl.mOk = true) := Lib.hid (by
            rw [all_take Sl.mOk HM.out HA.out]; unfold Sl.mOk; rw [HBn.out]; simp; omega)
          go_wp2_with fail
          go_roundg g
          case measure => omega
          case rel => exact ⟨i + 1, by omega, by simp, HA', hwx⟩
end Go.Proofs.YtkoeggjfdcpokaaGreatDoor

/-
  The walks of the landed cond's small functions: isOp, Holds, Not, opOf, textAt, signAt, opAt, numberAt, Sane.
-/
import Derived.Test.YtkoeggjfdcpokaaGreatDoorCondTab
import Derived.Test.YtkoeggjfdcpokaaGreatDoorCondPl
import Derived.Test.YtkoeggjfdcpokaaGreatDoorNumA
namespace Go.Proofs.YtkoeggjfdcpokaaGreatDoor
open Go.RowKit Go.Proofs.YtkoeggjfdcpokaaGreatDoor.Lp
open Go.Proofs.YtkoeggjfdcpokaaGreatDoor.Sl (Mt Sel Tf)

theorem isOp_of (k : Int) (b : Bool) (hb : decide (1 ≤ k ∧ k ≤ 6) = b) (w : World) :
    Calls Tryz.prog 27 #[.int .i64 k] w fun e w' => e = .returned (.bool b) ∧ w = w' := by
  have HB := Lib.hid hb
  clear hb
  by_cases h1 : 0 < k
  · by_cases h2 : k < 7
    · obtain rfl : b = true := by rw [← HB.out]; simp; omega
      go_enter Tryz.func27, Tryz.ntmps27
      go_wp2
      go_ret
      exact ⟨rfl, rfl⟩
    · obtain rfl : b = false := by rw [← HB.out]; simp; omega
      go_enter Tryz.func27, Tryz.ntmps27
      go_wp2
      go_ret
      exact ⟨rfl, rfl⟩
  · obtain rfl : b = false := by rw [← HB.out]; simp; omega
    go_enter Tryz.func27, Tryz.ntmps27
    go_wp2
    go_ret
    exact ⟨rfl, rfl⟩
set_option maxHeartbeats 3200000 in
theorem holds_of : HoldsC := by
  intro k v t b hb w
  subst hb
  go_enter Tryz.func15, Tryz.ntmps15
  by_cases hk : 1 ≤ k ∧ k ≤ 6
  · have : k = 1 ∨ k = 2 ∨ k = 3 ∨ k = 4 ∨ k = 5 ∨ k = 6 := by omega
    clear hk
    rcases this with rfl | rfl | rfl | rfl | rfl | rfl
    all_goals
      by_cases h : v = t
      all_goals
        go_wp2_with fail
        go_ret
        refine ⟨?_, Below.refl _ _⟩
        first | rfl | (simp [Cd.holds, h]) | (simp [Cd.holds, h]; omega)
  · rw [Cd.holds_no hk]
    have h1 : (k == 1) = false := by simp; omega
    have h2 : (k == 2) = false := by simp; omega
    have h3 : (k == 3) = false := by simp; omega
    have h4 : (k == 4) = false := by simp; omega
    have h5 : (k == 5) = false := by simp; omega
    have h6 : (k == 6) = false := by simp; omega
    clear hk
    go_wp2_with fail
    go_ret
    exact ⟨rfl, Below.refl _ _⟩
theorem other_of : NotC Okc := by
  intro k r hr w hok
  have HR := Lib.hid hr
  have HOK := Lib.hid hok
  clear hr hok
  by_cases hk : 1 ≤ k ∧ k ≤ 6
  · obtain ⟨j, rfl⟩ : ∃ j : Nat, k = (j : Int) := ⟨k.toNat, by omega⟩
    have hj : j < 7 := by omega
    have hjz : (j : Int) < 7 := by omega
    have hc := HOK.out.opc j hj
    rw [HR.out] at hc
    have HB : Hid (decide (1 ≤ (j : Int) ∧ (j : Int) ≤ 6) = true) := Lib.hid (by simpa using hk)
    clear hk
    go_enter Tryz.func17, Tryz.ntmps17
    go_wp2_with fail
    refine (isOp_of (j : Int) true HB.out w).mono ?_
    rintro e w1 ⟨rfl, rfl⟩
    go_wp2_with fail
    go_ret
    exact ⟨rfl, Below.refl _ _⟩
  · obtain rfl : r = 0 := by rw [← HR.out]; exact Cd.other_no hk
    have HB : Hid (decide (1 ≤ k ∧ k ≤ 6) = false) := Lib.hid (by simpa using hk)
    clear hk
    go_enter Tryz.func17, Tryz.ntmps17
    go_wp2_with fail
    refine (isOp_of k false HB.out w).mono ?_
    rintro e w1 ⟨rfl, rfl⟩
    go_wp2_with fail
    go_ret
    exact ⟨rfl, Below.refl _ _⟩
theorem opS_miss {s : ByteArray} (h : ∀ j, j < 7 → ¬ opB j = s) : Cd.opS s.data.toList = 0 := by
  unfold Cd.opS
  have e : ∀ j : Nat, j < 7 → ¬ s.data.toList = Cd.sign (j : Int) := fun j hj hs => h j hj ((Cd.sg_eq s _).2 hs).symm
  rw [if_neg (show ¬ s.data.toList = [62] from e 1 (by omega)), if_neg (show ¬ s.data.toList = [62, 61] from e 2 (by omega)), if_neg (show ¬ s.data.toList = [60] from e 3 (by omega)), if_neg (show ¬ s.data.toList = [60, 61] from e 4 (by omega)), if_neg (show ¬ s.data.toList = [61, 61] from e 5 (by omega)), if_neg (show ¬ s.data.toList = [33, 61] from e 6 (by omega))]
theorem opS_hit {s : ByteArray} {j : Nat} (hj : j < 7) (h : opB j = s) : Cd.opS s.data.toList = (j : Int) := by
  rw [← h]
  match j, hj with
  | 0, _ => rfl
  | 1, _ => rfl
  | 2, _ => rfl
  | 3, _ => rfl
  | 4, _ => rfl
  | 5, _ => rfl
  | 6, _ => rfl
def arrV : Value := .agg #[.string (opB 0), .string (opB 1), .string (opB 2), .string (opB 3), .string (opB 4), .string (opB 5), .string (opB 6)]
theorem arrV_at (j : Nat) (hj : j < 7) (w : World) : (Instr.index 53 arrV (.int .i64 (j : Int))).run Tryz.prog w = .ok (.string (opB j)) w := by
  have : j = 0 ∨ j = 1 ∨ j = 2 ∨ j = 3 ∨ j = 4 ∨ j = 5 ∨ j = 6 := by omega
  rcases this with rfl | rfl | rfl | rfl | rfl | rfl | rfl
  all_goals exact (show (Instr.index _ _ _).run Tryz.prog w = _ by kernel_rfl)
set_option maxHeartbeats 3200000 in
theorem opOf_of (s : ByteArray) (k : Int) (hk : Cd.opS s.data.toList = k) (w : World) (hok : Okc w) :
    Calls Tryz.prog 66 #[.string s] w fun e w' => e = .returned (.int .i64 k) ∧ Below w.heap.size w w' := by
  have HK := Lib.hid hk
  have C := Lib.hid (fun j hj => hok.sgc j hj)
  clear hk hok
  have c0 := C.out 0 (by omega)
  have c1 := C.out 1 (by omega)
  have c2 := C.out 2 (by omega)
  have c3 := C.out 3 (by omega)
  have c4 := C.out 4 (by omega)
  have c5 := C.out 5 (by omega)
  have c6 := C.out 6 (by omega)
  go_enter Tryz.func66, Tryz.ntmps66
  go_wp2_with fail
  clear c0 c1 c2 c3 c4 c5 c6
  rw [show (Value.agg #[.string (opB 0), .string (opB 1), .string (opB 2), .string (opB 3), .string (opB 4), .string (opB 5), .string (opB 6)]) = arrV from rfl]
  go_loopg [3, 4, 6] 7 (fun g s3 s4 s6 wx => ∃ i : Nat, i + g = 7 ∧ s6 = .int .i64 i ∧ Hid (∀ m, m < i → ¬ opB m = s) ∧ wx = w)
  case atStart => exact ⟨0, by omega, rfl, Lib.hid (fun m hm => by omega), rfl⟩
  case round =>
    obtain ⟨i, hi, rfl, HA, rfl⟩ := hrel
    cases gk with
    | zero =>
      obtain rfl : i = 7 := by omega
      obtain rfl : k = 0 := by rw [← HK.out]; exact opS_miss HA.out
      go_wp2_with fail
      go_ret
      exact ⟨rfl, Below.refl _ _⟩
    | succ g =>
      have hi7 : i < 7 := by omega
      have hi7z : (i : Int) < 7 := by omega
      have hx := arrV_at i hi7 wr
      obtain ⟨T, hT⟩ : ∃ T, opB i = T := ⟨_, rfl⟩
      rw [hT] at hx
      have HT := Lib.hid hT
      clear hT
      by_cases he : T = s
      · obtain rfl : k = (i : Int) := by rw [← HK.out]; exact opS_hit hi7 (HT.out.trans he)
        have heb : (T.toList == s.toList) = true := by rw [he]; simp
        clear he
        go_wp2_with fail
        go_ret
        exact ⟨rfl, Below.refl _ _⟩
      · have heb : (T.toList == s.toList) = false := by rw [Lp.beq_tl]; simpa using he
        have HA' : Hid (∀ m, m < i + 1 → ¬ opB m = s) := Lib.hid (fun m hm => by
          by_cases e : m = i
          · subst e; rw [HT.out]; exact he
          · exact HA.out m (by omega))
        clear he
        go_wp2_with fail
        go_roundg g
        case measure => omega
        case rel => exact ⟨i + 1, by omega, by simp, HA', rfl⟩

/-! ### a token at a place -/
set_option maxHeartbeats 3200000 in
theorem textAt_of (B : Option Addr) (d q : Nat) (ts : List Tz) (i k : Int) (s : ByteArray) (z : Int) (hq : q = ts.length) (hz : txI (ts.map flatK) i k = (s, z)) (w : World) (hr : Rz w w.heap.size B ts) :
    Calls Tryz.prog 39 #[.slice B q d, .int .i64 i, .int .i64 k] w fun e w' => e = .returned (.tuple #[.string s, .int .i64 z]) ∧ w = w' := by
  have HQ := Lib.hid hq
  have HZ := Lib.hid hz
  have hlen : q ≤ 9223372036854775807 := by rw [hq]; exact hr.len
  clear hq hz
  go_enter Tryz.func39, Tryz.ntmps39
  by_cases h0 : i < 0
  · have e := HZ.out
    unfold txI at e
    rw [if_pos h0] at e
    obtain ⟨rfl, rfl⟩ := Prod.mk.injEq _ _ _ _ ▸ e
    clear HZ
    go_wp2_with fail
    go_ret2
    exact ⟨rfl, rfl⟩
  · obtain ⟨j, rfl⟩ : ∃ j : Nat, i = (j : Int) := ⟨i.toNat, by omega⟩
    have HZ' := HZ.out
    rw [txI_at] at HZ'
    by_cases h1 : q ≤ j
    · have h1z : (q : Int) ≤ (j : Int) := by omega
      have hw : Sl.want (ts.map flatK) j k ⟨#[]⟩ = 3 := Sl.want_three.2 (by rw [List.length_map, ← HQ.out]; exact h1)
      rw [hw, if_neg (by decide)] at HZ'
      obtain ⟨rfl, rfl⟩ := Prod.mk.injEq _ _ _ _ ▸ HZ'
      clear HZ HZ' hw
      go_wp2_with fail
      go_ret2
      exact ⟨rfl, rfl⟩
    · have h1z : ¬ (q : Int) ≤ (j : Int) := by omega
      have hjz : (j : Int) < (q : Int) := by omega
      obtain ⟨a1, a2, a3, ha⟩ := getZ (l := ts) (k := j) (by have := HQ.out; omega)
      obtain ⟨g, off, rfl, hg, c0, c1, c2⟩ := hr.get ha
      have hm : (ts.map flatK)[j]? = some (a1, a3) := by rw [List.getElem?_map, ha]; rfl
      have ht : Sl.txtAt (ts.map flatK) j = a3 := by unfold Sl.txtAt; rw [hm]
      by_cases e1 : a1 = k
      · have hw : Sl.want (ts.map flatK) j k ⟨#[]⟩ = 0 := by rw [← e1]; exact Cd.want_any hm
        rw [hw, if_pos rfl, ht] at HZ'
        obtain ⟨rfl, rfl⟩ := Prod.mk.injEq _ _ _ _ ▸ HZ'
        have e1b : (a1 != k) = false := by simp [e1]
        clear HZ HZ' hw ha hm ht hr h0
        subst e1
        go_wp2_with fail
        go_ret2
        exact ⟨rfl, rfl⟩
      · have hw : Sl.want (ts.map flatK) j k ⟨#[]⟩ = 1 := Cd.want_kind hm e1
        rw [hw, if_neg (by decide)] at HZ'
        obtain ⟨rfl, rfl⟩ := Prod.mk.injEq _ _ _ _ ▸ HZ'
        have e1b : (a1 != k) = true := by simpa using e1
        clear HZ HZ' hw ha hm ht hr h0 e1
        go_wp2_with fail
        go_ret2
        exact ⟨rfl, rfl⟩
theorem sg_of_tx {l : List Tf} {i : Int} {t s : ByteArray} {z : Int} (h : txI l i 4 = (t, z)) (hs : s.size ≠ 0) : sgI l i s = if z = 0 then (if t = s then 0 else 1) else z := by
  unfold txI at h
  unfold sgI
  by_cases h0 : i < 0
  · rw [if_pos h0] at h ⊢
    obtain ⟨rfl, rfl⟩ := Prod.mk.injEq _ _ _ _ ▸ h
    rw [if_neg (by decide)]
  · rw [if_neg h0] at h ⊢
    cases hi : l[i.toNat]? with
    | none =>
      have hw : ∀ s, Sl.want l i.toNat 4 s = 3 := fun s => by unfold Sl.want; simp only [hi]
      rw [hw, if_neg (by decide)] at h
      obtain ⟨rfl, rfl⟩ := Prod.mk.injEq _ _ _ _ ▸ h
      rw [hw, if_neg (by decide)]
    | some x =>
      obtain ⟨k, a⟩ := x
      by_cases hk : k = 4
      · subst hk
        rw [Cd.want_any hi, if_pos rfl] at h
        obtain ⟨rfl, rfl⟩ := Prod.mk.injEq _ _ _ _ ▸ h
        have ht : Sl.txtAt l i.toNat = a := by unfold Sl.txtAt; simp only [hi]
        rw [if_pos rfl, ht]
        by_cases e : a = s
        · rw [if_pos e, Cd.want_is hi hs]; exact e
        · rw [if_neg e]
          unfold Sl.want
          simp only [hi]
          rw [if_neg (by rintro ⟨_, h | h⟩; exact hs h; exact e h)]
      · rw [Cd.want_kind hi hk, if_neg (by decide)] at h
        obtain ⟨rfl, rfl⟩ := Prod.mk.injEq _ _ _ _ ▸ h
        rw [Cd.want_kind hi hk, if_neg (by decide)]
set_option maxHeartbeats 3200000 in
theorem signAt_of (B : Option Addr) (d q : Nat) (ts : List Tz) (i : Int) (s : ByteArray) (hs : s.size ≠ 0) (z : Int) (hq : q = ts.length) (hz : sgI (ts.map flatK) i s = z) (w : World) (hr : Rz w w.heap.size B ts) :
    Calls Tryz.prog 23 #[.slice B q d, .int .i64 i, .string s] w fun e w' => e = .returned (.int .i64 z) ∧ w = w' := by
  rcases ht : txI (ts.map flatK) i 4 with ⟨t, u⟩
  rw [sg_of_tx ht hs] at hz
  have HQ := Lib.hid hq
  have HZ := Lib.hid hz
  have HT := Lib.hid ht
  have HR := Lib.hid hr
  clear hq hz ht hr
  go_enter Tryz.func23, Tryz.ntmps23
  go_wp2_with fail
  refine (textAt_of B d q ts i 4 t u HQ.out HT.out w HR.out).mono ?_
  rintro e w1 ⟨rfl, rfl⟩
  by_cases hu : u = 0
  · subst hu
    have HZ' := HZ.out
    rw [if_pos rfl] at HZ'
    by_cases e : t = s
    · rw [if_pos e] at HZ'
      subst HZ'
      have heb : (t.toList == s.toList) = true := by rw [e]; simp
      clear HZ e
      go_wp2_with fail
      go_ret
      exact ⟨rfl, rfl⟩
    · rw [if_neg e] at HZ'
      subst HZ'
      have heb : (t.toList == s.toList) = false := by rw [Lp.beq_tl]; simpa using e
      clear HZ e
      go_wp2_with fail
      go_ret
      exact ⟨rfl, rfl⟩
  · have HZ' := HZ.out
    rw [if_neg hu] at HZ'
    subst HZ'
    have hub : (u == 0) = false := by simpa using hu
    clear HZ
    go_wp2_with fail
    go_ret
    exact ⟨rfl, rfl⟩
set_option maxHeartbeats 3200000 in
theorem opAt_of (B : Option Addr) (d q : Nat) (ts : List Tz) (i : Int) (o z : Int) (hq : q = ts.length) (hz : opI (ts.map flatK) i = (o, z)) (w : World) (hok : Okc w) (hr : Rz w w.heap.size B ts) :
    Calls Tryz.prog 41 #[.slice B q d, .int .i64 i] w fun e w' => e = .returned (.tuple #[.int .i64 o, .int .i64 z]) ∧ Below w.heap.size w w' := by
  rcases ht : txI (ts.map flatK) i 4 with ⟨t, u⟩
  unfold opI at hz
  rw [ht] at hz
  have HQ := Lib.hid hq
  have HZ := Lib.hid hz
  have HT := Lib.hid ht
  have HR := Lib.hid hr
  have HOK := Lib.hid hok
  clear hq hz ht hr hok
  go_enter Tryz.func41, Tryz.ntmps41
  go_wp2_with fail
  refine (textAt_of B d q ts i 4 t u HQ.out HT.out w HR.out).mono ?_
  rintro e w1 ⟨rfl, rfl⟩
  by_cases hu : u = 0
  · subst hu
    have HZ' := HZ.out
    rw [if_neg (by simp)] at HZ'
    obtain ⟨k, hk⟩ : ∃ k, Cd.opS t.data.toList = k := ⟨_, rfl⟩
    simp only [hk] at HZ'
    have HK := Lib.hid hk
    clear hk
    by_cases h0 : k = 0
    · subst h0
      rw [if_pos rfl] at HZ'
      obtain ⟨rfl, rfl⟩ := Prod.mk.injEq _ _ _ _ ▸ HZ'
      clear HZ HZ'
      go_wp2_with fail
      refine (opOf_of t 0 HK.out w HOK.out).mono ?_
      rintro e w2 ⟨rfl, hw2⟩
      go_wp2_with fail
      go_ret2
      exact ⟨rfl, hw2⟩
    · rw [if_neg h0] at HZ'
      obtain ⟨rfl, rfl⟩ := Prod.mk.injEq _ _ _ _ ▸ HZ'
      have h0b : (k == 0) = false := by simpa using h0
      clear HZ HZ' h0
      go_wp2_with fail
      refine (opOf_of t k HK.out w HOK.out).mono ?_
      rintro e w2 ⟨rfl, hw2⟩
      go_wp2_with fail
      go_ret2
      exact ⟨rfl, hw2⟩
  · have HZ' := HZ.out
    rw [if_pos hu] at HZ'
    obtain ⟨rfl, rfl⟩ := Prod.mk.injEq _ _ _ _ ▸ HZ'
    have hub : (u != 0) = true := by simpa using hu
    clear HZ HZ' hu
    go_wp2_with fail
    go_ret2
    exact ⟨rfl, Below.refl _ _⟩
theorem txI_size {ts : List Tz} (hts : ∀ t ∈ ts, t.2.2.size ≤ 1048576) {i k : Int} {t : ByteArray} {z : Int} (h : txI (ts.map flatK) i k = (t, z)) : t.size ≤ 2000000 := by
  unfold txI at h
  by_cases h0 : i < 0
  · rw [if_pos h0] at h
    obtain ⟨rfl, rfl⟩ := Prod.mk.injEq _ _ _ _ ▸ h
    decide
  · rw [if_neg h0] at h
    by_cases hw : Sl.want (ts.map flatK) i.toNat k ⟨#[]⟩ = 0
    · rw [if_pos hw] at h
      obtain ⟨rfl, rfl⟩ := Prod.mk.injEq _ _ _ _ ▸ h
      unfold Sl.txtAt
      rw [List.getElem?_map]
      cases hi : ts[i.toNat]? with
      | none => show (ByteArray.mk #[]).size ≤ 2000000; decide
      | some x =>
        have := hts x (List.mem_of_getElem? hi)
        show x.2.2.size ≤ 2000000
        omega
    · rw [if_neg hw] at h
      obtain ⟨rfl, rfl⟩ := Prod.mk.injEq _ _ _ _ ▸ h
      decide
set_option maxHeartbeats 3200000 in
theorem numberAt_of (B : Option Addr) (d q : Nat) (ts : List Tz) (hts : ∀ t ∈ ts, t.2.2.size ≤ 1048576) (i : Int) (o z : Int) (hq : q = ts.length) (hz : nbI (ts.map flatK) i = (o, z)) (w : World) (hok : Okc w) (hr : Rz w w.heap.size B ts) :
    Calls Tryz.prog 42 #[.slice B q d, .int .i64 i] w fun e w' => e = .returned (.tuple #[.int .i64 o, .int .i64 z]) ∧ Below w.heap.size w w' := by
  rcases ht : txI (ts.map flatK) i 2 with ⟨t, u⟩
  unfold nbI at hz
  rw [ht] at hz
  have hsz := txI_size hts ht
  have HQ := Lib.hid hq
  have HZ := Lib.hid hz
  have HT := Lib.hid ht
  have HR := Lib.hid hr
  have HOK := Lib.hid hok
  clear hq hz ht hr hok hts
  go_enter Tryz.func42, Tryz.ntmps42
  go_wp2_with fail
  refine (textAt_of B d q ts i 2 t u HQ.out HT.out w HR.out).mono ?_
  rintro e w1 ⟨rfl, rfl⟩
  by_cases hu : u = 0
  · subst hu
    have HZ' := HZ.out
    rw [if_neg (by simp)] at HZ'
    have hans : Np.ans (Np.parseS t.data.toList) = .returned (.tuple #[.int .i64 o, .int .i64 z]) := by
      have e : Np.parseS t.data.toList = (o, z) := HZ'
      rw [e]; rfl
    have HANS := Lib.hid hans
    clear HZ HZ' hans
    go_wp2_with fail
    refine (parse_any t hsz w HOK.out.num).mono ?_
    rintro e w2 ⟨he, hw2⟩
    rw [HANS.out] at he
    subst he
    go_wp2_with fail
    go_ret2
    exact ⟨rfl, hw2⟩
  · have HZ' := HZ.out
    rw [if_pos hu] at HZ'
    obtain ⟨rfl, rfl⟩ := Prod.mk.injEq _ _ _ _ ▸ HZ'
    have hub : (u != 0) = true := by simpa using hu
    clear HZ HZ' hu
    go_wp2_with fail
    go_ret2
    exact ⟨rfl, Below.refl _ _⟩
end Go.Proofs.YtkoeggjfdcpokaaGreatDoor
